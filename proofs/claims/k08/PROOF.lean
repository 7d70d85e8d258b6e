import PyProof.Rows.All
import Wide.All
import OpenK.AllK
import Wide.FinOn
import Lean
import PyProof.EqAt
import PyProof.EqKinds
import PyProof.TupleCall
import PySem.Challenge.RW_heapsmeet_k08_ties_of_anything
set_option Elab.async false
set_option linter.all false
set_option maxRecDepth 100000
namespace L2
open PySem PySem.Spec PyProof.Rows
abbrev Key := Sum Int Str
def qO : Key → Value → Bool
 | .inl k, v => Value.isInt k v
 | .inr x, v => Value.isStrOf x v
def keyH (w : World) : Key → Int
 | .inl k => hashInt k
 | .inr x => hashStr w x
theorem cN : ∀ {k : Key} {v : Value}, qO k v = true → (∃ i t, k = Sum.inl i ∧ v = Value.int i t) ∨ (∃ x t, k = Sum.inr x ∧ v = Value.str x t)
 | .inl i, v, h => by
  obtain ⟨t, e⟩ := Value.isInt_shape (k := i) (v := v) h
  exact .inl ⟨i, t, rfl, e⟩
 | .inr x, v, h => by
  obtain ⟨t, e⟩ := Value.isStrOf_shape (x := x) (v := v) h
  exact .inr ⟨x, t, rfl, e⟩
theorem za (i : Int) (t : Tok) : qO (.inl i) (.int i t) = true := by simp [qO, Value.isInt]
theorem yC (x : Str) (t : Tok) : qO (.inr x) (.str x t) = true := by simp [qO, Value.isStrOf]
theorem Hm (a b : Int) : decide ((Sum.inl a : Key) = Sum.inl b) = (a == b) := by
 by_cases e : a = b
 ·subst e; simp
 ·have h : ¬ (Sum.inl a : Key) = Sum.inl b := fun q => e (Sum.inl.inj q)
  rw [decide_eq_false h]
  exact (beq_eq_false_iff_ne.mpr e).symm
theorem Gx (a b : Str) : decide ((Sum.inr a : Key) = Sum.inr b) = decide (a = b) := by
 by_cases e : a = b
 ·subst e; simp
 ·have h : ¬ (Sum.inr a : Key) = Sum.inr b := fun q => e (Sum.inr.inj q)
  rw [decide_eq_false h, decide_eq_false e]
theorem IK (a : Int) (b : Str) : decide ((Sum.inl a : Key) = Sum.inr b) = false := decide_eq_false (fun q => nomatch q)
theorem IV (a : Str) (b : Int) : decide ((Sum.inr a : Key) = Sum.inl b) = false := decide_eq_false (fun q => nomatch q)
def gq (prog : Program) (w : World) : PySem.KeyKind prog w Key where
 is := qO
 hash := keyH w
 inj := fun v a b ha hb => by
  rcases cN ha with ⟨i, t, rfl, rfl⟩ | ⟨x, t, rfl, rfl⟩
  ·rcases cN hb with ⟨j, u, rfl, e⟩ | ⟨y, u, rfl, e⟩
   ·injection e with e1 _; rw [e1]
   ·exact nomatch e
  ·rcases cN hb with ⟨j, u, rfl, e⟩ | ⟨y, u, rfl, e⟩
   ·exact nomatch e
   ·injection e with e1 _; rw [e1]
 byValue := fun k v h => by
  rcases cN h with ⟨i, t, rfl, rfl⟩ | ⟨x, t, rfl, rfl⟩ <;> rfl
 pyHash := fun hv h => by
  rcases cN hv with ⟨i, t, rfl, rfl⟩ | ⟨x, t, rfl, rfl⟩
  ·exact wpAny_pyHash_int h
  ·exact wpAny_pyHash_str h
 eqBool := fun hu hv h => by
  rcases cN hu with ⟨i, t, rfl, rfl⟩ | ⟨x, t, rfl, rfl⟩
  ·rcases cN hv with ⟨j, u, rfl, rfl⟩ | ⟨y, u, rfl, rfl⟩
   ·rw [Hm] at h; exact wpAny_eqBool_int h
   ·rw [IK] at h; exact SeqAt.EqAt.int_str i t y u _ _ _ _ h
  ·rcases cN hv with ⟨j, u, rfl, rfl⟩ | ⟨y, u, rfl, rfl⟩
   ·rw [IV] at h; exact SeqAt.EqAt.str_int x t j u _ _ _ _ h
   ·rw [Gx] at h; exact wpAny_eqBool_str h
 «strs» := fun k x t v h => by
  rcases cN h with ⟨i, u, rfl, e⟩ | ⟨y, u, rfl, e⟩
  ·exact nomatch e
  ·injection e with e1 _
   subst e1
   cases v <;> rfl
theorem uO (prog : Program) (w : World) (i : Int) (t : Tok) : (gq prog w).is (.inl i) (.int i t) = true := za i t
theorem uw (prog : Program) (w : World) (x : Str) (t : Tok) : (gq prog w).is (.inr x) (.str x t) = true := yC x t
end L2
namespace L2
open PySem PySem.Spec PyProof.Rows
inductive V where
 | non | bl (b : Bool) | int (i : Int) | str (x : Str) | byt (b : Array UInt8) | flt (b : UInt64) | ref (a : Addr) | ty (n : String)
 deriving DecidableEq
def RelV : V → Value → Prop
 | .non, u => u = Value.none
 | .bl b, u => u = Value.bool b
 | .int i, u => ∃ t, u = Value.int i t
 | .str x, u => ∃ t, u = Value.str x t
 | .byt b, u => ∃ t, u = Value.bytes b t
 | .flt b, u => ∃ t, u = Value.float b t
 | .ref a, u => u = Value.ref a
 | .ty n, u => u = Value.type n
abbrev Vals : List V → List Value → Prop := Paired RelV
theorem Vals.length {xs : List V} {us : List Value} (r : Vals xs us) : xs.length = us.length := Paired.length r
theorem Vals.get : ∀ {xs : List V} {us : List Value} {i : Nat} {x : V}, Vals xs us → xs[i]? = some x → ∃ u, us[i]? = some u ∧ RelV x u
 | _, _, _, _, .nil, e => by simp at e
 | _, _, 0, _, .cons r _, e => by simp at e; subst e; exact ⟨_, rfl, r⟩
 | _, _, i + 1, x, .cons _ t, e => by
  obtain ⟨u, h1, h2⟩ := Vals.get (i := i) (x := x) t (by simpa using e)
  exact ⟨u, by simpa using h1, h2⟩
theorem Vals.set {x : V} {u : Value} (r : RelV x u) : ∀ {xs : List V} {us : List Value} (i : Nat), Vals xs us → Vals (xs.set i x) (us.set i u)
 | _, _, _, .nil => .nil
 | _, _, 0, .cons _ t => .cons r t
 | _, _, i + 1, .cons q t => .cons q (Vals.set r i t)
theorem Vals.append : ∀ {xs ys : List V} {us ws : List Value}, Vals xs us → Vals ys ws → Vals (xs ++ ys) (us ++ ws)
 | _, _, _, _, .nil, s => s
 | _, _, _, _, .cons r t, s => .cons r (Vals.append t s)
theorem Vals.take : ∀ {xs : List V} {us : List Value} (n : Nat), Vals xs us → Vals (xs.take n) (us.take n)
 | _, _, 0, _ => .nil
 | _, _, _ + 1, .nil => .nil
 | _, _, n + 1, .cons r t => .cons r (Vals.take n t)
theorem Vals.drop : ∀ {xs : List V} {us : List Value} (n : Nat), Vals xs us → Vals (xs.drop n) (us.drop n)
 | _, _, 0, r => r
 | _, _, _ + 1, .nil => .nil
 | _, _, n + 1, .cons _ t => Vals.drop n t
def Kp : Option V → Option Value → Prop
 | some v, some u => RelV v u
 | none, none => True
 | _, _ => False
def KV {κ : Type} : List (κ × V) → List (κ × Value) → Prop := Paired fun (p : κ × V) (q : κ × Value) => p.1 = q.1 ∧ RelV p.2 q.2
def kV : Key → V
 | .inl i => .int i
 | .inr x => .str x
inductive HO where
 | lst (xs : List V)
 | tup (xs : List V)
 | dK (kvs : List (Key × V)) | dT (kvs : List (List Key × V))
 | set (S : Int → Bool) (n : Nat)
 | ins (C dx : Addr) (fs : List (Str × V))
 | own (x : Addr)
 | xd (fs : List (Str × V))
 | met (f x : Addr)
 | rng (lo hi : Int)
 | frz (o : Obj) (u : HO)
 | tbl (ps : Array Value)
 | ext (φ : Heap → Prop)
abbrev Hp := Addr → Option HO
def upd (H : Hp) (a : Addr) (o : HO) : Hp := fun b => if b = a then some o else H b
theorem dM {H : Hp} {a : Addr} {o : HO} : upd H a o a = some o := by unfold upd; rw [if_pos rfl]
theorem aK {H : Hp} {a b : Addr} {o : HO} (h : b ≠ a) : upd H a o b = H b := by unfold upd; rw [if_neg h]
theorem FZ {H : Hp} {a b : Addr} {o u : HO} (h : H a = some o) (h' : H b = some u) (d : o ≠ u) : a ≠ b := by
 intro e; subst e; rw [h] at h'; exact d (Option.some.inj h')
theorem cH {H : Hp} {a b : Addr} {o : HO} (h : H a = some o) (h' : H b = none) : a ≠ b := by
 intro e; subst e; rw [h] at h'; cases h'
section
variable (P : Program) (w : World)
def fU (H : Hp) (h : Heap) (a : Addr) : HO → Prop
 | .lst xs => xs.length ≤ sizeLine ∧ ∃ (its : List Value) (n : Nat), Vals xs its ∧ h.get? a = some { cls := .type "list", data := .seq its.toArray n }
 | .tup xs => xs.length ≤ sizeLine ∧ ∃ its : List Value, Vals xs its ∧ IsTup h a its.toArray
 | .dK kvs => kvs.length ≤ sizeLine ∧ (a == sysModules) = false ∧ ∃ vs, KV kvs vs ∧ h.DictOf (gq P w) a vs
 | .dT kvs => kvs.length ≤ sizeLine ∧ (a == sysModules) = false ∧ ∃ xs : List (List Key × Addr × Value),
   Paired (fun (p : List Key × V) (q : List Key × Addr × Value) => p.1 = q.1 ∧ H q.2.1 = some (.tup (p.1.map kV)) ∧ RelV p.2 q.2.2) kvs xs ∧
   ∃ o es ep, h.get? a = some o ∧ o.ExactDict ∧ o.data = .dict es ep ∧ es.toList = xs.map (entryOfKey (tupleKind (gq P w))) ∧ (xs.map (·.1)).Nodup
 | .set S n => h.SetOf (intKind P w) a S n
 | .ins C dx fs => H dx = some (.own a) ∧ fs.length ≤ 1000 ∧ dx ≠ a ∧ h.get? a = some (PySem.W.instObj C dx) ∧
   ∃ mA, h.Ns1 dx mA ∧ (∀ f, Kp (fs.lookup f) (mA f)) ∧ PySem.Within mA (fs.map (·.1))
 | .own _ => ∃ o, h.get? a = some o
 | .xd fs => ∃ mA, h.Ns1 a mA ∧ ∀ f, Kp (fs.lookup f) (mA f)
 | .rng lo hi => ∃ t u v, h.get? a = some { cls := .type "range", data := .fields #[.int lo t, .int hi u, .int 1 v] }
 | .frz o u => h.get? a = some o ∧ fU H h a u
 | .tbl ps => h.get? a = some { cls := .none, data := .fields ps }
 | .met f x => h.get? a = some (PySem.W.methodObj (.ref f) (.ref x))
 | .ext φ => φ h ∧ (∃ o, h.get? a = some o) ∧ ∀ h1 h2 : Heap, φ h1 → (∀ o, h1.get? a = some o → h2.get? a = some o) → φ h2
def HOk (H : Hp) (h : Heap) : Prop := ∀ a o, H a = some o → fU P w H h a o
end
section
variable {P : Program} {w : World} {H H' : Hp} {h h' : Heap} {a : Addr} {o : HO}
theorem fU.lt (x : fU P w H h a o) : a < h.objs.size := by
 cases o with
 | lst xs => obtain ⟨_, _, _, _, e⟩ := x; exact Heap.lt_size e
 | tup xs => obtain ⟨_, _, _, p⟩ := x; exact p.lt
 | dK kvs => obtain ⟨_, _, _, _, o, _, _, e, _⟩ := x; exact Heap.lt_size e
 | dT kvs => obtain ⟨_, _, _, _, o, _, _, e, _⟩ := x; exact Heap.lt_size e
 | set S n => obtain ⟨o, _, _, _, e, _⟩ := x; exact Heap.lt_size e
 | ins C dx fs => obtain ⟨_, _, _, e, _⟩ := x; exact Heap.lt_size e
 | own y => obtain ⟨_, e⟩ := x; exact Heap.lt_size e
 | xd fs => obtain ⟨_, ⟨_, _, _, e, _⟩, _⟩ := x; exact Heap.lt_size e
 | rng lo hi => obtain ⟨_, _, _, e⟩ := x; exact Heap.lt_size e
 | frz ob u => obtain ⟨e, _⟩ := x; exact Heap.lt_size e
 | tbl ps => exact Heap.lt_size (show h.get? a = some _ from x)
 | met f y => exact Heap.lt_size (show h.get? a = some _ from x)
 | ext φ => obtain ⟨_, ⟨_, e⟩, _⟩ := x; exact Heap.lt_size e
theorem Paired.mapP {α β : Type} {F G : α → β → Prop} : ∀ {l₁ : List α} {l₂ : List β}, Paired F l₁ l₂ → (∀ a b, F a b → G a b) → Paired G l₁ l₂
 | _, _, .nil, _ => .nil
 | _, _, .cons r t, f => .cons (f _ _ r) (Paired.mapP t f)
theorem fU.stay (x : fU P w H h a o) (k : ∀ b u, (b = a ∨ H b = some (.own a)) → h.get? b = some u → h'.get? b = some u)
  (ho : ∀ b, H b = some (.own a) → H' b = some (.own a)) (ht : ∀ b xs, H b = some (.tup xs) → H' b = some (.tup xs)) : fU P w H' h' a o := by
 induction o with
 | lst xs => obtain ⟨z, its, n, r, e⟩ := x; exact ⟨z, its, n, r, k _ _ (.inl rfl) e⟩
 | tup xs => obtain ⟨z, its, r, ob, e, c⟩ := x; exact ⟨z, its, r, ob, k _ _ (.inl rfl) e, c⟩
 | dK kvs => obtain ⟨z, y, vs, r, ob, es, ep, e, c⟩ := x; exact ⟨z, y, vs, r, ob, es, ep, k _ _ (.inl rfl) e, c⟩
 | dT kvs =>
  obtain ⟨z, y, xs, r, ob, es, ep, e, c⟩ := x
  exact ⟨z, y, xs, Paired.mapP r fun p q z => ⟨z.1, ht _ _ z.2.1, z.2.2⟩, ob, es, ep, k _ _ (.inl rfl) e, c⟩
 | set S n => obtain ⟨ob, es, ep, t, e, c⟩ := x; exact ⟨ob, es, ep, t, k _ _ (.inl rfl) e, c⟩
 | ins C dx fs =>
  obtain ⟨d, z, ne, e, mA, ⟨od, es, ep, e2, c⟩, r⟩ := x
  exact ⟨ho _ d, z, ne, k _ _ (.inl rfl) e, mA, ⟨od, es, ep, k _ _ (.inr d) e2, c⟩, r⟩
 | own y => obtain ⟨ob, e⟩ := x; exact ⟨ob, k _ _ (.inl rfl) e⟩
 | xd fs => obtain ⟨mA, ⟨od, es, ep, e, c⟩, r⟩ := x; exact ⟨mA, ⟨od, es, ep, k _ _ (.inl rfl) e, c⟩, r⟩
 | rng lo hi => obtain ⟨t, u, v, e⟩ := x; exact ⟨t, u, v, k _ _ (.inl rfl) e⟩
 | frz ob u ih => obtain ⟨e, q⟩ := x; exact ⟨k _ _ (.inl rfl) e, ih q⟩
 | tbl ps =>
  have e : h.get? a = some { cls := .none, data := .fields ps } := x
  show h'.get? a = some { cls := .none, data := .fields ps }
  exact k a _ (.inl rfl) e
 | met f y =>
  have e : h.get? a = some (PySem.W.methodObj (.ref f) (.ref y)) := x
  show h'.get? a = some (PySem.W.methodObj (.ref f) (.ref y))
  exact k a _ (.inl rfl) e
 | ext φ => obtain ⟨p, ⟨o, e⟩, st⟩ := x; exact ⟨st _ _ p fun o q => k _ _ (.inl rfl) q, ⟨o, k _ _ (.inl rfl) e⟩, st⟩
theorem HOk.lt (x : HOk P w H h) (e : H a = some o) : a < h.objs.size := (x a o e).lt
theorem HOk.fresh (x : HOk P w H h) (e : h.objs.size ≤ a) : H a = none := by
 cases q : H a with
 | none => rfl
 | some u => exact absurd (Nat.lt_of_lt_of_le (x.lt q) e) (Nat.lt_irrefl _)
theorem HOk.kept (x : HOk P w H h) (k : ∀ b u, h.get? b = some u → h'.get? b = some u) : HOk P w H h' := fun a o e =>
 (x a o e).stay (fun b u _ q => k b u q) (fun _ q => q) fun _ _ q => q
theorem HOk.laid (x : HOk P w H h) (k : ∀ b u, h.get? b = some u → h'.get? b = some u) (hp : h.objs.size ≤ a) (new : fU P w (upd H a o) h' a o) : HOk P w (upd H a o) h' := fun b u e => by
 have hn := x.fresh hp
 by_cases hb : b = a
 ·subst hb; rw [dM] at e; cases e; exact new
 ·rw [aK hb] at e
  exact (x b u e).stay (fun c v _ q => k c v q) (fun c q => by rw [aK (cH q hn)]; exact q) fun c xs q => by rw [aK (cH q hn)]; exact q
end
def Rd (H : Hp) (a : Addr) (u : HO) : Prop := H a = some u ∨ ∃ o, H a = some (.frz o u)
theorem Rd.ok {P : Program} {w : World} {H : Hp} {h : Heap} {a : Addr} {u : HO} (r : Rd H a u) (x : HOk P w H h) : fU P w H h a u := by
 rcases r with r | ⟨o, r⟩
 ·exact x a u r
 ·obtain ⟨_, q⟩ := x a _ r
  exact q
def Mut : Option HO → Prop
 | some (.lst _) => True
 | some (.dK _) => True
 | some (.dT _) => True
 | some (.set _ _) => True
 | some (.ins _ _ _) => True
 | some (.ext _) => True
 | _ => False
section
variable {P : Program} {w : World} {H : Hp} {h h' : Heap} {x e : Addr} {o' : HO}
theorem HOk.write (ok : HOk P w H h) (mu : Mut (H x)) (he : e = x ∨ H e = some (.own x)) (k : ∀ b u, b ≠ e → h.get? b = some u → h'.get? b = some u) (heo : ∃ u, h'.get? e = some u)
  (new : fU P w (upd H x o') h' x o') : HOk P w (upd H x o') h' := fun b u q => by
 have nown : ∀ c y, H c = some (.own y) → c ≠ x := fun c y r z => by subst z; rw [r] at mu; exact mu
 have ntup : ∀ c xs, H c = some (.tup xs) → c ≠ x := fun c xs r z => by subst z; rw [r] at mu; exact mu
 by_cases hb : b = x
 ·subst hb; rw [dM] at q; cases q; exact new
 ·rw [aK hb] at q
  by_cases hbe : b = e
  ·have q' : H b = some (.own x) := by
    rcases he with z | z
    ·exact absurd (hbe.trans z) hb
    ·rw [hbe]; exact z
   rw [q] at q'; cases q'
   obtain ⟨v, hv⟩ := heo
   exact ⟨v, by rw [hbe]; exact hv⟩
  ·refine (ok b u q).stay (fun c v hc r => k c v ?_ r) (fun c r => by rw [aK (nown c b r)]; exact r) fun c xs r => by rw [aK (ntup c xs r)]; exact r
   rcases hc with rfl | hc
   ·exact hbe
   ·rintro rfl
    rcases he with z | z
    ·exact nown c b hc z
    ·rw [hc] at z; cases z; exact hb rfl
end
structure Un (fs ex : List Addr) (H H' : Hp) (h h' : Heap) : Prop where
 keep : ∀ b o, h.get? b = some o → H b = none → b ∉ fs → b ∉ ex → h'.get? b = some o
 slot : ∀ b o, h.get? b = some o → H b = none → b ∈ fs → b ∉ ex → ∃ sl, h'.get? b = some { o with slots := sl }
 free : ∀ b o, h.get? b = some o → H b = none → b ∉ ex → H' b = none
 there : ∀ b o, h.get? b = some o → b ∉ ex → ∃ o', h'.get? b = some o'
 tups : ∀ b xs, H b = some (.tup xs) → H' b = some (.tup xs)
 frzs : ∀ b o u, H b = some (.frz o u) → H' b = some (.frz o u)
 tbls : ∀ b ps, H b = some (.tbl ps) → ∃ more, H' b = some (.tbl (ps ++ more))
section
variable {fs fs' ex ex' : List Addr} {H H1 H2 : Hp} {h h1 h2 h' : Heap} {a x e : Addr} {o : HO}
theorem Un.any (u : Un fs ex H H1 h h1) {b : Addr} {ob : Obj} (q : h.get? b = some ob) (n : H b = none) (hx : b ∉ ex) : ∃ sl, h1.get? b = some { ob with slots := sl } := by
 by_cases hb : b ∈ fs
 ·exact u.slot b ob q n hb hx
 ·exact ⟨ob.slots, u.keep b ob q n hb hx⟩
theorem Un.kept (k : ∀ b u, h.get? b = some u → h'.get? b = some u) : Un fs ex H H h h' :=
 ⟨fun b ob q _ _ _ => k b ob q, fun b ob q _ _ _ => ⟨ob.slots, k b ob q⟩, fun _ _ _ n _ => n, fun b ob q _ => ⟨ob, k b ob q⟩, fun _ _ q => q, fun _ _ _ q => q, fun _ ps q => ⟨#[], by rw [q]; simp⟩⟩
theorem Un.refl : Un fs ex H H h h := Un.kept fun _ _ q => q
theorem Un.laid (k : ∀ b u, h.get? b = some u → h'.get? b = some u) (hp : h.objs.size ≤ a) (hn : H a = none) : Un fs ex H (upd H a o) h h' where
 keep := fun b u q _ _ _ => k b u q
 slot := fun b u q _ _ _ => ⟨u.slots, k b u q⟩
 free := fun b u q n _ => by rw [aK (Nat.ne_of_lt (Nat.lt_of_lt_of_le (Heap.lt_size q) hp))]; exact n
 there := fun b u q _ => ⟨u, k b u q⟩
 tups := fun b xs q => by rw [aK (cH q hn)]; exact q
 frzs := fun b u xs q => by rw [aK (cH q hn)]; exact q
 tbls := fun b ps q => ⟨#[], by rw [aK (cH q hn), q]; simp⟩
theorem Un.write (mu : Mut (H x)) (he : e = x ∨ H e = some (.own x)) (k : ∀ b u, b ≠ e → h.get? b = some u → h'.get? b = some u) (heo : ∃ u, h'.get? e = some u) : Un fs ex H (upd H x o) h h' := by
 have hx : ∀ b, H b = none → b ≠ x := fun b n z => by subst z; rw [n] at mu; exact mu
 have hb : ∀ b, H b = none → b ≠ e := fun b n z => by
  subst z
  rcases he with r | r
  ·exact hx b n r
  ·rw [n] at r; cases r
 have hm : ∀ b u, H b = some u → ¬ Mut (some u) → b ≠ x := fun b u q nm z => by subst z; rw [q] at mu; exact nm mu
 refine ⟨fun b u q n _ _ => k b u (hb b n) q, fun b u q n _ _ => ⟨u.slots, k b u (hb b n) q⟩, fun b u q n _ => by rw [aK (hx b n)]; exact n, fun b u q _ => ?_,
  fun b xs q => by rw [aK (hm b _ q fun z => z)]; exact q, fun b u xs q => by rw [aK (hm b _ q fun z => z)]; exact q, fun b ps q => ⟨#[], by rw [aK (hm b _ q fun z => z), q]; simp⟩⟩
 by_cases hbe : b = e
 ·subst hbe; exact heo
 ·exact ⟨u, k b u hbe q⟩
end
def trk (h : Heap) (H : Hp) : List Addr := (List.range h.objs.size).filter fun a => (H a).isSome
def sJ (h : Heap) (H : Hp) : Heap := PySem.W.hideAll h (trk h H)
theorem yP (h : Heap) (H : Hp) : (sJ h H).objs.size = h.objs.size := PySem.W.hideAll_size _ _
theorem zA {h : Heap} {H : Hp} {b : Addr} {o : Obj} (e : h.get? b = some o) (n : H b = none) : (sJ h H).get? b = some o :=
 PySem.W.hideAll_get _ e fun hm => by
  have q : (H b).isSome = true := (List.mem_filter.mp hm).2
  rw [n] at q; simp at q
theorem CN {h : Heap} {H : Hp} {b : Addr} {o : Obj} (e : (sJ h H).get? b = some o) : h.get? b = some o ∧ H b = none := by
 have e' : h.get? b = some o := PySem.W.of_hideAll (trk h H) e
 refine ⟨e', ?_⟩
 cases q : H b with
 | none => rfl
 | some x =>
  have hm : b ∈ trk h H := List.mem_filter.mpr ⟨List.mem_range.mpr (Heap.lt_size e'), by simp [q]⟩
  have z : (sJ h H).get? b = none := PySem.W.hideAll_none (trk h H) hm
  rw [z] at e; cases e
def CT (g h : Heap) (L : Addr) : List (Addr × Obj) := (List.range h.objs.size).filterMap fun a => if a = L ∨ (g.get? a).isSome = true then none else (h.get? a).map fun o => (a, o)
def rest (g h : Heap) (L d : Addr) : List (Addr × Obj) := (CT g h L).filter fun p => decide (p.1 ≠ d)
end L2
namespace L2
open PySem PySem.Spec PyProof.Rows
structure Mod (K : PySem.W.Frag) (mg : Str → Option Value) (base : Heap) : Prop where
 kin : K.In base
 glob : base.Ns mainGlobals mg
 blt : ∃ mb, base.Ns builtinsNs mb ∧ ∀ x : Str, x ≠ "__name__" → mb x = bootBuiltins x
 nolimit : base.NoLimit
 bmain : ∃ bm ob, mg "__builtins__" = some (.ref bm) ∧ bm ≠ builtinsNs ∧ base.get? bm = some ob ∧ ob.cls = .type "module" ∧ ob.dict = some builtinsNs ∧ ob.data = .plain
structure Cx where
 prog : Program
 w : World
 K : PySem.W.Frag
 mg : Str → Option Value
 base : Heap
 A : Around
 N : List Str
 s₀ : Shared
 H₀ : Hp
 env : Env
 outer : List Env
 stack : List Env
 ex : List Addr
 fn : Str → Bool
 calm : Bool
 pn : List (Addr × Obj)
 xe : Value → Shared → Prop
def frs (l : List Env) : List Addr := l.filterMap (·.frame)
abbrev Cx.fs (X : Cx) : List Addr := frs X.outer
def Vis (sc : Scope) (x : Str) : Prop := sc.names.lookup x = some .local ∨ sc.names.lookup x = some .cell ∨ sc.names.lookup x = some .free
def Loc (sc : Scope) (x : Str) : Prop := sc.names.lookup x = some .local ∨ sc.names.lookup x = some .cell
def Look (env : Env) (h : Heap) (m : Str → Option Value) (x : Str) (u : Value) : Prop :=
 (env.kindOf x = some .local ∧ m x = some u) ∨ ((env.kindOf x = some .cell ∨ env.kindOf x = some .free) ∧ ∃ c, env.cells.lookup x = some c ∧ h.IsCell c (some u))
structure Cx.Ok (X : Cx) : Prop where
 mod : Mod X.K X.mg X.base
 kind : X.env.scope.kind = .function
 glob : X.env.globals = mainGlobals
 blt : X.env.builtins = builtinsNs
 above : X.s₀.heap.objs.size ≤ X.env.locals
 inj : ∀ x y c, X.env.cells.lookup x = some c → X.env.cells.lookup y = some c → x = y
 has : ∀ x, (X.env.kindOf x = some .cell ∨ X.env.kindOf x = some .free) → ∃ c, X.env.cells.lookup x = some c
 cab : ∀ x c, X.fn x = true → X.env.cells.lookup x = some c → X.s₀.heap.objs.size ≤ c
 hd : X.calm = true → X.A.handled = none
 frames : X.A.frames = some X.stack
 stk : X.stack = X.outer ∨ (X.stack = X.env :: X.outer ∧ X.env.frame = some X.env.locals)
 exf : ∀ b ∈ X.ex, b ≠ X.env.locals ∧ ∀ x c, X.env.cells.lookup x = some c → c ≠ b
 bs : ∀ b o, X.base.get? b = some o → X.s₀.heap.get? b = some o ∧ X.H₀ b = none
 bsz : X.base.objs.size ≤ X.s₀.heap.objs.size
 noex : ∀ b o, X.base.get? b = some o → b ∉ X.ex
 exfs : ∀ b ∈ X.ex, b ∉ X.fs
 funs : X.s₀.heap.FunFrames X.base X.outer
 frf : ∀ b ∈ X.fs, X.H₀ b = none
structure GK (a b : Array GenState) : Prop where
 bare : AllBare b
 kept : ∀ (k : Nat) (g : GenState), a[k]? = some g → b[k]? = some g
theorem GK.refl {a : Array GenState} (h : AllBare a) : GK a a := ⟨h, fun _ _ e => e⟩
theorem GK.trans {a b c : Array GenState} (x : GK a b) (y : GK b c) : GK a c := ⟨y.bare, fun k g e => y.kept k g (x.kept k g e)⟩
theorem GK.again {a b : Array GenState} (x : GK a b) : GK b b := GK.refl x.bare
structure Inv (X : Cx) (pins : List (Addr × Obj)) (σ : List (Option V)) (H : Hp) (s : Shared) : Prop where
 ok : X.Ok
 os : s.os = X.s₀.os
 bare : GK X.s₀.gens s.gens
 base : Un X.fs X.ex X.H₀ H X.s₀.heap s.heap
 loc : ∃ m, s.heap.Ns X.env.locals m ∧ ∀ (i : Nat) (x : Str) (v : V), X.N[i]? = some x → σ[i]? = some (some v) → Vis X.env.scope x → ∃ u, RelV v u ∧ Look X.env s.heap m x u
 cell : ∀ x c, X.env.cells.lookup x = some c → ∃ v, s.heap.IsCell c v
 free : H X.env.locals = none
 freeC : ∀ x c, X.env.cells.lookup x = some c → H c = none
 pin : ∀ p ∈ X.pn ++ pins, s.heap.get? p.1 = some p.2 ∧ H p.1 = none ∧ p.1 ≠ X.env.locals ∧ p.1 ∉ X.fs ∧ ∀ v, p.2.data ≠ .cell v
 hok : HOk X.prog X.w H s.heap
 len : σ.length = X.N.length
section
variable {X : Cx} {pins : List (Addr × Obj)} {σ : List (Option V)} {H H' : Hp} {s : Shared} {h' : Heap}
theorem Cx.Ok.nofr (ok : X.Ok) {b : Addr} {o : Obj} (e : X.base.get? b = some o) : b ∉ X.fs := fun hb => by
 have := (ok.funs.mem hb).1
 rw [e] at this; cases this
theorem Inv.bs (I : Inv X pins σ H s) : ∀ b o, X.base.get? b = some o → s.heap.get? b = some o ∧ H b = none := fun b o e =>
 ⟨I.base.keep b o (I.ok.bs b o e).1 (I.ok.bs b o e).2 (I.ok.nofr e) (I.ok.noex b o e), I.base.free b o (I.ok.bs b o e).1 (I.ok.bs b o e).2 (I.ok.noex b o e)⟩
theorem Inv.bk (I : Inv X pins σ H s) : ∀ b o, X.base.get? b = some o → s.heap.get? b = some o := fun b o e => (I.bs b o e).1
theorem Inv.mod (I : Inv X pins σ H s) : Mod X.K X.mg X.base := I.ok.mod
theorem Inv.kIn (I : Inv X pins σ H s) : X.K.In s.heap := I.ok.mod.kin.keeps I.bk
theorem Inv.nolimit (I : Inv X pins σ H s) : s.heap.NoLimit := I.ok.mod.nolimit.keeps I.bk
theorem Inv.fr (I : Inv X pins σ H s) : ∃ m, Fr X.base X.env.locals s.heap m :=
 let ⟨m, hn, _⟩ := I.loc
 ⟨m, hn, I.bk, Nat.le_trans I.ok.bsz I.ok.above⟩
theorem Inv.lt (I : Inv X pins σ H s) : X.env.locals < s.heap.objs.size := let ⟨_, hn, _⟩ := I.loc; hn.lt
theorem Inv.sz (I : Inv X pins σ H s) : X.s₀.heap.objs.size ≤ s.heap.objs.size := Nat.le_trans I.ok.above (Nat.le_of_lt I.lt)
theorem Inv.nofs (I : Inv X pins σ H s) {a : Addr} (h : s.heap.objs.size ≤ a) : a ∉ X.fs := fun hb => by
 obtain ⟨_, o, ho, _⟩ := I.ok.funs.mem hb
 exact absurd (Nat.lt_of_lt_of_le (Heap.lt_size ho) (Nat.le_trans I.sz h)) (Nat.lt_irrefl _)
theorem Inv.cne (I : Inv X pins σ H s) : ∀ x c, X.env.cells.lookup x = some c → c ≠ X.env.locals := fun x c e z => by
 obtain ⟨v, o, ho, hd⟩ := I.cell x c e
 obtain ⟨m, ⟨o', es, ep, ho', hd', _⟩, _⟩ := I.loc
 rw [z, ho'] at ho; cases ho; rw [hd'] at hd; cases hd
theorem Inv.funs (I : Inv X pins σ H s) : s.heap.FunFrames X.base X.outer := by
 have all : ∀ (l : List Env), (∀ b ∈ frs l, b ∈ X.fs) → X.s₀.heap.FunFrames X.base l → s.heap.FunFrames X.base l := by
  intro l
  induction l with
  | nil => intro _ _; trivial
  | cons env r ih =>
   intro hs hl
   obtain ⟨hk, ⟨L, o, hf, hn, ho, hd⟩, hr⟩ := hl
   have hL : L ∈ X.fs := hs L (by unfold frs; rw [List.filterMap_cons, hf]; exact List.mem_cons_self)
   obtain ⟨sl, e⟩ := I.base.slot L o ho (I.ok.frf L hL) hL fun z => I.ok.exfs L z hL
   exact ⟨hk, ⟨L, _, hf, hn, e, hd⟩, ih (fun b hb => hs b (by unfold frs; rw [List.filterMap_cons, hf]; exact List.mem_cons_of_mem _ hb)) hr⟩
 exact all X.outer (fun _ hb => hb) I.ok.funs
theorem Inv.stack (I : Inv X pins σ H s) : s.heap.FunFrames X.base X.stack := by
 rcases I.ok.stk with e | ⟨e, hf⟩
 ·rw [e]; exact I.funs
 ·rw [e]
  obtain ⟨m, hn, _⟩ := I.loc
  refine .cons (by rw [I.ok.kind]; decide) hf hn ?_ I.funs
  exact Heap.get?_none_of_le (Nat.le_trans I.ok.bsz I.ok.above)
theorem Inv.stkSub (I : Inv X pins σ H s) : ∀ b ∈ frs X.stack, b ∈ X.env.locals :: X.fs := fun b hb => by
 rcases I.ok.stk with e | ⟨e, hf⟩
 ·rw [e] at hb; exact List.mem_cons_of_mem _ hb
 ·rw [e] at hb
  unfold frs at hb
  rw [List.filterMap_cons, hf] at hb
  exact hb
theorem Inv.stkFree (I : Inv X pins σ H s) : ∀ b ∈ frs X.stack, H b = none := fun b hb => by
 rcases List.mem_cons.mp (I.stkSub b hb) with e | hb
 ·rw [e]; exact I.free
 ·obtain ⟨_, o, ho, _⟩ := I.ok.funs.mem hb
  exact I.base.free b o ho (I.ok.frf b hb) fun z => I.ok.exfs b z hb
theorem Inv.step {g' : Array GenState} {t' : Nat} {d' : Drawn} {ch : List Addr} (I : Inv X pins σ H s)
  (hch : ∀ b ∈ ch, (b ∈ X.ex ∨ X.s₀.heap.objs.size ≤ b) ∧ b ≠ X.env.locals ∧ (∀ x c, X.env.cells.lookup x = some c → c ≠ b) ∧ ∀ p ∈ X.pn ++ pins, p.1 ≠ b)
  (keep : ∀ b o, b ≠ X.env.locals → b ∉ X.fs → b ∉ ch → s.heap.get? b = some o → H b = none → h'.get? b = some o)
  (slot : ∀ b o, b ≠ X.env.locals → b ∈ X.fs → b ∉ ch → s.heap.get? b = some o → H b = none → ∃ sl, h'.get? b = some { o with slots := sl }) (free : ∀ b o, b ∉ ch → s.heap.get? b = some o → H b = none → H' b = none)
  (there : ∀ b o, b ∉ ch → s.heap.get? b = some o → ∃ o', h'.get? b = some o')
  (tups : ∀ b xs, H b = some (.tup xs) → H' b = some (.tup xs)) (frzs : ∀ b o u, H b = some (.frz o u) → H' b = some (.frz o u)) (tbls : ∀ b ps, H b = some (.tbl ps) → ∃ more, H' b = some (.tbl (ps ++ more)))
  (ns : ∀ m, s.heap.Ns X.env.locals m → h'.Ns X.env.locals m) (hok : HOk X.prog X.w H' h') (hg : GK s.gens g') :
  Inv X pins σ H' { s with heap := h', gens := g', drawn := d', toks := t' } := by
 have neL : ∀ b o, X.s₀.heap.get? b = some o → b ≠ X.env.locals := fun b o e => Nat.ne_of_lt (Nat.lt_of_lt_of_le (Heap.lt_size e) I.ok.above)
 have neC : ∀ b o, X.s₀.heap.get? b = some o → b ∉ X.ex → b ∉ ch := fun b o e hx hb => by
  rcases (hch b hb).1 with z | z
  ·exact hx z
  ·exact absurd (Nat.lt_of_lt_of_le (Heap.lt_size e) z) (Nat.lt_irrefl _)
 have cellK : ∀ x c, X.env.cells.lookup x = some c → ∀ v, s.heap.IsCell c v → h'.IsCell c v := fun x c e v zq1 => by
  obtain ⟨o, ho, hd⟩ := zq1
  have nch : c ∉ ch := fun z => (hch c z).2.2.1 x c e rfl
  by_cases hc : c ∈ X.fs
  ·obtain ⟨sl, q⟩ := slot c o (I.cne x c e) hc nch ho (I.freeC x c e)
   exact ⟨_, q, hd⟩
  ·exact ⟨o, keep c o (I.cne x c e) hc nch ho (I.freeC x c e), hd⟩
 refine ⟨I.ok, I.os, I.bare.trans hg, ⟨fun b o e n hb hx => ?_, fun b o e n hb hx => ?_, fun b o e n hx => ?_, fun b o e hx => ?_, fun b xs e => tups b xs (I.base.tups b xs e), fun b o xs e => frzs b o xs (I.base.frzs b o xs e), fun b ps e => ?_⟩, ?_, fun x c e => ?_, ?_, fun x c e => ?_, fun p hp => ?_, hok, I.len⟩
 ·exact keep b o (neL b o e) hb (neC b o e hx) (I.base.keep b o e n hb hx) (I.base.free b o e n hx)
 ·obtain ⟨sl, e1⟩ := I.base.slot b o e n hb hx
  obtain ⟨sl', e2⟩ := slot b _ (neL b o e) hb (neC b o e hx) e1 (I.base.free b o e n hx)
  exact ⟨sl', e2⟩
 ·obtain ⟨o', e1⟩ := I.base.there b o e hx
  exact free b o' (neC b o e hx) e1 (I.base.free b o e n hx)
 ·obtain ⟨o', e1⟩ := I.base.there b o e hx
  exact there b o' (neC b o e hx) e1
 ·obtain ⟨m1, e1⟩ := I.base.tbls b ps e
  obtain ⟨m2, e2⟩ := tbls b _ e1
  exact ⟨m1 ++ m2, by rw [e2, Array.append_assoc]⟩
 ·obtain ⟨m, hn, hl⟩ := I.loc
  refine ⟨m, ns m hn, fun i x v e1 e2 e3 => ?_⟩
  obtain ⟨u, r, l⟩ := hl i x v e1 e2 e3
  refine ⟨u, r, ?_⟩
  rcases l with l | ⟨k, c, e, z⟩
  ·exact .inl l
  ·exact .inr ⟨k, c, e, cellK x c e _ z⟩
 ·obtain ⟨v, z⟩ := I.cell x c e
  exact ⟨v, cellK x c e v z⟩
 ·obtain ⟨m, ⟨o, _, _, ho, _⟩, _⟩ := I.loc
  exact free _ o (fun z => (hch _ z).2.1 rfl) ho I.free
 ·obtain ⟨v, o, ho, hd⟩ := I.cell x c e
  exact free c o (fun z => (hch c z).2.2.1 x c e rfl) ho (I.freeC x c e)
 ·obtain ⟨e, n, ne, nf, d⟩ := I.pin p hp
  have nch : p.1 ∉ ch := fun z => (hch p.1 z).2.2.2 p hp rfl
  exact ⟨keep p.1 p.2 ne nf nch e n, free p.1 p.2 nch e n, ne, nf, d⟩
theorem Inv.un {t' : Nat} (I : Inv X pins σ H s) (u : Un X.fs [] H H' s.heap h') (hok : HOk X.prog X.w H' h') : Inv X pins σ H' { s with heap := h', toks := t' } := by
 obtain ⟨m, ⟨o, es, ep, ho, r⟩, _⟩ := id I.loc
 obtain ⟨sl, hL⟩ := u.any ho I.free (by simp)
 exact I.step (g' := s.gens) (d' := s.drawn) (ch := []) (fun _ z => nomatch z) (fun b o _ hb _ e n => u.keep b o e n hb (by simp)) (fun b o _ hb _ e n => u.slot b o e n hb (by simp)) (fun b o _ e n => u.free b o e n (by simp)) (fun b o _ e => u.there b o e (by simp)) u.tups u.frzs u.tbls (fun m' hm => by
  obtain ⟨o', es', ep', ho', r'⟩ := hm
  rw [ho] at ho'; cases ho'
  exact ⟨_, es', ep', hL, r'⟩) hok I.bare.again
theorem Inv.call {g' : Array GenState} {t' : Nat} {d' : Drawn} {ch : List Addr} (I : Inv X pins σ H s) (u : Un (frs X.stack) ch H H' s.heap h') (hok : HOk X.prog X.w H' h') (hg : GK s.gens g')
  (hch : ∀ b ∈ ch, (b ∈ X.ex ∨ X.s₀.heap.objs.size ≤ b) ∧ b ≠ X.env.locals ∧ (∀ x c, X.env.cells.lookup x = some c → c ≠ b) ∧ ∀ p ∈ X.pn ++ pins, p.1 ≠ b) :
  Inv X pins σ H' { s with heap := h', gens := g', drawn := d', toks := t' } := by
 obtain ⟨m, ⟨o, es, ep, ho, r⟩, _⟩ := id I.loc
 obtain ⟨sl, hL⟩ := u.any ho I.free fun z => (hch _ z).2.1 rfl
 exact I.step (ch := ch) hch (fun b o hL hb hc e n => u.keep b o e n (fun z => (List.mem_cons.mp (I.stkSub b z)).elim hL hb) hc) (fun b o _ _ hc e n => u.any e n hc) (fun b o hc e n => u.free b o e n hc) (fun b o hc e => u.there b o e hc) u.tups u.frzs u.tbls (fun m' hm => by
  obtain ⟨o', es', ep', ho', r'⟩ := hm
  rw [ho] at ho'; cases ho'
  exact ⟨_, es', ep', hL, r'⟩) hok hg
theorem Inv.turned {t' : Nat} {it : Addr} (I : Inv X pins σ H s) (k : ∀ b o, b ≠ it → s.heap.get? b = some o → h'.get? b = some o) (hn : H it = none) (hL : it ≠ X.env.locals)
  (h1 : it ∈ X.ex ∨ X.s₀.heap.objs.size ≤ it) (h2 : ∀ x c, X.env.cells.lookup x = some c → c ≠ it) (h3 : ∀ p ∈ X.pn ++ pins, p.1 ≠ it) : Inv X pins σ H { s with heap := h', toks := t' } := by
 have nit : ∀ b u, H b = some u → b ≠ it := fun b u e z => by rw [z, hn] at e; cases e
 refine I.step (g' := s.gens) (d' := s.drawn) (ch := [it]) (fun b hb => ?_) (fun b o _ _ hc e _ => k b o (fun z => hc (by simp [z])) e) (fun b o _ _ hc e _ => ⟨o.slots, k b o (fun z => hc (by simp [z])) e⟩) (fun _ _ _ _ n => n)
  (fun b o hc e => ⟨o, k b o (fun z => hc (by simp [z])) e⟩) (fun _ _ e => e) (fun _ _ _ e => e) (fun b ps e => ⟨#[], by rw [e]; simp⟩) (fun m hm => ?_) (fun b u e => ?_) I.bare.again
 ·have e : b = it := by simpa using hb
  subst e
  exact ⟨h1, hL, h2, h3⟩
 ·obtain ⟨o, es, ep, ho, r⟩ := hm
  exact ⟨o, es, ep, k _ o (Ne.symm hL) ho, r⟩
 ·refine (I.hok b u e).stay (fun c v hc q => k c v ?_ q) (fun _ q => q) fun _ _ q => q
  rcases hc with z | z
  ·rw [z]; exact nit b u e
  ·exact nit c _ z
theorem Inv.tok (I : Inv X pins σ H s) (t : Nat) : Inv X pins σ H { s with toks := t } := I.un (h' := s.heap) (t' := t) Un.refl I.hok
theorem Inv.kept {t' : Nat} (I : Inv X pins σ H s) (k : ∀ b u, s.heap.get? b = some u → h'.get? b = some u) : Inv X pins σ H { s with heap := h', toks := t' } := I.un (Un.kept k) (I.hok.kept k)
theorem Inv.laid {a : Addr} {o : HO} {t' : Nat} (I : Inv X pins σ H s) (k : ∀ b u, s.heap.get? b = some u → h'.get? b = some u) (hp : s.heap.objs.size ≤ a) (new : fU X.prog X.w (upd H a o) h' a o) :
  Inv X pins σ (upd H a o) { s with heap := h', toks := t' } := I.un (Un.laid k hp (I.hok.fresh hp)) (I.hok.laid k hp new)
theorem Inv.write {x e : Addr} {o : HO} {t' : Nat} (I : Inv X pins σ H s) (mu : Mut (H x)) (he : e = x ∨ H e = some (.own x)) (k : ∀ b u, b ≠ e → s.heap.get? b = some u → h'.get? b = some u) (heo : ∃ u, h'.get? e = some u)
  (new : fU X.prog X.w (upd H x o) h' x o) : Inv X pins σ (upd H x o) { s with heap := h', toks := t' } := I.un (Un.write mu he k heo) (I.hok.write mu he k heo new)
theorem Inv.weak {σ' : List (Option V)} (I : Inv X pins σ H s) (hl : σ'.length = σ.length) (w : ∀ (i : Nat) v, σ'[i]? = some (some v) → σ[i]? = some (some v)) : Inv X pins σ' H s :=
 ⟨I.ok, I.os, I.bare, I.base, let ⟨m, hn, hl'⟩ := I.loc; ⟨m, hn, fun i x v e1 e2 e3 => hl' i x v e1 (w i v e2) e3⟩, I.cell, I.free, I.freeC, I.pin, I.hok, hl.trans I.len⟩
theorem Inv.pins_of {pins' : List (Addr × Obj)} (I : Inv X pins σ H s) (h : ∀ p ∈ pins', s.heap.get? p.1 = some p.2 ∧ H p.1 = none ∧ p.1 ≠ X.env.locals ∧ p.1 ∉ X.fs ∧ ∀ v, p.2.data ≠ .cell v) : Inv X pins' σ H s :=
 ⟨I.ok, I.os, I.bare, I.base, I.loc, I.cell, I.free, I.freeC, fun p hp => (List.mem_append.mp hp).elim (fun z => I.pin p (List.mem_append_left _ z)) (h p), I.hok, I.len⟩
theorem uT {N : List Str} (hN : N.Nodup) {i j : Nat} {x : Str} (a : N[i]? = some x) (b : N[j]? = some x) : i = j := by
 obtain ⟨h1, e1⟩ := List.getElem?_eq_some_iff.mp a
 obtain ⟨h2, e2⟩ := List.getElem?_eq_some_iff.mp b
 exact (List.getElem_inj hN).mp (e1.trans e2.symm)
theorem rP {M : Model} {A : Around} {E : Value → Shared → Prop} {i : Nat} {x : Str} {v : V} {u : Value} {Q : Unit → Shared → Prop} (I : Inv X pins σ H s) (hN : X.N.Nodup) (hi : X.N[i]? = some x) (hx : Loc X.env.scope x) (r : RelV v u)
  (h : ∀ s', Inv X pins (σ.set i (some v)) H s' → (∃ a, Heap.SameBut a s.heap s'.heap ∧ (a = X.env.locals ∨ X.env.cells.lookup x = some a)) → Q () s') (hf : X.fn x = true ∨ X.env.scope.names.lookup x = some .local := by first | exact .inl rfl | exact .inr rfl | assumption) : wpAny M A (storeName X.env x u) Q E s := by
 obtain ⟨m, hn, hl⟩ := id I.loc
 have hcls : (X.env.scope.kind == .class || (X.env.scope.kind == .module && X.env.locals != X.env.globals)) = false := by rw [I.ok.kind]; rfl
 have hiσ : i < σ.length := by rw [I.len]; exact (List.getElem?_eq_some_iff.mp hi).1
 have cne := I.cne
 have tracked : ∀ {a : Addr} {h' : Heap}, (∃ o, s.heap.get? a = some o ∧ H a = none) → Heap.SameBut a s.heap h' → HOk X.prog X.w H h' := fun {a h'} ha hs b ob e => by
  obtain ⟨_, _, hfree⟩ := ha
  refine (I.hok b ob e).stay (fun c w' hc q => (hs.2 c ?_).trans q) (fun _ q => q) fun _ _ q => q
  rintro rfl
  rcases hc with rfl | hc
  ·rw [hfree] at e; cases e
  ·rw [hfree] at hc; cases hc
 rcases hx with hk | hk
 ·refine wpAny_storeName_local hk hn (fun h' hn' hs => ?_) hcls
  obtain ⟨oL, _, _, hoL, _⟩ := id hn
  refine h _ ⟨I.ok, I.os, I.bare, ⟨fun b o e n hb hx => ?_, fun b o e n hb hx => ?_, I.base.free, fun b o e hx => ?_, I.base.tups, I.base.frzs, I.base.tbls⟩, ⟨_, hn', fun j y v' e1 e2 e3 => ?_⟩, fun y c e => ?_, I.free, I.freeC, fun p hp => ?_, tracked ⟨oL, hoL, I.free⟩ hs, by simpa using I.len⟩ ⟨_, hs, .inl rfl⟩
  ·exact (hs.2 b (Nat.ne_of_lt (Nat.lt_of_lt_of_le (Heap.lt_size e) I.ok.above))).trans (I.base.keep b o e n hb hx)
  ·obtain ⟨sl, e1⟩ := I.base.slot b o e n hb hx
   exact ⟨sl, (hs.2 b (Nat.ne_of_lt (Nat.lt_of_lt_of_le (Heap.lt_size e) I.ok.above))).trans e1⟩
  ·obtain ⟨o', e1⟩ := I.base.there b o e hx
   exact ⟨o', (hs.2 b (Nat.ne_of_lt (Nat.lt_of_lt_of_le (Heap.lt_size e) I.ok.above))).trans e1⟩
  ·by_cases hj : j = i
   ·subst hj
    rw [hi] at e1; cases e1
    rw [List.getElem?_set_self hiσ] at e2
    cases e2
    exact ⟨u, r, .inl ⟨hk, by simp⟩⟩
   ·rw [List.getElem?_set_ne (Ne.symm hj)] at e2
    obtain ⟨u', r', q⟩ := hl j y v' e1 e2 e3
    refine ⟨u', r', ?_⟩
    rcases q with ⟨k, e⟩ | ⟨k, c, e, z⟩
    ·refine .inl ⟨k, ?_⟩
     have : y ≠ x := fun e => hj (uT hN e1 (e ▸ hi))
     simp [this, e]
    ·exact .inr ⟨k, c, e, z.sameBut hs (cne y c e)⟩
  ·obtain ⟨w', z⟩ := I.cell y c e
   exact ⟨w', z.sameBut hs (cne y c e)⟩
  ·obtain ⟨e, n, ne, nf, d⟩ := I.pin p hp
   exact ⟨(hs.2 p.1 ne).trans e, n, ne, nf, d⟩
 ·have hfn : X.fn x = true := by
   rcases hf with z | z
   ·exact z
   ·rw [z] at hk; cases hk
  obtain ⟨c, hc⟩ := I.ok.has x (.inl hk)
  obtain ⟨w', z⟩ := I.cell x c hc
  refine wpAny_storeName_cell I.ok.kind hk hc z (fun h' hc' hs => ?_)
  obtain ⟨oc, hoc, hocd⟩ := id z
  refine h { s with heap := h' } ⟨I.ok, I.os, I.bare, ⟨fun b o e n hb hx => ?_, fun b o e n hb hx => ?_, I.base.free, fun b o e hx => ?_, I.base.tups, I.base.frzs, I.base.tbls⟩, ⟨m, hn.sameBut hs (Ne.symm (cne x c hc)), fun j y v' e1 e2 e3 => ?_⟩, fun y c' e => ?_, I.free, I.freeC, fun p hp => ?_, tracked ⟨oc, hoc, I.freeC x c hc⟩ hs, by simpa using I.len⟩ ⟨c, hs, .inr hc⟩
  ·exact (hs.2 b (Nat.ne_of_lt (Nat.lt_of_lt_of_le (Heap.lt_size e) (I.ok.cab x c hfn hc)))).trans (I.base.keep b o e n hb hx)
  ·obtain ⟨sl, e1⟩ := I.base.slot b o e n hb hx
   exact ⟨sl, (hs.2 b (Nat.ne_of_lt (Nat.lt_of_lt_of_le (Heap.lt_size e) (I.ok.cab x c hfn hc)))).trans e1⟩
  ·obtain ⟨o', e1⟩ := I.base.there b o e hx
   exact ⟨o', (hs.2 b (Nat.ne_of_lt (Nat.lt_of_lt_of_le (Heap.lt_size e) (I.ok.cab x c hfn hc)))).trans e1⟩
  ·by_cases hj : j = i
   ·subst hj
    rw [hi] at e1; cases e1
    rw [List.getElem?_set_self hiσ] at e2
    cases e2
    exact ⟨u, r, .inr ⟨.inl hk, c, hc, hc'⟩⟩
   ·rw [List.getElem?_set_ne (Ne.symm hj)] at e2
    obtain ⟨u', r', q⟩ := hl j y v' e1 e2 e3
    refine ⟨u', r', ?_⟩
    rcases q with q | ⟨k, c', e, z'⟩
    ·exact .inl q
    ·refine .inr ⟨k, c', e, z'.sameBut hs ?_⟩
     rintro rfl
     exact hj (uT hN e1 (I.ok.inj _ _ _ e hc ▸ hi))
  ·by_cases hcc : c' = c
   ·subst hcc; exact ⟨_, hc'⟩
   ·obtain ⟨w2, z2⟩ := I.cell y c' e
    exact ⟨w2, z2.sameBut hs hcc⟩
  ·obtain ⟨e, n, ne, nf, d⟩ := I.pin p hp
   refine ⟨(hs.2 p.1 ?_).trans e, n, ne, nf, d⟩
   intro q
   rw [q, hoc] at e
   have q' : oc = p.2 := Option.some.inj e
   exact d w' (by rw [← q']; exact hocd)
theorem gA {M : Model} {A : Around} {E : Value → Shared → Prop} {i : Nat} {x : Str} {v : V} {u : Value} {Q : Unit → Shared → Prop} (I : Inv X pins σ H s) (hN : X.N.Nodup) (hi : X.N[i]? = some x) (hx : Loc X.env.scope x) (r : RelV v u)
  (h : ∀ s', Inv X pins (σ.set i (some v)) H s' → Q () s') (hf : X.fn x = true ∨ X.env.scope.names.lookup x = some .local := by first | exact .inl rfl | exact .inr rfl | assumption) : wpAny M A (storeName X.env x u) Q E s :=
 rP I hN hi hx r (fun s' I' _ => h s' I') hf
theorem Inv.call' {s' : Shared} {ch : List Addr} (I : Inv X pins σ H s) (ho : s'.os = s.os) (u : Un (frs X.stack) ch H H' s.heap s'.heap) (hok : HOk X.prog X.w H' s'.heap) (hg : GK s.gens s'.gens)
  (hch : ∀ b ∈ ch, (b ∈ X.ex ∨ X.s₀.heap.objs.size ≤ b) ∧ b ≠ X.env.locals ∧ (∀ x c, X.env.cells.lookup x = some c → c ≠ b) ∧ ∀ p ∈ X.pn ++ pins, p.1 ≠ b) : Inv X pins σ H' s' := by
 obtain ⟨h', g', d', t', o'⟩ := s'
 have e : o' = s.os := ho
 subst e
 exact I.call (g' := g') (t' := t') (d' := d') u hok hg hch
end
abbrev XK := Value → Option Addr → Hp → Prop
abbrev St := List (Option V)
abbrev VK := V → Hp → Prop
abbrev TE := St → Hp → VK → Prop
abbrev TT := St → Hp → (Bool → Hp → Prop) → Prop
abbrev TA := St → Hp → (List V → Hp → Prop) → Prop
structure Ends where
 nx : St → Hp → Prop
 rt : VK
 bk : St → Hp → Prop := fun _ _ => False
 ct : St → Hp → Prop := fun _ _ => False
abbrev TS := Ends → St → Hp → Prop
def EP (X : Cx) (pins : List (Addr × Obj)) (σ : St) (Q : VK) (u : Value) (s' : Shared) : Prop := ∃ v H', Inv X pins σ H' s' ∧ RelV v u ∧ Q v H'
def TP (X : Cx) (pins : List (Addr × Obj)) (σ : St) (Q : Bool → Hp → Prop) (b : Bool) (s' : Shared) : Prop := ∃ H', Inv X pins σ H' s' ∧ Q b H'
def AP (X : Cx) (pins : List (Addr × Obj)) (σ : St) (Q : List V → Hp → Prop) (us : List Value) (s' : Shared) : Prop := ∃ vs H', Inv X pins σ H' s' ∧ Vals vs us ∧ Q vs H'
def SP (X : Cx) (pins : List (Addr × Obj)) (D : Ends) (f : Flow) (s' : Shared) : Prop :=
 match f with
 | .next => ∃ σ' H', Inv X pins σ' H' s' ∧ D.nx σ' H'
 | .brk => ∃ σ' H', Inv X pins σ' H' s' ∧ D.bk σ' H'
 | .cont => ∃ σ' H', Inv X pins σ' H' s' ∧ D.ct σ' H'
 | .ret u => ∃ v σ' H', Inv X pins σ' H' s' ∧ RelV v u ∧ D.rt v H'
def PE (X : Cx) (e : Expr) (t : TE) : Prop :=
 ∀ (pins : List (Addr × Obj)) (s : Shared) (σ : St) (H : Hp) (Q : VK), Inv X pins σ H s → t σ H Q → wpAny (model X.prog X.w) X.A (eval e X.env) (EP X pins σ Q) X.xe s
def PT (X : Cx) (e : Expr) (t : TT) : Prop :=
 ∀ (pins : List (Addr × Obj)) (s : Shared) (σ : St) (H : Hp) (Q : Bool → Hp → Prop), Inv X pins σ H s → t σ H Q → wpAny (model X.prog X.w) X.A (isTrue e X.env (eval e X.env)) (TP X pins σ Q) X.xe s
def PW (X : Cx) (e : Expr) (t : TT) : Prop :=
 ∀ (whole : Sem Value) (pins : List (Addr × Obj)) (s : Shared) (σ : St) (H : Hp) (Q : Bool → Hp → Prop), Inv X pins σ H s → t σ H Q → wpAny (model X.prog X.w) X.A (isTrue e X.env whole) (TP X pins σ Q) X.xe s
theorem PW.pt {X : Cx} {e : Expr} {t : TT} (h : PW X e t) : PT X e t := h _
def PA (X : Cx) (es : List Expr) (t : TA) : Prop :=
 ∀ (pos : Pos) (pins : List (Addr × Obj)) (s : Shared) (σ : St) (H : Hp) (Q : List V → Hp → Prop), Inv X pins σ H s → t σ H Q → wpAny (model X.prog X.w) X.A (spliced (backTo pos (starEach es X.env))) (AP X pins σ Q) X.xe s
def PS (X : Cx) (st : Stmt) (t : TS) : Prop :=
 ∀ (pins : List (Addr × Obj)) (s : Shared) (σ : St) (H : Hp) (D : Ends), Inv X pins σ H s → t D σ H → wpAny (model X.prog X.w) X.A (exec st X.env) (SP X pins D) X.xe s
def PSs (X : Cx) (st : List Stmt) (t : TS) : Prop :=
 ∀ (pins : List (Addr × Obj)) (s : Shared) (σ : St) (H : Hp) (D : Ends), Inv X pins σ H s → t D σ H → wpAny (model X.prog X.w) X.A (execs st X.env) (SP X pins D) X.xe s
theorem thn {α : Type} {t : Sem α} {Q Q' : α → Shared → Prop} {M : Model} {A : Around} {E : Value → Shared → Prop} {s : Shared} (h : wpAny M A t Q E s) (hQ : ∀ a s, Q a s → Q' a s) : wpAny M A t Q' E s := wpAny_mono h hQ fun _ _ x => x
end L2
namespace L2
open PySem PySem.Spec PyProof.Rows
section
variable {X : Cx}
def tVar (i : Nat) : TE := fun σ H Q => ∃ v, σ[i]? = some (some v) ∧ Q v H
def tC (v : V) : TE := fun _ H Q => Q v H
theorem Hr {i : Nat} {x : Str} {pos : Pos} (hN : X.N[i]? = some x) (hv : Vis X.env.scope x) (hd : (x == ("__debug__" : Str)) = false := by decide) (hcd : (x == ("__classdict__" : Str)) = false := by decide) : PE X (.Name x pos) (tVar i) := by
 intro pins s σ H Q I h
 obtain ⟨v, e, h⟩ := h
 obtain ⟨m, hn, hl⟩ := I.loc
 obtain ⟨u, r, l⟩ := hl i x v hN e hv
 have fin : EP X pins σ Q u s := ⟨v, H, I, r, h⟩
 rcases l with ⟨hk, hm⟩ | ⟨hk, c, hc, hcell⟩
 ·exact wpAny_Name (wpAny_loadName_local I.ok.kind hk hn hm fin) hd
 ·rcases hk with hk | hk
  ·exact wpAny_Name (wpAny_loadName_cell I.ok.kind hk hc hcell fin) hd
  ·exact wpAny_Name (wpAny_loadName_free I.ok.kind hk hc hcell fin hcd) hd
theorem zz {i j pos} : PE X (.Constant (.int i) j pos) (tC (.int i)) := fun _ _ _ H _ I h => wpAny_Constant_int ⟨.int i, H, I.tok _, ⟨_, rfl⟩, h⟩
theorem JC {b j pos} : PE X (.Constant (.bool b) j pos) (tC (.bl b)) := fun _ _ _ H _ I h => Constant_bool ⟨.bl b, H, I, rfl, h⟩
theorem HH {j pos} : PE X (.Constant .none j pos) (tC .non) := fun _ _ _ H _ I h => Constant_none ⟨.non, H, I, rfl, h⟩
theorem Je {x j pos} : PE X (.Constant (.str x) j pos) (tC (.str x)) := fun _ _ _ H _ I h => Calls.Constant_str ⟨.str x, H, I.tok _, ⟨_, rfl⟩, h⟩
def Gl (X : Cx) (x : Str) : Prop := X.env.kindOf x = some .globalImplicit
theorem EY {E : Value → Shared → Prop} {pins : List (Addr × Obj)} {s : Shared} {σ : St} {H : Hp} {x : Str} {u : Value} {pos : Pos} {Q : Value → Shared → Prop} (I : Inv X pins σ H s) (hg : Gl X x) (hm : X.mg x = some u) (h : Q u s)
  (hd : (x == ("__debug__" : Str)) = false := by decide) : wpAny (model X.prog X.w) X.A (eval (.Name x pos) X.env) Q E s :=
 Calls.Name_function_global I.ok.kind hg (Calls.loadGlobal_global (by rw [I.ok.glob]; exact I.mod.glob.keeps I.bk) hm h) hd
theorem jn {E : Value → Shared → Prop} {pins : List (Addr × Obj)} {s : Shared} {σ : St} {H : Hp} {x : Str} {u : Value} {pos : Pos} {Q : Value → Shared → Prop} (I : Inv X pins σ H s) (hg : Gl X x) (hm : X.mg x = none) (hv : bootBuiltins x = some u) (h : Q u s)
  (hn : x ≠ "__name__" := by decide) (hd : (x == ("__debug__" : Str)) = false := by decide) : wpAny (model X.prog X.w) X.A (eval (.Name x pos) X.env) Q E s := by
 obtain ⟨mb, h1, h2⟩ := I.mod.blt
 exact Calls.Name_function_global I.ok.kind hg (Calls.loadGlobal_builtin (by rw [I.ok.glob]; exact I.mod.glob.keeps I.bk) hm (by rw [I.ok.blt]; exact h1.keeps I.bk) ((h2 x hn).trans hv) h) hd
theorem Dc {x : Str} {v : V} {u : Value} {pos : Pos} (hg : Gl X x) (hm : X.mg x = none) (hv : bootBuiltins x = some u) (r : RelV v u) (hn : x ≠ "__name__" := by decide) (hd : (x == ("__debug__" : Str)) = false := by decide) : PE X (.Name x pos) (tC v) :=
 fun _ _ _ H _ I h => jn I hg hm hv ⟨v, H, I, r, h⟩ hn hd
variable {a b : Expr} {ta tb : TE} {pos : Pos}
theorem uF (b : Expr) {op : CmpOp} (h : op ≠ .In) (h2 : op ≠ .NotIn) : behindInMarks op b = false := by
 have e1 : (op == CmpOp.In) = false := by cases op <;> first | rfl | exact absurd rfl h
 have e2 : (op == CmpOp.NotIn) = false := by cases op <;> first | rfl | exact absurd rfl h2
 cases b <;> simp [behindInMarks, e1, e2]
variable {tA tB' : TT} {rest : List Expr}
def tAnd (t u : TT) : TT := fun σ H Q => t σ H fun c H1 => if c = true then u σ H1 Q else Q false H1
def tOr (t u : TT) : TT := fun σ H Q => t σ H fun c H1 => if c = true then Q true H1 else u σ H1 Q
def tNot (t : TT) : TT := fun σ H Q => t σ H fun c H1 => Q (!c) H1
theorem Fd (ha : PT X a tA) : PW X (.BoolOp .And [a] pos) tA := by
 intro wh pins s σ H Q I h
 refine isTrue_and (thn (ha pins s σ H Q I h) fun c s1 e => ?_)
 cases c with
 | true => exact isTrue_and_nil e
 | false => exact e
theorem GD (ha : PT X a tA) : PW X (.BoolOp .Or [a] pos) tA := by
 intro wh pins s σ H Q I h
 refine isTrue_or (thn (ha pins s σ H Q I h) fun c s1 e => ?_)
 cases c with
 | false => exact isTrue_or_nil e
 | true => exact e
theorem Gu (ha : PT X a tA) (hb : PW X (.BoolOp .And (b :: rest) pos) tB') : PW X (.BoolOp .And (a :: b :: rest) pos) (tAnd tA tB') := by
 intro wh pins s σ H Q I h
 refine isTrue_and (thn (ha pins s σ H _ I h) fun c s1 zq7 => ?_)
 obtain ⟨H1, I1, q1⟩ := zq7
 cases c with
 | true => exact hb wh pins s1 σ H1 Q I1 q1
 | false => exact ⟨H1, I1, q1⟩
theorem JW (ha : PT X a tA) (hb : PW X (.BoolOp .Or (b :: rest) pos) tB') : PW X (.BoolOp .Or (a :: b :: rest) pos) (tOr tA tB') := by
 intro wh pins s σ H Q I h
 refine isTrue_or (thn (ha pins s σ H _ I h) fun c s1 zq8 => ?_)
 obtain ⟨H1, I1, q1⟩ := zq8
 cases c with
 | true => exact ⟨H1, I1, q1⟩
 | false => exact hb wh pins s1 σ H1 Q I1 q1
theorem Hh (ha : PT X a tA) : PT X (.UnaryOp .Not a pos) (tNot tA) := by
 intro pins s σ H Q I h
 exact isTrue_not (ha pins s σ H (fun c H1 => Q (!c) H1) I h)
def JB (ta tb : TE) : TE := fun σ H Q => ta σ H fun x H1 => ∃ c, x = .bl c ∧ if c = true then tb σ H1 Q else Q (.bl false) H1
def Kg (ta : TE) : TE := fun σ H Q => ta σ H fun x H1 => ∃ c, x = .bl c ∧ Q (.bl (!c)) H1
theorem Ja {op} {t : TE} (h : PE X a t) : PE X (.BoolOp op [a] pos) t := fun pins s σ H Q I hw => BoolOp_one (h pins s σ H Q I hw)
theorem Ii (ha : PE X a ta) (hb : PE X (.BoolOp .And (b :: rest) pos) tb) : PE X (.BoolOp .And (a :: b :: rest) pos) (JB ta tb) := by
 intro pins s σ H Q I h
 refine BoolOp_and (thn (ha pins s σ H _ I h) fun v s1 zq9 => ?_)
 obtain ⟨x, H1, I1, r1, q1⟩ := zq9
 obtain ⟨c, rfl, q1⟩ := q1
 cases r1
 refine wpAny_truthy_bool ?_
 cases c with
 | true => exact hb pins s1 σ H1 Q I1 q1
 | false => exact ⟨.bl false, H1, I1, rfl, q1⟩
theorem Hb (ha : PE X a ta) : PE X (.UnaryOp .Not a pos) (Kg ta) := by
 intro pins s σ H Q I h
 refine UnaryOp_ (thn (ha pins s σ H _ I h) fun v s1 zq11 => ?_)
 obtain ⟨x, H1, I1, r1, q1⟩ := zq11
 obtain ⟨c, rfl, q1⟩ := q1
 cases r1
 exact not_of (wpAny_truthy_bool ⟨.bl (!c), H1, I1, rfl, q1⟩)
end
end L2
namespace L2
open PySem PySem.Spec PyProof.Rows
def SqL (K : PySem.W.Frag) (H : Hp) (a : Addr) (xs : List V) : Prop :=
 Rd H a (.lst xs) ∨
  ∃ (o : Obj) (its : Array Value) (n : Nat), K.lookup a = some o ∧ o.cls = .type "list" ∧ o.dict = none ∧ o.data = .seq its n ∧ its.size ≤ sizeLine ∧ Vals xs its.toList
def SqT (K : PySem.W.Frag) (H : Hp) (a : Addr) (xs : List V) : Prop :=
 Rd H a (.tup xs) ∨
  ∃ (o : Obj) (its : Array Value) (n : Nat), K.lookup a = some o ∧ o.cls = .type "tuple" ∧ o.data = .seq its n ∧ its.size ≤ sizeLine ∧ Vals xs its.toList
def absV : Value → Option V
 | .none => some .non
 | .bool b => some (.bl b)
 | .int i _ => some (.int i)
 | .str x _ => some (.str x)
 | .bytes b _ => some (.byt b)
 | .float b _ => some (.flt b)
 | .ref a => some (.ref a)
 | .type n => some (.ty n)
 | _ => none
theorem RelV.abs {x : V} {u : Value} (r : RelV x u) : absV u = some x := by
 cases x with
 | non => cases r; rfl
 | bl _ => cases r; rfl
 | int _ => obtain ⟨t, rfl⟩ := r; rfl
 | str _ => obtain ⟨t, rfl⟩ := r; rfl
 | byt _ => obtain ⟨t, rfl⟩ := r; rfl
 | flt _ => obtain ⟨t, rfl⟩ := r; rfl
 | ref _ => cases r; rfl
 | ty _ => cases r; rfl
theorem RelV.inj {x y : V} {u : Value} (r : RelV x u) (q : RelV y u) : x = y := Option.some.inj (r.abs.symm.trans q.abs)
theorem Vals.inj : ∀ {xs ys : List V} {us : List Value}, Vals xs us → Vals ys us → xs = ys
 | _, _, _, .nil, .nil => rfl
 | _, _, _, .cons r t, .cons r' t' => by rw [r.inj r', Vals.inj t t']
section
variable {X : Cx} {pins : List (Addr × Obj)} {σ : St} {H : Hp} {s : Shared} {a : Addr} {xs ys : List V}
theorem SqL.of {K : PySem.W.Frag} (h : H a = some (.lst xs)) : SqL K H a xs := .inl (.inl h)
theorem Inv.list (I : Inv X pins σ H s) (h : SqL X.K H a xs) : ∃ its : List Value, Vals xs its ∧ PlainL s.heap a its.toArray ∧ xs.length ≤ sizeLine := by
 rcases h with h | ⟨o, its, n, hk, hc, hd, hs, hz, r⟩
 ·obtain ⟨z, its, n, r, e⟩ := h.ok I.hok
  exact ⟨its, r, ⟨_, n, e, rfl, rfl, rfl⟩, z⟩
 ·refine ⟨its.toList, r, ⟨o, n, I.kIn a o hk, hc, hd, by simpa using hs⟩, ?_⟩
  have e := r.length
  simp only [Array.length_toList] at e
  omega
theorem Inv.tuple (I : Inv X pins σ H s) (h : SqT X.K H a xs) : ∃ its : List Value, Vals xs its ∧ IsTup s.heap a its.toArray ∧ xs.length ≤ sizeLine := by
 rcases h with h | ⟨o, its, n, hk, hc, hs, hz, r⟩
 ·obtain ⟨z, its, r, p⟩ := h.ok I.hok
  exact ⟨its, r, p, z⟩
 ·refine ⟨its.toList, r, ⟨o, I.kIn a o hk, hc, n, by simpa using hs⟩, ?_⟩
  have e := r.length
  simp only [Array.length_toList] at e
  omega
theorem Inv.list_inj (I : Inv X pins σ H s) (h : SqL X.K H a xs) (h' : SqL X.K H a ys) : xs = ys := by
 obtain ⟨its, r, ⟨o, n, e, _, _, d⟩, _⟩ := I.list h
 obtain ⟨its', r', ⟨o', n', e', _, _, d'⟩, _⟩ := I.list h'
 rw [e] at e'; cases e'
 rw [d] at d'
 injection d' with d1 _
 have : its = its' := by simpa using congrArg Array.toList d1
 subst this
 exact r.inj r'
theorem Inv.tuple_inj (I : Inv X pins σ H s) (h : SqT X.K H a xs) (h' : SqT X.K H a ys) : xs = ys := by
 obtain ⟨its, r, ⟨o, e, _, n, d⟩, _⟩ := I.tuple h
 obtain ⟨its', r', ⟨o', e', _, n', d'⟩, _⟩ := I.tuple h'
 rw [e] at e'; cases e'
 rw [d] at d'
 injection d' with d1 _
 have : its = its' := by simpa using congrArg Array.toList d1
 subst this
 exact r.inj r'
end
abbrev Cx.wish (X : Cx) (E : Value → Shared → Prop) : Cx := { X with xe := E }
abbrev Cx.nox (X : Cx) : Cx := X.wish fun _ _ => False
theorem Cx.Ok.wish {X : Cx} (ok : X.Ok) (E : Value → Shared → Prop) : (X.wish E).Ok :=
 ⟨ok.mod, ok.kind, ok.glob, ok.blt, ok.above, ok.inj, ok.has, ok.cab, ok.hd, ok.frames, ok.stk, ok.exf, ok.bs, ok.bsz, ok.noex, ok.exfs, ok.funs, ok.frf⟩
theorem Cx.Ok.unwish {X : Cx} {E : Value → Shared → Prop} (ok : (X.wish E).Ok) : X.Ok :=
 ⟨ok.mod, ok.kind, ok.glob, ok.blt, ok.above, ok.inj, ok.has, ok.cab, ok.hd, ok.frames, ok.stk, ok.exf, ok.bs, ok.bsz, ok.noex, ok.exfs, ok.funs, ok.frf⟩
section
variable {X : Cx} {pins : List (Addr × Obj)} {σ : St} {H : Hp} {s : Shared} {E : Value → Shared → Prop}
theorem Inv.wish (I : Inv X pins σ H s) (E : Value → Shared → Prop) : Inv (X.wish E) pins σ H s := ⟨I.ok.wish E, I.os, I.bare, I.base, I.loc, I.cell, I.free, I.freeC, I.pin, I.hok, I.len⟩
theorem Inv.unwish (I : Inv (X.wish E) pins σ H s) : Inv X pins σ H s := ⟨I.ok.unwish, I.os, I.bare, I.base, I.loc, I.cell, I.free, I.freeC, I.pin, I.hok, I.len⟩
theorem SP.unwish {D : Ends} {f : Flow} {s' : Shared} (h : SP (X.wish E) pins D f s') : SP X pins D f s' := by
 cases f with
 | next => obtain ⟨σ', H', I, q⟩ := h; exact ⟨σ', H', I.unwish, q⟩
 | brk => obtain ⟨σ', H', I, q⟩ := h; exact ⟨σ', H', I.unwish, q⟩
 | cont => obtain ⟨σ', H', I, q⟩ := h; exact ⟨σ', H', I.unwish, q⟩
 | ret u => obtain ⟨v, σ', H', I, r, q⟩ := h; exact ⟨v, σ', H', I.unwish, r, q⟩
theorem PSs.nox {st : List Stmt} {t : TS} (h : PSs X.nox st t) : PSs X st t := fun pins s σ H D I hw =>
 wpAny_mono (h pins s σ H D (I.wish _) hw) (fun _ _ q => q.unwish) fun _ _ z => False.elim z
end
section
variable {X : Cx} {st : Stmt} {rest : List Stmt} {t u : TS} {e : Expr} {te : TE} {pos : Pos}
def Ko : TS := fun D σ H => D.nx σ H
def tSeq (t u : TS) : TS := fun D σ H => t { D with nx := u D } σ H
theorem Cw : PSs X [] Ko := fun _ _ σ H _ I h => wpAny_execs_nil ⟨σ, H, I, h⟩
theorem Bb (h1 : PS X st t) (h2 : PSs X rest u) : PSs X (st :: rest) (tSeq t u) := by
 intro pins s σ H D I h
 refine wpAny_execs_cons (thn (h1 pins s σ H { D with nx := u D } I h) fun f s1 q => ?_)
 cases f with
 | next =>
  obtain ⟨σ', H', I', q⟩ := q
  exact h2 pins s1 σ' H' D I' q
 | ret v => exact q
 | brk => exact q
 | cont => exact q
theorem Dd (h1 : PS X st t) : PSs X [st] t := by
 intro pins s σ H D I h
 refine wpAny_execs_cons (thn (h1 pins s σ H D I h) fun f s1 q => ?_)
 cases f with
 | next => exact wpAny_execs_nil q
 | ret v => exact q
 | brk => exact q
 | cont => exact q
theorem Inv.quiet {pins : List (Addr × Obj)} {σ : St} {H : Hp} {s : Shared} (I : Inv X pins σ H s) : interactive X.env = false := by simp [interactive, I.ok.kind]
def Kz (te : TE) : TS := fun D σ H => te σ H fun _ H1 => D.nx σ H1
theorem CZ (he : PE X e te) (hs : swapsWith e none pos.line X.env = pure false := by rfl) : PS X (.Expr e pos) (Kz te) := by
 intro pins s σ H D I h
 exact wpAny_Expr_any (thn (he pins s σ H _ I h) fun v s1 ⟨x, H1, I1, r1, q1⟩ => ⟨σ, H1, I1, q1⟩) I.quiet hs
def tRet (te : TE) : TS := fun D σ H => te σ H D.rt
theorem Ha (he : PE X e te) : PS X (.Return (some e) pos) (tRet te) := by
 intro pins s σ H D I h
 exact wpAny_Return_some (thn (he pins s σ H _ I h) fun v s1 ⟨x, H1, I1, r1, q1⟩ => ⟨x, σ, H1, I1, r1, q1⟩)
def tIfS (c : TT) (t u : TS) : TS := fun D σ H => c σ H fun b H1 => if b = true then t D σ H1 else u D σ H1
theorem Ku {c : Expr} {a b : List Stmt} {tc : TT} (hc : PT X c tc) (ha : PSs X a t) (hb : PSs X b u) : PS X (.If c a b pos) (tIfS tc t u) := by
 intro pins s σ H D I h
 refine wpAny_If (thn (hc pins s σ H _ I h) fun d s1 zq13 => ?_)
 obtain ⟨H1, I1, q1⟩ := zq13
 cases d with
 | true => exact ha pins s1 σ H1 D I1 q1
 | false => exact hb pins s1 σ H1 D I1 q1
end
abbrev TG := V → St → Hp → (St → Hp → Prop) → Prop
abbrev TGs := List V → St → Hp → (St → Hp → Prop) → Prop
def PG (X : Cx) (target : Expr) (t : TG) : Prop :=
 ∀ (pins : List (Addr × Obj)) (s : Shared) (σ : St) (H : Hp) (v : V) (u : Value) (Q : St → Hp → Prop), Inv X pins σ H s → RelV v u → t v σ H Q →
  wpAny (model X.prog X.w) X.A (assign target X.env u) (fun _ s' => ∃ σ' H', Inv X pins σ' H' s' ∧ Q σ' H') X.xe s
def PGs (X : Cx) (ts : List Expr) (t : TGs) : Prop :=
 ∀ (pins : List (Addr × Obj)) (s : Shared) (σ : St) (H : Hp) (vs : List V) (us : List Value) (Q : St → Hp → Prop), Inv X pins σ H s → Vals vs us → t vs σ H Q →
  wpAny (model X.prog X.w) X.A (assignInOrder ((assignEach ts X.env).map (·.2)) us) (fun _ s' => ∃ σ' H', Inv X pins σ' H' s' ∧ Q σ' H') X.xe s
abbrev TIp := V → V → Hp → VK → Prop
def PIp (X : Cx) (op : Operator) (t : TIp) : Prop :=
 ∀ (pins : List (Addr × Obj)) (s : Shared) (σ : St) (H : Hp) (x y : V) (v u : Value) (Q : VK), Inv X pins σ H s → RelV x v → RelV y u → t x y H Q →
  wpAny (model X.prog X.w) X.A (inplaceOp op v u) (EP X pins σ Q) X.xe s
section
variable {X : Cx} {pos : Pos}
def Ca (i : Nat) : TG := fun v σ H Q => Q (σ.set i (some v)) H
theorem Ej {i : Nat} {x : Str} (hN : X.N.Nodup) (hi : X.N[i]? = some x) (hx : Loc X.env.scope x) (hf : X.fn x = true ∨ X.env.scope.names.lookup x = some .local := by first | exact .inl rfl | exact .inr rfl | assumption) : PG X (.Name x pos) (Ca i) := by
 intro pins s σ H v u Q I r h
 exact wpAny_assign_Name (gA I hN hi hx r (fun s' I' => ⟨_, H, I', h⟩) hf)
def gNil : TGs := fun vs σ H Q => vs = [] ∧ Q σ H
def JV (t : TG) (u : TGs) : TGs := fun vs σ H Q => ∃ v r, vs = v :: r ∧ t v σ H fun σ' H' => u r σ' H' Q
theorem Eo : PGs X [] gNil := by
 intro pins s σ H vs us Q I r h
 obtain ⟨e, h⟩ := h
 subst e
 cases r
 exact assignInOrder_nil ⟨σ, H, I, h⟩
theorem Aq {e : Expr} {es : List Expr} {t : TG} {u : TGs} (h1 : PG X e t) (h2 : PGs X es u)
  (hs : (assignEach (e :: es) X.env).map (·.2) = assign e X.env :: (assignEach es X.env).map (·.2) := by rfl) : PGs X (e :: es) (JV t u) := by
 intro pins s σ H vs us Q I r h
 obtain ⟨v, vr, e1, h⟩ := h
 subst e1
 cases r with
 | cons r rr =>
  rw [hs]
  refine assignInOrder_cons (thn (h1 pins s σ H _ _ _ I r h) fun _ s1 zq14 => ?_)
  obtain ⟨σ1, H1, I1, q1⟩ := zq14
  exact h2 pins s1 σ1 H1 _ _ Q I1 rr q1
def gTup (K : PySem.W.Frag) (n : Nat) (t : TGs) : TG := fun v σ H Q => ∃ a xs, v = .ref a ∧ SqT K H a xs ∧ xs.length = n ∧ t xs σ H Q
theorem Gs {es : List Expr} {k : Nat} {t : TGs} {n : Nat} (hc : X.calm = true) (h : PGs X es t)
  (hn : (assignEach es X.env).length = n := by rfl) (hst : (assignEach es X.env).findIdx? (·.1) = none := by rfl) : PG X (.Tuple es k pos) (gTup X.K n t) := by
 intro pins s σ H v u Q I r hw
 obtain ⟨a, xs, e1, hq, hl, hw⟩ := hw
 subst e1
 cases r
 obtain ⟨its, rv, ht, hz⟩ := I.tuple hq
 refine assign_Tuple_tuple (I.ok.hd hc) ht (by simp [hn, ← hl, rv.length]) hst fun h' hx => ?_
 have I1 : Inv X pins σ H { s with heap := h' } := I.kept (t' := s.toks) fun b o e => hx b o (Nat.ne_of_lt (Heap.lt_size e)) e
 exact h pins _ σ H xs _ Q I1 (by simpa using rv) hw
def Jd (te : TE) (g : TG) : TS := fun D σ H => te σ H fun x H1 => g x σ H1 D.nx
theorem Jb {tg e : Expr} {te : TE} {g : TG} (he : PE X e te) (hg : PG X tg g) (hs : swapsWithSole [tg] e pos.line X.env = pure false := by rfl) (hw : swappedStores [tg] e X.env = pure none := by rfl)
  (h1 : (assignEach [tg] X.env).map (·.2) = [assign tg X.env] := by rfl) : PS X (.Assign [tg] e pos) (Jd te g) := by
 intro pins s σ H D I h
 refine wpAny_Assign_stores (thn (he pins s σ H _ I h) fun v s1 ⟨x, H1, I1, r1, q1⟩ => ?_) hs hw
 rw [h1]
 exact thn (hg pins s1 σ H1 x v _ I1 r1 q1) fun _ s2 q => q
theorem Ie {i : Nat} {x : Str} {e : Expr} {te : TE} {pos' : Pos} (hN : X.N.Nodup) (hi : X.N[i]? = some x) (hx : Loc X.env.scope x) (he : PE X e te) (hs : swapsWith e (some (.Name x pos')) pos.line X.env = pure false := by rfl) (hf : X.fn x = true ∨ X.env.scope.names.lookup x = some .local := by first | exact .inl rfl | exact .inr rfl | assumption) :
  PS X (.Assign [.Name x pos'] e pos) (Jd te (Ca i)) := by
 intro pins s σ H D I h
 refine wpAny_Assign_Name (thn (he pins s σ H _ I h) fun v s1 zq18 => ?_) hs
 obtain ⟨y, H1, I1, r1, q1⟩ := zq18
 exact gA I1 hN hi hx r1 (fun s2 I2 => ⟨_, H1, I2, q1⟩) hf
def tPar (i j : Nat) (ta : TA) : TS := fun D σ H => ta σ H fun vs H1 => ∃ v w, vs = [v, w] ∧ D.nx ((σ.set i (some v)).set j (some w)) H1
theorem Ht {i j : Nat} {x y : Str} {a b : Expr} {ta : TA} {px py pt : Pos} {kt k2 pt2} (hc : X.calm = true) (hN : X.N.Nodup) (hi : X.N[i]? = some x) (hj : X.N[j]? = some y) (hij : i ≠ j)
  (hx : X.env.scope.names.lookup x = some .local) (hy : X.env.scope.names.lookup y = some .local) (ha : PA X [a, b] ta)
  (hw : swappedStores [.Tuple [.Name x px, .Name y py] kt pt] (.Tuple [a, b] k2 pt2) X.env = pure (some [x, y]))
  (hs : swapsWithSole [.Tuple [.Name x px, .Name y py] kt pt] (.Tuple [a, b] k2 pt2) pos.line X.env = pure false := by rfl) :
  PS X (.Assign [.Tuple [.Name x px, .Name y py] kt pt] (.Tuple [a, b] k2 pt2) pos) (tPar i j ta) := by
 intro pins s σ H D I h
 rw [exec_Assign_arm]
 refine wpAny_bind (wpAny_standAt ?_)
 rw [hs]
 refine wpAny_bind (wpAny_pure ?_)
 rw [if_neg (by decide)]
 refine wpAny_bind (Tuple_ (thn (ha _ pins s σ H _ I h) fun us s1 zq19 => ?_))
 obtain ⟨vs, H1, I1, r1, q1⟩ := zq19
 obtain ⟨v, w, e1, q1⟩ := q1
 subst e1
 obtain ⟨u1, u2, rfl, rv, rw'⟩ : ∃ u1 u2, us = [u1, u2] ∧ RelV v u1 ∧ RelV w u2 := by
  cases r1 with
  | cons p q =>
   cases q with
   | cons p' q' =>
    cases q'
    exact ⟨_, _, rfl, p, p'⟩
 refine wpAny_newObj_type ?_ (by show 2 ≤ sizeLine; decide)
 have I2 : Inv X pins σ H1 { s1 with heap := s1.heap.push { cls := .type "tuple", data := .seq [u1, u2].toArray } } := I1.kept (t' := s1.toks) fun b o e => Heap.get?_push_of_some _ e
 rw [hw]
 refine wpAny_bind (wpAny_pure ?_)
 show wpAny (model X.prog X.w) X.A (do rule "assign.swapped-stores"; let items ← unpackItems (.ref s1.heap.objs.size) 2 none; assignInOrder [fun v => bindName X.env y v, fun v => bindName X.env x v] items.reverse; pure Flow.next) _ _ _
 refine wpAny_bind (wpAny_rule (wpAny_bind (unpackItems_tuple (items := #[u1, u2]) (I.ok.hd hc) (IsTup.new s1.heap _) fun h' hx' => ?_)))
 have I3 := I2.kept (h' := h') (t' := s1.toks) fun b o e => hx' b o (Nat.ne_of_lt (Heap.lt_size e)) e
 show wpAny _ _ (assignInOrder [fun v => bindName X.env y v, fun v => bindName X.env x v] [u2, u1] >>= fun _ => pure Flow.next) _ _ _
 refine wpAny_bind (assignInOrder_cons (wpAny_bindName (gA I3 hN hj (.inl hy) rw' (fun s2 I4 => ?_) (.inr hy))))
 refine assignInOrder_cons (wpAny_bindName (gA I4 hN hi (.inl hx) rv (fun s3 I5 => assignInOrder_nil (wpAny_pure ?_)) (.inr hx)))
 rw [List.set_comm _ _ (Ne.symm hij)] at I5
 exact ⟨_, H1, I5, q1⟩
def tAug (i : Nat) (te : TE) (ti : TIp) : TS := fun D σ H => ∃ x, σ[i]? = some (some x) ∧ te σ H fun y H1 => ti x y H1 fun z H2 => D.nx (σ.set i (some z)) H2
theorem Hx {i : Nat} {x : Str} {e : Expr} {te : TE} {op : Operator} {ti : TIp} {pos' : Pos} (hN : X.N.Nodup) (hi : X.N[i]? = some x) (hx : Loc X.env.scope x) (he : PE X e te) (ho : PIp X op ti) (hf : X.fn x = true ∨ X.env.scope.names.lookup x = some .local := by first | exact .inl rfl | exact .inr rfl | assumption) :
  PS X (.AugAssign (.Name x pos') op e pos) (tAug i te ti) := by
 intro pins s σ H D I h
 obtain ⟨v, e1, h⟩ := h
 obtain ⟨m, hn, hl⟩ := I.loc
 have vis : Vis X.env.scope x := by rcases hx with k | k; exact .inl k; exact .inr (.inl k)
 obtain ⟨u, r, l⟩ := hl i x v hi e1 vis
 refine wpAny_AugAssign_Name ?_
 have go : wpAny (model X.prog X.w) X.A (eval e X.env) (fun w s₂ => wpAny (model X.prog X.w) X.A (inplaceOp op u w) (fun r s₃ => wpAny (model X.prog X.w) X.A (storeName X.env x r) (fun _ => SP X pins D .next) X.xe s₃) X.xe s₂) X.xe s := by
  refine thn (he pins s σ H _ I h) fun w s1 zq20 => ?_
  obtain ⟨y, H1, I1, r1, q1⟩ := zq20
  refine thn (ho pins s1 σ H1 v y u w _ I1 r r1 q1) fun z s2 zq21 => ?_
  obtain ⟨zv, H2, I2, r2, q2⟩ := zq21
  exact gA I2 hN hi hx r2 (fun s3 I3 => ⟨_, H2, I3, q2⟩) hf
 rcases l with ⟨hk, hm⟩ | ⟨hk, c, hc, hcell⟩
 ·exact wpAny_loadName_local I.ok.kind hk hn hm go
 ·rcases hk with hk | hk
  ·exact wpAny_loadName_cell I.ok.kind hk hc hcell go
  ·rcases hx with k | k
   ·have : X.env.scope.names.lookup x = some .free := hk
    rw [k] at this; cases this
   ·have : X.env.scope.names.lookup x = some .free := hk
    rw [k] at this; cases this
end
section
variable {X : Cx} {pos : Pos}
def Hq (c : TT) (tb : TS) : TS := fun D σ H => ∃ W : Nat → St → Hp → Prop, (∃ m, W m σ H) ∧ ∀ m σ H, W m σ H →
 c σ H fun b H1 => if b = true then ∃ N : St → Hp → Prop, (∀ σ' H', N σ' H' → ∃ m', m' < m ∧ W m' σ' H') ∧ tb { D with nx := N, ct := N, bk := D.nx } σ H1 else D.nx σ H1
theorem Bw {c : Expr} {body : List Stmt} {tc : TT} {tb : TS} (hp : PassesOwn (model X.prog X.w) X.A X.env X.xe) (hc : PT X c tc) (hb : PSs X body tb) : PS X (.While c body [] pos) (Hq tc tb) := by
 intro pins s σ H D I h
 obtain ⟨W, ⟨m0, w0⟩, turn⟩ := h
 refine wpAny_While (codeAny_whileLoop (fun n s' => ∃ σ' H', Inv X pins σ' H' s' ∧ W n σ' H') ?_ m0 ⟨σ, H, I, w0⟩)
 rintro n s1 ⟨σ1, H1, I1, w1⟩
 refine wpAny_passesOwn hp (thn (hc pins s1 σ1 H1 _ I1 (turn n σ1 H1 w1)) fun b s2 zq27 => ?_)
 obtain ⟨H2, I2, q2⟩ := zq27
 cases b with
 | true =>
  obtain ⟨N, hN, q2⟩ := q2
  rw [if_pos rfl]
  refine wpAny_passesOwn hp (thn (hb pins s2 σ1 H2 _ I2 q2) fun f s3 q3 => ?_)
  cases f with
  | next =>
   obtain ⟨σ3, H3, I3, n3⟩ := q3
   obtain ⟨m', hm, w3⟩ := hN σ3 H3 n3
   exact ⟨m', hm, σ3, H3, I3, w3⟩
  | cont =>
   obtain ⟨σ3, H3, I3, n3⟩ := q3
   obtain ⟨m', hm, w3⟩ := hN σ3 H3 n3
   exact ⟨m', hm, σ3, H3, I3, w3⟩
  | brk => exact q3
  | ret v => exact q3
 | false =>
  rw [if_neg Bool.false_ne_true]
  exact wpAny_execs_nil ⟨σ1, H2, I2, q2⟩
end
structure It where
 go : Nat → Hp → Prop
 yld : Nat → Hp → V → Hp → Prop
 stop : Nat → Hp → Prop
def jd (X : Cx) (pins : List (Addr × Obj)) (H : Hp) (b : Addr) : Prop :=
 H b = none ∧ b ≠ X.env.locals ∧ b ∉ X.fs ∧ (b ∈ X.ex ∨ X.s₀.heap.objs.size ≤ b) ∧ (∀ x c, X.env.cells.lookup x = some c → c ≠ b) ∧ ∀ p ∈ X.pn ++ pins, p.1 ≠ b
theorem Inv.fpOk {X : Cx} {pins : List (Addr × Obj)} {σ : St} {H H' : Hp} {s : Shared} {b : Addr} (I : Inv X pins σ H s) (hb : s.heap.objs.size ≤ b) (hn : H' b = none) : jd X pins H' b := by
 refine ⟨hn, Nat.ne_of_gt (Nat.lt_of_lt_of_le I.lt hb), I.nofs hb, .inr (Nat.le_trans I.sz hb), fun x c e z => ?_, fun p hp z => ?_⟩
 ·obtain ⟨v, q⟩ := I.cell x c e
  exact absurd (Nat.lt_of_lt_of_le q.lt (by rw [z]; exact hb)) (Nat.lt_irrefl _)
 ·exact absurd (Nat.lt_of_lt_of_le (Heap.lt_size (I.pin p hp).1) (by rw [z]; exact hb)) (Nat.lt_irrefl _)
structure Turn (P : Program) (w : World) (K : PySem.W.Frag) (tg : Expr) (J : It) (fp : List Addr) (it : Addr) (tn : Nat → Heap → Prop) : Prop where
 mem : it ∈ fp
 obj : ∀ i h, tn i h → ∀ b ∈ fp, ∃ o, h.get? b = some o ∧ ∀ v, o.data ≠ .cell v
 keep : ∀ i h h', tn i h → (∀ b ∈ fp, ∀ o, h.get? b = some o → h'.get? b = some o) → tn i h'
 item : ∀ (X : Cx), X.prog = P → X.w = w → X.K = K → X.calm = true → ∀ (i : Nat) (pins : List (Addr × Obj)) (s : Shared) (σ : St) (H : Hp) (E : Value → Shared → Prop), Inv X pins σ H s → (∀ b ∈ fp, jd X pins H b) → tn i s.heap → J.go i H →
  wpAny (model P w) X.A (pyNext (.ref it)) (fun r s1 => ∃ u, r = some u ∧
   wpAny (model P w) X.A (letOwnedTupleGo tg (.ref it) u) (fun _ s2 => ∃ x H', Inv X pins σ H' s2 ∧ RelV x u ∧ J.yld i H x H' ∧ tn (i + 1) s2.heap ∧ ∀ b ∈ fp, H' b = none) E s1) E s
 done : ∀ (X : Cx), X.prog = P → X.w = w → X.K = K → X.calm = true → ∀ (i : Nat) (pins : List (Addr × Obj)) (s : Shared) (σ : St) (H : Hp) (E : Value → Shared → Prop), Inv X pins σ H s → (∀ b ∈ fp, jd X pins H b) → tn i s.heap → J.stop i H →
  wpAny (model P w) X.A (pyNext (.ref it)) (fun r s1 => r = none ∧ Inv X pins σ H s1) E s
 self : ∀ (A : Around) (i : Nat) (s : Shared) (Q : Value → Shared → Prop) (E : Value → Shared → Prop), tn i s.heap → Q (.ref it) s → wpAny (model P w) A (pyIter (.ref it)) Q E s
abbrev TI := St → Hp → (It → Hp → Prop) → Prop
def PIE (X : Cx) (pins : List (Addr × Obj)) (σ : St) (tg : Expr) (R : It → Hp → Prop) (itv : Value) (s2 : Shared) : Prop :=
 ∃ (it : Addr) (fp : List Addr) (tn : Nat → Heap → Prop) (J : It) (H' : Hp), itv = .ref it ∧ Inv X pins σ H' s2 ∧ Turn X.prog X.w X.K tg J fp it tn ∧ tn 0 s2.heap ∧ (∀ b ∈ fp, jd X pins H' b) ∧ R J H'
def PI (X : Cx) (tg iter : Expr) (wi : TI) : Prop :=
 ∀ (pins : List (Addr × Obj)) (s : Shared) (σ : St) (H : Hp) (R : It → Hp → Prop), Inv X pins σ H s → wi σ H R →
  wpAny (model X.prog X.w) X.A (eval iter X.env) (fun v s1 => wpAny (model X.prog X.w) X.A (pyIter v) (PIE X pins σ tg R) X.xe s1) X.xe s
theorem zL {M : Model} {A : Around} {E : Value → Shared → Prop} {s : Shared} {tg : Expr} {it : Addr} {u : Value} {o : Obj} {n : String} {vs : Array Value} {Q : Unit → Shared → Prop} (ho : s.heap.get? it = some o) (hc : o.cls = .type n) (hd : o.data = .fields vs)
  (hn : ["enumerate", "zip", "dict_itemiterator", "dict_reverseitemiterator", "odict_iterator", "itertools.zip_longest", "itertools.pairwise"].contains n = false) (hQ : Q () s) : wpAny M A (letOwnedTupleGo tg (.ref it) u) Q E s := by
 unfold letOwnedTupleGo
 cases tg <;> first
  | exact wpAny_pure hQ
  | (cases u <;> first
    | exact wpAny_pure hQ
    | (refine wpAny_bind (wpAny_load ho ?_)
       rw [hc, hd]
       show wpAny M A (if (["enumerate", "zip", "dict_itemiterator", "dict_reverseitemiterator", "odict_iterator", "itertools.zip_longest", "itertools.pairwise"].contains n && vs[0]? == some (rawInt _)) = true then _ else _) Q E s
       rw [if_neg (by intro h; rw [hn, Bool.false_and] at h; cases h)]
       exact wpAny_pure hQ))
def Itl (K : PySem.W.Frag) (a : Addr) : It :=
 ⟨fun i H => ∃ xs x, SqL K H a xs ∧ xs[i]? = some x, fun i H x H' => H' = H ∧ ∀ xs, SqL K H a xs → xs[i]? = some x, fun i H => ∃ xs, SqL K H a xs ∧ xs.length ≤ i⟩
def Itt (K : PySem.W.Frag) (a : Addr) : It :=
 ⟨fun i H => ∃ xs x, SqT K H a xs ∧ xs[i]? = some x, fun i H x H' => H' = H ∧ ∀ xs, SqT K H a xs → xs[i]? = some x, fun i H => ∃ xs, SqT K H a xs ∧ xs.length ≤ i⟩
def Itr (lo : Int) (n : Nat) : It := ⟨fun i _ => i < n, fun i H x H' => H' = H ∧ x = .int (lo + i), fun i _ => n ≤ i⟩
theorem qZ {P : Program} {w : World} {K : PySem.W.Frag} {tg : Expr} (a it : Addr) : Turn P w K tg (Itl K a) [it] it (fun i h => h.IsListIter it a i) where
 mem := by simp
 obj := fun i h st b hb => by
  have e : b = it := by simpa using hb
  subst e
  obtain ⟨o, e, c, d⟩ := st
  exact ⟨o, e, fun v z => by rw [d] at z; cases z⟩
 keep := fun i h h' st k => st.at fun o e => k it (by simp) o e
 item := by
  intro X hP hw hK hc i pins s σ H E I hf st hg
  subst hP hw hK
  obtain ⟨xs, x, hq, hx⟩ := hg
  obtain ⟨its, rv, p, hz⟩ := I.list hq
  obtain ⟨u, hu, ru⟩ := rv.get hx
  obtain ⟨f0, f1, f2, f3, f4, f5⟩ := hf it (by simp)
  refine wpAny_pyNext_list_item st p.isList (x := u) (by simpa using hu) fun h' st' sb => ?_
  have I1 : Inv X pins σ H { s with heap := h' } := I.turned (t' := s.toks) (fun b o hb e => (sb.2 b hb).trans e) f0 f1 f3 f4 f5
  obtain ⟨o, e, c, d⟩ := id st'
  exact ⟨u, rfl, zL (s := { s with heap := h' }) e c d (by decide) ⟨x, H, I1, ru, ⟨rfl, fun ys hy => by rw [I.list_inj hy hq]; exact hx⟩, st', fun b hb => (hf b hb).1⟩⟩
 done := by
  intro X hP hw hK hc i pins s σ H E I hf st hg
  subst hP hw hK
  obtain ⟨xs, hq, hx⟩ := hg
  obtain ⟨its, rv, p, hz⟩ := I.list hq
  obtain ⟨f0, f1, f2, f3, f4, f5⟩ := hf it (by simp)
  have hl := rv.length
  exact wpAny_pyNext_list_end (I.ok.hd hc) st p.isList (by simp; omega) fun h' eb => ⟨rfl, I.turned (t' := s.toks) (fun b o hb e => eb b o hb e) f0 f1 f3 f4 f5⟩
 self := fun _ _ _ _ _ st h => wpAny_pyIter_listiter st h
theorem pQ {P : Program} {w : World} {K : PySem.W.Frag} {tg : Expr} (a it : Addr) : Turn P w K tg (Itt K a) [it] it (fun i h => h.IsTupleIter it a i) where
 mem := by simp
 obj := fun i h st b hb => by
  have e : b = it := by simpa using hb
  subst e
  obtain ⟨o, e, c, d⟩ := st
  exact ⟨o, e, fun v z => by rw [d] at z; cases z⟩
 keep := fun i h h' st k => st.at fun o e => k it (by simp) o e
 item := by
  intro X hP hw hK hc i pins s σ H E I hf st hg
  subst hP hw hK
  obtain ⟨xs, x, hq, hx⟩ := hg
  obtain ⟨its, rv, p, hz⟩ := I.tuple hq
  obtain ⟨u, hu, ru⟩ := rv.get hx
  obtain ⟨f0, f1, f2, f3, f4, f5⟩ := hf it (by simp)
  refine wpAny_pyNext_tuple_item st (show s.heap.IsTuple a its.toArray from p) (x := u) (by simpa using hu) fun h' st' sb => ?_
  have I1 : Inv X pins σ H { s with heap := h' } := I.turned (t' := s.toks) (fun b o hb e => (sb.2 b hb).trans e) f0 f1 f3 f4 f5
  obtain ⟨o, e, c, d⟩ := id st'
  exact ⟨u, rfl, zL (s := { s with heap := h' }) e c d (by decide) ⟨x, H, I1, ru, ⟨rfl, fun ys hy => by rw [I.tuple_inj hy hq]; exact hx⟩, st', fun b hb => (hf b hb).1⟩⟩
 done := by
  intro X hP hw hK hc i pins s σ H E I hf st hg
  subst hP hw hK
  obtain ⟨xs, hq, hx⟩ := hg
  obtain ⟨its, rv, p, hz⟩ := I.tuple hq
  obtain ⟨f0, f1, f2, f3, f4, f5⟩ := hf it (by simp)
  have hl := rv.length
  exact wpAny_pyNext_tuple_end (I.ok.hd hc) st (show s.heap.IsTuple a its.toArray from p) (by simp; omega) fun h' eb => ⟨rfl, I.turned (t' := s.toks) (fun b o hb e => eb b o hb e) f0 f1 f3 f4 f5⟩
 self := fun _ _ _ _ _ st h => wpAny_pyIter_tupleiter st h
theorem vC {P : Program} {w : World} {K : PySem.W.Frag} {tg : Expr} (it : Addr) (lo : Int) (n : Nat) : Turn P w K tg (Itr lo n) [it] it (fun i h => IsRangeIter h it (lo + (i : Nat) * 1) ((n : Int) - (i : Nat)) 1) where
 mem := by simp
 obj := fun i h st b hb => by
  have e : b = it := by simpa using hb
  subst e
  exact ⟨_, st, fun v z => by
   have z' : Data.fields _ = Data.cell v := z
   cases z'⟩
 keep := fun i h h' st k => k it (by simp) _ st
 item := by
  intro X hP hw hK hc i pins s σ H E I hf st hg
  subst hP hw hK
  obtain ⟨f0, f1, f2, f3, f4, f5⟩ := hf it (by simp)
  have W := Walks.range (prog := X.prog) (w := X.w) (I.ok.hd hc) it lo 1 n
  refine W.item i s _ _ hg st fun v h' tk hv st' kk => ?_
  obtain ⟨t, rfl⟩ := hv
  have I1 : Inv X pins σ H { s with heap := h', toks := tk } := I.turned (fun b o hb e => kk b o (by simpa using hb) e) f0 f1 f3 f4 f5
  refine ⟨_, rfl, zL (s := { s with heap := h', toks := tk }) (n := "range_iterator") st' rfl rfl (by decide) ⟨.int (lo + i), H, I1, ⟨t, ?_⟩, ⟨rfl, rfl⟩, st', fun b hb => (hf b hb).1⟩⟩
  rw [Int.mul_one]
 done := by
  intro X hP hw hK hc i pins s σ H E I hf st hg
  subst hP hw hK
  obtain ⟨f0, f1, f2, f3, f4, f5⟩ := hf it (by simp)
  exact wpAny_pyNext_range_end (I.ok.hd hc) st (by have : n ≤ i := hg; omega) fun h' eb => ⟨rfl, I.turned (t' := s.toks) (fun b o hb e => eb b o hb e) f0 f1 f3 f4 f5⟩
 self := fun _ _ _ _ _ st h => wpAny_pyIter_rangeiter st h
end L2
namespace L2
open PySem PySem.Spec PyProof.Rows
section
variable {X : Cx} {tg : Expr}
theorem Bv {pins : List (Addr × Obj)} {σ : St} {H : Hp} {s : Shared} {R : It → Hp → Prop} {E : Value → Shared → Prop} {lo hi : Int} {t u v : Tok} {tk : Nat} (I : Inv X pins σ H s) (h1 : -(2 ^ 62) ≤ lo) (h2 : lo < 2 ^ 62) (h3 : -(2 ^ 62) ≤ hi) (h4 : hi < 2 ^ 62)
  (q : R (Itr lo (hi - lo).toNat) H) : wpAny (model X.prog X.w) X.A (pyIter (.ref s.heap.objs.size)) (PIE X pins σ tg R) E { s with heap := s.heap.push { cls := .type "range", data := .fields #[.int lo t, .int hi u, .int 1 v] }, toks := tk } := by
 refine wpAny_pyIter_range (IsRange.new ..) (small_one h1 h2 h3 h4) ?_
 have I1 : Inv X pins σ H { s with heap := s.heap.push { cls := .type "range", data := .fields #[.int lo t, .int hi u, .int 1 v] }, toks := tk } := I.kept fun b o e => Heap.get?_push_of_some _ e
 refine ⟨(s.heap.push { cls := .type "range", data := .fields #[.int lo t, .int hi u, .int 1 v] }).objs.size, [(s.heap.push { cls := .type "range", data := .fields #[.int lo t, .int hi u, .int 1 v] }).objs.size], _, _, H, rfl,
  I1.kept (t' := tk) fun b o e => Heap.get?_push_of_some _ e, vC _ lo (hi - lo).toNat, ?_, fun b hb => ?_, q⟩
 ·have e1 : lo + ((0 : Nat) : Int) * 1 = lo := by simp
  have e2 : (((hi - lo).toNat : Nat) : Int) - ((0 : Nat) : Int) = Builtin.Range.rangeSize lo hi 1 := by rw [rangeSize_one]; split <;> omega
  show IsRangeIter _ _ (lo + ((0 : Nat) : Int) * 1) ((((hi - lo).toNat : Nat) : Int) - ((0 : Nat) : Int)) 1
  rw [e1, e2]
  exact Heap.get?_push_size _ rfl
 ·have e : b = (s.heap.push { cls := .type "range", data := .fields #[.int lo t, .int hi u, .int 1 v] }).objs.size := by simpa using hb
  subst e
  exact I1.fpOk (Nat.le_refl _) (I1.hok.fresh (Nat.le_refl _))
def JG (ta : TA) : TI := fun σ H R => ta σ H fun vs H1 => ∃ j : Int, vs = [.int j] ∧ -(2 ^ 62) ≤ j ∧ j < 2 ^ 62 ∧ R (Itr 0 j.toNat) H1
theorem zf {a : Expr} {ta : TA} {p pos : Pos} (hg : Gl X "range") (hm : X.mg "range" = none) (ha : PA X [a] ta) (hs : starEach [a] X.env = [(false, eval a X.env)] := by rfl) : PI X tg (.Call (.Name "range" p) [a] [] pos) (JG ta) := by
 intro pins s σ H R I h
 refine Call_ (jn I hg hm boot_range (PyProof.Rows.callWith_type1 (thn (ha pos pins s σ H _ I h) fun us s1 ⟨vs, H1, I1, r1, q1⟩ => ?_) hs rfl))
 obtain ⟨j, e, q1, q2, q⟩ := q1
 subst e
 cases r1 with
 | cons r rr =>
  cases rr
  obtain ⟨t, rfl⟩ := r
  exact call_range_1 (Bv I1 (by omega) (by omega) q1 q2 (by simpa using q))
def tFor (wi : TI) (g : TG) (tb : TS) : TS := fun D σ H => wi σ H fun J H1 => ∃ W : Nat → Nat → St → Hp → Prop, (∃ m, W 0 m σ H1) ∧ ∀ i m σ H, W i m σ H →
 (J.stop i H ∧ D.nx σ H) ∨ (J.go i H ∧ ∃ N : St → Hp → Prop, (∀ σ' H', N σ' H' → ∃ m', m' < m ∧ W (i + 1) m' σ' H') ∧ ∀ x H', J.yld i H x H' → g x σ H' fun σ2 H2 => tb { D with nx := N, ct := N, bk := D.nx } σ2 H2)
def mV (fp : List Addr) (h : Heap) : List (Addr × Obj) := fp.filterMap fun b => (h.get? b).map fun o => (b, o)
theorem dN {fp : List Addr} {h : Heap} {b : Addr} {o : Obj} (hb : b ∈ fp) (e : h.get? b = some o) : (b, o) ∈ mV fp h := List.mem_filterMap.mpr ⟨b, hb, by rw [e]; rfl⟩
theorem yw {fp : List Addr} {h : Heap} {p : Addr × Obj} (hp : p ∈ mV fp h) : p.1 ∈ fp ∧ h.get? p.1 = some p.2 := by
 obtain ⟨b, hb, e⟩ := List.mem_filterMap.mp hp
 cases q : h.get? b with
 | none => rw [q] at e; cases e
 | some o =>
  rw [q] at e
  have e' : (b, o) = p := Option.some.inj e
  subst e'
  exact ⟨hb, q⟩
theorem Inv.pinned {pins : List (Addr × Obj)} {σ : St} {H : Hp} {s : Shared} {fp : List Addr} (I : Inv X pins σ H s) (hf : ∀ b ∈ fp, jd X pins H b) (ho : ∀ b ∈ fp, ∃ o, s.heap.get? b = some o ∧ ∀ v, o.data ≠ .cell v) : Inv X (pins ++ mV fp s.heap) σ H s :=
 I.pins_of fun p hp => (List.mem_append.mp hp).elim (fun z => I.pin p (List.mem_append_right _ z)) fun z => by
  obtain ⟨hb, e⟩ := yw z
  obtain ⟨f0, f1, f2, _⟩ := hf p.1 hb
  obtain ⟨o, e', d⟩ := ho p.1 hb
  rw [e] at e'; cases e'
  exact ⟨e, f0, f1, f2, d⟩
theorem Inv.unpinned {pins pl : List (Addr × Obj)} {σ : St} {H : Hp} {s : Shared} (I : Inv X (pins ++ pl) σ H s) : Inv X pins σ H s := I.pins_of fun p hp => I.pin p (List.mem_append_right _ (List.mem_append_left _ hp))
theorem GR {iter : Expr} {body : List Stmt} {wi : TI} {g : TG} {tb : TS} {pos : Pos} (hp : PassesOwn (model X.prog X.w) X.A X.env X.xe) (hc : X.calm = true) (hi : PI X tg iter wi) (hg : PG X tg g) (hb : PSs X body tb)
  (hs : ∀ x, foldedSetIterable iter X.env x = pure x := by intro _; rfl) : PS X (.For tg iter body [] pos) (tFor wi g tb) := by
 intro pins s σ H D I h
 refine wpAny_For (thn (hi pins s σ H _ I h) fun v s1 h1 => thn h1 fun itv s2 h2 => ?_) hs
 obtain ⟨it, fp, tn, J, H2, e, I2, T, st2, f2, W, ⟨m0, w0⟩, turn⟩ := h2
 subst e
 have stat : ∀ {H' : Hp}, (∀ b ∈ fp, H' b = none) → ∀ b ∈ fp, jd X pins H' b := fun hn b hb => ⟨hn b hb, (f2 b hb).2⟩
 refine codeAny_forLoop_any (fun n s' => ∃ i σ' H', Inv X pins σ' H' s' ∧ tn i s'.heap ∧ (∀ b ∈ fp, H' b = none) ∧ W i n σ' H') ?_ m0 ⟨0, σ, H2, I2, st2, fun b hb => (f2 b hb).1, w0⟩
 rintro n s3 ⟨i, σ3, H3, I3, st3, fr3, w3⟩
 rcases turn i n σ3 H3 w3 with ⟨stop, qn⟩ | ⟨go, N, hN, step⟩
 ·refine wpAny_passesOwn hp (thn (T.done X rfl rfl rfl hc i pins s3 σ3 H3 X.xe I3 (stat fr3) st3 stop) fun r s4 zq30 => ?_)
  obtain ⟨hr, I4⟩ := zq30
  subst hr
  exact wpAny_execs_nil ⟨σ3, H3, I4, qn⟩
 ·refine wpAny_passesOwn hp (thn (T.item X rfl rfl rfl hc i pins s3 σ3 H3 X.xe I3 (stat fr3) st3 go) fun r s4 zq31 => ?_)
  obtain ⟨u, hr, h4⟩ := zq31
  subst hr
  refine wpAny_passesOwn hp (thn h4 fun _ s5 zq32 => ?_)
  obtain ⟨x, H5, I5, r5, y5, st5, fr5⟩ := zq32
  have I5' := I5.pinned (stat fr5) (T.obj _ _ st5)
  refine wpAny_passesOwn hp (thn (hg _ s5 σ3 H5 x u _ I5' r5 (step x H5 y5)) fun _ s6 zq33 => ?_)
  obtain ⟨σ6, H6, I6, q6⟩ := zq33
  refine wpAny_passesOwn hp (thn (hb _ s6 σ6 H6 _ I6 q6) fun f s7 q7 => ?_)
  have again : ∀ {σ7 : St} {H7 : Hp}, Inv X (pins ++ mV fp s5.heap) σ7 H7 s7 → N σ7 H7 → ∃ m, m < n ∧ ∃ i σ' H', Inv X pins σ' H' s7 ∧ tn i s7.heap ∧ (∀ b ∈ fp, H' b = none) ∧ W i m σ' H' := fun {σ7 H7} I7 n7 => by
   obtain ⟨m', hm, w7⟩ := hN σ7 H7 n7
   refine ⟨m', hm, i + 1, σ7, H7, I7.unpinned, T.keep _ _ _ st5 fun b hb o e => (I7.pin (b, o) (List.mem_append_right _ (List.mem_append_right _ (dN hb e)))).1, fun b hb => ?_, w7⟩
   obtain ⟨o, e, d⟩ := T.obj _ _ st5 b hb
   exact (I7.pin (b, o) (List.mem_append_right _ (List.mem_append_right _ (dN hb e)))).2.1
  cases f with
  | next => obtain ⟨σ7, H7, I7, n7⟩ := q7; exact again I7 n7
  | cont => obtain ⟨σ7, H7, I7, n7⟩ := q7; exact again I7 n7
  | brk => obtain ⟨σ7, H7, I7, q7⟩ := q7; exact ⟨σ7, H7, I7.unpinned, q7⟩
  | ret v => obtain ⟨x7, σ7, H7, I7, r7, q7⟩ := q7; exact ⟨x7, σ7, H7, I7.unpinned, r7, q7⟩
end
end L2
namespace L2
open PySem PySem.Spec PyProof.Rows
abbrev R2 := V → V → Hp → VK → Prop
def OpR (X : Cx) (f : Value → Value → Sem Value) (r : R2) : Prop :=
 ∀ (pins : List (Addr × Obj)) (s : Shared) (σ : St) (H : Hp) (x y : V) (v u : Value) (Q : VK), Inv X pins σ H s → RelV x v → RelV y u → r x y H Q →
  wpAny (model X.prog X.w) X.A (f v u) (EP X pins σ Q) X.xe s
def UnR (X : Cx) (f : Value → Sem Value) (r : V → Hp → VK → Prop) : Prop :=
 ∀ (pins : List (Addr × Obj)) (s : Shared) (σ : St) (H : Hp) (x : V) (v : Value) (Q : VK), Inv X pins σ H s → RelV x v → r x H Q →
  wpAny (model X.prog X.w) X.A (f v) (EP X pins σ Q) X.xe s
def ji (X : Cx) (f : Value) (r : List V → Hp → VK → Prop) : Prop :=
 ∀ (pins : List (Addr × Obj)) (s : Shared) (σ : St) (H : Hp) (xs : List V) (us : List Value) (Q : VK), Inv X pins σ H s → Vals xs us → r xs H Q →
  wpAny (model X.prog X.w) X.A (call f us) (EP X pins σ Q) X.xe s
def TruR (X : Cx) (r : V → Hp → (Bool → Hp → Prop) → Prop) : Prop :=
 ∀ (pins : List (Addr × Obj)) (s : Shared) (σ : St) (H : Hp) (x : V) (v : Value) (Q : Bool → Hp → Prop), Inv X pins σ H s → RelV x v → r x H Q →
  wpAny (model X.prog X.w) X.A (truthy v) (TP X pins σ Q) X.xe s
def tOp (r : R2) (ta tb : TE) : TE := fun σ H Q => ta σ H fun x H1 => tb σ H1 fun y H2 => r x y H2 Q
def tUn (r : V → Hp → VK → Prop) (ta : TE) : TE := fun σ H Q => ta σ H fun x H1 => r x H1 Q
def rI (C : Int → Int → Prop) (g : Int → Int → V) : R2 := fun x y H Q => ∃ i j, x = .int i ∧ y = .int j ∧ C i j ∧ Q (g i j) H
def rI0 (g : Int → Int → V) : R2 := fun x y H Q => ∃ i j, x = .int i ∧ y = .int j ∧ Q (g i j) H
def rU (g : Int → V) : V → Hp → VK → Prop := fun x H Q => ∃ i, x = .int i ∧ Q (g i) H
section
variable {X : Cx} {a b c : Expr} {ta tb tc : TE} {pos : Pos}
theorem Hj (ha : PE X a ta) (hb : PE X b tb) {pins : List (Addr × Obj)} {s : Shared} {σ : St} {H : Hp} {R : V → V → Hp → Prop} (I : Inv X pins σ H s)
  (h : ta σ H fun x H1 => tb σ H1 fun y H2 => R x y H2) {Q : Value → Shared → Prop} {f : Value → Value → Sem Value}
  (hf : ∀ v u s2 x y H2, Inv X pins σ H2 s2 → RelV x v → RelV y u → R x y H2 → wpAny (model X.prog X.w) X.A (f v u) Q X.xe s2) :
  wpAny (model X.prog X.w) X.A (eval a X.env) (fun v s₁ => wpAny (model X.prog X.w) X.A (eval b X.env) (fun u s₂ => wpAny (model X.prog X.w) X.A (f v u) Q X.xe s₂) X.xe s₁) X.xe s := by
 refine thn (ha pins s σ H _ I h) fun v s1 zq34 => ?_
 obtain ⟨x, H1, I1, r1, q1⟩ := zq34
 refine thn (hb pins s1 σ H1 _ I1 q1) fun u s2 zq35 => ?_
 obtain ⟨y, H2, I2, r2, q2⟩ := zq35
 exact hf v u s2 x y H2 I2 r1 r2 q2
theorem Gh {op : Operator} {r : R2} (ho : OpR X (binaryOp op) r) (ha : PE X a ta) (hb : PE X b tb) : PE X (.BinOp a op b pos) (tOp r ta tb) := by
 intro pins s σ H Q I h
 exact wpAny_BinOp (Hj ha hb I h fun v u s2 x y H2 I2 rx ry q => ho pins s2 σ H2 x y v u Q I2 rx ry q)
theorem JP {op : UnaryOp} {r : V → Hp → VK → Prop} (ho : UnR X (unaryOp op) r) (ha : PE X a ta) : PE X (.UnaryOp op a pos) (tUn r ta) := by
 intro pins s σ H Q I h
 exact UnaryOp_ (thn (ha pins s σ H _ I h) fun v s1 ⟨x, H1, I1, r1, q1⟩ => ho pins s1 σ H1 x v Q I1 r1 q1)
theorem opI {f : Value → Value → Sem Value} {C : Int → Int → Prop} {g : Int → Int → Int}
  (rule : ∀ (i j : Int) (t u : Tok) (s : Shared) (Q : Value → Shared → Prop) (E : Value → Shared → Prop), C i j → Q (.int (g i j) s.toks) { s with toks := s.toks + 1 } → wpAny (model X.prog X.w) X.A (f (.int i t) (.int j u)) Q E s) :
  OpR X f (rI C fun i j => .int (g i j)) := by
 intro pins s σ H x y v u Q I rx ry h
 obtain ⟨i, j, rfl, rfl, hc, q⟩ := h
 obtain ⟨t, rfl⟩ := rx
 obtain ⟨t', rfl⟩ := ry
 exact rule i j t t' s _ _ hc ⟨.int (g i j), H, I.tok _, ⟨_, rfl⟩, q⟩
theorem Kr {f : Value → Value → Sem Value} {g : Int → Int → Int}
  (rule : ∀ (i j : Int) (t u : Tok) (s : Shared) (Q : Value → Shared → Prop) (E : Value → Shared → Prop), Q (.int (g i j) s.toks) { s with toks := s.toks + 1 } → wpAny (model X.prog X.w) X.A (f (.int i t) (.int j u)) Q E s) :
  OpR X f (rI0 fun i j => .int (g i j)) := by
 intro pins s σ H x y v u Q I rx ry h
 obtain ⟨i, j, rfl, rfl, q⟩ := h
 obtain ⟨t, rfl⟩ := rx
 obtain ⟨t', rfl⟩ := ry
 exact rule i j t t' s _ _ ⟨.int (g i j), H, I.tok _, ⟨_, rfl⟩, q⟩
theorem KD {f : Value → Value → Sem Value} {g : Int → Int → Bool}
  (rule : ∀ (i j : Int) (t u : Tok) (s : Shared) (Q : Value → Shared → Prop) (E : Value → Shared → Prop), Q (.bool (g i j)) s → wpAny (model X.prog X.w) X.A (f (.int i t) (.int j u)) Q E s) :
  OpR X f (rI0 fun i j => .bl (g i j)) := by
 intro pins s σ H x y v u Q I rx ry h
 obtain ⟨i, j, rfl, rfl, q⟩ := h
 obtain ⟨t, rfl⟩ := rx
 obtain ⟨t', rfl⟩ := ry
 exact rule i j t t' s _ _ ⟨.bl (g i j), H, I, rfl, q⟩
theorem Jg : OpR X (binaryOp .Add) (rI0 fun i j => .int (i + j)) := Kr fun _ _ _ _ _ _ _ q => add_int q
theorem Iu : OpR X (binaryOp .Sub) (rI0 fun i j => .int (i - j)) := Kr fun _ _ _ _ _ _ _ q => sub_int q
theorem CJ : OpR X (binaryOp .Mod) (rI (fun _ j => j ≠ 0) fun i j => .int (i.fmod j)) := opI fun _ _ _ _ _ _ _ hc q => mod_int' hc q
theorem unI {f : Value → Sem Value} {g : Int → Int}
  (rule : ∀ (i : Int) (t : Tok) (s : Shared) (Q : Value → Shared → Prop) (E : Value → Shared → Prop), Q (.int (g i) s.toks) { s with toks := s.toks + 1 } → wpAny (model X.prog X.w) X.A (f (.int i t)) Q E s) :
  UnR X f (rU fun i => .int (g i)) := by
 intro pins s σ H x v Q I rx h
 obtain ⟨i, rfl, q⟩ := h
 obtain ⟨t, rfl⟩ := rx
 exact rule i t s _ _ ⟨.int (g i), H, I.tok _, ⟨_, rfl⟩, q⟩
theorem Hg : UnR X (unaryOp .USub) (rU fun i => .int (-i)) := unI fun _ _ _ _ _ q => neg_int q
end
section
variable {X : Cx} {a b c : Expr} {ta tb tc : TE} {pos : Pos}
theorem JM : OpR X (compareOp .Lt) (rI0 fun i j => .bl (decide (i < j))) := KD fun _ _ _ _ _ _ _ q => lt_int q
theorem JF : OpR X (compareOp .GtE) (rI0 fun i j => .bl (decide (j ≤ i))) := KD fun _ _ _ _ _ _ _ q => ge_int q
theorem OpR.or {f : Value → Value → Sem Value} {r r' : R2} (h : OpR X f r) (h' : OpR X f r') : OpR X f (fun x y H Q => r x y H Q ∨ r' x y H Q) := by
 intro pins s σ H x y v u Q I rx ry q
 rcases q with q | q
 ·exact h pins s σ H x y v u Q I rx ry q
 ·exact h' pins s σ H x y v u Q I rx ry q
theorem Dq {op : CmpOp} {r : R2} (ho : OpR X (compareOp op) r) (ha : PE X a ta) (hb : PE X b tb) (hm : behindInMarks op b = false) : PE X (.Compare a [op] [b] pos) (tOp r ta tb) := by
 intro pins s σ H Q I h
 exact wpAny_Compare1 (Hj ha hb I h fun v u s2 x y H2 I2 rx ry q => ho pins s2 σ H2 x y v u Q I2 rx ry q) hm
def JT (t : TE) : TT := fun σ H Q => t σ H fun x H' => ∃ k, x = .bl k ∧ Q k H'
theorem Ea {op : CmpOp} {r : R2} (ho : OpR X (compareOp op) r) (ha : PE X a ta) (hb : PE X b tb) (hm : behindInMarks op b = false) : PT X (.Compare a [op] [b] pos) (JT (tOp r ta tb)) := by
 intro pins s σ H Q I h
 refine wpAny_isTrue_Compare1 (thn (ha pins s σ H _ I h) fun v s1 ⟨x, H1, I1, r1, q1⟩ => thn (hb pins s1 σ H1 _ I1 q1) fun u s2 ⟨y, H2, I2, r2, q2⟩ =>
  thn (ho pins s2 σ H2 x y v u _ I2 r1 r2 q2) fun c s3 ⟨z, H3, I3, r3, k, e, q3⟩ => ?_) hm
 subst e
 cases r3
 exact wpAny_truthy_bool ⟨H3, I3, q3⟩
def HS (K : PySem.W.Frag) (x : V) (H : Hp) (k : Bool) : Prop :=
 match x with
 | .non => k = false
 | .bl b => k = b
 | .int i => k = (i != 0)
 | .str y => y.length ≤ sizeLine ∧ k = ((y.length : Int) != 0)
 | .byt y => y.size ≤ sizeLine ∧ k = ((y.size : Int) != 0)
 | .ref p => (∃ xs, SqL K H p xs ∧ k = !xs.isEmpty) ∨ (∃ xs, SqT K H p xs ∧ k = !xs.isEmpty) ∨ ∃ kvs, H p = some (.dK kvs) ∧ k = !kvs.isEmpty
 | _ => False
theorem wu {κ : Type} {kvs : List (κ × V)} {vs : List (κ × Value)} (r : KV kvs vs) : (!vs.isEmpty) = !kvs.isEmpty := by
 cases r <;> rfl
theorem pR {xs : List V} {its : List Value} (r : Vals xs its) : (!its.toArray.isEmpty) = !xs.isEmpty := by
 cases r <;> simp
theorem mY : (sizeLine : Nat) < 2 ^ 63 := by rw [sizeLine_eq]; decide
theorem HD : TruR X (fun x H Q => ∃ k, HS X.K x H k ∧ Q k H) := by
 intro pins s σ H x v Q I rx h
 obtain ⟨k, e, q⟩ := h
 have hl := mY
 have hs : sizeLine = 16777216 := sizeLine_eq
 cases x with
 | non =>
  cases rx
  have e' : k = false := e
  subst e'
  exact truthy_none ⟨H, I, q⟩
 | bl b =>
  cases rx
  have e' : k = b := e
  subst e'
  exact wpAny_truthy_bool ⟨H, I, q⟩
 | int i =>
  obtain ⟨t, rfl⟩ := rx
  have e' : k = (i != 0) := e
  subst e'
  exact PySem.P.truthy_int ⟨H, I, q⟩
 | str y =>
  obtain ⟨t, rfl⟩ := rx
  obtain ⟨hy, e'⟩ : y.length ≤ sizeLine ∧ k = ((y.length : Int) != 0) := e
  subst e'
  exact PySem.P.truthy_str (by omega) ⟨H, I.tok _, q⟩
 | byt y =>
  obtain ⟨t, rfl⟩ := rx
  obtain ⟨hy, e'⟩ : y.size ≤ sizeLine ∧ k = ((y.size : Int) != 0) := e
  subst e'
  exact PySem.W.truthy_bytes (by omega) ⟨H, I.tok _, q⟩
 | ref p =>
  cases rx
  have e' : (∃ xs, SqL X.K H p xs ∧ k = !xs.isEmpty) ∨ (∃ xs, SqT X.K H p xs ∧ k = !xs.isEmpty) ∨ ∃ kvs, H p = some (.dK kvs) ∧ k = !kvs.isEmpty := e
  rcases e' with ⟨xs, hx, e'⟩ | ⟨xs, hx, e'⟩ | ⟨kvs, hx, e'⟩
  ·subst e'
   obtain ⟨its, r, pl, hz⟩ := I.list hx
   have hlen := r.length
   exact wpAny_truthy_list pl.isList (by simp only [List.size_toArray]; omega) ⟨H, I.tok _, by rw [pR r]; exact q⟩
  ·subst e'
   obtain ⟨its, r, pl, hz⟩ := I.tuple hx
   have hlen := r.length
   exact truthy_tuple pl (by simp only [List.size_toArray]; omega) ⟨H, I.tok _, by rw [pR r]; exact q⟩
  ·subst e'
   obtain ⟨hz, hS, vs, r, m⟩ : kvs.length ≤ sizeLine ∧ (p == sysModules) = false ∧ ∃ vs, KV kvs vs ∧ s.heap.DictOf (gq X.prog X.w) p vs := I.hok p _ hx
   have hlen : kvs.length = vs.length := Paired.length r
   exact wpAny_truthy_dict hS m (by omega) ⟨H, I.tok _, by rw [wu r]; exact q⟩
 | _ => exact (show False from e).elim
theorem BP (ha : PE X a ta) (he : ∀ whole, isTrue a X.env whole = (do let v ← whole; standAt a.pos; holding [v] (truthy v))) :
  PT X a (fun σ H Q => ta σ H fun x H' => ∃ k, HS X.K x H' k ∧ Q k H') := by
 intro pins s σ H Q I h
 exact isTrue_plain (thn (ha pins s σ H _ I h) fun v s1 ⟨x, H1, I1, r1, q1⟩ => HD pins s1 σ H1 x v Q I1 r1 q1) (he _)
theorem wA : OpR X (binaryOp .Add) (fun x y H Q => ∃ i j, x = .str i ∧ y = .str j ∧ i.length + j.length ≤ sizeLine ∧ Q (.str (i ++ j)) H) := by
 intro pins s σ H x y v u Q I rx ry h
 obtain ⟨i, j, rfl, rfl, hz, q⟩ := h
 obtain ⟨t, rfl⟩ := rx
 obtain ⟨t', rfl⟩ := ry
 exact add_str (fun t' tk => ⟨.str (i ++ j), H, I.tok _, ⟨_, rfl⟩, q⟩) hz
theorem vals1 {x : V} {us : List Value} (r : Vals [x] us) : ∃ u, us = [u] ∧ RelV x u := by
 cases r with
 | cons r1 r2 => cases r2; exact ⟨_, rfl, r1⟩
theorem vals2 {x y : V} {us : List Value} (r : Vals [x, y] us) : ∃ u w', us = [u, w'] ∧ RelV x u ∧ RelV y w' := by
 cases r with
 | cons r1 r2 =>
  cases r2 with
  | cons r3 r4 => cases r4; exact ⟨_, _, rfl, r1, r3⟩
theorem zU : ji X (.builtin "abs") (fun xs H Q => ∃ i, xs = [.int i] ∧ Q (.int (if i < 0 then -i else i)) H) := by
 intro pins s σ H xs us Q I r h
 obtain ⟨i, rfl, q⟩ := h
 obtain ⟨u, rfl, t, rfl⟩ := vals1 r
 exact call_abs_int fun u tk => ⟨.int (if i < 0 then -i else i), H, I.tok _, ⟨_, rfl⟩, q⟩
theorem yS (hc : X.calm = true) : ji X (.builtin "min") (fun xs H Q => ∃ i j, xs = [.int i, .int j] ∧ Q (.int (if j < i then j else i)) H) := by
 intro pins s σ H xs us Q I r h
 obtain ⟨i, j, rfl, q⟩ := h
 obtain ⟨u, w', rfl, ⟨t, rfl⟩, ⟨t', rfl⟩⟩ := vals2 r
 refine min_two_ints (I.ok.hd hc) fun h' tk k => ⟨_, H, I.kept k, ?_, q⟩
 by_cases hj : j < i
 ·rw [if_pos hj, if_pos hj]; exact ⟨_, rfl⟩
 ·rw [if_neg hj, if_neg hj]; exact ⟨_, rfl⟩
end
end L2
namespace L2
open PySem PySem.Spec PyProof.Rows
section
variable {prog : Program} {w : World} {A : Around} {E : Value → Shared → Prop} {s : Shared} {K : PySem.W.Frag} {x dx C f : Addr} {mA : Str → Option Value} {name : Str} {v : Value}
end
def JQ (f : Str) (v : V) : List (Str × V) → List (Str × V)
 | [] => [(f, v)]
 | (g, x) :: r => if g = f then (g, v) :: r else (g, x) :: JQ f v r
section
variable {P : Program} {w : World} {H H' : Hp} {h h' : Heap} {a C dx : Addr} {fs fs' : List (Str × V)}
end
section
variable {X : Cx} {pins : List (Addr × Obj)} {σ : St} {H : Hp} {s : Shared} {a C dx : Addr} {fs : List (Str × V)} {f : Str} {v : V} {A : Around} {E : Value → Shared → Prop}
end
section
variable {X : Cx} {o e value : Expr} {f : Str} {pos pos' tpos : Pos} {ta tv : TE}
end
section
variable {X : Cx} {pins : List (Addr × Obj)} {σ : St} {H : Hp} {s : Shared} {A : Around} {E : Value → Shared → Prop} {Q : Value → Shared → Prop} {c : Value} {b : Bool}
end
end L2
namespace L2
open PySem PySem.Spec PyProof.Rows
structure eQ (k : Nat) (A : Around) : Prop where
 hd : A.handled = none
 dp : A.depth + 3 * k + 5 < recursionLimit
 un : A.units + 16 * k + 200 < cLine
theorem eQ.mono {j k : Nat} {A : Around} (r : eQ k A) (h : j ≤ k) : eQ j A := ⟨r.hd, by have := r.dp; omega, by have := r.un; omega⟩
theorem eQ.deeper {k : Nat} {A : Around} (r : eQ (k + 1) A) (env : Env) : eQ k (A.deeper env) :=
 ⟨r.hd, by have := r.dp; show A.depth + 1 + 3 * k + 5 < _; omega, by have := r.un; show A.units + 3 + 16 * k + 200 < _; omega⟩
theorem eQ.depth {k : Nat} {A : Around} (r : eQ k A) : A.depth < recursionLimit := by have := r.dp; omega
def tNil : TA := fun _ H Q => Q [] H
def Kl (ta : TE) (tr : TA) : TA := fun σ H Q => ta σ H fun x H1 => tr σ H1 fun xs H2 => Q (x :: xs) H2
section
variable {X : Cx} {e : Expr} {es : List Expr} {te : TE} {t : TA} {pos : Pos}
theorem vQ : PA X [] tNil := fun _ _ _ _ H Q I h => Calls.spliced_nil ⟨[], H, I, .nil, h⟩
theorem oR (ha : PE X e te) (hr : PA X es t) (hs : starEach (e :: es) X.env = (false, eval e X.env) :: starEach es X.env := by rfl) : PA X (e :: es) (Kl te t) := by
 intro pos pins s σ H Q I h
 rw [hs]
 show wpAny _ _ (spliced ((false, eval e X.env) :: backTo pos (starEach es X.env))) _ _ s
 refine Calls.spliced_cons (thn (ha pins s σ H _ I h) fun u s1 zq46 => ?_)
 obtain ⟨x, H1, I1, r1, q1⟩ := zq46
 exact thn (hr pos pins s1 σ H1 _ I1 q1) fun us s2 ⟨xs, H2, I2, r2, q2⟩ => ⟨x :: xs, H2, I2, .cons r1 r2, q2⟩
def tTup (t : TA) : TE := fun σ H Q => t σ H fun xs H1 => xs.length ≤ sizeLine ∧ ∀ p, H1 p = none → Q (.ref p) (upd H1 p (.tup xs))
def tLst (t : TA) : TE := fun σ H Q => t σ H fun xs H1 => xs.length ≤ sizeLine ∧ ∀ p, H1 p = none → Q (.ref p) (upd H1 p (.lst xs))
theorem HF {x1} (h : PA X es t) : PE X (.Tuple es x1 pos) (tTup t) := by
 intro pins s σ H Q I hq
 refine wpAny_Tuple_spliced (thn (h pos pins s σ H _ I hq) fun us s1 ⟨xs, H1, I1, r, z, q⟩ => ⟨by rw [← r.length]; exact z, ?_⟩)
 have hf : H1 s1.heap.objs.size = none := I1.hok.fresh (Nat.le_refl _)
 refine ⟨.ref s1.heap.objs.size, upd H1 s1.heap.objs.size (.tup xs), I1.laid (t' := s1.toks) (fun b u e => Heap.get?_push_of_some _ e) (Nat.le_refl _) ?_, rfl, q _ hf⟩
 exact ⟨z, us, r, ⟨_, Heap.get?_push_size _ rfl, rfl, _, rfl⟩⟩
theorem Bf (h : PA X es t) : PE X (.List es pos) (tLst t) := by
 intro pins s σ H Q I hq
 refine wpAny_List_spliced (thn (h pos pins s σ H _ I hq) fun us s1 ⟨xs, H1, I1, r, z, q⟩ => ⟨by rw [← r.length]; exact z, ?_⟩)
 have hf : H1 s1.heap.objs.size = none := I1.hok.fresh (Nat.le_refl _)
 refine ⟨.ref s1.heap.objs.size, upd H1 s1.heap.objs.size (.lst xs), I1.laid (t' := s1.toks) (fun b u e => Heap.get?_push_of_some _ e) (Nat.le_refl _) ?_, rfl, q _ hf⟩
 exact ⟨z, us, 0, r, Heap.get?_push_size _ rfl⟩
end
abbrev Sp := List V → Hp → VK → XK → Prop
abbrev CXT := List Env → Hp → Shared → XK → Value → Shared → Prop
structure Dm (P : Program) (w : World) (K : PySem.W.Frag) (mg : Str → Option Value) (base : Heap) (A : Around) (outer : List Env) (s : Shared) (H : Hp) : Prop where
 frames : A.frames = some outer
 mod : Mod K mg base
 bs : ∀ b o, base.get? b = some o → s.heap.get? b = some o ∧ H b = none
 bsz : base.objs.size ≤ s.heap.objs.size
 funs : s.heap.FunFrames base outer
 frf : ∀ b ∈ frs outer, H b = none
 hok : HOk P w H s.heap
 bare : AllBare s.gens
def CE (outer : List Env) (P : Program) (w : World) (H : Hp) (s : Shared) (Q : VK) (u : Value) (s' : Shared) : Prop :=
 ∃ v H', s'.os = s.os ∧ GK s.gens s'.gens ∧ Un (frs outer) [] H H' s.heap s'.heap ∧ HOk P w H' s'.heap ∧ RelV v u ∧ Q v H'
def CR (CX : CXT) (outer : List Env) (P : Program) (w : World) (H : Hp) (s : Shared) (Q : VK) (E : XK) (r : Result) (s' : Shared) : Prop :=
 match r with
 | .ok (.ret u) => CE outer P w H s Q u s'
 | .ok _ => False
 | .error e => CX outer H s E e s'
structure lA (P : Program) (w : World) (K : PySem.W.Frag) (mg : Str → Option Value) (base : Heap) (CX : CXT) (k : Nat) (f : Addr) (fd : FuncData) (ps : List Str) (sp : Sp) : Prop where
 len : ∀ vs H Q E, sp vs H Q E → vs.length = ps.length
 run : ∀ (A : Around) (outer : List Env) (s : Shared) (H : Hp) (args : Args) (us : List Value) (vs : List V) (Q : VK) (E : XK), eQ k A → Dm P w K mg base A outer s H → BindsTo s fd args (ps.zip us) → Vals vs us → sp vs H Q E →
  codeAny (model P w) A (.call (.ref f) args) (CR CX outer P w H s Q E) s
theorem lA.mono {P : Program} {w : World} {K : PySem.W.Frag} {mg : Str → Option Value} {base : Heap} {CX : CXT} {j k : Nat} {f : Addr} {fd : FuncData} {ps : List Str} {sp : Sp} (F : lA P w K mg base CX j f fd ps sp) (h : j ≤ k) :
  lA P w K mg base CX k f fd ps sp := ⟨F.len, fun A outer s H args us vs Q E hr => F.run A outer s H args us vs Q E (hr.mono h)⟩
theorem lA.imp {P : Program} {w : World} {K : PySem.W.Frag} {mg : Str → Option Value} {base : Heap} {CX : CXT} {k : Nat} {f : Addr} {fd : FuncData} {ps : List Str} {sp sp' : Sp} (F : lA P w K mg base CX k f fd ps sp)
  (h : ∀ vs H Q E, sp' vs H Q E → sp vs H Q E) : lA P w K mg base CX k f fd ps sp' :=
 ⟨fun vs H Q E q => F.len vs H Q E (h _ _ _ _ q), fun A outer s H args us vs Q E hr he hb hv hs => F.run A outer s H args us vs Q E hr he hb hv (h _ _ _ _ hs)⟩
section
variable {X : Cx} {pins : List (Addr × Obj)} {σ : St} {H : Hp} {s s' : Shared}
theorem Inv.env0 (I : Inv X pins σ H s) : Dm X.prog X.w X.K X.mg X.base X.A X.stack s H :=
 ⟨I.ok.frames, I.ok.mod, I.bs, Nat.le_trans I.ok.bsz I.sz, I.stack, I.stkFree, I.hok, I.bare.bare⟩
theorem Inv.after {Q : VK} {u : Value} (I : Inv X pins σ H s) (h : CE X.stack X.prog X.w H s Q u s') : EP X pins σ Q u s' := by
 obtain ⟨v, H', os, bare, un, hok, r, q⟩ := h
 obtain ⟨hh, g, d, t, os'⟩ := s'
 obtain rfl : os' = s.os := os
 exact ⟨v, H', I.call (h' := hh) (g' := g) (d' := d) (t' := t) (ch := []) un hok bare (fun b z => absurd z (by simp)), r, q⟩
end
def KN (sp : Sp) (dvs : List V) (E : XK) (t : TA) : TE := fun σ H Q => t σ H fun vs H1 => sp (vs ++ dvs) H1 Q E
def Binds (K : PySem.W.Frag) (fd : FuncData) (ps : List Str) (ds : List Value) : Prop :=
 ∀ (s : Shared) (us : List Value), K.In s.heap → (us ++ ds).length = ps.length → BindsTo s fd ⟨us, []⟩ (ps.zip (us ++ ds))
theorem Binds.all {K : PySem.W.Frag} {fd : FuncData} {ps : List Str} (h : ∀ us : List Value, us.length = ps.length → bindArgs fd ⟨us, []⟩ = pure (ps.zip us)) : Binds K fd ps [] := fun s us _ hl => by
 rw [List.append_nil] at hl ⊢
 exact .of_eq (h us hl)
def wX (CX : CXT) (X : Cx) (E : XK) : Prop := ∀ (pins : List (Addr × Obj)) (σ : St) (H : Hp) (s : Shared) (e : Value) (s' : Shared), Inv X pins σ H s → CX X.stack H s E e s' → X.xe e s'
section
variable {X : Cx} {CX : CXT} {k : Nat} {f C : Addr} {fd : FuncData} {ps : List Str} {sp : Sp} {dvs : List V} {ds : List Value} {E : XK} {x m : Str} {p pos apos : Pos} {e o : Expr} {es : List Expr} {ta : TE} {t : TA}
theorem HX {pins : List (Addr × Obj)} {σ : St} {H : Hp} {s : Shared} {Q : VK} {us : List Value} {vs : List V} (F : lA X.prog X.w X.K X.mg X.base CX k f fd ps sp) (hr : eQ k X.A) (hb : Binds X.K fd ps ds) (hd : Vals dvs ds) (hx : wX CX X E)
  (I : Inv X pins σ H s) (r : Vals vs us) (h : sp (vs ++ dvs) H Q E) : wpAny (model X.prog X.w) X.A (call (.ref f) us) (EP X pins σ Q) X.xe s := by
 have r2 : Vals (vs ++ dvs) (us ++ ds) := r.append hd
 have hl : (us ++ ds).length = ps.length := by rw [← r2.length]; exact F.len _ _ _ _ h
 refine wpAny_call (codeAny_mono (F.run X.A X.stack s H ⟨us, []⟩ (us ++ ds) (vs ++ dvs) Q E hr I.env0 (hb s us I.kIn hl) r2 h) fun r s' hq => ?_)
 cases r with
 | error e => exact hx pins σ H s e s' I hq
 | ok fl =>
  cases fl with
  | ret u => exact I.after hq
  | next => exact False.elim hq
  | brk => exact False.elim hq
  | cont => exact False.elim hq
theorem De (F : lA X.prog X.w X.K X.mg X.base CX k f fd ps sp) (hr : eQ k X.A) (hg : Gl X x) (hm : X.mg x = some (.ref f)) (hk : PySem.W.keepIn X.K (.ref f) = true) (hb : Binds X.K fd ps ds) (hd : Vals dvs ds) (hx : wX CX X E)
  (ha : PA X (e :: es) t) (hdb : (x == ("__debug__" : Str)) = false := by decide) (he : starEach (e :: es) X.env = (false, eval e X.env) :: starEach es X.env := by rfl) (hpl : (backTo pos (starEach es X.env)).any (·.1) = false := by rfl) :
  PE X (.Call (.Name x p) (e :: es) [] pos) (KN sp dvs E t) := by
 intro pins s σ H Q I h
 refine wpAny_Call_Name_kw (EY I hg hm ?_ hdb)
 refine PySem.W.callWith_K (h₀ := X.base) I.ok.mod.kin hk (thn (ha pos pins s σ H _ I h) fun us s1 ⟨vs, H1, I1, r, q⟩ => ⟨I1.kIn, ?_⟩) he hpl
 exact HX F hr hb hd hx I1 r q
end
section
variable {X : Cx} {CX : CXT} {k : Nat} {f C : Addr} {fd : FuncData} {ps ks : List Str} {sp : Sp} {E : XK} {x m : Str} {p pos apos kpos : Pos} {e o : Expr} {es : List Expr} {kws : List Keyword} {te ta : TE} {t tk : TA} {nm : Option Str}
variable {g : List Value → List Value → List Value} {gV : List V → List V → List V}
end
structure aV (N P : List Str) (sc : Scope) : Prop where
 kind : sc.kind = .function
 co : sc.isCoroutine = false
 gen : sc.isGenerator = false
 nd : N.Nodup
 pre : N.take P.length = P
 par : ∀ x ∈ P, sc.names.lookup x = some .local ∨ sc.names.lookup x = some .cell
 nofree : ∀ y ∈ sc.names, y.2 ≠ .free
theorem rH {kindOf : Str → Option NameKind} {x : Str} : ∀ {binds : List (Str × Value)} {m : Str → Option Value}, (∀ v, (x, v) ∉ binds) → bindL kindOf binds m x = m x
 | [], _, _ => rfl
 | (n, v) :: r, m, h => by
  unfold bindL
  rw [rH fun w hw => h w (List.mem_cons_of_mem _ hw)]
  split
  ·have : x ≠ n := by rintro rfl; exact h v List.mem_cons_self
   simp [this]
  ·rfl
theorem rG {kindOf : Str → Option NameKind} {x : Str} : ∀ {binds : List (Str × Value)} {m : Str → Option Value}, (∀ v, (x, v) ∉ binds) → bindC kindOf binds m x = m x
 | [], _, _ => rfl
 | (n, v) :: r, m, h => by
  unfold bindC
  rw [rG fun w hw => h w (List.mem_cons_of_mem _ hw)]
  split
  ·rfl
  ·have : x ≠ n := by rintro rfl; exact h v List.mem_cons_self
   simp [this]
theorem rZ {kindOf : Str → Option NameKind} {x : Str} {v : Value} : ∀ {P : List Str} {vs : List Value} {i : Nat} {m : Str → Option Value}, P.Nodup → P[i]? = some x → vs[i]? = some v → kindOf x = some .local →
  bindL kindOf (P.zip vs) m x = some v
 | [], _, _, _, _, h, _, _ => by simp at h
 | _ :: _, [], _, _, _, _, h, _ => by simp at h
 | p :: P, w :: vs, 0, m, nd, h1, h2, hk => by
  simp at h1 h2; subst h1; subst h2
  show bindL kindOf ((p, w) :: P.zip vs) m p = _
  unfold bindL
  rw [rH fun v hv => (List.nodup_cons.mp nd).1 (List.of_mem_zip hv).1, if_pos hk]
  simp
 | p :: P, w :: vs, i + 1, m, nd, h1, h2, hk => by
  show bindL kindOf ((p, w) :: P.zip vs) m x = _
  unfold bindL
  exact rZ (i := i) (List.nodup_cons.mp nd).2 (by simpa using h1) (by simpa using h2) hk
theorem qP {kindOf : Str → Option NameKind} {x : Str} {v : Value} : ∀ {P : List Str} {vs : List Value} {i : Nat} {m : Str → Option Value}, P.Nodup → P[i]? = some x → vs[i]? = some v → kindOf x ≠ some .local →
  bindC kindOf (P.zip vs) m x = some v
 | [], _, _, _, _, h, _, _ => by simp at h
 | _ :: _, [], _, _, _, _, h, _ => by simp at h
 | p :: P, w :: vs, 0, m, nd, h1, h2, hk => by
  simp at h1 h2; subst h1; subst h2
  show bindC kindOf ((p, w) :: P.zip vs) m p = _
  unfold bindC
  rw [rG fun v hv => (List.nodup_cons.mp nd).1 (List.of_mem_zip hv).1, if_neg hk]
  simp
 | p :: P, w :: vs, i + 1, m, nd, h1, h2, hk => by
  show bindC kindOf ((p, w) :: P.zip vs) m x = _
  unfold bindC
  exact qP (i := i) (List.nodup_cons.mp nd).2 (by simpa using h1) (by simpa using h2) hk
def start (N : List Str) (vs : List V) : St := vs.map some ++ List.replicate (N.length - vs.length) none
def wQ (CX : CXT) (P : Program) (w : World) (K : PySem.W.Frag) (mg : Str → Option Value) (base : Heap) (N : List Str) (qual : Str) (scope : Scope) (f : Addr) (cd : Value) (A : Around) (outer : List Env) (s : Shared) (H : Hp) (E : XK) : Cx where
 prog := P
 w := w
 K := K
 mg := mg
 base := base
 A := A.deeper (envOfC qual scope s.heap.objs.size f cd)
 N := N
 s₀ := s
 H₀ := H
 env := envOfC qual scope s.heap.objs.size f cd
 outer := outer
 stack := envOfC qual scope s.heap.objs.size f cd :: outer
 ex := []
 calm := true
 fn := fun _ => true
 pn := []
 xe := fun e s' => wpAny (model P w) (A.deeper (envOfC qual scope s.heap.objs.size f cd)) (leaving (envOfC qual scope s.heap.objs.size f cd) e) (fun _ s'' => CX outer H s E e s'') (fun e' s'' => CX outer H s E e' s'') s'
theorem uz {sc : Scope} {n : Nat} {x : Str} (h : sc.names.lookup x = some .cell) : ∃ c, (cellsFrom n sc.names []).lookup x = some c := by
 have q := PySem.W.cellsFrom_some sc.names n [] (.inl h)
 exact Option.isSome_iff_exists.mp q
theorem zg {CX : CXT} {P : Program} {w : World} {K : PySem.W.Frag} {mg : Str → Option Value} {base : Heap} {N ps : List Str} {qual : Str} {scope : Scope} {f : Addr} {cd : Value} {A : Around} {outer : List Env} {s s1 : Shared} {H : Hp} {E : XK} {us : List Value} {vs : List V}
  (S : aV N ps scope) (hd : A.handled = none) (e0 : Dm P w K mg base A outer s H) (hl : vs.length = ps.length) (r : Vals vs us)
  (x : InCallC s s.heap.objs.size (bindL (envOfC qual scope s.heap.objs.size f cd).kindOf (ps.zip us) fun _ => none) (cellsFrom (s.heap.objs.size + 1) scope.names []) (bindC (envOfC qual scope s.heap.objs.size f cd).kindOf (ps.zip us) fun _ => none) s1) :
  Inv (wQ CX P w K mg base N qual scope f cd A outer s H E) [] (start N vs) H s1 := by
 have hpl : ps.length ≤ N.length := by have := congrArg List.length S.pre; rw [List.length_take] at this; omega
 obtain ⟨h1, tk, rfl, hk⟩ := x.done
 have noA : ∀ b : Addr, b ∉ (wQ CX P w K mg base N qual scope f cd A outer s H E).ex := fun b z => absurd (show b ∈ ([] : List Addr) from z) (by simp)
 refine ⟨⟨e0.mod, S.kind, rfl, rfl, Nat.le_refl _, fun y z c h1 h2 => ?_, fun y hy => ?_, fun y c _ h => ?_, fun _ => hd, Around.frames_deeper e0.frames, .inr ⟨rfl, rfl⟩, fun b z => absurd z (noA b), e0.bs, e0.bsz, fun b _ _ => noA b, fun b z => absurd z (noA b), e0.funs, e0.frf⟩,
  rfl, GK.refl e0.bare, Un.kept hk, ⟨_, x.toInCall.ns, fun i y v h1 h2 h3 => ?_⟩, fun y c h => ⟨_, x.cell y c h⟩, e0.hok.fresh (Nat.le_refl _), fun y c h => ?_, fun p hp => absurd (show p ∈ ([] : List (Addr × Obj)) from hp) (by simp), e0.hok.kept hk, ?_⟩
 ·exact name_of_addr x.apart (PySem.mem_of_lookup h1) (PySem.mem_of_lookup h2)
 ·have hy : scope.names.lookup y = some .cell ∨ scope.names.lookup y = some .free := hy
  rcases hy with hy | hy
  ·exact uz hy
  ·exact absurd rfl (S.nofree _ (PySem.mem_of_lookup hy))
 ·exact Nat.le_of_lt (x.above y c (PySem.mem_of_lookup h))
 ·have hi : i < vs.length := by
   unfold start at h2
   by_cases hi : i < vs.length
   ·exact hi
   ·rw [List.getElem?_append_right (by simpa using hi)] at h2
    rw [List.getElem?_replicate] at h2
    split at h2 <;> cases h2
  have ha : vs[i]? = some v := by
   unfold start at h2
   rw [List.getElem?_append_left (by simpa using hi), List.getElem?_map] at h2
   cases e : vs[i]? with
   | none => rw [e] at h2; cases h2
   | some a => rw [e] at h2; cases h2; rfl
  obtain ⟨u, hu, rv⟩ := r.get ha
  have hp : ps[i]? = some y := by
   rw [← S.pre, List.getElem?_take_of_lt (by omega)]; exact h1
  have ndP : ps.Nodup := by rw [← S.pre]; exact S.nd.sublist (List.take_sublist _ _)
  refine ⟨u, rv, ?_⟩
  rcases S.par y (List.mem_of_getElem? hp) with k | k
  ·exact .inl ⟨k, rZ ndP hp hu k⟩
  ·obtain ⟨c, e⟩ := uz (n := s.heap.objs.size + 1) k
   refine .inr ⟨.inl k, c, e, ?_⟩
   have q := x.cell y c e
   rw [qP ndP hp hu (by show scope.names.lookup y ≠ _; rw [k]; decide)] at q
   exact q
 ·exact e0.hok.fresh (Nat.le_of_lt (x.above y c (PySem.mem_of_lookup h)))
 ·unfold start
  show _ = N.length
  rw [List.length_append, List.length_map, List.length_replicate]
  omega
theorem FP {CX : CXT} {P : Program} {w : World} {K : PySem.W.Frag} {mg : Str → Option Value} {base : Heap} {k : Nat} {f : Addr} {name qual : Str} {params : Arguments} {body : List Stmt} {scope : Scope} {dV kV doc pm cdv ct oc : Value} {an od : Option Addr}
  {osl : Array (Option Value)} {N ps : List Str} {sp : Sp} (lk : K.lookup f = some ⟨oc, od, .func (PySem.W.fnOf name qual params body scope dV kV doc pm an cdv ct), osl⟩) (hcd : PySem.W.codeIn K cdv qual = true) (S : aV N ps scope)
  (len : ∀ vs H Q E, sp vs H Q E → vs.length = ps.length)
  (hbody : ∀ (A : Around) (outer : List Env) (s : Shared) (H : Hp) (vs : List V) (Q : VK) (E : XK), eQ k (A.deeper (envOfC qual scope s.heap.objs.size f cdv)) → sp vs H Q E →
   ∃ t, PSs (wQ CX P w K mg base N qual scope f cdv A outer s H E) body t ∧ t { nx := fun _ H' => Q .non H', rt := Q } (start N vs) H) :
  lA P w K mg base CX (k + 1) f (PySem.W.fnOf name qual params body scope dV kV doc pm an cdv ct) ps sp := by
 refine ⟨len, fun A outer s H args us vs Q E hr e0 hb r hsp => ?_⟩
 have hl := len _ _ _ _ hsp
 have KX : K.In s.heap := e0.mod.kin.keeps fun b o e => (e0.bs b o e).1
 have lim : s.heap.NoLimit := e0.mod.nolimit.keeps fun b o e => (e0.bs b o e).1
 have hkind : ∀ y ∈ ps.zip us, scope.names.lookup y.1 = some .local ∨ (scope.names.lookup y.1 = some .cell ∧ ((cellsFrom (s.heap.objs.size + 1) scope.names []).lookup y.1).isSome = true) := fun zq49 hy => by
  obtain ⟨n, v⟩ := zq49
  rcases S.par n (List.of_mem_zip hy).1 with q | q
  ·exact .inl q
  ·exact .inr ⟨q, PySem.W.cellsFrom_some _ _ _ (.inl q)⟩
 refine codeAny_call_function hr.depth (KX _ _ lk) rfl S.co S.gen rfl (PySem.W.codeRec_of KX hcd) (hb _ _ _ _ ?_)
 refine wpAny_newFunctionEnv_cells S.kind hkind fun env he s1 x => ?_
 subst he
 refine ⟨lim.keeps x.toInCall.keep, codeAny_func ?_⟩
 obtain ⟨t, ht, hq⟩ := hbody A outer s H vs Q E (hr.deeper _) hsp
 have I : Inv (wQ CX P w K mg base N qual scope f cdv A outer s H E) [] (start N vs) H s1 := zg S hr.hd e0 hl r x
 refine wpAny_mono (ht [] s1 (start N vs) H _ I hq) (fun fl s' hs => ?_) fun e s' hs => hs
 have fin : ∀ {σ' : St} {H' : Hp} {v : V} {u : Value}, Inv (wQ CX P w K mg base N qual scope f cdv A outer s H E) [] σ' H' s' → RelV v u → Q v H' → CE outer P w H s Q u s' :=
  fun {σ' H' v u} J rv q => ⟨v, H', J.os, J.bare, J.base, J.hok, rv, q⟩
 cases fl with
 | ret u =>
  obtain ⟨v, σ', H', J, rv, q⟩ := hs
  exact fin J rv q
 | next =>
  obtain ⟨σ', H', J, q⟩ := hs
  exact fin (v := V.non) (u := Value.none) J rfl q
 | brk =>
  obtain ⟨_, _, _, q⟩ := hs
  exact False.elim q
 | cont =>
  obtain ⟨_, _, _, q⟩ := hs
  exact False.elim q
end L2
namespace L2
open PySem PySem.Spec PyProof.Rows
section
variable {X : Cx} {x : Str} {p pos : Pos} {e : Expr} {es : List Expr} {t : TA} {id T : String} {r : List V → Hp → VK → Prop}
def tCB (r : List V → Hp → VK → Prop) (t : TA) : TE := fun σ H Q => t σ H fun vs H1 => r vs H1 Q
theorem lU (hc : ji X (.builtin id) r) (hg : Gl X x) (hm : X.mg x = none) (hv : bootBuiltins x = some (.builtin id)) (ha : PA X (e :: es) t) (hn : x ≠ "__name__" := by decide) (hdb : (x == ("__debug__" : Str)) = false := by decide)
  (he : starEach (e :: es) X.env = (false, eval e X.env) :: starEach es X.env := by rfl) (hpl : (backTo pos (starEach es X.env)).any (·.1) = false := by rfl) : PE X (.Call (.Name x p) (e :: es) [] pos) (tCB r t) := by
 intro pins s σ H Q I h
 refine wpAny_Call_Name_kw (jn I hg hm hv ?_ hn hdb)
 exact PyProof.Rows.callWith_builtin1 (thn (ha pos pins s σ H _ I h) fun us s1 ⟨vs, H1, I1, r1, q1⟩ => hc pins s1 σ H1 vs us Q I1 r1 q1) he hpl
theorem rY (hc : ji X (.type T) r) (hg : Gl X x) (hm : X.mg x = none) (hv : bootBuiltins x = some (.type T)) (ha : PA X (e :: es) t) (hn : x ≠ "__name__" := by decide) (hdb : (x == ("__debug__" : Str)) = false := by decide)
  (he : starEach (e :: es) X.env = (false, eval e X.env) :: starEach es X.env := by rfl) (hpl : (backTo pos (starEach es X.env)).any (·.1) = false := by rfl) : PE X (.Call (.Name x p) (e :: es) [] pos) (tCB r t) := by
 intro pins s σ H Q I h
 refine wpAny_Call_Name_kw (jn I hg hm hv ?_ hn hdb)
 exact PyProof.Rows.callWith_type1 (thn (ha pos pins s σ H _ I h) fun us s1 ⟨vs, H1, I1, r1, q1⟩ => hc pins s1 σ H1 vs us Q I1 r1 q1) he hpl
end
end L2
namespace HT
open PySem PyProof.Rows
section
open PySem.SeqAt
open PySem.AutoSeq1 (wpAny_loadPart')
open PySem.MeetsSeq PySem.MeetsSeq2 PySem.MeetsSeq3
end
section
variable {prog : Program} {w : World} {A : Around} {E : Value → Shared → Prop} {s : Shared}
theorem cat_tup {t b : Addr} {vs ws : List Value} {Q : Value → Shared → Prop} (ht : IsTup s.heap t vs.toArray) (hb : IsTup s.heap b ws.toArray) (hv : vs ≠ [])
  (h1 : ws = [] → Q (.ref t) s) (h2 : ws ≠ [] → Q (.ref s.heap.objs.size) { s with heap := s.heap.push { cls := .type "tuple", data := .seq (vs ++ ws).toArray } })
  (hsz : vs.length + ws.length ≤ sizeLine) : wpAny (model prog w) A (binaryOp .Add (.ref t) (.ref b)) Q E s := by
 obtain ⟨⟨cls, dd, data, sl⟩, ho, hc, n, hd⟩ := id ht
 obtain ⟨⟨cls2, dd2, data2, sl2⟩, ho2, hc2, n2, hd2⟩ := id hb
 simp only at hc hd hc2 hd2
 subst hc hd hc2 hd2
 have e : vs.toArray ++ ws.toArray = (vs ++ ws).toArray := by simp
 by_cases hw : ws = []
 ·exact concat_meets ⟨_, ho, rfl⟩ ⟨_, ho2, rfl⟩ noFill_tuple_add seq_tuple_add PySem.F.slot_tuple_add PySem.F.entry_tuple_add (PySem.F.args_tuple_add_2 _ _)
   (tuple_addW1 t b vs.toArray ws.toArray n n2 dd dd2 sl sl2 (by simpa using hv) (by simp [hw])) ⟨ho, ho2, h1 hw⟩
 ·refine concat_meets ⟨_, ho, rfl⟩ ⟨_, ho2, rfl⟩ noFill_tuple_add seq_tuple_add PySem.F.slot_tuple_add PySem.F.entry_tuple_add (PySem.F.args_tuple_add_2 _ _)
   (tuple_addW2 t b vs.toArray ws.toArray n n2 dd dd2 sl sl2 (by simpa using hv) (by simpa using hw) (by rw [List.size_toArray, List.size_toArray]; exact hsz)) ⟨ho, ho2, ?_⟩
  rw [e]
  exact h2 hw
def sIx (n d : Nat) : Option Int → Nat
 | none => d
 | some v => if v < 0 then (v + (n : Int)).toNat else min v.toNat n
theorem Gz (n d : Nat) (hd : d ≤ n) (o : Option Int) : sIx n d o ≤ n := by
 cases o with
 | none => exact hd
 | some v =>
  show (if v < 0 then (v + (n : Int)).toNat else min v.toNat n) ≤ n
  by_cases hv : v < 0
  ·rw [if_pos hv]; omega
  ·rw [if_neg hv]; exact Nat.min_le_right _ _
theorem xx (v : Int) (n d : Nat) : (if v < 0 then max (v + (n : Int)) 0 else min v (n : Int)) = ((sIx n d (some v) : Nat) : Int) := by
 show (if v < 0 then max (v + (n : Int)) 0 else min v (n : Int)) = (((if v < 0 then (v + (n : Int)).toNat else min v.toNat n) : Nat) : Int)
 by_cases hv : v < 0
 ·simp only [if_pos hv]; omega
 ·simp only [if_neg hv]; omega
theorem wL (lo hi : Option Int) (n : Nat) : Builtin.Slice.sliceAdjust lo hi 1 (n : Int) = (((sIx n 0 lo : Nat) : Int), ((sIx n n hi : Nat) : Int)) := by
 have h1 : ¬ ((1 : Int) < 0) := by omega
 unfold Builtin.Slice.sliceAdjust
 simp only [h1, if_false]
 refine Prod.ext ?_ ?_
 ·cases lo with
  | none => rfl
  | some v => exact xx v n 0
 ·cases hi with
  | none => rfl
  | some v => exact xx v n n
theorem wC (i j : Nat) : Builtin.Slice.slicePlaces (i : Int) (j : Int) 1 = j - i := by
 unfold Builtin.Slice.slicePlaces
 have h1 : (1 : Int) > 0 := by omega
 simp only [h1, if_true, Int.ediv_one]
 split <;> omega
theorem qC {v : Value} {o : Option Int} {Q : Option Int → Shared → Prop} (p : IsPart v o) (h : Q o s) : wpAny (model prog w) A (Builtin.Slice.slicePartIndex v) Q E s := by
 cases p with
 | none => exact slicePart_none h
 | int i t => exact slicePart_int h
theorem jg {sl : Addr} {vl vu : Value} {lo hi : Option Int} {n : Nat} {Q : Int × Int × Nat → Shared → Prop} (hs : s.heap.IsSliceOf sl vl vu .none) (pl : IsPart vl lo) (pu : IsPart vu hi)
  (h : Q (((sIx n 0 lo : Nat) : Int), 1, sIx n n hi - sIx n 0 lo) s) : wpAny (model prog w) A (Builtin.Slice.sliceApplied (.ref sl) (pure (n : Int))) Q E s := by
 obtain ⟨os, hos, hcs, hds⟩ := id hs
 unfold Builtin.Slice.sliceApplied Builtin.Slice.sliceFields
 refine wpAny_bind (wpAny_bind (wpAny_field hos hds (x := vl) rfl (wpAny_bind (wpAny_field hos hds (x := vu) rfl (wpAny_bind (wpAny_field hos hds (x := .none) rfl (wpAny_pure ?_)))))))
 refine wpAny_bind (slicePart_none ?_)
 show wpAny _ _ (if ((1 : Int) == 0) = true then _ else _) _ _ s
 rw [if_neg (by decide)]
 refine wpAny_bind (qC pl (wpAny_bind (qC pu (wpAny_bind (wpAny_pure ?_)))))
 show wpAny _ _ (match Builtin.Slice.sliceAdjust lo hi 1 (n : Int) with | (lo, hi) => pure (lo, (1 : Int), Builtin.Slice.slicePlaces lo hi 1)) _ _ s
 rw [wL lo hi n]
 show wpAny _ _ (pure (((sIx n 0 lo : Nat) : Int), (1 : Int), Builtin.Slice.slicePlaces ((sIx n 0 lo : Nat) : Int) ((sIx n n hi : Nat) : Int) 1)) _ _ s
 rw [wC]
 exact wpAny_pure h
theorem Ak (xs : Array Value) (i k : Nat) : ((List.range k).filterMap fun (m : Nat) => xs[((i : Int) + (m : Int) * 1).toNat]?).toArray = ((xs.toList.drop i).take k).toArray := by
 have e : (fun (m : Nat) => xs[((i : Int) + (m : Int) * 1).toNat]?) = fun m => xs[i + m]? := by
  funext m
  have : ((i : Int) + (m : Int) * 1).toNat = i + m := by omega
  rw [this]
 rw [e]
 have := pick_run xs i k
 rw [List.filterMap_map] at this
 have e2 : ((fun x => xs[x]?) ∘ fun x => i + x) = fun m => xs[i + m]? := rfl
 rw [e2] at this
 rw [this]
theorem getItem_tuple_cut {t sl : Addr} {items : Array Value} {vl vu : Value} {lo hi : Option Int} {Q : Value → Shared → Prop} (ht : IsTup s.heap t items) (hs : s.heap.IsSliceOf sl vl vu .none) (pl : IsPart vl lo) (pu : IsPart vu hi)
  (hw : ¬ (sIx items.size 0 lo = 0 ∧ sIx items.size items.size hi = items.size))
  (h : Q (.ref s.heap.objs.size) { s with heap := s.heap.push { cls := .type "tuple", data := .seq ((items.toList.drop (sIx items.size 0 lo)).take (sIx items.size items.size hi - sIx items.size 0 lo)).toArray } })
  (hsz : items.size ≤ sizeLine) : wpAny (model prog w) A (getItem (.ref t) (.ref sl)) Q E s := by
 have htake : sizeOk (.seq ((items.toList.drop (sIx items.size 0 lo)).take (sIx items.size items.size hi - sIx items.size 0 lo)).toArray) := by
  show ((items.toList.drop (sIx items.size 0 lo)).take (sIx items.size items.size hi - sIx items.size 0 lo)).toArray.size ≤ sizeLine
  rw [List.size_toArray, List.length_take, List.length_drop, Array.length_toList]
  omega
 have hj : sIx items.size items.size hi ≤ items.size := Gz _ _ (Nat.le_refl _) hi
 obtain ⟨os, hos, hcs, hds⟩ := id hs
 have hTs : s.TypeIs (.ref sl) "slice" := ⟨os, hos, hcs⟩
 unfold getItem
 try with_reducible refine wpAny_holding ?_
 first | refine wpAny_bind (wpAny_pure ?_) | skip
 refine wpAny_bind (wpAny_sequenceKey ht.typeIs (by decide) ?_)
 refine wpAny_bind (wpAny_callSpecial?_slot (name := Str.ofString "__getitem__") ht.typeIs PyProof.Rows.slot_tuple_getitem
  (wpAny_call_entry PyProof.Rows.slot_tuple_getitem ht.typeIs entry_tuple_getitem ?_ (args_tuple_getitem _ _)))
 show wpAny _ _ (Builtin.Tuple.tupleItemsOf (.ref t) >>= _) _ _ s
 refine wpAny_bind (tupleItemsOf_ ht ?_)
 refine wpAny_bind (wpAny_typeOf hTs ?_)
 rw [if_pos (by decide)]
 refine wpAny_bind (jg hs pl pu ?_)
 have hno : ¬ ((((sIx items.size 0 lo : Nat) : Int) == 0 && (1 : Int) == 1 && (sIx items.size items.size hi - sIx items.size 0 lo) == items.size) = true) := by
  intro q
  rw [Bool.and_eq_true, Bool.and_eq_true] at q
  have q1 : ((sIx items.size 0 lo : Nat) : Int) = 0 := eq_of_beq q.1.1
  have q2 : sIx items.size items.size hi - sIx items.size 0 lo = items.size := eq_of_beq q.2
  exact hw ⟨by omega, by omega⟩
 show wpAny _ _ (if (((sIx items.size 0 lo : Nat) : Int) == 0 && (1 : Int) == 1 && (sIx items.size items.size hi - sIx items.size 0 lo) == items.size) = true then _ else _) _ _ s
 rw [if_neg hno, Ak]
 first
  | exact wpAny_bind (m := Builtin.Tuple.tupleExact _) (wpAny_newObj_type (wpAny_pure ⟨_, rfl, wpAny_pure h⟩) htake)
  | exact wpAny_bind (m := Builtin.Tuple.tupleExact _) (wpAny_newObj_type (wpAny_bind (wpAny_pure (wpAny_pure ⟨_, rfl, wpAny_pure h⟩))) htake)
  | exact wpAny_bind (wpAny_bind (m := Builtin.Tuple.tupleExact _) (wpAny_newObj_type (wpAny_pure (wpAny_pure ⟨_, rfl, wpAny_pure h⟩)) htake))
  | exact wpAny_bind (wpAny_bind (m := Builtin.Tuple.tupleExact _) (wpAny_newObj_type (wpAny_pure ⟨_, rfl, wpAny_pure h⟩) htake))
end
end HT
namespace L2
open PySem PySem.Spec PyProof.Rows
abbrev TO := St → Hp → (Option Int → Hp → Prop) → Prop
def PO (X : Cx) (e : Option Expr) (t : TO) : Prop :=
 ∀ (pins : List (Addr × Obj)) (s : Shared) (σ : St) (H : Hp) (Q : Option Int → Hp → Prop), Inv X pins σ H s → t σ H Q →
  wpAny (model X.prog X.w) X.A (evalPart e X.env) (fun u s' => ∃ o H', Inv X pins σ H' s' ∧ IsPart u o ∧ Q o H') X.xe s
def DQ : TO := fun _ H Q => Q none H
def Ks (t : TE) : TO := fun σ H Q => t σ H fun x H1 => ∃ i, x = .int i ∧ Q (some i) H1
section
variable {X : Cx} {e : Expr} {te : TE} {lo hi : Option Expr} {tl th : TO} {pos p2 : Pos}
theorem Er : PO X none DQ := by
 intro pins s σ H Q I h
 rw [evalPart_none]
 exact wpAny_pure ⟨none, H, I, .none, h⟩
theorem Ez (h : PE X e te) : PO X (some e) (Ks te) := by
 intro pins s σ H Q I hw
 rw [evalPart_some]
 refine thn (h pins s σ H _ I hw) fun u s1 zq50 => ?_
 obtain ⟨x, H1, I1, r1, q1⟩ := zq50
 obtain ⟨i, rfl, q⟩ := q1
 obtain ⟨t, rfl⟩ := r1
 exact ⟨some i, H1, I1, .int i t, q⟩
def SlR (X : Cx) (r : V → Option Int → Option Int → Hp → VK → Prop) : Prop :=
 ∀ (pins : List (Addr × Obj)) (s : Shared) (σ : St) (H : Hp) (x : V) (v vl vu : Value) (lo hi : Option Int) (sl : Addr) (Q : VK), Inv X pins σ H s → RelV x v → s.heap.IsSliceOf sl vl vu .none → IsPart vl lo → IsPart vu hi → r x lo hi H Q →
  ∃ T id, typeLookup (.type T) "__getitem__" = pure (some (.builtin id)) ∧ s.TypeIs v T ∧ wpAny (model X.prog X.w) X.A (getItem v (.ref sl)) (EP X pins σ Q) X.xe s
theorem SlR.or {r r' : V → Option Int → Option Int → Hp → VK → Prop} (h : SlR X r) (h' : SlR X r') : SlR X (fun x lo hi H Q => r x lo hi H Q ∨ r' x lo hi H Q) := by
 intro pins s σ H x v vl vu lo hi sl Q I rx hs pl pu q
 rcases q with q | q
 ·exact h pins s σ H x v vl vu lo hi sl Q I rx hs pl pu q
 ·exact h' pins s σ H x v vl vu lo hi sl Q I rx hs pl pu q
def tSl (r : V → Option Int → Option Int → Hp → VK → Prop) (te : TE) (tl th : TO) : TE := fun σ H Q => te σ H fun x H1 => tl σ H1 fun l H2 => th σ H2 fun u H3 => r x l u H3 Q
theorem Ad {r : V → Option Int → Option Int → Hp → VK → Prop} (hr : SlR X r) (he : PE X e te) (hl : PO X lo tl) (hu : PO X hi th) : PE X (.Subscript e (.Slice lo hi none p2) pos) (tSl r te tl th) := by
 intro pins s σ H Q I h
 refine Subscript_ (thn (he pins s σ H _ I h) fun v s1 zq51 => ?_)
 obtain ⟨x, H1, I1, r1, q1⟩ := zq51
 refine wpAny_Slice (thn (hl pins s1 σ H1 _ I1 q1) fun vl s2 ⟨l, H2, I2, pl, q2⟩ => thn (hu pins s2 σ H2 _ I2 q2) fun vu s3 zq52 => ?_)
 obtain ⟨u, H3, I3, pu, q3⟩ := zq52
 rw [evalPart_none]
 refine wpAny_pure ?_
 have I4 : Inv X pins σ H3 { s3 with heap := s3.heap.push { cls := .type "slice", data := .fields #[vl, vu, .none] } } := I3.kept (t' := s3.toks) fun b ob q => Heap.get?_push_of_some _ q
 obtain ⟨T, id, hT, ht, hg⟩ := hr pins { s3 with heap := s3.heap.push { cls := .type "slice", data := .fields #[vl, vu, .none] } } σ H3 x v vl vu l u s3.heap.objs.size Q I4 r1 (Heap.IsSliceOf.new ..) pl pu q3
 show wpAny (model X.prog X.w) X.A (subscriptTail e (.Slice lo hi none p2) v (.ref s3.heap.objs.size)) (EP X pins σ Q) X.xe { s3 with heap := s3.heap.push { cls := .type "slice", data := .fields #[vl, vu, .none] } }
 exact tail_any (ops := [.ref s3.heap.objs.size, v]) ht hT hg (by with_unfolding_all rfl)
def vg (xs : List V) (lo hi : Option Int) : List V := (xs.drop (HT.sIx xs.length 0 lo)).take (HT.sIx xs.length xs.length hi - HT.sIx xs.length 0 lo)
theorem nQ (xs : List V) (lo hi : Option Int) : (vg xs lo hi).length ≤ xs.length := by
 unfold vg
 rw [List.length_take, List.length_drop]
 omega
def rSlT (K : PySem.W.Frag) : V → Option Int → Option Int → Hp → VK → Prop := fun x lo hi H Q => ∃ a xs, x = .ref a ∧ SqT K H a xs ∧
 ¬ (HT.sIx xs.length 0 lo = 0 ∧ HT.sIx xs.length xs.length hi = xs.length) ∧ ∀ p, H p = none → Q (.ref p) (upd H p (.tup (vg xs lo hi)))
theorem Gw : SlR X (rSlT X.K) := by
 intro pins s σ H x v vl vu lo hi sl Q I rx hs pl pu h
 obtain ⟨a, xs, rfl, hx, hw, q⟩ := h
 cases rx
 obtain ⟨its, r, ht, hz⟩ := I.tuple hx
 have hlen : its.toArray.size = xs.length := by rw [List.size_toArray]; exact r.length.symm
 refine ⟨"tuple", _, PyProof.Rows.slot_tuple_getitem.lookup, ht.typeIs, ?_⟩
 refine HT.getItem_tuple_cut ht hs pl pu (by rw [hlen]; exact hw) ?_ (by rw [hlen]; exact hz)
 rw [hlen]
 refine ⟨.ref s.heap.objs.size, _, I.laid (t' := s.toks) (o := .tup (vg xs lo hi)) (fun b ob q => Heap.get?_push_of_some _ q) (Nat.le_refl _) ?_, rfl, q _ (I.hok.fresh (Nat.le_refl _))⟩
 exact ⟨Nat.le_trans (nQ xs lo hi) hz, _, (r.drop (HT.sIx xs.length 0 lo)).take (HT.sIx xs.length xs.length hi - HT.sIx xs.length 0 lo), IsTup.new _ _⟩
def KZ (K : PySem.W.Frag) : R2 := fun x y H Q => ∃ a b xs ys, x = .ref a ∧ y = .ref b ∧ SqT K H a xs ∧ SqT K H b ys ∧ xs ≠ [] ∧ xs.length + ys.length ≤ sizeLine ∧
 (ys = [] → Q (.ref a) H) ∧ (ys ≠ [] → ∀ p, H p = none → Q (.ref p) (upd H p (.tup (xs ++ ys))))
theorem Vals.jm {xs : List V} {us : List Value} (r : Vals xs us) : us = [] ↔ xs = [] := by
 cases r with
 | nil => simp
 | cons _ _ => simp
theorem DN : OpR X (binaryOp .Add) (KZ X.K) := by
 intro pins s σ H x y v u Q I rx ry h
 obtain ⟨a, b, xs, ys, rfl, rfl, ha, hb, hx, hz, q1, q2⟩ := h
 cases rx
 cases ry
 obtain ⟨its, r1, p1, _⟩ := I.tuple ha
 obtain ⟨its2, r2, p2, _⟩ := I.tuple hb
 refine HT.cat_tup p1 p2 (fun z => hx (r1.jm.mp z)) (fun z => ⟨.ref a, H, I, rfl, q1 (r2.jm.mp z)⟩) (fun z => ?_) (by rw [← r1.length, ← r2.length]; exact hz)
 refine ⟨.ref s.heap.objs.size, _, I.laid (t' := s.toks) (o := .tup (xs ++ ys)) (fun b ob q => Heap.get?_push_of_some _ q) (Nat.le_refl _) ?_, rfl, q2 (fun w => z (r2.jm.mpr w)) _ (I.hok.fresh (Nat.le_refl _))⟩
 exact ⟨by rw [List.length_append]; exact hz, _, r1.append r2, IsTup.new _ _⟩
end
end L2
namespace L2
open PySem PySem.Spec PyProof.Rows
def ixN (n : Nat) (i : Int) : Option Nat := if 0 ≤ i then (if i < n then some i.toNat else none) else if -(n : Int) ≤ i then some (i + n).toNat else none
def atI {α : Type} (xs : List α) (i : Int) : Option α := (ixN xs.length i).bind fun j => xs[j]?
theorem Et {n : Nat} {i : Int} {j : Nat} (h : ixN n i = some j) : seqIndex? i n = some j ∧ j < n ∧ -(n : Int) ≤ i ∧ i < n := by
 unfold ixN at h
 by_cases h0 : 0 ≤ i
 ·rw [if_pos h0] at h
  by_cases h1 : i < n
  ·rw [if_pos h1] at h
   have e : i.toNat = j := Option.some.inj h
   exact ⟨by rw [seqIndex_of h0 h1, e], by omega, by omega, h1⟩
  ·rw [if_neg h1] at h; cases h
 ·rw [if_neg h0] at h
  by_cases h1 : -(n : Int) ≤ i
  ·rw [if_pos h1] at h
   have e : (i + n).toNat = j := Option.some.inj h
   exact ⟨by rw [seqIndex_neg (by omega) h1, e], by omega, h1, by omega⟩
  ·rw [if_neg h1] at h; cases h
theorem ue {α : Type} {xs : List α} {i : Int} {v : α} (h : atI xs i = some v) : ∃ j, seqIndex? i xs.length = some j ∧ xs[j]? = some v ∧ j < xs.length ∧ -(xs.length : Int) ≤ i ∧ i < xs.length := by
 unfold atI at h
 cases e : ixN xs.length i with
 | none => rw [e] at h; cases h
 | some j =>
  rw [e] at h
  obtain ⟨h1, h2, h3, h4⟩ := Et e
  exact ⟨j, h1, h, h2, h3, h4⟩
theorem Cy {α : Type} {xs : List α} {j : Nat} {v : α} (h : xs[j]? = some v) : atI xs (j : Int) = some v := by
 have hj : j < xs.length := (List.getElem?_eq_some_iff.mp h).1
 have e : ixN xs.length (j : Int) = some j := by
  unfold ixN
  rw [if_pos (by omega), if_pos (by omega)]; simp
 unfold atI; rw [e]; exact h
theorem vA {α : Type} (xs : List α) (v : α) : atI (xs ++ [v]) (-1) = some v := by
 have hl : (xs ++ [v]).length = xs.length + 1 := by simp
 have e : ixN (xs ++ [v]).length (-1) = some xs.length := by
  unfold ixN
  rw [hl, if_neg (by decide), if_pos (by omega)]
  congr 1
  omega
 unfold atI
 rw [e]
 show (xs ++ [v])[xs.length]? = some v
 simp
def xO (b : Expr) : Prop := ∀ o i, subscripted b false o i = operate [o, i] (getItem o i)
def IxR (X : Cx) (r : R2) : Prop :=
 ∀ (value slice : Expr) (pins : List (Addr × Obj)) (s : Shared) (σ : St) (H : Hp) (x y : V) (v u : Value) (Q : VK), Inv X pins σ H s → RelV x v → RelV y u → r x y H Q →
  subscripted slice false v u = operate [v, u] (getItem v u) → wpAny (model X.prog X.w) X.A (subscriptTail value slice v u) (EP X pins σ Q) X.xe s
def MtR (X : Cx) (id : String) (r : V → List V → Hp → VK → Prop) : Prop :=
 ∀ (pins : List (Addr × Obj)) (s : Shared) (σ : St) (H : Hp) (x : V) (xs : List V) (v : Value) (us : List Value) (Q : VK), Inv X pins σ H s → RelV x v → Vals xs us → r x xs H Q →
  wpAny (model X.prog X.w) X.A (call (.builtin id) (v :: us)) (EP X pins σ Q) X.xe s
section
variable {X : Cx} {a b : Expr} {ta tb : TE} {pos : Pos}
theorem IxR.or {r r' : R2} (h : IxR X r) (h' : IxR X r') : IxR X (fun x y H Q => r x y H Q ∨ r' x y H Q) := by
 intro value slice pins s σ H x y v u Q I rx ry q hs
 rcases q with q | q
 ·exact h value slice pins s σ H x y v u Q I rx ry q hs
 ·exact h' value slice pins s σ H x y v u Q I rx ry q hs
theorem JH {r : R2} (hr : IxR X r) (ha : PE X a ta) (hb : PE X b tb) (hs : xO b) : PE X (.Subscript a b pos) (tOp r ta tb) := by
 intro pins s σ H Q I h
 exact Subscript_ (Hj ha hb I h fun v u s2 x y H2 I2 rx ry q => hr a b pins s2 σ H2 x y v u Q I2 rx ry q (hs _ _))
def KC (K : PySem.W.Frag) : R2 := fun x y H Q => ∃ p xs i v, x = .ref p ∧ y = .int i ∧ SqL K H p xs ∧ atI xs i = some v ∧ Q v H
def JK (K : PySem.W.Frag) : R2 := fun x y H Q => ∃ p xs i v, x = .ref p ∧ y = .int i ∧ SqT K H p xs ∧ atI xs i = some v ∧ Q v H
def KJ : R2 := fun x y H Q => ∃ z i c, x = .str z ∧ y = .int i ∧ z.length ≤ sizeLine ∧ atI z.cps.toList i = some c ∧ Q (.str ⟨#[c]⟩) H
theorem Eh : IxR X (KC X.K) := by
 intro value slice pins s σ H x y v u Q I rx ry h hs
 obtain ⟨p, xs, i, z, rfl, rfl, hq, he, q⟩ := h
 cases rx
 obtain ⟨t, rfl⟩ := ry
 obtain ⟨its, r, pl, hz⟩ := I.list hq
 obtain ⟨j, h1, h2, h3, h4, h5⟩ := ue he
 obtain ⟨w, ew, rw'⟩ := r.get h2
 have hl := r.length
 have hn := mY
 have fin : EP X pins σ Q w s := ⟨z, H, I, rw', q⟩
 by_cases h0 : 0 ≤ i
 ·have hj : i.toNat = j := by
   rw [seqIndex_of h0 h5] at h1
   exact Option.some.inj h1
  exact item_listR pl.isList h0 (by omega) (by rw [hj]; simpa using ew) fin hs
 ·have hj : (i + (its.toArray.size : Int)).toNat = j := by
   rw [seqIndex_neg (by omega) h4] at h1
   rw [List.size_toArray, ← hl]
   exact Option.some.inj h1
  exact subscriptTail_builtinR (x := w) pl.isList.typeIs slot_list_getitem.lookup
   (wpAny_getItem_list_neg (Q := fun r s' => r = w ∧ EP X pins σ Q r s') pl.isList (by omega) (by rw [List.size_toArray] <;> omega) (by omega) (by rw [hj]; simpa using ew) ⟨rfl, fin⟩) hs
theorem Gm : IxR X (JK X.K) := by
 intro value slice pins s σ H x y v u Q I rx ry h hs
 obtain ⟨p, xs, i, z, rfl, rfl, hq, he, q⟩ := h
 cases rx
 obtain ⟨t, rfl⟩ := ry
 obtain ⟨its, r, pl, hz⟩ := I.tuple hq
 obtain ⟨j, h1, h2, h3, h4, h5⟩ := ue he
 obtain ⟨w, ew, rw'⟩ := r.get h2
 have hl := r.length
 have hn := mY
 have fin : EP X pins σ Q w s := ⟨z, H, I, rw', q⟩
 exact subscriptTail_builtinR (x := w) pl.typeIs slot_tuple_getitem.lookup
  (getItem_tuple (j := j) (Q := fun r s' => r = w ∧ EP X pins σ Q r s') pl (by omega) (by omega) (by rw [List.size_toArray, ← hl]; exact h1) (by simpa using ew) ⟨rfl, fin⟩) hs
theorem HY : IxR X KJ := by
 intro value slice pins s σ H x y v u Q I rx ry h hs
 obtain ⟨z, i, c, rfl, rfl, hz, he, q⟩ := h
 obtain ⟨t, rfl⟩ := rx
 obtain ⟨t', rfl⟩ := ry
 obtain ⟨j, h1, h2, h3, h4, h5⟩ := ue he
 have hl : z.cps.toList.length = z.length := by simp [Str.length]
 rw [hl] at h1 h4 h5
 have hn := mY
 exact tail_any (typeIs_str s z t) slot_str_getitem.lookup (getItem_str (c := c) (by
  have e1 : decide (i < -(2 ^ 63 : Int)) = false := decide_eq_false (by omega)
  have e2 : decide (i ≥ 2 ^ 63) = false := decide_eq_false (by omega)
  rw [e1, e2, Bool.or_false]) (by rw [h1]; simpa using h2) ⟨.str ⟨#[c]⟩, H, I.tok _, ⟨_, rfl⟩, q⟩) hs
def rIx (K : PySem.W.Frag) : R2 := fun x y H Q => KC K x y H Q ∨ JK K x y H Q ∨ KJ x y H Q
theorem Gq : IxR X (rIx X.K) := Eh.or (Gm.or HY)
theorem tH (lo hi : Option Int) (n : Nat) : (sliceBounds lo hi none n).1 = ((HT.sIx n 0 lo : Nat) : Int) ∧ (sliceBounds lo hi none n).2.1 = ((HT.sIx n n hi : Nat) : Int) ∧ (sliceBounds lo hi none n).2.2 = 1 := by
 refine ⟨?_, ?_, rfl⟩
 ·cases lo with
  | none => simp [sliceBounds, HT.sIx]
  | some i =>
   simp only [sliceBounds, HT.sIx, Option.getD_none, show (1 : Int) > 0 by decide, if_true]
   by_cases h : i < 0
   ·simp only [h, if_true] <;> omega
   ·simp only [h, if_false] <;> omega
 ·cases hi with
  | none => simp [sliceBounds, HT.sIx]
  | some i =>
   simp only [sliceBounds, HT.sIx, Option.getD_none, show (1 : Int) > 0 by decide, if_true]
   by_cases h : i < 0
   ·simp only [h, if_true] <;> omega
   ·simp only [h, if_false] <;> omega
theorem qG (its : List Value) (lo hi : Option Int) : slicePick its.toArray lo hi none = ((its.drop (HT.sIx its.length 0 lo)).take (HT.sIx its.length its.length hi - HT.sIx its.length 0 lo)).toArray := by
 obtain ⟨h1, h2, h3⟩ := tH lo hi its.toArray.size
 unfold slicePick
 rw [h1, h2, h3]
 simp only [sliceRange_one, pick_run, List.size_toArray] <;> rfl
def rSlL (K : PySem.W.Frag) : V → Option Int → Option Int → Hp → VK → Prop := fun x lo hi H Q => ∃ a xs, x = .ref a ∧ SqL K H a xs ∧ ∀ p, H p = none → Q (.ref p) (upd H p (.lst (vg xs lo hi)))
theorem Dg : SlR X (rSlL X.K) := by
 intro pins s σ H x v vl vu lo hi sl Q I rx hs pl pu h
 obtain ⟨a, xs, rfl, hx, q⟩ := h
 cases rx
 obtain ⟨its, r, ht, hz⟩ := I.list hx
 have hlen := r.length
 refine ⟨"list", _, slot_list_getitem.lookup, ht.isList.typeIs, ?_⟩
 refine wpAny_getItem_list_slice ht.isList hs pl pu .none (by simp) ?_ (by rw [List.size_toArray] <;> omega)
 rw [qG, ← hlen]
 refine ⟨.ref s.heap.objs.size, _, I.laid (t' := s.toks) (o := .lst (vg xs lo hi)) (fun b ob q => Heap.get?_push_of_some _ q) (Nat.le_refl _) ?_, rfl, q _ (I.hok.fresh (Nat.le_refl _))⟩
 exact ⟨Nat.le_trans (nQ xs lo hi) hz, _, 0, (r.drop (HT.sIx xs.length 0 lo)).take (HT.sIx xs.length xs.length hi - HT.sIx xs.length 0 lo), Heap.get?_push_size _ rfl⟩
theorem sV : ji X (.builtin "len") (fun xs H Q => ∃ p ys, xs = [.ref p] ∧ (SqL X.K H p ys ∨ SqT X.K H p ys) ∧ Q (.int ys.length) H) := by
 intro pins s σ H xs us Q I r h
 obtain ⟨p, ys, rfl, hq, q⟩ := h
 obtain ⟨u, rfl, rx⟩ := vals1 r
 cases rx
 have hn := mY
 rcases hq with hq | hq
 ·obtain ⟨its, r', pl, hz⟩ := I.list hq
  have hlen := r'.length
  exact Calls.call_len_list pl.isList (by simp only [List.size_toArray] <;> omega) ⟨.int ys.length, H, I.tok _, ⟨s.toks + 1, by rw [List.size_toArray, hlen]⟩, q⟩
 ·obtain ⟨its, r', pl, hz⟩ := I.tuple hq
  have hlen := r'.length
  exact len_tuple pl (by simp only [List.size_toArray] <;> omega) ⟨.int ys.length, H, I.tok _, ⟨s.toks + 1, by rw [List.size_toArray, hlen]⟩, q⟩
theorem uc : ji X (.builtin "len") (fun xs H Q => ∃ z, xs = [.str z] ∧ z.length ≤ sizeLine ∧ Q (.int z.length) H) := by
 intro pins s σ H xs us Q I r h
 obtain ⟨z, rfl, hz, q⟩ := h
 obtain ⟨u, rfl, t, rfl⟩ := vals1 r
 have hn := mY
 exact len_str (by omega) ⟨.int z.length, H, I.tok _, ⟨_, rfl⟩, q⟩
theorem ji.or {f : Value} {r r' : List V → Hp → VK → Prop} (h : ji X f r) (h' : ji X f r') : ji X f (fun xs H Q => r xs H Q ∨ r' xs H Q) := by
 intro pins s σ H xs us Q I rs q
 rcases q with q | q
 ·exact h pins s σ H xs us Q I rs q
 ·exact h' pins s σ H xs us Q I rs q
theorem sO : ji X (.type "list") (fun xs H Q => ∃ p ys, xs = [.ref p] ∧ (SqL X.K H p ys ∨ SqT X.K H p ys) ∧ ∀ l, H l = none → Q (.ref l) (upd H l (.lst ys))) := by
 intro pins s σ H xs us Q I r h
 obtain ⟨p, ys, rfl, hq, q⟩ := h
 obtain ⟨u, rfl, rx⟩ := vals1 r
 cases rx
 have fin : ∀ (its : List Value), Vals ys its → ys.length ≤ sizeLine → ∀ (h' : Heap) (c' : Nat), (∀ b o', s.heap.get? b = some o' → h'.get? b = some o') →
   h'.get? s.heap.objs.size = some { cls := .type "list", dict := none, data := .seq its.toArray c', slots := #[] } → EP X pins σ Q (.ref s.heap.objs.size) { s with heap := h' } := fun its r' hz h' c' kp e =>
  ⟨.ref s.heap.objs.size, _, I.laid (t' := s.toks) kp (Nat.le_refl _) (show fU X.prog X.w _ h' _ (.lst ys) from ⟨hz, its, c', r', e⟩), rfl, q _ (I.hok.fresh (Nat.le_refl _))⟩
 rcases hq with hq | hq
 ·obtain ⟨its, r', pl, hz⟩ := I.list hq
  have hlen := r'.length
  obtain ⟨o, ho, hc, n, hd⟩ := pl.isList
  exact call_list_seq p (.inl rfl) ho hc hd (fun h' c' kp e => fin its r' hz h' c' kp e) (by simp only [List.size_toArray] <;> omega)
 ·obtain ⟨its, r', pl, hz⟩ := I.tuple hq
  have hlen := r'.length
  obtain ⟨o, ho, hc, n, hd⟩ := pl
  exact call_list_seq p (.inr rfl) ho hc hd (fun h' c' kp e => fin its r' hz h' c' kp e) (by simp only [List.size_toArray] <;> omega)
theorem qK : ji X (.type "tuple") (fun xs H Q => ∃ p ys, xs = [.ref p] ∧ ((SqL X.K H p ys ∧ ∀ l, H l = none → Q (.ref l) (upd H l (.tup ys))) ∨ (SqT X.K H p ys ∧ Q (.ref p) H))) := by
 intro pins s σ H xs us Q I r h
 obtain ⟨p, ys, rfl, h⟩ := h
 obtain ⟨u, rfl, rx⟩ := vals1 r
 cases rx
 rcases h with ⟨hq, q⟩ | ⟨hq, q⟩
 ·obtain ⟨its, r', pl, hz⟩ := I.list hq
  have hlen := r'.length
  refine call_tuple_list pl.isList (fun h' kp => ?_) (by simp only [List.size_toArray] <;> omega)
  have I1 : Inv X pins σ H { s with heap := h' } := I.kept (t' := s.toks) kp
  have I2 : Inv X pins σ (upd H h'.objs.size (.tup ys)) { s with heap := h'.push { cls := .type "tuple", data := .seq its.toArray } } :=
   I1.laid (t' := s.toks) (fun b o e => Heap.get?_push_of_some _ e) (Nat.le_refl _) (show fU X.prog X.w _ _ _ (.tup ys) from ⟨hz, its, r', IsTup.new _ _⟩)
  exact ⟨.ref h'.objs.size, _, I2, rfl, q _ (I1.hok.fresh (Nat.le_refl _))⟩
 ·obtain ⟨its, r', pl, hz⟩ := I.tuple hq
  exact call_tuple_same pl ⟨.ref p, H, I, rfl, q⟩
def tyV (K : PySem.W.Frag) (T : String) (x : V) (H : Hp) : Prop := match x with
 | .str _ => T = "str"
 | .int _ => T = "int"
 | .ref p => (T = "list" ∧ ∃ xs, SqL K H p xs) ∨ (T = "tuple" ∧ ∃ o, K.lookup p = some o ∧ o.cls = .type "tuple" ∧ o.dict = none) ∨
   (T = "dict" ∧ ((∃ kvs, H p = some (.dK kvs)) ∨ ∃ kvs, H p = some (.dT kvs))) ∨ (T = "set" ∧ ∃ S n, H p = some (.set S n))
 | _ => False
theorem IW {pins : List (Addr × Obj)} {σ : St} {H : Hp} {s : Shared} {T : String} {x : V} {v : Value} (I : Inv X pins σ H s) (r : RelV x v) (ty : tyV X.K T x H) :
  s.TypeIs v T ∧ ∀ a, v = .ref a → ∃ ob, s.heap.get? a = some ob ∧ ob.dict = none := by
 cases x with
 | str z =>
  obtain ⟨t, rfl⟩ := r
  cases (show T = "str" from ty)
  exact ⟨typeIs_str s z t, fun _ e => nomatch e⟩
 | int i =>
  obtain ⟨t, rfl⟩ := r
  cases (show T = "int" from ty)
  exact ⟨typeIs_int s i t, fun _ e => nomatch e⟩
 | ref p =>
  cases r
  rcases ty with ⟨rfl, xs, hq⟩ | ⟨rfl, o, hk, hc, hd⟩ | ⟨rfl, hk⟩ | ⟨rfl, S, n, hk⟩
  ·obtain ⟨its, _, pl, _⟩ := I.list hq
   refine ⟨pl.isList.typeIs, fun a e => ?_⟩
   cases e
   obtain ⟨o, n, e, c, hd, _⟩ := pl
   exact ⟨o, e, hd⟩
  ·refine ⟨⟨o, I.kIn p o hk, hc⟩, fun a e => ?_⟩
   cases e
   exact ⟨o, I.kIn _ o hk, hd⟩
  ·have z : ∃ o, s.heap.get? p = some o ∧ o.ExactDict := by
    rcases hk with ⟨kvs, hk⟩ | ⟨kvs, hk⟩
    ·obtain ⟨_, _, _, _, o, _, _, e, ex, _⟩ := I.hok p _ hk
     exact ⟨o, e, ex⟩
    ·obtain ⟨_, _, _, _, o, _, _, e, ex, _⟩ := I.hok p _ hk
     exact ⟨o, e, ex⟩
   obtain ⟨o, e, ex⟩ := z
   refine ⟨⟨o, e, ex.1⟩, fun a e2 => ?_⟩
   cases e2
   exact ⟨o, e, ex.2.1⟩
  ·obtain ⟨o, _, _, _, e, ex, _⟩ := I.hok p _ hk
   refine ⟨⟨o, e, ex.1⟩, fun a e2 => ?_⟩
   cases e2
   exact ⟨o, e, ex.2.1⟩
 | _ => exact False.elim ty
def tBM (K : PySem.W.Frag) (T : String) (r : V → List V → Hp → VK → Prop) (to : TE) (t : TA) : TE := fun σ H Q => to σ H fun x H1 => tyV K T x H1 ∧ t σ H1 fun xs H2 => r x xs H2 Q
variable {o e : Expr} {es : List Expr} {to : TE} {t : TA} {name : Str} {apos cpos : Pos} {T id : String} {r : V → List V → Hp → VK → Prop}
theorem Fw (pa : PlainAttrs T) (slot : Slot T name id) (hty : typeOf (.builtin id) = pure (.type "method_descriptor")) (hm : MtR X id r) (ho : PE X o to) (ha : PA X (e :: es) t)
  (hbase : attributeBase o name X.env (eval o X.env) = eval o X.env := by rfl)
  (hfew : ((backTo cpos (starEach (e :: es) X.env)).all (fun x => !x.1) && (backToKw cpos (keywordEach [] X.env)).all (fun x => x.1.isSome)
   && decide ((e :: es).length + ([] : List Keyword).length + (if ([] : List Keyword).isEmpty then 0 else 1) < 30)) = true := by rfl)
  (hline : (apos.endLine == cpos.line) = true := by rfl) (hs : starEach (e :: es) X.env = (false, eval e X.env) :: starEach es X.env := by rfl) (hplain : (backTo cpos (starEach es X.env)).any (·.1) = false := by rfl) :
  PE X (.Call (.Attribute o name apos) (e :: es) [] cpos) (tBM X.K T r to t) := by
 intro pins s σ H Q I h
 refine wpAny_Call_method_late hbase hfew hline rfl (thn (ho pins s σ H _ I h) fun v s1 zq54 => ?_)
 obtain ⟨x, H1, I1, r1, ty, q1⟩ := zq54
 obtain ⟨h1, h2⟩ := IW I1 r1 ty
 refine ⟨T, id, pa, slot, hty, h1, h2, ?_⟩
 have hA := ha cpos pins s1 σ H1 _ I1 q1
 rw [hs] at hA ⊢
 refine Calls.callWith_builtin (by show (false || (backTo cpos (starEach es X.env)).any (·.1)) = false; rw [hplain] <;> rfl) (Calls.evalArgs_plain ?_)
 exact thn hA fun us s2 ⟨vs, H2, I2, r2, q2⟩ => hm pins s2 σ H2 x vs v us Q I2 r1 r2 q2
end
end L2
namespace L2
open PySem PySem.Spec PyProof.Rows
def MtM (X : Cx) (id : String) (r : V → List V → Hp → VK → Prop) : Prop :=
 ∀ (pins : List (Addr × Obj)) (s : Shared) (σ : St) (H : Hp) (x : V) (xs : List V) (v : Value) (us : List Value) (Q : VK), Inv X pins σ H s → RelV x v → Vals xs us → r x xs H Q →
  wpAny (model X.prog X.w) X.A (call (.builtin id) (v :: us)) (EP X pins σ Q) X.xe s
theorem Vals.one : ∀ {x : V} {us : List Value}, Vals [x] us → ∃ u, us = [u] ∧ RelV x u
 | _, _, .cons r .nil => ⟨_, rfl, r⟩
theorem Vals.eraseIdx : ∀ {xs : List V} {us : List Value} (i : Nat), Vals xs us → Vals (xs.eraseIdx i) (us.eraseIdx i)
 | _, _, _, .nil => .nil
 | _, _, 0, .cons _ t => t
 | _, _, i + 1, .cons r t => .cons r (Vals.eraseIdx i t)
theorem Vals.rep {xs : List V} {us : List Value} (h : Vals xs us) : ∀ k : Nat, Vals (List.replicate k xs).flatten (List.replicate k us).flatten
 | 0 => .nil
 | k + 1 => by
  rw [List.replicate_succ, List.replicate_succ, List.flatten_cons, List.flatten_cons]
  exact Vals.append h (Vals.rep h k)
theorem rE {α : Type} : ∀ (l : List α) (i : Nat), (l.eraseIdx i).length ≤ l.length
 | [], _ => Nat.le_refl _
 | _ :: _, 0 => Nat.le_succ _
 | _ :: r, i + 1 => Nat.succ_le_succ (rE r i)
theorem foldl_rep (its : List Value) : ∀ (k : Nat) (acc : List Value),
  List.foldl (fun x1 x2 => x1 ++ x2) acc.toArray (List.replicate k its.toArray) = (acc ++ (List.replicate k its).flatten).toArray
 | 0, acc => by simp
 | k + 1, acc => by
  have e : acc.toArray ++ its.toArray = (acc ++ its).toArray := by simp
  have e2 : (acc ++ its) ++ (List.replicate k its).flatten = acc ++ (List.replicate (k + 1) its).flatten := by
   rw [List.replicate_succ, List.flatten_cons, List.append_assoc]
  rw [← e2, ← foldl_rep its k (acc ++ its), ← e, List.replicate_succ, List.foldl_cons]
section
variable {X : Cx} {pins : List (Addr × Obj)} {σ : St} {H : Hp} {s : Shared} {l b : Addr} {xs ys zs : List V}
theorem Inv.lset {its its' : List Value} {n : Nat} {f : Array Value → Array Value} {t' : Nat} (I : Inv X pins σ H s) (hH : H l = some (.lst xs))
  (e : s.heap.get? l = some { cls := .type "list", data := .seq its.toArray n }) (hf : f its.toArray = its'.toArray) (hv : Vals ys its') (hz : ys.length ≤ sizeLine) :
  Inv X pins σ (upd H l (.lst ys)) { s with heap := s.heap.update l (Obj.mapSeq f), toks := t' } := by
 have q := PySem.IsL.update e f
 rw [hf] at q
 refine I.write (x := l) (e := l) (by rw [hH]; exact trivial) (.inl rfl) (fun b' u hb hu => (Heap.get?_update_other s.heap (Obj.mapSeq f) (Ne.symm hb)).trans hu) ⟨_, q⟩ ?_
 exact ⟨hz, its', _, hv, q⟩
theorem Inv.lnew {its : List Value} {t' : Nat} (I : Inv X pins σ H s) (hv : Vals ys its) (hz : ys.length ≤ sizeLine) :
  Inv X pins σ (upd H s.heap.objs.size (.lst ys)) { s with heap := s.heap.push { cls := .type "list", data := .seq its.toArray }, toks := t' } :=
 I.laid (fun _ _ q => Heap.get?_push_of_some _ q) (Nat.le_refl _) ⟨hz, its, 0, hv, Heap.get?_push_size _ rfl⟩
theorem Inv.fresh (I : Inv X pins σ H s) : H s.heap.objs.size = none := I.hok.fresh (Nat.le_refl _)
theorem Inv.lstM (I : Inv X pins σ H s) (hH : H l = some (.lst xs)) : xs.length ≤ sizeLine ∧ ∃ (its : List Value) (n : Nat), Vals xs its ∧ xs.length = its.length ∧ s.heap.get? l = some { cls := .type "list", data := .seq its.toArray n } := by
 obtain ⟨z, its, n, r, e⟩ := I.hok l _ hH
 exact ⟨z, its, n, r, r.length, e⟩
theorem vh {n : Nat} (h : n ≤ sizeLine) : Builtin.List.listTooLong n = false := by
 unfold Builtin.List.listTooLong
 exact decide_eq_false (by omega)
end
section
variable {X : Cx}
def Cv : V → List V → Hp → VK → Prop := fun x vs H Q => ∃ l xs y, x = .ref l ∧ vs = [y] ∧ H l = some (.lst xs) ∧ xs.length < sizeLine ∧ Q .non (upd H l (.lst (xs ++ [y])))
theorem yG : MtM X "list.append" Cv := by
 intro pins s σ H x vs v us Q I rx rv h
 obtain ⟨l, xs, y, rfl, rfl, hH, hz, q⟩ := h
 cases rx
 obtain ⟨u, rfl, ru⟩ := rv.one
 obtain ⟨z, its, n, r, hl, e⟩ := I.lstM hH
 refine call_meets F.slot_list_append ⟨_, e, rfl⟩ F.entry_list_append (F.args_list_append_2 _ _) (PySem.list_append l its.toArray n u (by rw [List.size_toArray]; omega)) ⟨e, ?_⟩
 refine ⟨.non, _, I.lset (its' := its ++ [u]) hH e (by simp) (r.append (.cons ru .nil)) ?_, rfl, q⟩
 rw [List.length_append, List.length_singleton]
 omega
def Fp : V → List V → Hp → VK → Prop := fun x vs H Q => ∃ l b xs zs, x = .ref l ∧ vs = [.ref b] ∧ H l = some (.lst xs) ∧ H b = some (.lst zs) ∧ xs.length + zs.length ≤ sizeLine ∧ Q .non (upd H l (.lst (xs ++ zs)))
theorem Jl : MtM X "list.extend" Fp := by
 intro pins s σ H x vs v us Q I rx rv h
 obtain ⟨l, b, xs, zs, rfl, rfl, hH, hB, hz, q⟩ := h
 cases rx
 obtain ⟨u, rfl, ru⟩ := rv.one
 cases ru
 obtain ⟨z, its, n, r, hl, e⟩ := I.lstM hH
 obtain ⟨z2, its2, n2, r2, hl2, e2⟩ := I.lstM hB
 have hsz : its.toArray.size + its2.toArray.size ≤ sizeLine := by rw [List.size_toArray, List.size_toArray]; omega
 have hlong : ¬ (!its.toArray.isEmpty && Builtin.List.listTooLong (its.toArray.size + its2.toArray.size)) = true := by
  rw [vh hsz, Bool.and_false]
  exact Bool.false_ne_true
 refine call_meets F.slot_list_extend ⟨_, e, rfl⟩ F.entry_list_extend (F.args_list_extend_2 _ _)
  (AutoSeq1.list_extend_list_list_0 l its.toArray n b its2.toArray n2 hlong (by rw [List.size_toArray]; omega) (by omega)) ⟨e, e2, ?_⟩
 refine ⟨.non, _, I.lset (its' := its ++ its2) hH e (by simp) (r.append r2) ?_, rfl, q⟩
 rw [List.length_append]
 omega
def GC : V → List V → Hp → VK → Prop := fun x vs H Q => ∃ l xs i k y, x = .ref l ∧ vs = [.int i] ∧ H l = some (.lst xs) ∧ -(2 ^ 63) ≤ i ∧ i < 2 ^ 63 ∧ seqIndex? i xs.length = some k ∧ xs[k]? = some y ∧ Q y (upd H l (.lst (xs.eraseIdx k)))
theorem Be : MtM X "list.pop" GC := by
 intro pins s σ H x vs v us Q I rx rv h
 obtain ⟨l, xs, i, k, y, rfl, rfl, hH, h1, h2, hk, hy, q⟩ := h
 cases rx
 obtain ⟨u, rfl, ru⟩ := rv.one
 obtain ⟨t, rfl⟩ := ru
 obtain ⟨z, its, n, r, hl, e⟩ := I.lstM hH
 obtain ⟨w, hw, rw'⟩ := r.get hy
 refine call_meets F.slot_list_pop ⟨_, e, rfl⟩ F.entry_list_pop (F.args_list_pop_2 _ _)
  (MeetsSeq.list_pop_at l its.toArray n i t k w (fitsIndex_both h1 h2) (by rw [List.size_toArray, ← hl]; exact hk) (by rw [← Array.getElem?_toList]; exact hw) (by rw [List.size_toArray]; omega)) ⟨e, ?_⟩
 refine ⟨y, _, I.lset (its' := its.eraseIdx k) hH e ?_ (r.eraseIdx k) ?_, rw', q⟩
 ·show its.toArray.eraseIdxIfInBounds k = (its.eraseIdx k).toArray
  rw [List.eraseIdxIfInBounds_toArray]
 ·have := rE xs k
  omega
def rCat : R2 := fun x y H Q => ∃ l b xs zs, x = .ref l ∧ y = .ref b ∧ H l = some (.lst xs) ∧ H b = some (.lst zs) ∧ xs.length + zs.length ≤ sizeLine ∧ ∀ p, H p = none → Q (.ref p) (upd H p (.lst (xs ++ zs)))
theorem Bj : OpR X (binaryOp .Add) rCat := by
 intro pins s σ H x y v u Q I rx ry h
 obtain ⟨l, b, xs, zs, rfl, rfl, hH, hB, hz, q⟩ := h
 cases rx
 cases ry
 obtain ⟨z, its, n, r, hl, e⟩ := I.lstM hH
 obtain ⟨z2, its2, n2, r2, hl2, e2⟩ := I.lstM hB
 refine PySem.P.add_list e e2 ?_ (by rw [List.size_toArray, List.size_toArray]; omega)
 have ea : its.toArray ++ its2.toArray = (its ++ its2).toArray := by simp
 rw [ea]
 exact ⟨.ref _, _, I.lnew (t' := s.toks) (r.append r2) (by rw [List.length_append]; omega), rfl, q _ I.fresh⟩
def rRep : R2 := fun x y H Q => ∃ l k xs, x = .ref l ∧ y = .int k ∧ H l = some (.lst xs) ∧ -(2 ^ 63) ≤ k ∧ k < 2 ^ 63 ∧ xs.length * k.toNat ≤ sizeLine ∧
 ∀ p, H p = none → Q (.ref p) (upd H p (.lst (List.replicate k.toNat xs).flatten))
theorem len_rep {α : Type} (xs : List α) (k : Nat) : (List.replicate k xs).flatten.length = k * xs.length := by
 induction k with
 | zero => simp
 | succ k ih => rw [List.replicate_succ, List.flatten_cons, List.length_append, ih, Nat.succ_mul, Nat.add_comm]
theorem Ik : OpR X (binaryOp .Mult) rRep := by
 intro pins s σ H x y v u Q I rx ry h
 obtain ⟨l, k, xs, rfl, rfl, hH, h1, h2, hz, q⟩ := h
 cases rx
 obtain ⟨t, rfl⟩ := ry
 obtain ⟨z, its, n, r, hl, e⟩ := I.lstM hH
 have hlen : its.toArray.size * k.toNat ≤ sizeLine := by rw [List.size_toArray, ← hl]; exact hz
 have hcap : ¬ its.toArray.size * k.toNat > (2 ^ 63 - 1) / 8 := by
  have : (sizeLine : Nat) ≤ (2 ^ 63 - 1) / 8 := by decide
  omega
 have hfit : ¬ (!Builtin.List.listFitsIndex k) = true := by
  rw [fitsIndex_both h1 h2]
  exact Bool.false_ne_true
 have hlong : ¬ Builtin.List.listTooLong (its.toArray.size * k.toNat) = true := by
  rw [vh hlen]
  exact Bool.false_ne_true
 have hnew : List.foldl (fun x1 x2 => x1 ++ x2) #[] (List.replicate (if its.toArray.isEmpty = true then 0 else k.toNat) its.toArray) = (List.replicate k.toNat its).flatten.toArray := by
  have f0 : ∀ m : Nat, List.foldl (fun x1 x2 => x1 ++ x2) #[] (List.replicate m its.toArray) = (List.replicate m its).flatten.toArray := fun m => by
   have := foldl_rep its m []
   rw [List.nil_append] at this
   exact this
  rw [f0]
  cases its with
  | nil => simp
  | cons a r' => rw [if_neg (by simp)]
 refine wpAny_binaryOp_repeat_ref (T := "list") (U := "int") (by decide) ⟨_, e, rfl⟩ (fun s' => typeIs_int s' k t) noFill_list_mul F.fills_int_mul F.slot_int_rmul repeat_list F.slot_int_index.lookup
  (call_meets F.slot_int_rmul (typeIs_int s k t) F.entry_int_rmul (F.args_int_rmul_2 _ _) (int___rmul___int_list k t l its.toArray n)
   ⟨e, rfl, ⟨_, e, rfl⟩, call_meets F.slot_list_mul ⟨_, e, rfl⟩ F.entry_list_mul (F.args_list_mul_2 _ _) (AutoListH.list___mul___list_int_3 l its.toArray n k t hfit hcap hlong) ⟨e, ?_⟩⟩)
 rw [hnew]
 exact ⟨.ref _, _, I.lnew (t' := s.toks) (r.rep k.toNat) (by rw [len_rep, Nat.mul_comm]; exact hz), rfl, q _ I.fresh⟩
end
section
variable {prog : Program} {w : World} {A : Around} {E : Value → Shared → Prop} {s : Shared}
end
section
variable {X : Cx}
end
end L2
namespace Att
open PySem PySem.W PySem.Calls PyProof.Rows
theorem ou {P : Params} {h : Heap} : ∀ (ns : List Int) (vs : List Value), WellAll P h vs (ns.map WData.int) → IntsAre vs ns := by
 intro ns
 induction ns with
 | nil =>
  intro vs w
  rw [List.map_nil] at w
  cases w
  exact .nil
 | cons n ns ih =>
  intro vs w
  rw [List.map_cons] at w
  cases w with
  | cons a b =>
   cases a
   exact .cons _ _ (ih _ b)
theorem yO {l : OpenLaw} {n : Nat} (hn : l.most = some n) {P : Params} {h : Heap} {args : List WData} {vals : List Value}
  (hpre : l.row.toRowW.claim.pre args = true) (hwl : WellAll P h vals args) :
  ∃ a vs ns, vals = [Value.ref a] ∧ args = [WData.list (ns.map WData.int)] ∧ h.get? a = some { cls := .type "list", data := .seq vs.toArray } ∧ IntsAre vs ns ∧ ns.length ≤ n := by
 have hsh : WShape.hasAll [] args [.list .int] = true := (pre_splitW hpre).1
 have hc : l.pre.holds [] { args := args } = true := (pre_splitW hpre).2
 obtain ⟨d, r, rfl, h1, h2⟩ := hasAllW_cons hsh
 obtain rfl := hasAllW_nil h2
 obtain ⟨xs, rfl, h3⟩ := hasW_list h1
 obtain ⟨ns, rfl⟩ := items_int h3
 have hlen : ns.length ≤ n := by
  unfold OpenLaw.pre at hc
  have h4 : (WTm.not (.lt (.lit (.int (n : Int))) (.len (.arg 0)))).holds [] { args := [.list (ns.map .int)] } = true := by
   have h4 := (holds_andW hc).1
   rw [hn] at h4
   exact h4
  have h5 := condW_of h4 (w_not (w_lt w_lit (w_len_list (w_arg rfl))))
  rw [List.length_map] at h5
  refine Nat.le_of_not_lt fun q => ?_
  have q' : (n : Int) < ((ns.length : Nat) : Int) := by omega
  first
   | (rw [decide_eq_true q'] at h5; exact absurd h5 (by decide))
   | (simp at h5; omega)
 cases hwl with
 | cons w1 w2 =>
  cases w2
  cases w1 with
  | list ho hall => exact ⟨_, _, ns, rfl, rfl, ho, ou ns _ hall, hlen⟩
theorem yU (l : OpenLaw) (args : List WData) : l.row.toRowW.claim.post args (.bool true) args = true :=
 postW_of (r := l.row.toRowW) (X := (true == true))
  (show WShape.has [] (.bool true) .bool = true by first | rfl | decide | simp [WShape.has, WShape.arms, WShape.armsAll])
  (show (WTm.eq .res (.lit (.bool true))).value [] { args := args, res := some (.bool true), after := args } = some (.bool (true == true)) from w_eq_bool (w_res rfl) w_lit) rfl
theorem attach_call {l : OpenLaw} {n : Nat} {q : Program} {loose : List Str} {XP : (Str → Option Value) → Heap → Prop} {YP : World → Heap → Prop} {d : DefRec}
  (hn : l.most = some n) (hdf : d.params.defaults = [])
  (call : ∀ (w : World) (s₀ s₁ : Shared) (mg mb : Str → Option Value) (fa : Addr) (o : Obj) (pm cd doc : Value) (a : Addr) (vs : List Value) (ns : List Int),
   Ground q loose [] XP w s₀ mg mb s₁.heap → YP w s₁.heap →
   s₁.heap.get? fa = some o → o.data = .func (docDef d.name d.params d.body d.scope pm cd doc) → s₁.heap.CodeRec cd d.name → mg d.name = some (.ref fa) →
   s₁.heap.get? a = some { cls := .type "list", data := .seq vs.toArray } → IntsAre vs ns → ns.length ≤ n → s₁.gens = #[] →
   codeAny (model l.prog w) callerA (.call (.ref fa) ⟨[.ref a], []⟩) (fun r s' => r = .ok (.ret (.bool true)) ∧ OldK s₁.heap s'.heap ∧ s'.os = s₁.os ∧ AllBare s'.gens) s₁) :
  WalkO q loose XP YP l.row.toRowW d [] (fun f vs => PySem.call f vs) := by
 intro w s₀ s₁ mg mb G Y fa o pm cd doc dV kV ho hd hcd hD hmg hg args vals as hpre hlay hrd hwl hlo
 obtain rfl : dV = .none := Dflts.none hD hdf
 obtain rfl : kV = .none := Dflts.noKw hD
 obtain ⟨a, vs, ns, rfl, rfl, hobj, hints, hlen⟩ := yO hn hpre hwl
 refine enter_call (codeAny_mono (call w s₀ s₁ mg mb fa o pm cd doc a vs ns G Y ho (fd_plain hd) hcd hmg hobj hints hlen hg) fun r s' hq => ?_)
 obtain ⟨rfl, h2, h3, h4⟩ := hq
 exact ⟨.inl ⟨.bool true, .bool true, [], rfl, fun _ => rfl, .bool true, yU l _, fun _ => ⟨List.Pairwise.nil, fun _ hm => (nomatch hm)⟩⟩, h2, h3, h4⟩
section
variable {prog : Program} {w : World} {A : Around} {E : Value → Shared → Prop} {s : Shared} {K : Frag}
end
end Att
namespace L2
open PySem PySem.Spec PyProof.Rows
theorem qT : ∀ {vs : List Value} {ns : List Int}, IntsAre vs ns → Vals (ns.map V.int) vs
 | _, _, .nil => .nil
 | _, _, .cons n t h => .cons ⟨t, rfl⟩ (qT h)
end L2
namespace L2
open PySem PySem.Spec PyProof.Rows
def iJ (s : Stmt) : Arguments := match s with
 | .FunctionDef _ a _ _ _ _ _ _ _ _ => a
 | _ => { posonlyargs := [], args := [], vararg := none, kwonlyargs := [], kw_defaults := [], kwarg := none, defaults := [] }
def gk (s : Stmt) : List Stmt := match s with
 | .FunctionDef _ _ b _ _ _ _ _ _ _ => b
 | _ => []
def aJ (s : Stmt) : Scope := match s with
 | .FunctionDef _ _ _ _ _ _ sc _ _ _ => sc
 | _ => { kind := .function, names := [], isGenerator := false, isCoroutine := false }
abbrev CX0 : CXT := fun _ _ _ _ _ _ => False
abbrev E0 : XK := fun _ _ _ => False
theorem JX {X : Cx} : wX CX0 X E0 := fun _ _ _ _ _ _ _ h => h.elim
section
variable {P : Program} {w : World} {K : PySem.W.Frag} {mg : Str → Option Value} {base : Heap}
end
section
variable {X : Cx}
end
def jC (H H' : Hp) : Prop := ∀ b o, H b = some o → H' b = some o
theorem jC.refl (H : Hp) : jC H H := fun _ _ h => h
theorem jC.trans {H H1 H2 : Hp} (a : jC H H1) (b : jC H1 H2) : jC H H2 := fun c o h => b c o (a c o h)
end L2
namespace L2
open PySem PySem.Spec PyProof.Rows
def uM (X : Cx) : List Nat → List Str → Prop
 | [], [] => True
 | i :: is, x :: xs => (X.N[i]? = some x ∧ (X.env.kindOf x = some .cell ∨ X.env.kindOf x = some .free)) ∧ uM X is xs
 | _, _ => False
theorem uM.length {X : Cx} : ∀ {is : List Nat} {xs : List Str}, uM X is xs → is.length = xs.length
 | [], [], _ => rfl
 | _ :: _, _ :: _, h => by rw [List.length_cons, List.length_cons, uM.length h.2]
theorem uM.get {X : Cx} : ∀ {is : List Nat} {xs : List Str} {j i : Nat}, uM X is xs → is[j]? = some i → ∃ x, xs[j]? = some x ∧ X.N[i]? = some x ∧ (X.env.kindOf x = some .cell ∨ X.env.kindOf x = some .free)
 | [], [], _, _, _, e => by simp at e
 | i :: is, x :: xs, 0, k, h, e => by
  simp at e; subst e
  exact ⟨x, rfl, h.1⟩
 | i :: is, x :: xs, j + 1, k, h, e => by
  obtain ⟨y, e1, e2⟩ := uM.get (j := j) (i := k) h.2 (by simpa using e)
  exact ⟨y, by simpa using e1, e2⟩
def pH (σ : St) (is : List Nat) : St := is.map fun i => (σ[i]?).join
theorem qY {σ : St} {is : List Nat} {j : Nat} {v : V} (e : (pH σ is)[j]? = some (some v)) : ∃ i, is[j]? = some i ∧ σ[i]? = some (some v) := by
 unfold pH at e
 rw [List.getElem?_map] at e
 cases q : is[j]? with
 | none => rw [q] at e; cases e
 | some i =>
  rw [q] at e
  have e1 : (σ[i]?).join = some v := by simpa using e
  cases q2 : σ[i]? with
  | none => rw [q2] at e1; cases e1
  | some o =>
   rw [q2] at e1
   have e2 : o = some v := e1
   subst e2
   exact ⟨i, rfl, q2⟩
def bY (env : Env) : List (Str × NameKind) → List (Str × Addr) → List (Str × Addr)
 | [], acc => acc
 | (n, k) :: r, acc => bY env r (if k == .free then (match env.cells.lookup n with | some c => (n, c) :: acc | none => acc) else acc)
theorem vm {env : Env} : ∀ (names : List (Str × NameKind)) (acc : List (Str × Addr)), (∀ y ∈ names, y.2 = .free → ∃ c, env.cells.lookup y.1 = some c) →
  (forIn names acc fun (p : Str × NameKind) (r : List (Str × Addr)) => if p.2 == .free then (do let c ← cellOf env p.1; pure (ForInStep.yield ((p.1, c) :: r))) else pure (ForInStep.yield r) : Sem (List (Str × Addr))) = pure (bY env names acc)
 | [], acc, _ => rfl
 | (n, k) :: r, acc, h => by
  have hr := vm (env := env) r
  rw [List.forIn_cons]
  unfold bY
  by_cases hk : (k == NameKind.free) = true
  ·obtain ⟨c, hc⟩ := h (n, k) List.mem_cons_self (by simpa using hk)
   simp only [hk, if_true]
   unfold cellOf
   simp only at hc
   rw [hc]
   simp only [pure_bind]
   exact hr _ fun y hy => h y (List.mem_cons_of_mem _ hy)
  ·simp only [hk]
   simp only [pure_bind, Bool.false_eq_true, if_false]
   exact hr _ fun y hy => h y (List.mem_cons_of_mem _ hy)
theorem iR {scope : Scope} {env : Env} (h : ∀ y ∈ scope.names, y.2 = .free → ∃ c, env.cells.lookup y.1 = some c) : closureFor scope env = pure (bY env scope.names []) := by
 have e := vm (env := env) scope.names [] h
 rw [← e]
 unfold closureFor
 simp only [bind_pure]
theorem kh {env : Env} : ∀ {names : List (Str × NameKind)} {acc : List (Str × Addr)} {p : Str × Addr}, p ∈ bY env names acc → p ∈ acc ∨ env.cells.lookup p.1 = some p.2
 | [], acc, p, h => .inl h
 | (n, k) :: r, acc, p, h => by
  unfold bY at h
  rcases kh h with h | h
  ·split at h
   ·split at h
    ·rename_i c hc
     rcases List.mem_cons.mp h with e | h
     ·subst e; exact .inr hc
     ·exact .inl h
    ·exact .inl h
   ·exact .inl h
  ·exact .inr h
theorem mX {env : Env} {x : Str} : ∀ {names : List (Str × NameKind)} {acc : List (Str × Addr)}, (∀ k, (x, k) ∈ names → k ≠ .free) → (bY env names acc).lookup x = acc.lookup x
 | [], acc, _ => rfl
 | (n, k) :: r, acc, h => by
  unfold bY
  rw [mX fun k hk => h k (List.mem_cons_of_mem _ hk)]
  by_cases hk : (k == NameKind.free) = true
  ·rw [if_pos hk]
   have hne : x ≠ n := by
    rintro rfl
    exact h k List.mem_cons_self (by simpa using hk)
   split
   ·rw [List.lookup_cons]
    have : (x == n) = false := by simpa using hne
    rw [this]
   ·rfl
  ·rw [if_neg hk]
theorem jK {env : Env} {x : Str} {c : Addr} (hc : env.cells.lookup x = some c) : ∀ {names : List (Str × NameKind)} {acc : List (Str × Addr)}, (x, NameKind.free) ∈ names ∨ acc.lookup x = some c → (bY env names acc).lookup x = some c
 | [], acc, h => by
  rcases h with h | h
  ·simp at h
  ·exact h
 | (n, k) :: r, acc, h => by
  unfold bY
  apply jK hc
  by_cases hr : (x, NameKind.free) ∈ r
  ·exact .inl hr
  ·right
   by_cases hx : x = n
   ·subst hx
    by_cases hk : (k == NameKind.free) = true
    ·rw [if_pos hk, hc]
     simp
    ·rw [if_neg hk]
     rcases h with h | h
     ·rcases List.mem_cons.mp h with e | h
      ·exfalso; apply hk
       cases e; rfl
      ·exact absurd h hr
     ·exact h
   ·have h' : acc.lookup x = some c := by
     rcases h with h | h
     ·rcases List.mem_cons.mp h with e | h
      ·cases e; exact absurd rfl hx
      ·exact absurd h hr
     ·exact h
    have hxn : (x == n) = false := by simpa using hx
    split
    ·split
     ·rw [List.lookup_cons, hxn]; exact h'
     ·exact h'
    ·exact h'
structure CO (lo : Nat) (h : Heap) (acc : List (Str × Addr)) : Prop where
 lt : ∀ p ∈ acc, p.2 < h.objs.size
 em : ∀ p ∈ acc, lo ≤ p.2 → h.IsCell p.2 none
 ap : ∀ p ∈ acc, ∀ q ∈ acc, p.2 = q.2 → lo ≤ p.2 → p.1 = q.1
theorem CO.go {lo : Nat} : ∀ (names : List (Str × NameKind)) (h : Heap) (acc : List (Str × Addr)), CO lo h acc → lo ≤ h.objs.size → CO lo (pushCells h names) (cellsFrom h.objs.size names acc)
 | [], h, acc, x, _ => x
 | (n, k) :: r, h, acc, x, hl => by
  unfold pushCells cellsFrom
  by_cases hk : (k == NameKind.cell) = true
  ·rw [if_pos hk, if_pos hk]
   have := CO.go (lo := lo) r (h.push { cls := .type "cell", data := .cell none }) ((n, h.objs.size) :: acc) ⟨fun p hp => ?_, fun p hp hlo => ?_, fun p hp q hq e hlo => ?_⟩ (by rw [Heap.size_push]; omega)
   ·rwa [Heap.size_push] at this
   ·rw [Heap.size_push]
    rcases List.mem_cons.mp hp with e | hp
    ·subst e; exact Nat.lt_succ_self _
    ·exact Nat.lt_succ_of_lt (x.lt p hp)
   ·rcases List.mem_cons.mp hp with e | hp
    ·subst e; exact ⟨_, Heap.get?_push_size _ rfl, rfl⟩
    ·exact (x.em p hp hlo).keeps fun b o e => Heap.get?_push_of_some _ e
   ·rcases List.mem_cons.mp hp with e1 | hp <;> rcases List.mem_cons.mp hq with e2 | hq
    ·subst e1; subst e2; rfl
    ·subst e1
     have e' : h.objs.size = q.2 := e
     exact absurd (x.lt q hq) (by rw [← e']; exact Nat.lt_irrefl _)
    ·subst e2
     have e' : p.2 = h.objs.size := e
     exact absurd (x.lt p hp) (by rw [e']; exact Nat.lt_irrefl _)
    ·exact x.ap p hp q hq e hlo
  ·rw [if_neg hk, if_neg hk]
   exact CO.go r h acc x hl
theorem ud : ∀ {names : List (Str × NameKind)} {m : Nat} {acc : List (Str × Addr)} {p : Str × Addr}, p ∈ cellsFrom m names acc → p ∈ acc ∨ m ≤ p.2
 | [], m, acc, p, h => .inl h
 | (n, k) :: r, m, acc, p, h => by
  unfold cellsFrom at h
  by_cases hk : (k == NameKind.cell) = true
  ·rw [if_pos hk] at h
   rcases ud h with h | h
   ·rcases List.mem_cons.mp h with e | h
    ·subst e; exact .inr (Nat.le_refl _)
    ·exact .inl h
   ·exact .inr (by omega)
  ·rw [if_neg hk] at h
   exact ud h
theorem vJ {x : Str} : ∀ {names : List (Str × NameKind)} {m : Nat} {acc : List (Str × Addr)}, (∀ k, (x, k) ∈ names → k ≠ .cell) → (cellsFrom m names acc).lookup x = acc.lookup x
 | [], m, acc, _ => rfl
 | (n, k) :: r, m, acc, h => by
  unfold cellsFrom
  by_cases hk : (k == NameKind.cell) = true
  ·rw [if_pos hk, vJ fun k hk => h k (List.mem_cons_of_mem _ hk), List.lookup_cons]
   have hne : x ≠ n := by
    rintro rfl
    exact h k List.mem_cons_self (by simpa using hk)
   have : (x == n) = false := by simpa using hne
   rw [this]
  ·rw [if_neg hk]
   exact vJ fun k hk => h k (List.mem_cons_of_mem _ hk)
section
variable {M : Model} {A : Around} {E : Value → Shared → Prop} {s : Shared}
theorem lq {scope : Scope} {globals : Addr} {closure : List (Str × Addr)} {qual : Str} {func : Option Addr} {code : Value} {around : Option Env} {builtins : Addr} {Q : Env → Shared → Prop}
  (h : Q (newEnv scope s.heap.objs.size globals (cellsFrom (s.heap.objs.size + 1) scope.names closure) qual func code around builtins)
   { s with heap := pushCells (s.heap.push { cls := .type (if around.isSome then "dict" else "frame"), data := .dict #[] }) scope.names }) :
  wpAny M A (newFunctionEnv scope globals closure [] qual func code around builtins) Q E s := by
 simp only [newFunctionEnv]
 refine wpAny_bind (wpAny_alloc ?_)
 refine wpAny_bind (wpAny_layCells _ (fun name kind cells => by cases hkc : kind == NameKind.cell <;> simp [hkc]) _ _ _ _ ?_)
 rw [List.forIn_nil]
 refine wpAny_bind (wpAny_pure (wpAny_pure ?_))
 have e : (s.heap.push ({ cls := .type (if around.isSome then "dict" else "frame"), data := .dict #[] } : Obj)).objs.size = s.heap.objs.size + 1 := Heap.size_push ..
 rw [← e] at h
 cases around <;> exact h
end
end L2
namespace L2
open PySem PySem.Spec PyProof.Rows
structure eN (X : Cx) (own cap : List Str) (capI : List Nat) (scope : Scope) : Prop where
 kind : scope.kind = .function
 nd : (scope.names.map (·.1)).Nodup
 caps : uM X capI cap
 fre : ∀ y ∈ scope.names, y.2 = .free → y.1 ∈ cap
 cfr : ∀ x ∈ cap, (x, NameKind.free) ∈ scope.names
theorem pK {x : Str} {k k' : NameKind} : ∀ {names : List (Str × NameKind)}, (names.map (·.1)).Nodup → (x, k) ∈ names → (x, k') ∈ names → k = k'
 | [], _, h, _ => by simp at h
 | p :: r, nd, h1, h2 => by
  rw [List.map_cons, List.nodup_cons] at nd
  rcases List.mem_cons.mp h1 with e1 | h1 <;> rcases List.mem_cons.mp h2 with e2 | h2
  ·rw [← e2] at e1; exact (Prod.mk.inj e1).2
  ·exact absurd (by rw [← e1]; exact List.mem_map.mpr ⟨_, h2, rfl⟩) nd.1
  ·exact absurd (by rw [← e2]; exact List.mem_map.mpr ⟨_, h1, rfl⟩) nd.1
  ·exact pK nd.2 h1 h2
theorem cT {α : Type} {x : Str} {k : α} : ∀ {names : List (Str × α)}, (names.map (·.1)).Nodup → (x, k) ∈ names → names.lookup x = some k
 | [], _, h => by simp at h
 | (n, k') :: r, nd, h => by
  rw [List.map_cons, List.nodup_cons] at nd
  rw [List.lookup_cons]
  rcases List.mem_cons.mp h with e | hr
  ·cases e; simp
  ·have hne : x ≠ n := by
    intro e
    subst e
    exact nd.1 (List.mem_map.mpr ⟨_, hr, rfl⟩)
   have : (x == n) = false := by simpa using hne
   rw [this]
   exact cT nd.2 hr
theorem nZ {scope : Scope} {env : Env} {x : Str} {k : NameKind} (h : (x, k) ∈ (relabel scope env).names) : (x, k) ∈ scope.names ∨ (k = .cell ∧ (x, NameKind.free) ∈ scope.names) := by
 unfold relabel at h
 obtain ⟨⟨n, k'⟩, hm, e⟩ := List.mem_map.mp h
 dsimp only at e
 split at e
 ·rename_i hc
  cases e
  have hk : k' = NameKind.free := by
   simp only [Bool.and_eq_true, beq_iff_eq] at hc
   exact hc.1.1
  subst hk
  exact .inr ⟨rfl, hm⟩
 ·cases e; exact .inl hm
theorem sH {scope : Scope} {env : Env} : (relabel scope env).names.map (·.1) = scope.names.map (·.1) := by
 unfold relabel
 rw [List.map_map]
 apply List.map_congr_left
 rintro ⟨n, k⟩ _
 show (if _ then (n, NameKind.cell) else (n, k)).1 = n
 split <;> rfl
theorem sU {scope : Scope} {env : Env} {x : Str} (nd : (scope.names.map (·.1)).Nodup) (h : (x, NameKind.free) ∈ scope.names) : (relabel scope env).names.lookup x = some .cell ∨ (relabel scope env).names.lookup x = some .free := by
 have nd' : ((relabel scope env).names.map (·.1)).Nodup := by rw [sH]; exact nd
 by_cases hc : (NameKind.free == NameKind.free && env.scope.kind == .function && env.kindOf x == some .cell) = true
 ·left
  refine cT nd' ?_
  unfold relabel
  refine List.mem_map.mpr ⟨(x, NameKind.free), h, ?_⟩
  dsimp only
  rw [if_pos hc]
 ·right
  refine cT nd' ?_
  unfold relabel
  refine List.mem_map.mpr ⟨(x, NameKind.free), h, ?_⟩
  dsimp only
  rw [if_neg hc]
def cQ (X : Cx) (own cap : List Str) (scope : Scope) (cs : List (Str × Addr)) (C : Addr) (fp : List Addr) (s2 : Shared) (H2 : Hp) : Cx where
 prog := X.prog
 w := X.w
 K := X.K
 mg := X.mg
 base := X.base
 A := X.A
 N := own ++ cap
 s₀ := s2
 H₀ := H2
 env := compEnvC scope cs C X.env
 outer := X.stack
 stack := X.stack
 ex := fp
 fn := fun x => own.contains x
 calm := X.calm
 pn := []
 xe := fun _ _ => False
def bV (own : List Str) (σ : St) (capI : List Nat) : St := List.replicate own.length none ++ pH σ capI
section
variable {X : Cx} {pins : List (Addr × Obj)} {σ : St} {H : Hp} {s : Shared} {own cap : List Str} {capI : List Nat} {scope : Scope}
theorem eN.cells (B : eN X own cap capI scope) (I : Inv X pins σ H s) : ∀ y ∈ scope.names, y.2 = .free → ∃ c, X.env.cells.lookup y.1 = some c := fun y hy e => by
 have hm := B.fre y hy e
 obtain ⟨j, hj⟩ := List.getElem?_of_mem hm
 have hlt : j < capI.length := by rw [B.caps.length]; exact (List.getElem?_eq_some_iff.mp hj).1
 obtain ⟨x, e1, _, k⟩ := B.caps.get (j := j) (i := capI[j]) (by simp [hlt])
 rw [hj] at e1
 cases e1
 exact I.ok.has _ k
theorem Inv.comp {fp : List Addr} {h0 h1 : Heap} {C : Addr} {tk : Nat} (I : Inv X pins σ H s) (B : eN X own cap capI scope) (hown : ∀ x ∈ own, (x, NameKind.free) ∉ scope.names) (hf : ∀ b ∈ fp, jd X pins H b) (ho : ∀ b ∈ fp, ∃ o, s.heap.get? b = some o)
  (hk0 : ∀ b o, s.heap.get? b = some o → h0.get? b = some o) (hsz : s.heap.objs.size ≤ h0.objs.size) (hC : C = h0.objs.size) (h1e : h1 = pushCells (h0.push { cls := .type "dict", data := .dict #[] }) scope.names) :
  Inv (cQ X own cap scope (cellsFrom (C + 1) scope.names (bY X.env scope.names [])) C fp s H) [] (bV own σ capI) H { s with heap := h1, toks := tk } := by
 have hCs : s.heap.objs.size ≤ C := by rw [hC]; exact hsz
 have hpush : (h0.push ({ cls := .type "dict", data := .dict #[] } : Obj)).objs.size = C + 1 := by rw [hC]; exact Heap.size_push ..
 have keep1 : ∀ b o, h0.get? b = some o → h1.get? b = some o := fun b o e => by rw [h1e]; exact pushCells_keeps _ _ _ _ (Heap.get?_push_of_some _ e)
 have keep : ∀ b o, s.heap.get? b = some o → h1.get? b = some o := fun b o e => keep1 b o (hk0 b o e)
 have hCo : h1.get? C = some { cls := .type "dict", data := .dict #[] } := by
  rw [h1e]
  refine pushCells_keeps _ _ _ _ ?_
  rw [hC]; exact Heap.get?_push_size _ rfl
 have clo_old : ∀ p ∈ bY X.env scope.names [], X.env.cells.lookup p.1 = some p.2 := fun p hp => (kh hp).elim (fun z => by simp at z) id
 have old_lt : ∀ x c, X.env.cells.lookup x = some c → c < s.heap.objs.size := fun x c e => let ⟨v, q⟩ := I.cell x c e; q.lt
 have co0 : CO (C + 1) (h0.push { cls := .type "dict", data := .dict #[] }) (bY X.env scope.names []) := by
  refine ⟨fun p hp => ?_, fun p hp hlo => ?_, fun p hp q hq e hlo => ?_⟩
  ·rw [hpush]; exact Nat.lt_succ_of_lt (Nat.lt_of_lt_of_le (old_lt _ _ (clo_old p hp)) hCs)
  ·exact absurd (Nat.lt_of_lt_of_le (old_lt _ _ (clo_old p hp)) (Nat.le_trans hCs (Nat.le_trans (Nat.le_succ _) hlo))) (Nat.lt_irrefl _)
  ·exact absurd (Nat.lt_of_lt_of_le (old_lt _ _ (clo_old p hp)) (Nat.le_trans hCs (Nat.le_trans (Nat.le_succ _) hlo))) (Nat.lt_irrefl _)
 have co := CO.go scope.names _ _ co0 (by rw [hpush]; exact Nat.le_refl _)
 rw [hpush, ← h1e] at co
 have csm : ∀ x c, (cellsFrom (C + 1) scope.names (bY X.env scope.names [])).lookup x = some c → (X.env.cells.lookup x = some c ∧ c < s.heap.objs.size) ∨ (C + 1 ≤ c ∧ h1.IsCell c none) := fun x c e => by
  have hm := PySem.mem_of_lookup e
  rcases ud hm with z | z
  ·have q := clo_old _ z
   exact .inl ⟨q, old_lt _ _ q⟩
  ·exact .inr ⟨z, co.em _ hm z⟩
 have fresh : ∀ b, s.heap.objs.size ≤ b → H b = none := fun b hb => I.hok.fresh hb
 have eout : (cQ X own cap scope (cellsFrom (C + 1) scope.names (bY X.env scope.names [])) C fp s H).fs = frs X.stack := rfl
 refine ⟨⟨I.ok.mod, ?_, I.ok.glob, I.ok.blt, hCs, ?_, ?_, ?_, I.ok.hd, I.ok.frames, .inl rfl, ?_, I.bs, Nat.le_trans I.ok.bsz I.sz, ?_, ?_, I.stack, I.stkFree⟩, rfl, I.bare.again, Un.kept keep, ?_, ?_, fresh C hCs, ?_, ?_, I.hok.kept keep, ?_⟩
 ·exact B.kind
 ·
  intro x y c e1 e2
  have e1' : (cellsFrom (C + 1) scope.names (bY X.env scope.names [])).lookup x = some c := e1
  have e2' : (cellsFrom (C + 1) scope.names (bY X.env scope.names [])).lookup y = some c := e2
  rcases csm x c e1' with ⟨z1, l1⟩ | ⟨z1, _⟩
  ·rcases csm y c e2' with ⟨z2, _⟩ | ⟨z2, _⟩
   ·exact I.ok.inj x y c z1 z2
   ·exact absurd (Nat.lt_of_lt_of_le l1 (Nat.le_trans hCs (Nat.le_trans (Nat.le_succ _) z2))) (Nat.lt_irrefl _)
  ·exact co.ap _ (PySem.mem_of_lookup e1') _ (PySem.mem_of_lookup e2') rfl z1
 ·
  intro x hx
  have hx' : (relabel scope X.env).names.lookup x = some .cell ∨ (relabel scope X.env).names.lookup x = some .free := hx
  have hm : (x, NameKind.cell) ∈ scope.names ∨ (x, NameKind.free) ∈ scope.names := by
   rcases hx' with e | e
   ·rcases nZ (PySem.mem_of_lookup e) with q | q
    ·exact .inl q
    ·exact .inr q.2
   ·rcases nZ (PySem.mem_of_lookup e) with q | q
    ·exact .inr q
    ·cases q.1
  rcases hm with q | q
  ·exact Option.isSome_iff_exists.mp (PySem.W.cellsFrom_some scope.names (C + 1) _ (.inl (cT B.nd q)))
  ·obtain ⟨c, hc⟩ := B.cells I _ q rfl
   exact Option.isSome_iff_exists.mp (PySem.W.cellsFrom_some scope.names (C + 1) _ (.inr (by rw [jK hc (.inl q)]; rfl)))
 ·
  intro x c hx e
  have e' : (cellsFrom (C + 1) scope.names (bY X.env scope.names [])).lookup x = some c := e
  have hxo : x ∈ own := by simpa [cQ] using hx
  rcases ud (PySem.mem_of_lookup e') with z | z
  ·exfalso
   have nf := hown x hxo
   have : (bY X.env scope.names []).lookup x = none := by
    rw [mX fun k hk => by rintro rfl; exact nf hk]; rfl
   have hl : (cellsFrom (C + 1) scope.names (bY X.env scope.names [])).lookup x = some c := e'
   have q : ∀ (l : List (Str × Addr)), (x, c) ∈ l → l.lookup x ≠ none := by
    intro l
    induction l with
    | nil => intro h; simp at h
    | cons p r ih =>
     intro h
     obtain ⟨n, d⟩ := p
     rw [List.lookup_cons]
     by_cases hn : (x == n) = true
     ·rw [hn]; simp
     ·have hn' : (x == n) = false := by simpa using hn
      rw [hn']
      rcases List.mem_cons.mp h with e | h
      ·cases e; simp at hn'
      ·exact ih h
   exact q _ z this
  ·exact Nat.le_trans hCs (Nat.le_trans (Nat.le_succ _) z)
 ·
  intro b hb
  obtain ⟨o, hbo⟩ := ho b hb
  have hlt := Heap.lt_size hbo
  refine ⟨Nat.ne_of_lt (Nat.lt_of_lt_of_le hlt hCs), fun x c e => ?_⟩
  rcases csm x c e with ⟨z, _⟩ | ⟨z, _⟩
  ·exact (hf b hb).2.2.2.2.1 x c z
  ·exact Nat.ne_of_gt (Nat.lt_of_lt_of_le hlt (Nat.le_trans hCs (Nat.le_trans (Nat.le_succ _) z)))
 ·
  intro b o e hb
  rcases (hf b hb).2.2.2.1 with z | z
  ·exact I.ok.noex b o e z
  ·exact absurd (Nat.lt_of_lt_of_le (Heap.lt_size e) (Nat.le_trans I.ok.bsz z)) (Nat.lt_irrefl _)
 ·
  intro b hb hz
  rcases List.mem_cons.mp (I.stkSub b hz) with z | z
  ·exact (hf b hb).2.1 z
  ·exact (hf b hb).2.2.1 z
 ·
  obtain ⟨m, hn, hl⟩ := I.loc
  refine ⟨fun _ => none, ⟨_, #[], 0, hCo, rfl, by intro e he; simp at he, fun _ => rfl⟩, fun i x v e1 e2 hv => ?_⟩
  have e2' : (bV own σ capI)[i]? = some (some v) := e2
  have e1' : (own ++ cap)[i]? = some x := e1
  unfold bV at e2'
  by_cases hi : i < own.length
  ·rw [List.getElem?_append_left (by simpa using hi), List.getElem?_replicate] at e2'
   split at e2' <;> cases e2'
  ·rw [List.getElem?_append_right (by simpa using hi)] at e2'
   rw [List.getElem?_append_right (by simpa using hi)] at e1'
   rw [List.length_replicate] at e2'
   obtain ⟨i0, q1, q2⟩ := qY e2'
   obtain ⟨y, q3, q4, q5⟩ := B.caps.get q1
   rw [e1'] at q3
   cases q3
   have hxf : (x, NameKind.free) ∈ scope.names := B.cfr x (List.mem_of_getElem? e1')
   have vis : Vis X.env.scope x := by
    rcases q5 with q5 | q5
    ·exact .inr (.inl q5)
    ·exact .inr (.inr q5)
   obtain ⟨u, ru, lk⟩ := hl i0 x v q4 q2 vis
   refine ⟨u, ru, .inr ⟨sU B.nd hxf, ?_⟩⟩
   rcases lk with ⟨k, _⟩ | ⟨_, c, ec, hc⟩
   ·rcases q5 with q5 | q5 <;> rw [k] at q5 <;> cases q5
   ·refine ⟨c, ?_, hc.keeps keep⟩
    show (cellsFrom (C + 1) scope.names (bY X.env scope.names [])).lookup x = some c
    rw [vJ fun k hk => ?_]
    ·exact jK ec (.inl hxf)
    ·rintro rfl
     cases pK B.nd hk hxf
 ·
  intro x c e
  rcases csm x c e with ⟨z, _⟩ | ⟨_, z⟩
  ·obtain ⟨v, q⟩ := I.cell x c z
   exact ⟨v, q.keeps keep⟩
  ·exact ⟨none, z⟩
 ·
  intro x c e
  rcases csm x c e with ⟨z, _⟩ | ⟨z, _⟩
  ·exact I.freeC x c z
  ·exact fresh c (Nat.le_trans hCs (Nat.le_trans (Nat.le_succ _) z))
 ·intro p hp
  exact absurd (show p ∈ ([] : List (Addr × Obj)) from hp) (by simp)
 ·show (bV own σ capI).length = (own ++ cap).length
  unfold bV pH
  rw [List.length_append, List.length_append, List.length_replicate, List.length_map, B.caps.length]
end
end L2
namespace L2
open PySem PySem.Spec PyProof.Rows
section
variable {prog : Program} {w : World} {A : Around} {R : Result → Shared → Prop} {s : Shared}
theorem qU {elt target iter : Expr} {ifs : List Expr} {scope : Scope} {pos : Pos} {it acc : Value} {env : Env} {E' : Value → Shared → Prop} (I : Nat → Shared → Prop)
  (hE : ∀ e s', E' e s' → notedBy (model prog w) A env (fun e s' => R (.error e) s') e s')
  (turn : ∀ n s, I n s → wpAny (model prog w) A (pyNext it) (fun r s₁ => match r with
   | none => R (.ok .next) s₁
   | some v => wpAny (model prog w) A (letOwnedTupleGo target it v) (fun _ s₂ => wpAny (model prog w) A (assign target env v) (fun _ s₃ =>
     wpAny (model prog w) A (forIn ifs true fun c r => if r = true then do let ok ← isTrue c env (eval c env); pure (ForInStep.yield ok) else pure (ForInStep.yield r)) (fun ok s₄ =>
      if ok = true then wpAny (model prog w) A (eval elt env) (fun x s₅ =>
       wpAny (model prog w) A (call (.builtin "list.append") [acc, x]) (fun _ s₆ => ∃ m, m < n ∧ I m s₆) E' s₅) E' s₄
      else ∃ m, m < n ∧ I m s₄) E' s₃) E' s₂) E' s₁) E' s)
  (n : Nat) (h : I n s) :
  codeAny (model prog w) A (.compLoop (.ListComp elt [⟨target, iter, ifs, 0⟩] scope pos) 0 it acc env) R s := by
 refine codeAny_loop rfl I (fun n s hI => ?_) n h
 show wpAny _ A ((compTurn (.ListComp elt [⟨target, iter, ifs, 0⟩] scope pos) 0 it acc env).onRaise (fun x => do noteFrame x env; theTreesLotGoes x)) _ _ s
 refine wpAny_noted ?_
 rw [compTurn_list]
 refine wpAny_bind (wpAny_standAt (wpAny_bind (wpAny_mono (turn n s hI) (fun r s₁ h₁ => ?_) hE)))
 cases r with
 | none => exact wpAny_pure h₁
 | some v =>
  refine wpAny_bind (wpAny_mono h₁ (fun _ s₂ h₂ => ?_) hE)
  refine wpAny_bind (wpAny_mono h₂ (fun _ s₂ h₂ => wpAny_bind (wpAny_mono h₂ (fun ok s₃ h₃ => ?_) hE)) hE)
  cases ok with
  | false => exact wpAny_pure ⟨rfl, h₃⟩
  | true =>
   exact wpAny_bind (wpAny_bind (wpAny_mono h₃ (fun x s₄ h₄ => wpAny_bind (wpAny_mono h₄ (fun _ s₅ h₅ => wpAny_pure (wpAny_pure ⟨rfl, h₅⟩)) hE)) hE))
end
def PIf (X : Cx) (ifs : List Expr) (t : TT) : Prop :=
 ∀ (pins : List (Addr × Obj)) (s : Shared) (σ : St) (H : Hp) (Q : Bool → Hp → Prop), Inv X pins σ H s → t σ H Q →
  wpAny (model X.prog X.w) X.A (forIn ifs true fun c r => if r = true then do let ok ← isTrue c X.env (eval c X.env); pure (ForInStep.yield ok) else pure (ForInStep.yield r)) (TP X pins σ Q) X.xe s
def tYes : TT := fun _ H Q => Q true H
section
variable {X : Cx} {c : Expr} {t : TT}
theorem CK : PIf X [] tYes := fun _ _ _ H _ I h => wpAny_tests_nil ⟨H, I, h⟩
theorem CV (h : PT X c t) : PIf X [c] t := fun pins s σ H Q I hq => wpAny_tests_one (h pins s σ H Q I hq)
end
def Fits (a b : St) : Prop := b.length = a.length ∧ ∀ (i : Nat) v, a[i]? = some (some v) → b[i]? = some (some v)
def tLC (own : List Str) (capI : List Nat) (wi : TI) (g : TG) (tt : TT) (te : TE) : TE := fun σ H Q => wi σ H fun J H1 => ∃ W : Nat → Nat → List V → Hp → Prop, (∃ m, W 0 m [] H1) ∧ ∀ i m ys H, W i m ys H →
 (J.stop i H ∧ ∀ l, H l = none → Q (.ref l) (upd H l (.lst ys))) ∨
 (J.go i H ∧ ys.length < sizeLine ∧ ∀ x H', J.yld i H x H' → g x (bV own σ capI) H' fun σ2 H2 => Fits (bV own σ capI) σ2 ∧ tt σ2 H2 fun b H3 =>
  if b = true then te σ2 H3 (fun y H4 => ∃ m', m' < m ∧ W (i + 1) m' (ys ++ [y]) H4) else ∃ m', m' < m ∧ W (i + 1) m' ys H3)
abbrev bB (us : List Value) (k : Nat) : Obj := { cls := .type "list", data := .seq us.toArray k }
section
variable {X : Cx} {tg iter elt : Expr} {ifs : List Expr} {wi : TI} {g : TG} {tt : TT} {te : TE} {own cap : List Str} {capI : List Nat} {scope : Scope} {pos : Pos}
theorem Inv.compEnd {X' : Cx} {pins pins' : List (Addr × Obj)} {σ σ' : St} {H H2 : Hp} {s2 s1 : Shared} {fp : List Addr} {l C : Addr} {ys : List V} {us : List Value} {k : Nat} {h' : Heap}
  (I2 : Inv X pins σ H2 s2) (f2 : ∀ b ∈ fp, jd X pins H2 b) (hP : X'.prog = X.prog) (hw : X'.w = X.w) (hfs : X'.fs = frs X.stack) (hex : X'.ex = fp) (hs : X'.s₀ = s2) (hH : X'.H₀ = H2) (hC : X'.env.locals = C)
  (I : Inv X' pins' σ' H s1) (hl : s2.heap.objs.size ≤ l) (hlC : l ≠ C) (hCs : s2.heap.objs.size ≤ C) (ho : s1.heap.get? l = some (bB us k)) (hn : H l = none) (hv : Vals ys us) (hz : ys.length ≤ sizeLine)
  (sb : Heap.SameBut C s1.heap h') : Inv X pins σ (upd H l (.lst ys)) { s1 with heap := h' } := by
 subst hs hH hC
 have ne2 : ∀ b o, X'.s₀.heap.get? b = some o → b ≠ X'.env.locals ∧ b ≠ l := fun b o e => ⟨Nat.ne_of_lt (Nat.lt_of_lt_of_le (Heap.lt_size e) hCs), Nat.ne_of_lt (Nat.lt_of_lt_of_le (Heap.lt_size e) hl)⟩
 have ub := I.base
 rw [hfs, hex] at ub
 have nl : ∀ b u, H b = some u → b ≠ l := fun b u e z => by rw [z, hn] at e; cases e
 have nC : ∀ b u, H b = some u → b ≠ X'.env.locals := fun b u e z => by rw [z, I.free] at e; cases e
 refine I2.call' (ch := fp) (s' := { s1 with heap := h' }) I.os ⟨fun b o e n hb hx => ?_, fun b o e n hb hx => ?_, fun b o e n hx => ?_, fun b o e hx => ?_, fun b xs e => ?_, fun b o u e => ?_, fun b ps e => ?_⟩ ?_ I.bare fun b hb => ?_
 ·exact (sb.2 b (ne2 b o e).1).trans (ub.keep b o e n hb hx)
 ·obtain ⟨sl, q⟩ := ub.slot b o e n hb hx
  exact ⟨sl, (sb.2 b (ne2 b o e).1).trans q⟩
 ·rw [aK (ne2 b o e).2]
  exact ub.free b o e n hx
 ·obtain ⟨o', q⟩ := ub.there b o e hx
  exact ⟨o', (sb.2 b (ne2 b o e).1).trans q⟩
 ·have q := ub.tups b xs e
  rw [aK (nl b _ q)]; exact q
 ·have q := ub.frzs b o u e
  rw [aK (nl b _ q)]; exact q
 ·obtain ⟨more, q⟩ := ub.tbls b ps e
  exact ⟨more, by rw [aK (nl b _ q)]; exact q⟩
 ·intro a o e
  have hok := I.hok
  rw [hP, hw] at hok
  by_cases ha : a = l
  ·subst ha
   rw [dM] at e
   cases e
   exact ⟨hz, us, k, hv, (sb.2 a hlC).trans ho⟩
  ·rw [aK ha] at e
   refine (hok a o e).stay (fun b u hb q => (sb.2 b ?_).trans q) (fun b q => by rw [aK (nl b _ q)]; exact q) fun b xs q => by rw [aK (nl b _ q)]; exact q
   rcases hb with z | z
   ·rw [z]; exact nC a o e
   ·exact nC b _ z
 ·obtain ⟨q0, q1, q2, q3, q4, q5⟩ := f2 b hb
  exact ⟨q3.imp id fun z => z, q1, q4, q5⟩
theorem KH (hc : X.calm = true) (B : eN X own cap capI scope) (hown : ∀ x ∈ own, (x, NameKind.free) ∉ scope.names) (hi : PI X tg iter wi)
  (hg : ∀ cs C fp s2 H2, PG (cQ X own cap scope cs C fp s2 H2) tg g) (ht : ∀ cs C fp s2 H2, PIf (cQ X own cap scope cs C fp s2 H2) ifs tt) (he : ∀ cs C fp s2 H2, PE (cQ X own cap scope cs C fp s2 H2) elt te)
  (hs : ∀ x, foldedSetIterable iter X.env x = pure x := by intro _; rfl) : PE X (.ListComp elt [⟨tg, iter, ifs, 0⟩] scope pos) (tLC own capI wi g tt te) := by
 intro pins s σ H Q I h
 rw [eval_ListComp]
 refine wpAny_comprehension_free (use := none) (cl := bY X.env scope.names []) rfl hs (iR (B.cells I)) B.kind (fun y hy e => cT B.nd (by rw [← e]; exact hy)) ?_
 refine thn (hi pins s σ H _ I h) fun v s1 h1 => thn h1 fun itv s2 h2 => ?_
 obtain ⟨it, fp, tn, J, H2, e, I2, T, st2, f2, W, ⟨m0, w0⟩, turn⟩ := h2
 subst e
 refine wpAny_newObj_type (lq ?_)
 dsimp only
 generalize hl : s2.heap.objs.size = l
 generalize hh0 : s2.heap.push { cls := .type "list", dict := none, data := .seq ([] : List Value).toArray } = h0
 have hsz0 : h0.objs.size = l + 1 := by rw [← hh0, Heap.size_push, hl]
 generalize hC : h0.objs.size = C
 generalize hh1 : pushCells (h0.push { cls := .type (if (some X.env).isSome = true then "dict" else "frame"), data := .dict #[] }) scope.names = h1
 have hl0 : h0.get? l = some (bB [] 0) := by rw [← hh0, ← hl]; exact Heap.get?_push_size _ rfl
 have hk0 : ∀ b o, s2.heap.get? b = some o → h0.get? b = some o := fun b o e => by rw [← hh0]; exact Heap.get?_push_of_some _ e
 have hlC : l ≠ C := by rw [← hC, hsz0]; exact Nat.ne_of_lt (Nat.lt_succ_self _)
 have hls : s2.heap.objs.size ≤ l := Nat.le_of_eq hl
 have hCs : s2.heap.objs.size ≤ C := by rw [← hC, hsz0, hl]; exact Nat.le_succ _
 have ho2 : ∀ b ∈ fp, ∃ o, s2.heap.get? b = some o := fun b hb => let ⟨o, e, _⟩ := T.obj 0 _ st2 b hb; ⟨o, e⟩
 have hfl : ∀ b ∈ fp, b ≠ l ∧ b ≠ C := fun b hb => let ⟨o, e⟩ := ho2 b hb; ⟨Nat.ne_of_lt (Nat.lt_of_lt_of_le (Heap.lt_size e) hls), Nat.ne_of_lt (Nat.lt_of_lt_of_le (Heap.lt_size e) hCs)⟩
 have hl1 : h1.get? l = some (bB [] 0) := by rw [← hh1]; exact pushCells_keeps _ _ _ _ (Heap.get?_push_of_some _ hl0)
 have keep1 : ∀ b o, s2.heap.get? b = some o → h1.get? b = some o := fun b o e => by rw [← hh1]; exact pushCells_keeps _ _ _ _ (Heap.get?_push_of_some _ (hk0 b o e))
 generalize hcs : cellsFrom (C + 1) scope.names (bY X.env scope.names []) = cs
 have I0 : Inv (cQ X own cap scope cs C fp s2 H2) [] (bV own σ capI) H2 { s2 with heap := h1 } := by
  have q := I2.comp (tk := s2.toks) B hown f2 ho2 hk0 (by rw [hsz0, hl]; exact Nat.le_succ _) hC.symm hh1.symm
  rw [hcs] at q
  exact q
 have henv : (newEnv scope C X.env.globals cs X.env.qual none .none (some X.env) builtinsNs) = { compEnvC scope cs C X.env with scope := scope } := rfl
 have henv2 : ({ newEnv scope C X.env.globals cs X.env.qual none .none (some X.env) builtinsNs with scope := relabel scope X.env } : Env) = (cQ X own cap scope cs C fp s2 H2).env := rfl
 generalize hX' : cQ X own cap scope cs C fp s2 H2 = X' at I0 henv2
 have eP : X'.prog = X.prog := by rw [← hX']; rfl
 have eW : X'.w = X.w := by rw [← hX']; rfl
 have eK : X'.K = X.K := by rw [← hX']; rfl
 have eA : X'.A = X.A := by rw [← hX']; rfl
 have eFs : X'.fs = frs X.stack := by rw [← hX']; rfl
 have eEx : X'.ex = fp := by rw [← hX']; rfl
 have eS : X'.s₀ = s2 := by rw [← hX']; rfl
 have eH : X'.H₀ = H2 := by rw [← hX']; rfl
 have eL : X'.env.locals = C := by rw [← hX']; rfl
 have eC : X'.calm = true := by rw [← hX']; exact hc
 have eX : X'.xe = fun _ _ => False := by rw [← hX']; rfl
 have ePn : X'.pn = [] := by rw [← hX']; rfl
 have hg' : PG X' tg g := by rw [← hX']; exact hg cs C fp s2 H2
 have ht' : PIf X' ifs tt := by rw [← hX']; exact ht cs C fp s2 H2
 have he' : PE X' elt te := by rw [← hX']; exact he cs C fp s2 H2
 have stat : ∀ {H' : Hp} {P : List (Addr × Obj)}, X'.Ok → (∀ b ∈ fp, H' b = none) → (∀ p ∈ P, p.1 = l) → ∀ b ∈ fp, jd X' P H' b := fun {H' P} ok hn hP b hb => by
  refine ⟨hn b hb, ?_, ?_, .inl (by rw [eEx]; exact hb), ?_, fun p hp => ?_⟩
  ·exact (ok.exf b (by rw [eEx]; exact hb)).1
  ·exact ok.exfs b (by rw [eEx]; exact hb)
  ·exact (ok.exf b (by rw [eEx]; exact hb)).2
  ·rw [ePn, List.nil_append] at hp
   rw [hP p hp]
   exact Ne.symm (hfl b hb).1
 have lfs : X'.Ok → l ∉ X'.fs := fun ok hz => by
  rw [eFs] at hz
  exact (Inv.nofs (X := X) I2 hls) ((List.mem_cons.mp (I2.stkSub l hz)).elim (fun z => absurd I2.lt (by rw [← z, hl]; exact Nat.lt_irrefl _)) id)
 have pinL : ∀ {σ' : St} {H' : Hp} {s' : Shared} {us : List Value} {k : Nat}, Inv X' [] σ' H' s' → s'.heap.get? l = some (bB us k) → H' l = none → Inv X' [(l, bB us k)] σ' H' s' := fun {σ' H' s' us k} I' e n =>
  I'.pins_of fun p hp => by
   obtain rfl : p = (l, bB us k) := by simpa using hp
   exact ⟨e, n, by rw [eL]; exact hlC, lfs I'.ok, fun v z => by cases z⟩
 have loop : ∀ s3 : Shared, s3 = { s2 with heap := h1 } → codeAny (model X.prog X.w) X.A (.compLoop (.ListComp elt [⟨tg, iter, ifs, 0⟩] scope pos) 0 (.ref it) (.ref l) X'.env) (compPost (model X.prog X.w) X.A X.xe none (EP X pins σ Q) (.ref l) C) s3 := by
  rintro s3 rfl
  refine qU (E' := fun _ _ => False) (fun n s' => ∃ i ys us k H', Inv X' [] (bV own σ capI) H' s' ∧ tn i s'.heap ∧ (∀ b ∈ fp, H' b = none) ∧ W i n ys H' ∧ Vals ys us ∧ s'.heap.get? l = some (bB us k) ∧ H' l = none ∧ ys.length ≤ sizeLine) (fun _ _ z => z.elim) ?_ m0
   ⟨0, [], [], 0, H2, I0, T.keep _ _ _ st2 fun b _ o e => keep1 b o e, fun b hb => (f2 b hb).1, w0, .nil, hl1, I2.hok.fresh hls, Nat.zero_le _⟩
  rintro n s3 ⟨i, ys, us, k, H3, I3, st3, fr3, w3, v3, o3, n3, z3⟩
  have I3p := pinL I3 o3 n3
  have P1 : ∀ p ∈ [(l, bB us k)], p.1 = l := fun p hp => by
   obtain rfl : p = (l, bB us k) := by simpa using hp
   rfl
  rcases turn i n ys H3 w3 with ⟨stop, qn⟩ | ⟨go, hlt, step⟩
  ·have q := T.done X' eP eW eK eC i _ s3 _ H3 (fun _ _ => False) I3p (stat I3.ok fr3 P1) st3 stop
   rw [eA] at q
   refine wpAny_mono q (fun r s4 ⟨hr, I4⟩ => ?_) fun _ _ z => z
   subst hr
   have pl := I4.pin (l, bB us k) (by simp)
   obtain ⟨m4, hn4, _⟩ := I4.loc
   rw [eL] at hn4
   refine ⟨m4, hn4, fun h' sb => ⟨.ref l, upd H3 l (.lst ys), ?_, rfl, qn l n3⟩⟩
   exact I2.compEnd f2 eP eW eFs eEx eS eH eL I4 hls hlC hCs pl.1 n3 v3 z3 sb
  ·have q := T.item X' eP eW eK eC i _ s3 _ H3 (fun _ _ => False) I3p (stat I3.ok fr3 P1) st3 go
   rw [eA] at q
   refine wpAny_mono q (fun r s4 ⟨u, hr, h4⟩ => ?_) fun _ _ z => z
   subst hr
   refine wpAny_mono h4 (fun _ s5 ⟨x, H5, I5, r5, y5, st5, fr5⟩ => ?_) fun _ _ z => z
   have I5' := I5.pinned (stat I5.ok fr5 P1) (T.obj _ _ st5)
   have a1 := hg' _ s5 _ H5 x u _ I5' r5 (step x H5 y5)
   rw [eP, eW, eA, eX] at a1
   refine wpAny_mono a1 (fun _ s6 ⟨σ6, H6, I6, ft6, q6⟩ => ?_) fun _ _ z => z
   have a2 := ht' _ s6 σ6 H6 _ I6 q6
   rw [eP, eW, eA, eX] at a2
   refine wpAny_mono a2 (fun ok s7 ⟨H7, I7, q7⟩ => ?_) fun _ _ z => z
   have back : ∀ {H8 : Hp} {s8 : Shared}, Inv X' ([(l, bB us k)] ++ mV fp s5.heap) σ6 H8 s8 → Inv X' [] (bV own σ capI) H8 s8 ∧ tn (i + 1) s8.heap ∧ (∀ b ∈ fp, H8 b = none) ∧ s8.heap.get? l = some (bB us k) ∧ H8 l = none := fun {H8 s8} I8 => by
    have pl := I8.pin (l, bB us k) (by simp)
    refine ⟨(I8.weak ft6.1.symm ft6.2).pins_of fun p hp => absurd hp (by simp), T.keep _ _ _ st5 fun b hb o e => ?_, fun b hb => ?_, pl.1, pl.2.1⟩
    ·exact (I8.pin (b, o) (List.mem_append_right _ (List.mem_append_right _ (dN hb e)))).1
    ·obtain ⟨o, e, d⟩ := T.obj _ _ st5 b hb
     exact (I8.pin (b, o) (List.mem_append_right _ (List.mem_append_right _ (dN hb e)))).2.1
   cases ok with
   | false =>
    rw [if_neg Bool.false_ne_true]
    rw [if_neg Bool.false_ne_true] at q7
    obtain ⟨m', hm, w7⟩ := q7
    obtain ⟨I8, st8, fr8, o8, n8⟩ := back I7
    exact ⟨m', hm, i + 1, ys, us, k, H7, I8, st8, fr8, w7, v3, o8, n8, z3⟩
   | true =>
    rw [if_pos rfl]
    rw [if_pos rfl] at q7
    have a3 := he' _ s7 σ6 H7 _ I7 q7
    rw [eP, eW, eA, eX] at a3
    refine wpAny_mono a3 (fun yv s8 ⟨y, H8, I8', r8, m', hm, w8⟩ => ?_) fun _ _ z => z
    obtain ⟨I8, st8, fr8, o8, n8⟩ := back I8'
    refine append_at (hsz := by show us.toArray.size ≤ sizeLine; rw [List.size_toArray, ← v3.length]; exact z3) o8 fun h9 sb9 o9 => ?_
    have I9 : Inv X' [] (bV own σ capI) H8 { s8 with heap := h9 } := I8.turned (t' := s8.toks) (fun b o hb e => (sb9.2 b hb).trans e) n8 (by rw [eL]; exact hlC) (.inr (by rw [eS]; exact hls)) (fun x c e => by
     rintro rfl
     obtain ⟨v', ho', hd', hd''⟩ := I8.cell x c e
     rw [o8] at hd'
     cases hd'
     cases hd'') (fun p hp => by rw [ePn] at hp; exact absurd hp (by simp))
    refine ⟨m', hm, i + 1, ys ++ [y], us ++ [yv], k + 1, H8, I9, T.keep _ _ _ st8 fun b hb o e => (sb9.2 b (hfl b hb).1).trans e, fr8, w8, v3.append (.cons r8 .nil), ?_, n8, ?_⟩
    ·rw [o9]
     simp [bB]
    ·rw [List.length_append]
     exact hlt
 have T0 := T.keep 0 s2.heap h1 st2 fun b _ o e => keep1 b o e
 rw [henv2]
 exact codeAny_compStart_list (loop _ rfl) (T.self X.A 0 _ _ _ T0 (loop _ rfl))
end
end L2
namespace L2
open PySem PySem.Spec PyProof.Rows
def bK (M : Model) (A : Around) (c : Code) (t : Sem Fin) (fs : List Frame) (s : Shared) (Φ : End → Shared → Prop) : Prop :=
 ∀ Γ p, Γ.code = c → Γ.Woken A → ∃ e s', Runs M Γ p t fs s e s' ∧ Φ e s'
section
variable {M : Model} {A : Around} {c : Code} {fs : List Frame} {s : Shared} {Φ : End → Shared → Prop}
theorem bK.wrap {α : Type} {m : Sem α} {K : α → Sem Fin} {H : Value → Sem Fin} {gd : Bool → Bool} {lv : List Value → List Value}
  (h : wpAny M (A.over c fs) m (fun a s' => bK M A c (K a) fs s' Φ) (fun x s' => bK M A c (H x) fs s' Φ) s) : bK M A c (m.wrap K H gd lv) fs s Φ := by
 rintro Γ p rfl hΓ
 exact runs_wrap_of_wp K H gd lv m (h (Γ.over fs) p (hΓ.over fs)) (fun a p' s' h' => h' Γ p' rfl hΓ) (fun x p' s' h' => h' Γ p' rfl hΓ)
theorem bK.bindWrap {α β : Type} {m : Sem α} {K : α → Sem β} {K' : β → Sem Fin} {H' : Value → Sem Fin} {gd : Bool → Bool} {lv : List Value → List Value}
  (h : wpAny M (A.over c fs) m (fun a s' => bK M A c ((K a).wrap K' H' gd lv) fs s' Φ) (fun x s' => bK M A c (H' x) fs s' Φ) s) : bK M A c ((m >>= K).wrap K' H' gd lv) fs s Φ := by
 rw [Sem.bind_eq_wrap', Sem.wrap_wrap]; exact bK.wrap h
theorem bK.at {p' : Pos} {k : Unit → Sem Fin} (h : bK M A c (k ()) fs s Φ) : bK M A c (.at p' k) fs s Φ :=
 bK.wrap (m := standAt p') (K := k) (H := .raise) (gd := id) (lv := id) (wpAny_standAt h)
theorem bK.again {c' : Code} (hq : c'.quiet = true) (hc : bK M A c' (M.den c') fs s Φ) : bK M A c (.pure (.again c')) fs s Φ := by
 rintro Γ p rfl hΓ
 obtain ⟨e, s', hr, he⟩ := hc (Γ.goto c') p rfl (hΓ.goto c')
 exact ⟨e, s', Runs.head (c₁ := c') (fun _ _ x => .again hq x) hr, he⟩
theorem bK.end (r : Result) (h : Φ (.ret r) s) : bK M A c (leafOf r) [] s Φ := by
 rintro Γ p rfl _
 exact ⟨.ret r, s, Runs.leaf r, h⟩
theorem bK.yield {v : Value} {g : Bool} {l : List Value} {k : Resume → Sem Fin} (hfs : splitAtGen fs = none) (h : ∀ p, Φ (.susp v g l k c p fs) s) : bK M A c (.yield v g l k) fs s Φ := by
 rintro Γ p rfl _
 exact ⟨_, s, Runs.yield' fs hfs, h p⟩
def Fy (M : Model) (A : Around) (gs : GenState) (s : Shared) (Φ : End → Shared → Prop) : Prop :=
 match gs with
 | .fresh c => bK M A c (M.den c) [] s Φ
 | .suspended k _ c _ fs _ => bK M A c (k (.send .none)) fs s Φ
 | _ => False
theorem DY {E : Value → Shared → Prop} {g : Nat} {gs : GenState} {l : List Value} {α : Type} {k : GenResult → Sem α} {Q : α → Shared → Prop} (hg : s.gens[g]? = some gs)
  (hgo : Fy M A gs (s.setGen g .running) Φ) (hq : ∀ e s₁, Φ e s₁ → e.quiet = true) (hΦ : ∀ e s₁, Φ e s₁ → wpAny M A (k e.result) Q E (s₁.setGen g e.genState)) :
  wpAny M A (.resume g (.send .none) l k) Q E s := by
 intro Γ p hΓ
 rw [Sem.wp_resume]
 have hB : ∀ c, (Γ.wake c p).Woken A := fun c => hΓ.wake c p
 cases gs with
 | fresh c =>
  obtain ⟨e₁, s₁, hr, he⟩ := hgo (Γ.wake c p) p rfl (hB c)
  exact ⟨_, _, by unfold Wakes; rw [hg]; exact ⟨e₁, s₁, hr, hq e₁ s₁ he, rfl, rfl⟩, hΦ e₁ s₁ he Γ p hΓ⟩
 | suspended k₀ l₀ c₀ p₀ fs₀ cl =>
  obtain ⟨e₁, s₁, hr, he⟩ := hgo (Γ.wake c₀ p) p₀ rfl (hB c₀)
  exact ⟨_, _, by unfold Wakes; rw [hg]; exact ⟨e₁, s₁, hr, hq e₁ s₁ he, rfl, rfl⟩, hΦ e₁ s₁ he Γ p hΓ⟩
 | running => exact hgo.elim
 | finished => exact hgo.elim
end
section
variable {prog : Program} {w : World} {A : Around} {E : Value → Shared → Prop} {s : Shared} {Φ : End → Shared → Prop}
theorem oh {a : Addr} {g : Nat} {gs : GenState} {Q : Option Value → Shared → Prop} (hh : A.handled = none) (hl : s.heap.NoLimit) (hroom : A.depth < recursionLimit)
  (hg : s.heap.IsGen a g) (hgs : s.gens[g]? = some gs) (hgo : Fy (model prog w) A.in1 gs (s.setGen g .running) Φ) (hq : ∀ e s₁, Φ e s₁ → e.quiet = true)
  (hΦ : ∀ e s₁, Φ e s₁ → (∃ v gd l k c p fs, e = .susp v gd l k c p fs ∧ Q (some v) (s₁.setGen g e.genState)) ∨
   (e = .ret (.ok .next) ∧ ∀ h', (∀ b o, s₁.heap.get? b = some o → h'.get? b = some o) → Q none { s₁.setGen g .finished with heap := h' })) :
  wpAny (model prog w) A (pyNext (.ref a)) Q E s := by
 unfold pyNext
 refine wpAny_bind (wpAny_attempt (wpAny_callSpecial?_slot (name := Str.ofString "__next__") hg.typeIs slot_gen_next
  (wpAny_call_entry slot_gen_next hg.typeIs entry_gen_next ?_ (args_gen_next _))))
 show wpAny _ A.in1 (Builtin.Generator.genWake (.ref a) (.send .none)) _ _ s
 unfold Builtin.Generator.genWake
 refine wpAny_bind (wpAny_holding (wpAny_genNumber hg (wpAny_bind (wpAny_genState hgs ?_))))
 cases gs with
 | running => exact hgo.elim
 | finished => exact hgo.elim
 | _ =>
  refine wpAny_bind (wpAny_roomToWake hl hroom ?_)
  show wpAny _ A.in1 (.resume g (.send .none) [] _) _ _ s
  refine DY hgs hgo hq fun e s₁ he => ?_
  rcases hΦ e s₁ he with ⟨v, gd, l, k, c, p, fs, rfl, hQ⟩ | ⟨rfl, hP⟩
  ·exact wpAny_pure ⟨v, rfl, wpAny_pure hQ⟩
  ·show wpAny _ A.in1 (newExc (.type "StopIteration") [] >>= _) _ _ _
   refine wpAny_bind ?_
   simp only [newExc, newTuple]
   refine wpAny_bind (wpAny_newObj_type ?_ (by size_fits))
   refine wpAny_bind (m := firstArgMember _ _) (wpAny_of_eq (a := Value.none) (by first | rfl | (simp only [firstArgMember]; rfl)) ?_)
   refine wpAny_newObj_type ?_ (by size_fits)
   simp only [raiseNew]
   refine wpAny_bind (wpAny_bind (wpAny_handled ?_))
   first | rw [show A.in1.handled = none from hh] | rw [hh]
   refine wpAny_throw ?_
   refine wpAny_bind (wpAny_isInstance (T := "StopIteration") (b := true) ⟨_, Heap.get?_push_size _ rfl, rfl⟩ isSubtype_stop ?_)
   exact wpAny_pure (hP _ fun b o hb => Heap.get?_push_of_some _ (Heap.get?_push_of_some _ hb))
end
end L2
namespace L2
open PySem PySem.Spec PyProof.Rows
def ph (X : Cx) (AG : Around) (own cap : List Str) (scope : Scope) (cs : List (Str × Addr)) (C : Addr) (code : Value) (fp : List Addr) (s2 : Shared) (H2 : Hp) : Cx where
 prog := X.prog
 w := X.w
 K := X.K
 mg := X.mg
 base := X.base
 A := AG
 N := own ++ cap
 s₀ := { s2 with gens := s2.gens.push .running }
 H₀ := H2
 env := genEnv scope cs C code builtinsNs X.env
 outer := X.stack
 stack := genEnv scope cs C code builtinsNs X.env :: X.stack
 ex := fp
 fn := fun x => own.contains x
 calm := true
 pn := []
 xe := fun _ _ => False
section
variable {X : Cx} {pins : List (Addr × Obj)} {σ : St} {H : Hp} {s : Shared} {own cap : List Str} {capI : List Nat} {scope : Scope}
theorem Inv.gen {AG : Around} {fp : List Addr} {h1 : Heap} {C : Addr} {tk : Nat} {code : Value} {m : Str → Option Value} (I : Inv X pins σ H s) (B : eN X own cap capI scope) (hown : ∀ x ∈ own, (x, NameKind.free) ∉ scope.names) (hnc : ∀ y ∈ scope.names, y.2 ≠ .cell)
  (hf : ∀ b ∈ fp, jd X pins H b) (ho : ∀ b ∈ fp, ∃ o, s.heap.get? b = some o)
  (keep : ∀ b o, s.heap.get? b = some o → h1.get? b = some o) (hCs : s.heap.objs.size ≤ C) (hm : h1.Ns C m) (hAf : AG.frames = some (genEnv scope (bY X.env scope.names []) C code builtinsNs X.env :: X.stack)) (hAh : AG.handled = none) :
  Inv (ph X AG own cap scope (bY X.env scope.names []) C code fp s H) [] (bV own σ capI) H { s with heap := h1, toks := tk, gens := s.gens.push .running } := by
 have clo_old : ∀ p ∈ bY X.env scope.names [], X.env.cells.lookup p.1 = some p.2 := fun p hp => (kh hp).elim (fun z => by simp at z) id
 have old_lt : ∀ x c, X.env.cells.lookup x = some c → c < s.heap.objs.size := fun x c e => let ⟨v, q⟩ := I.cell x c e; q.lt
 have csm : ∀ x c, (bY X.env scope.names []).lookup x = some c → X.env.cells.lookup x = some c ∧ c < s.heap.objs.size := fun x c e => by
  have q := clo_old _ (PySem.mem_of_lookup e)
  exact ⟨q, old_lt _ _ q⟩
 have fresh : ∀ b, s.heap.objs.size ≤ b → H b = none := fun b hb => I.hok.fresh hb
 have brun : AllBare (s.gens.push .running) := AllBare.push I.bare.bare rfl
 refine ⟨⟨I.ok.mod, ?_, I.ok.glob, rfl, hCs, ?_, ?_, ?_, fun _ => hAh, hAf, .inr ⟨rfl, rfl⟩, ?_, I.bs, Nat.le_trans I.ok.bsz I.sz, ?_, ?_, I.stack, I.stkFree⟩, rfl, GK.refl brun, Un.kept keep, ?_, ?_, fresh C hCs, ?_, ?_, I.hok.kept keep, ?_⟩
 ·exact B.kind
 ·intro x y c e1 e2
  exact I.ok.inj x y c (csm x c e1).1 (csm y c e2).1
 ·intro x hx
  have hx' : scope.names.lookup x = some .cell ∨ scope.names.lookup x = some .free := hx
  rcases hx' with e | e
  ·exact absurd rfl (hnc _ (PySem.mem_of_lookup e))
  ·have q := PySem.mem_of_lookup e
   obtain ⟨c, hc⟩ := B.cells I _ q rfl
   exact ⟨c, jK hc (.inl q)⟩
 ·intro x c hx e
  exfalso
  have hxo : x ∈ own := by simpa [ph] using hx
  have nf := hown x hxo
  have q : (bY X.env scope.names []).lookup x = none := by
   rw [mX fun k hk => by rintro rfl; exact nf hk]; rfl
  have e' : (bY X.env scope.names []).lookup x = some c := e
  rw [q] at e'; cases e'
 ·intro b hb
  obtain ⟨o, hbo⟩ := ho b hb
  have hlt := Heap.lt_size hbo
  exact ⟨Nat.ne_of_lt (Nat.lt_of_lt_of_le hlt hCs), fun x c e => (hf b hb).2.2.2.2.1 x c (csm x c e).1⟩
 ·intro b o e hb
  rcases (hf b hb).2.2.2.1 with z | z
  ·exact I.ok.noex b o e z
  ·exact absurd (Nat.lt_of_lt_of_le (Heap.lt_size e) (Nat.le_trans I.ok.bsz z)) (Nat.lt_irrefl _)
 ·intro b hb hz
  rcases List.mem_cons.mp (I.stkSub b hz) with z | z
  ·exact (hf b hb).2.1 z
  ·exact (hf b hb).2.2.1 z
 ·obtain ⟨m', hn, hl⟩ := I.loc
  refine ⟨m, hm, fun i x v e1 e2 hv => ?_⟩
  have e2' : (bV own σ capI)[i]? = some (some v) := e2
  have e1' : (own ++ cap)[i]? = some x := e1
  unfold bV at e2'
  by_cases hi : i < own.length
  ·rw [List.getElem?_append_left (by simpa using hi), List.getElem?_replicate] at e2'
   split at e2' <;> cases e2'
  ·rw [List.getElem?_append_right (by simpa using hi)] at e2'
   rw [List.getElem?_append_right (by simpa using hi)] at e1'
   rw [List.length_replicate] at e2'
   obtain ⟨i0, q1, q2⟩ := qY e2'
   obtain ⟨y, q3, q4, q5⟩ := B.caps.get q1
   rw [e1'] at q3
   cases q3
   have hxf : (x, NameKind.free) ∈ scope.names := B.cfr x (List.mem_of_getElem? e1')
   have vis : Vis X.env.scope x := by
    rcases q5 with q5 | q5
    ·exact .inr (.inl q5)
    ·exact .inr (.inr q5)
   obtain ⟨u, ru, lk⟩ := hl i0 x v q4 q2 vis
   refine ⟨u, ru, .inr ⟨.inr (cT B.nd hxf), ?_⟩⟩
   rcases lk with ⟨k, _⟩ | ⟨_, c, ec, hc⟩
   ·rcases q5 with q5 | q5 <;> rw [k] at q5 <;> cases q5
   ·exact ⟨c, jK ec (.inl hxf), hc.keeps keep⟩
 ·intro x c e
  obtain ⟨v, q⟩ := I.cell x c (csm x c e).1
  exact ⟨v, q.keeps keep⟩
 ·intro x c e
  exact I.freeC x c (csm x c e).1
 ·intro p hp
  exact absurd (show p ∈ ([] : List (Addr × Obj)) from hp) (by simp)
 ·show (bV own σ capI).length = (own ++ cap).length
  unfold bV pH
  rw [List.length_append, List.length_append, List.length_replicate, List.length_map, B.caps.length]
end
abbrev yQ (elt tg iter : Expr) (scope : Scope) (pos : Pos) : Expr := .GeneratorExp elt [⟨tg, iter, [], 0⟩] scope pos
abbrev iC (elt tg iter : Expr) (scope : Scope) (pos : Pos) (it : Addr) (cenv : Env) : Code := .compLoop (yQ elt tg iter scope pos) 0 (.ref it) .none cenv
abbrev genS (elt tg iter : Expr) (scope : Scope) (pos : Pos) (it : Addr) (cenv : Env) : Code := .compStart (yQ elt tg iter scope pos) 0 (.ref it) .none cenv
section
variable {X' : Cx} {A1 : Around} {elt tg iter : Expr} {scope : Scope} {pos : Pos} {it : Addr} {fp : List Addr} {tn : Nat → Heap → Prop} {J : It} {σb : St} {g : TG} {te : TE}
theorem Bd (T : Turn X'.prog X'.w X'.K tg J fp it tn) (hA : X'.A = A1.over (iC elt tg iter scope pos it X'.env) []) (hc : X'.calm = true) (hex : X'.ex = fp) (hpn : X'.pn = []) (hco : X'.env.scope.isCoroutine = false)
  (hxe : X'.xe = fun _ _ => False) (hg : PG X' tg g) (he : PE X' elt te) {i : Nat} {H : Hp} {s : Shared} {Q : VK} {P : List (Addr × Obj)} (hP : ∀ p ∈ P, p.1 ∉ fp) (I : Inv X' P σb H s) (st : tn i s.heap) (fr : ∀ b ∈ fp, H b = none)
  (go : J.go i H) (step : ∀ x H', J.yld i H x H' → g x σb H' fun σ2 H2 => Fits σb σ2 ∧ te σ2 H2 Q) :
  bK (model X'.prog X'.w) A1 (iC elt tg iter scope pos it X'.env) ((model X'.prog X'.w).den (iC elt tg iter scope pos it X'.env)) [] s fun e s' =>
   ∃ v k p y H', e = .susp v false [] k (iC elt tg iter scope pos it X'.env) p [] ∧ k (.send .none) = .pure (.again (iC elt tg iter scope pos it X'.env)) ∧ RelV y v ∧ Q y H' ∧ Inv X' P σb H' s' ∧ tn (i + 1) s'.heap ∧ ∀ b ∈ fp, H' b = none := by
 have stat : ∀ {H' : Hp}, X'.Ok → (∀ b ∈ fp, H' b = none) → ∀ b ∈ fp, jd X' P H' b := fun {H'} ok hn b hb =>
  ⟨hn b hb, (ok.exf b (by rw [hex]; exact hb)).1, ok.exfs b (by rw [hex]; exact hb), .inl (by rw [hex]; exact hb), (ok.exf b (by rw [hex]; exact hb)).2, fun p hp e => by rw [hpn] at hp; exact hP p hp (e ▸ hb)⟩
 show bK _ A1 _ ((compTurn (yQ elt tg iter scope pos) 0 (.ref it) .none X'.env).onRaise (leaving X'.env)) [] s _
 rw [compTurn_gen, Sem.onRaise_eq_wrap]
 refine bK.bindWrap (wpAny_standAt ?_)
 have q := T.item X' rfl rfl rfl hc i P s σb H (fun _ _ => False) I (stat I.ok fr) st go
 rw [hA] at q
 refine bK.bindWrap (wpAny_mono q (fun r s1 ⟨u, hr, h1⟩ => ?_) fun _ _ z => z.elim)
 subst hr
 refine bK.bindWrap (wpAny_mono h1 (fun _ s2 ⟨x, H2, I2, r2, y2, st2, fr2⟩ => ?_) fun _ _ z => z.elim)
 have I2' := I2.pinned (stat I2.ok fr2) (T.obj _ _ st2)
 have a1 := hg _ s2 σb H2 x u _ I2' r2 (step x H2 y2)
 rw [hA, hxe] at a1
 refine bK.bindWrap (wpAny_mono a1 (fun _ s3 ⟨σ3, H3, I3, ft3, q3⟩ => ?_) fun _ _ z => z.elim)
 refine bK.bindWrap (wpAny_tests_nil ?_)
 simp only [if_true]
 have hy : ∀ v, yieldOut X'.env v = yieldValue v := fun v => by simp only [yieldOut, hco, Bool.false_eq_true, if_false]
 simp only [hy]
 rw [Sem.bind_eq_wrap', Sem.bind_eq_wrap', Sem.wrap_wrap, Sem.wrap_wrap]
 have a2 := he _ s3 σ3 H3 _ I3 q3
 rw [hA, hxe] at a2
 refine bK.wrap (wpAny_mono a2 (fun v s4 ⟨y, H4, I4, r4, q4⟩ => ?_) fun _ _ z => z.elim)
 refine bK.at (bK.yield rfl fun p => ⟨v, _, p, y, H4, rfl, rfl, r4, q4, (I4.weak ft3.1.symm ft3.2).unpinned, T.keep _ _ _ st2 fun b hb o e => ?_, fun b hb => ?_⟩)
 ·exact (I4.pin (b, o) (List.mem_append_right _ (List.mem_append_right _ (dN hb e)))).1
 ·obtain ⟨o, e, d⟩ := T.obj _ _ st2 b hb
  exact (I4.pin (b, o) (List.mem_append_right _ (List.mem_append_right _ (dN hb e)))).2.1
theorem zK (T : Turn X'.prog X'.w X'.K tg J fp it tn) (hA : X'.A = A1.over (iC elt tg iter scope pos it X'.env) []) (hc : X'.calm = true) (hex : X'.ex = fp) (hpn : X'.pn = [])
  {i : Nat} {H : Hp} {s : Shared} {P : List (Addr × Obj)} (hP : ∀ p ∈ P, p.1 ∉ fp) (I : Inv X' P σb H s) (st : tn i s.heap) (fr : ∀ b ∈ fp, H b = none) (stop : J.stop i H) :
  bK (model X'.prog X'.w) A1 (iC elt tg iter scope pos it X'.env) ((model X'.prog X'.w).den (iC elt tg iter scope pos it X'.env)) [] s fun e s' => e = .ret (.ok .next) ∧ Inv X' P σb H s' := by
 have stat : ∀ b ∈ fp, jd X' P H b := fun b hb =>
  ⟨fr b hb, (I.ok.exf b (by rw [hex]; exact hb)).1, I.ok.exfs b (by rw [hex]; exact hb), .inl (by rw [hex]; exact hb), (I.ok.exf b (by rw [hex]; exact hb)).2, fun p hp e => by rw [hpn] at hp; exact hP p hp (e ▸ hb)⟩
 show bK _ A1 _ ((compTurn (yQ elt tg iter scope pos) 0 (.ref it) .none X'.env).onRaise (leaving X'.env)) [] s _
 rw [compTurn_gen, Sem.onRaise_eq_wrap]
 refine bK.bindWrap (wpAny_standAt ?_)
 have q := T.done X' rfl rfl rfl hc i P s σb H (fun _ _ => False) I stat st stop
 rw [hA] at q
 refine bK.bindWrap (wpAny_mono q (fun r s1 ⟨hr, I1⟩ => ?_) fun _ _ z => z.elim)
 subst hr
 exact bK.end (.ok .next) ⟨rfl, I1⟩
theorem rB {A0 : Around} {P : Program} {w : World} {K : PySem.W.Frag} {cenv : Env} {Φ : End → Shared → Prop} {s : Shared} {i : Nat} (T : Turn P w K tg J fp it tn) (st : tn i s.heap)
  (h : bK (model P w) A0 (iC elt tg iter scope pos it cenv) ((model P w).den (iC elt tg iter scope pos it cenv)) [] s Φ) :
  bK (model P w) A0 (genS elt tg iter scope pos it cenv) ((model P w).den (genS elt tg iter scope pos it cenv)) [] s Φ := by
 show bK _ A0 _ ((compStart (yQ elt tg iter scope pos) 0 (.ref it) .none cenv).onRaise (leaving cenv)) [] s _
 unfold compStart
 rw [Sem.onRaise_eq_wrap]
 show bK _ A0 _ ((ask >>= _).wrap _ _ _ _) [] s _
 refine bK.bindWrap (wpAny_askSetting ?_)
 split
 ·exact bK.again rfl h
 ·first
   | exact bK.bindWrap (wpAny_rule (bK.bindWrap (wpAny_standAt (bK.bindWrap (T.self _ i s _ _ st (bK.again rfl h))))))
   | (refine bK.bindWrap (wpAny_rule ?_); show bK _ A0 _ ((standAt iter.pos >>= _).wrap _ _ _ _) [] s _; exact bK.bindWrap (wpAny_standAt (bK.bindWrap (T.self _ i s _ _ st (bK.again rfl h)))))
end
end L2
namespace L2
open PySem PySem.Spec PyProof.Rows
structure oM where
 nxt : Nat → Hp → (V → Hp → Prop) → Prop
 fin : Nat → Hp → Prop
structure yK (X : Cx) (pins : List (Addr × Obj)) (σ : St) (A' : Around) (it : Addr) (lo : Nat) (S : oM) (SS : List (Addr × Obj) → Nat → Hp → Shared → Prop) : Prop where
 inv : ∀ {P i H s}, SS P i H s → Inv X (pins ++ P) σ H s
 next : ∀ {P i H s Q} (E : Value → Shared → Prop), SS P i H s → S.nxt i H Q → wpAny (model X.prog X.w) A' (pyNext (.ref it)) (fun r s1 => ∃ u y H', r = some u ∧ RelV y u ∧ Q y H' ∧ SS P (i + 1) H' s1) E s
 stop : ∀ {P i H s} (E : Value → Shared → Prop), SS P i H s → S.fin i H → wpAny (model X.prog X.w) A' (pyNext (.ref it)) (fun r s1 => r = none ∧ Inv X (pins ++ P) σ H s1) E s
 keep : ∀ {P i H s h' tk}, SS P i H s → (∀ b o, s.heap.get? b = some o → h'.get? b = some o) → SS P i H { s with heap := h', toks := tk }
 pin : ∀ {P i H s D o}, SS P i H s → lo ≤ D → s.heap.get? D = some o → H D = none → (∀ v, o.data ≠ .cell v) → SS ((D, o) :: P) i H s
 unpin : ∀ {p P i H s}, SS (p :: P) i H s → SS P i H s
 acc : ∀ {P i H s h' tk D}, SS P i H s → lo ≤ D → H D = none → (∀ p ∈ P, p.1 ≠ D) → (∀ b o, b ≠ D → s.heap.get? b = some o → h'.get? b = some o) → SS P i H { s with heap := h', toks := tk }
def Ready (X : Cx) (pins : List (Addr × Obj)) (σ : St) (S : oM) (v : Value) (H : Hp) (s : Shared) : Prop :=
 ∀ (A' : Around) (E : Value → Shared → Prop), A'.handled = none → A'.frames = some X.stack → A'.depth ≤ X.A.depth + 1 → A'.units ≤ X.A.units + 8 →
  wpAny (model X.prog X.w) A' (pyIter v) (fun itv s2 => ∃ it lo SS, itv = .ref it ∧ yK X pins σ A' it lo S SS ∧ SS [] 0 H s2 ∧ lo ≤ s2.heap.objs.size) E s
abbrev oH := St → Hp → (oM → Hp → Prop) → Prop
def uD (X : Cx) (e : Expr) (ts : oH) : Prop :=
 ∀ (pins : List (Addr × Obj)) (s : Shared) (σ : St) (H : Hp) (R : oM → Hp → Prop), Inv X pins σ H s → ts σ H R →
  wpAny (model X.prog X.w) X.A (eval e X.env) (fun v s1 => ∃ S H1, Inv X pins σ H1 s1 ∧ Ready X pins σ S v H1 s1 ∧ R S H1) X.xe s
def Jj (X : Cx) (pins : List (Addr × Obj)) (σ : St) (S : oM) (a : Addr) (H : Hp) (s : Shared) : Prop :=
 ∀ (A' : Around), A'.handled = none → A'.frames = some X.stack → A'.depth ≤ X.A.depth + 1 → A'.units ≤ X.A.units + 8 →
  ∃ lo SS, yK X pins σ A' a lo S SS ∧ SS [] 0 H s ∧ a < lo ∧ lo ≤ s.heap.objs.size ∧ ∀ P i H s, SS P i H s → ∃ g, s.heap.IsGen a g
def uY (X : Cx) (e : Expr) (ts : oH) : Prop :=
 ∀ (pins : List (Addr × Obj)) (s : Shared) (σ : St) (H : Hp) (R : oM → Hp → Prop), Inv X pins σ H s → ts σ H R →
  wpAny (model X.prog X.w) X.A (eval e X.env) (fun v s1 => ∃ a S H1, v = .ref a ∧ Inv X pins σ H1 s1 ∧ Jj X pins σ S a H1 s1 ∧ R S H1) X.xe s
theorem uW {X : Cx} {e : Expr} {ts : oH} (h : uY X e ts) : uD X e ts := by
 intro pins s σ H R I hq
 refine thn (h pins s σ H R I hq) fun v s1 ⟨a, S, H1, e, I1, rdy, r⟩ => ⟨S, H1, I1, ?_, r⟩
 subst e
 intro A' E h1 h2 h3 h4
 obtain ⟨lo, SS, sm, s0, _, hl, hg⟩ := rdy A' h1 h2 h3 h4
 obtain ⟨g, ig⟩ := hg _ _ _ _ s0
 exact wpAny_pyIter_gen ig ⟨a, lo, SS, rfl, sm, s0, hl⟩
section
variable {X : Cx} {pins : List (Addr × Obj)} {σ : St} {H : Hp} {s : Shared}
theorem Inv.grown {h' : Heap} {g' : Array GenState} {tk : Nat} (I : Inv X pins σ H s) (k : ∀ b o, s.heap.get? b = some o → h'.get? b = some o) (hg : GK s.gens g') : Inv X pins σ H { s with heap := h', gens := g', toks := tk } :=
 I.call (ch := []) (g' := g') (t' := tk) (d' := s.drawn) (Un.kept k) (I.hok.kept k) hg fun b hb => absurd hb (by simp)
theorem Inv.more {Q : List (Addr × Obj)} (I : Inv X pins σ H s) (h : ∀ p ∈ Q, s.heap.get? p.1 = some p.2 ∧ H p.1 = none ∧ p.1 ≠ X.env.locals ∧ p.1 ∉ X.fs ∧ ∀ v, p.2.data ≠ .cell v) : Inv X (pins ++ Q) σ H s :=
 I.pins_of fun p hp => (List.mem_append.mp hp).elim (fun z => I.pin p (List.mem_append_right _ z)) (h p)
theorem Cm {H : Hp} {P : Addr} {o : HO} (h : H P = some o) : upd H P o = H := by
 funext b
 by_cases e : b = P
 ·subst e; rw [dM, h]
 ·rw [aK e]
theorem Inv.tbl {P : Addr} {ps ps' : Array Value} {h' : Heap} {tk : Nat} (I : Inv X pins σ H s) (hP : H P = some (.tbl ps)) (hm : ∃ more, ps' = ps ++ more) (k : ∀ b o, b ≠ P → s.heap.get? b = some o → h'.get? b = some o)
  (ho : h'.get? P = some { cls := .none, data := .fields ps' }) : Inv X pins σ (upd H P (.tbl ps')) { s with heap := h', toks := tk } := by
 have nP : ∀ b, H b = none → b ≠ P := fun b e z => by rw [z, hP] at e; cases e
 refine I.un ⟨fun b o e n _ _ => k b o (nP b n) e, fun b o e n _ _ => ⟨o.slots, k b o (nP b n) e⟩, fun b o e n _ => by rw [aK (nP b n)]; exact n, fun b o e _ => ?_, fun b xs e => ?_, fun b o u e => ?_, fun b qs e => ?_⟩ fun a o e => ?_
 ·by_cases z : b = P
  ·subst z; exact ⟨_, ho⟩
  ·exact ⟨o, k b o z e⟩
 ·have z : b ≠ P := fun z => by rw [z, hP] at e; cases e
  rw [aK z]; exact e
 ·have z : b ≠ P := fun z => by rw [z, hP] at e; cases e
  rw [aK z]; exact e
 ·by_cases z : b = P
  ·subst z
   rw [hP] at e; cases e
   obtain ⟨more, e⟩ := hm
   exact ⟨more, by rw [dM, e]⟩
  ·exact ⟨#[], by rw [aK z, e]; simp⟩
 ·by_cases z : a = P
  ·subst z
   rw [dM] at e; cases e
   exact ho
  ·rw [aK z] at e
   refine (I.hok a o e).stay (fun b u hb q => k b u ?_ q) (fun b q => ?_) fun b xs q => ?_
   ·rcases hb with r | r
    ·rw [r]; exact z
    ·exact fun y => by rw [y, hP] at r; cases r
   ·have y : b ≠ P := fun y => by rw [y, hP] at q; cases q
    rw [aK y]; exact q
   ·have y : b ≠ P := fun y => by rw [y, hP] at q; cases q
    rw [aK y]; exact q
theorem KQ {c P : Addr} {ps : Array Value} {pos : Pos} {q : Str} {scope : Scope} {Q : Value → Shared → Prop} {A : Around} {E : Value → Shared → Prop} (I : Inv X pins σ H s) (hc : X.env.code = .ref c) (hd : PySem.W.CodeHd X.base c P) (hP : H P = some (.tbl ps)) (ht : TriplesOk ps.toList)
  (h : ∀ code s' ps', TriplesOk ps'.toList → (∃ more, ps' = ps ++ more) → Inv X pins σ (upd H P (.tbl ps')) s' → s'.gens = s.gens → (∀ b o, b ≠ P → s.heap.get? b = some o → s'.heap.get? b = some o) → Q code s') :
  wpAny (model X.prog X.w) A (genexprCode X.env pos q scope) Q E s := by
 have hd' : PySem.W.CodeHd s.heap c P := hd.keeps I.bk
 have oP : s.heap.get? P = some (PySem.W.tabObj ps) := I.hok P _ hP
 have hok : s.heap.IsCode c P ps := hd'.code oP ht
 have htab : s.heap.TableAt c P ps := hd'.tab oP
 cases hnf : codeAmong pos ps.toList with
 | some cv =>
  obtain ⟨o, vs, file, tf, flags, tg, inF, text, tt, op, ho, hdd, h11, h2, h7, h9, h10, hop, hpd, htr, hne⟩ := id hok
  unfold genexprCode codeAt
  rw [hc, if_neg (show ¬ ((Value.ref c == Value.none) = true) from Bool.false_ne_true)]
  refine wpAny_bind (wpAny_fieldsOf ho hdd ?_)
  rw [h11]
  refine wpAny_bind (wpAny_fieldsOf hop hpd ?_)
  rw [hnf]
  exact wpAny_pure (h cv s ps ht ⟨#[], by simp⟩ (by rw [Cm hP]; exact I) rfl fun b o _ e => e)
 | none =>
  refine wpAny_genexprCodeX hc hok htab hnf fun c' h' tk hx hge hlt hcode hrec htab' _ => ?_
  refine h (.ref c') _ (ps ++ #[rawInt pos.line, rawInt pos.col, .ref c']) ?_ ⟨_, rfl⟩ (I.tbl hP ⟨_, rfl⟩ (fun b o hb e => hx b o hb e) htab'.2) rfl fun b o hb e => hx b o hb e
  have hl : (ps ++ #[rawInt pos.line, rawInt pos.col, Value.ref c']).toList = ps.toList ++ [rawInt pos.line, rawInt pos.col, .ref c'] := by simp
  rw [hl]; exact TriplesOk_snoc _ _ _ _ ht
end
def An (J : It) (g : TG) (te : TE) (σb : St) : oM where
 nxt := fun i H Q => J.go i H ∧ ∀ x H', J.yld i H x H' → g x σb H' fun σ2 H2 => Fits σb σ2 ∧ te σ2 H2 Q
 fin := fun i H => J.stop i H
def tGen (own : List Str) (capI : List Nat) (P : Addr) (wi : TI) (g : TG) (te : TE) : oH := fun σ H R => wi σ H fun J H1 => ∃ ps, H1 P = some (.tbl ps) ∧ TriplesOk ps.toList ∧
 ∀ ps', TriplesOk ps'.toList → (∃ more, ps' = ps ++ more) → R (An J g te (bV own σ capI)) (upd H1 P (.tbl ps'))
theorem vq {A : Around} {elt tg iter : Expr} {scope : Scope} {pos : Pos} {it : Addr} {cenv : Env} {l : List Env} (h : A.frames = some l) : (A.over (iC elt tg iter scope pos it cenv) []).frames = some (cenv :: l) := by
 unfold Around.over
 show pushEnvs (Code.envs (iC elt tg iter scope pos it cenv)) (pushEnvs (envsOf []) A.frames) = _
 rw [h]; rfl
theorem zc {X : Cx} {A' : Around} {elt tg iter : Expr} {scope : Scope} {pos : Pos} {it : Addr} {cenv : Env} (hh : A'.handled = none) (hd : A'.depth ≤ X.A.depth + 1) (hu : A'.units ≤ X.A.units + 8) :
  ∀ k, eQ (k + 1) X.A → eQ k (A'.in1.over (iC elt tg iter scope pos it cenv) []) := fun k r => by
 have e1 : (A'.in1.over (iC elt tg iter scope pos it cenv) []).depth = A'.depth + 1 := rfl
 have e2 : (A'.in1.over (iC elt tg iter scope pos it cenv) []).units = A'.units + 1 + 3 := rfl
 have e3 : (A'.in1.over (iC elt tg iter scope pos it cenv) []).handled = A'.handled := rfl
 have := r.dp
 have := r.un
 exact ⟨e3.trans hh, by rw [e1]; omega, by rw [e2]; omega⟩
section
variable {X : Cx} {tg iter elt : Expr} {wi : TI} {g : TG} {te : TE} {own cap : List Str} {capI : List Nat} {scope : Scope} {pos : Pos} {P : Addr} {kr : Nat}
theorem Bs (hc : X.calm = true) (hr : eQ kr X.A) (B : eN X own cap capI scope) (hown : ∀ x ∈ own, (x, NameKind.free) ∉ scope.names) (hnc : ∀ y ∈ scope.names, y.2 ≠ .cell) (h0 : scope.names.lookup (".0" : Str) = some NameKind.local)
  (hco : scope.isCoroutine = false) (htb : ∃ c, X.env.code = .ref c ∧ PySem.W.CodeHd X.base c P) (hi : PI X tg iter wi) (hg : ∀ AG cs C code fp s2 H2, PG (ph X AG own cap scope cs C code fp s2 H2) tg g)
  (he : ∀ AG cs C code fp s2 H2, (∀ k, eQ (k + 1) X.A → eQ k AG) → PE (ph X AG own cap scope cs C code fp s2 H2) elt te) (hs : ∀ x, genFold iter X.env x = pure x := by intro _; rfl) :
  uY X (yQ elt tg iter scope pos) (tGen own capI P wi g te) := by
 intro pins s σ H R I h
 obtain ⟨c, hcode, hhd⟩ := htb
 refine wpAny_GeneratorExp_make hco (iR (B.cells I)) hnc h0 B.kind hr.depth ?_ hs
 refine thn (hi pins s σ H _ I h) fun v s1 h1 => thn h1 fun itv s2 h2 => ?_
 obtain ⟨it, fp, tn, J, H2, e, I2, T, st2, f2, ps, hP, htr, hR⟩ := h2
 subst e
 refine ⟨I2.nolimit, KQ I2 hcode hhd hP htr fun code s4 ps' htr' hmore I4 hgens hk4 => ?_⟩
 obtain ⟨bm, ob, b1, b2, b3, b4, b5, b6⟩ := I4.mod.bmain
 refine wpAny_builtinsFor (bm := bm) (by rw [I4.ok.glob]; exact I4.mod.glob.keeps I4.bk) b1 b2 (I4.bk _ _ b3) b4 b5 b6 ?_
 intro h5 hn5 hs5
 generalize hC : s4.heap.objs.size = C at hn5 hs5 ⊢
 have hCs : s4.heap.objs.size ≤ C := Nat.le_of_eq hC
 have hR' := hR ps' htr' hmore
 generalize hH4 : upd H2 P (.tbl ps') = H4 at I4 hR'
 have k5 : ∀ b o, s4.heap.get? b = some o → h5.get? b = some o := fun b o e => hs5.extBut b o (Nat.ne_of_lt (Nat.lt_of_lt_of_le (Heap.lt_size e) hCs)) (Heap.get?_push_of_some _ e)
 have sz5 : h5.objs.size = C + 1 := by rw [hs5.1, Heap.size_push, hC]
 generalize ha : h5.objs.size = a
 have hCa : C < a := by rw [← ha, sz5]; exact Nat.lt_succ_self _
 generalize hgi : s4.gens.size = gi
 generalize hgo : ({ cls := .type "generator", data := .fields #[.int (gi : Int) 0, .str "<genexpr>" (s4.toks + 1), .str (X.env.qual ++ "<genexpr>") (s4.toks + 1 + 1)] } : Obj) = gob
 generalize hh6 : h5.push gob = h6
 have k6 : ∀ b o, h5.get? b = some o → h6.get? b = some o := fun b o e => by rw [← hh6]; exact Heap.get?_push_of_some _ e
 have k46 : ∀ b o, s4.heap.get? b = some o → h6.get? b = some o := fun b o e => k6 b o (k5 b o e)
 have oa6 : h6.get? a = some gob := by rw [← hh6, ← ha]; refine Heap.get?_push_size _ ?_; rw [← hgo]; rfl
 have isg : ∀ {h : Heap}, h.get? a = some gob → h.IsGen a gi := fun {h} e => ⟨gob, .str "<genexpr>" (s4.toks + 1), .str (X.env.qual ++ "<genexpr>") (s4.toks + 1 + 1), e, by rw [← hgo], by rw [← hgo], by rw [← hgo]⟩
 have hfr4 : ∀ b ∈ fp, H4 b = none := fun b hb => by
  rw [← hH4]
  have n2 := (f2 b hb).1
  rw [aK (fun z => by rw [z, hP] at n2; cases n2)]
  exact n2
 have f4 : ∀ b ∈ fp, jd X pins H4 b := fun b hb => ⟨hfr4 b hb, (f2 b hb).2⟩
 have hbP : ∀ b ∈ fp, b ≠ P := fun b hb z => by have n2 := (f2 b hb).1; rw [z, hP] at n2; cases n2
 have o4 : ∀ b ∈ fp, ∃ o, s4.heap.get? b = some o := fun b hb => let ⟨o, e, _⟩ := T.obj 0 _ st2 b hb; ⟨o, hk4 b o (hbP b hb) e⟩
 have st4 : tn 0 s4.heap := T.keep _ _ _ st2 fun b hb o e => hk4 b o (hbP b hb) e
 have hfa : ∀ b ∈ fp, b ≠ a ∧ b ≠ C := fun b hb => let ⟨o, e⟩ := o4 b hb
  have l := Nat.lt_of_lt_of_le (Heap.lt_size e) hCs
  ⟨Nat.ne_of_lt (Nat.lt_trans l hCa), Nat.ne_of_lt l⟩
 generalize hcenv : genEnv scope (bY X.env scope.names []) C code builtinsNs X.env = cenv
 have gk6 : GK s4.gens (s4.gens.push (.fresh (genS elt tg iter scope pos it cenv))) := by
  refine ⟨AllBare.push I4.bare.bare rfl, fun k x e => ?_⟩
  have hlt : k < s4.gens.size := by
   rcases Nat.lt_or_ge k s4.gens.size with z | z
   ·exact z
   ·rw [Array.getElem?_eq_none z] at e; cases e
  rw [Array.getElem?_push_lt hlt, ← Array.getElem?_eq_getElem hlt]; exact e
 refine ⟨a, An J g te (bV own σ capI), H4, rfl, I4.grown k46 gk6, ?_, hR'⟩
 intro A' hAh hAf hAd hAu
 have gi6 : (s4.gens.push (.fresh (genS elt tg iter scope pos it cenv)))[gi]? = some (.fresh (genS elt tg iter scope pos it cenv)) := by rw [← hgi]; simp
 generalize hX' : ph X (A'.in1.over (iC elt tg iter scope pos it cenv) []) own cap scope (bY X.env scope.names []) C code fp s4 H4 = X'
 have eP : X'.prog = X.prog := by rw [← hX']; rfl
 have eW : X'.w = X.w := by rw [← hX']; rfl
 have eK : X'.K = X.K := by rw [← hX']; rfl
 have eFs : X'.fs = frs X.stack := by rw [← hX']; rfl
 have eEx : X'.ex = fp := by rw [← hX']; rfl
 have eS : X'.s₀ = { s4 with gens := s4.gens.push .running } := by rw [← hX']; rfl
 have eH : X'.H₀ = H4 := by rw [← hX']; rfl
 have eL : X'.env.locals = C := by rw [← hX']; rfl
 have eC : X'.calm = true := by rw [← hX']; rfl
 have eX : X'.xe = fun _ _ => False := by rw [← hX']; rfl
 have ePn : X'.pn = [] := by rw [← hX']; rfl
 have eE : X'.env = cenv := by rw [← hX', ← hcenv]; rfl
 have eA : X'.A = A'.in1.over (iC elt tg iter scope pos it X'.env) [] := by rw [eE, ← hX']; rfl
 have eCo : X'.env.scope.isCoroutine = false := by rw [← hX']; exact hco
 have hg' : PG X' tg g := by rw [← hX']; exact hg _ _ _ _ _ _ _
 have he' : PE X' elt te := by rw [← hX']; exact he _ _ _ _ _ _ _ (zc hAh hAd hAu)
 have T' : Turn X'.prog X'.w X'.K tg J fp it tn := by rw [eP, eW, eK]; exact T
 have pfp : ∀ {Q : List (Addr × Obj)}, (∀ p ∈ Q, a < p.1) → ∀ p ∈ (a, gob) :: Q, p.1 ∉ fp := fun {Q} hQ p hp hb => by
  obtain ⟨o, e⟩ := o4 _ hb
  have l := Nat.lt_of_lt_of_le (Heap.lt_size e) hCs
  rcases List.mem_cons.mp hp with z | z
  ·subst z; exact absurd (Nat.lt_trans l hCa) (Nat.lt_irrefl _)
  ·exact absurd (Nat.lt_trans (Nat.lt_trans l hCa) (hQ p z)) (Nat.lt_irrefl _)
 have afs : a ∉ X'.fs := fun hz => by
  rw [eFs] at hz
  have l4 : s4.heap.objs.size ≤ a := Nat.le_trans hCs (Nat.le_of_lt hCa)
  rcases List.mem_cons.mp (I4.stkSub a hz) with z | z
  ·exact absurd I4.lt (by rw [← z]; exact Nat.not_lt.mpr l4)
  ·exact I4.nofs l4 z
 have setg : ∀ (s : Shared) (x : GenState), (s.setGen gi x).gens = s.gens.setIfInBounds gi x := fun s x => rfl
 have hSS : ∀ {Q : List (Addr × Obj)} {i : Nat} {H : Hp} {s : Shared}, (∀ p ∈ Q, a < p.1) → Inv X' ((a, gob) :: Q) (bV own σ capI) H s → s.heap.get? a = some gob ∧ s.gens[gi]? = some .running ∧
   ∀ (x : GenState) (h' : Heap) (tk : Nat), x.bare = true → (∀ b o, s.heap.get? b = some o → h'.get? b = some o) → Inv X (pins ++ Q) σ H { s.setGen gi x with heap := h', toks := tk } := fun {Q i H s} hQ I' => by
  have pa := (I'.pin (a, gob) (by simp)).1
  have gr : s.gens[gi]? = some .running := I'.bare.kept gi .running (by rw [eS, ← hgi]; simp)
  refine ⟨pa, gr, fun x h' tk hx hk => ?_⟩
  have ub := I'.base
  rw [eFs, eEx, eS, eH] at ub
  have hok := I'.hok
  rw [eP, eW] at hok
  refine Inv.more ?_ fun p hp => by
   have q := I'.pin p (by simp [hp])
   have l4 : s4.heap.objs.size ≤ p.1 := Nat.le_trans hCs (Nat.le_of_lt (Nat.lt_trans hCa (hQ p hp)))
   exact ⟨hk _ _ q.1, q.2.1, fun z => absurd I4.lt (by rw [← z]; exact Nat.not_lt.mpr l4), I4.nofs l4, q.2.2.2.2⟩
  refine I4.call' (ch := fp) (s' := { s.setGen gi x with heap := h', toks := tk }) (by have := I'.os; rw [eS] at this; exact this)
   ⟨fun b o e n hb hx' => hk b o (ub.keep b o e n hb hx'), fun b o e n hb hx' => let ⟨sl, q⟩ := ub.slot b o e n hb hx'; ⟨sl, hk b _ q⟩, ub.free, fun b o e hx' => let ⟨o', q⟩ := ub.there b o e hx'; ⟨o', hk b o' q⟩, ub.tups, ub.frzs, ub.tbls⟩
   (hok.kept hk) ⟨fun y hy => ?_, fun k y e => ?_⟩ fun b hb => ?_
  ·have hy' : y ∈ s.gens.setIfInBounds gi x := hy
   rcases Array.mem_or_eq_of_mem_setIfInBounds hy' with z | z
   ·exact I'.bare.bare y z
   ·rw [z]; exact hx
  ·have hlt : k < gi := by
    rw [← hgi]
    rcases Nat.lt_or_ge k s4.gens.size with z | z
    ·exact z
    ·rw [Array.getElem?_eq_none z] at e; cases e
   have q := I'.bare.kept k y (by rw [eS]; show (s4.gens.push .running)[k]? = some y; rw [Array.getElem?_push_lt (by rw [hgi]; exact hlt), ← Array.getElem?_eq_getElem (by rw [hgi]; exact hlt)]; exact e)
   show (s.gens.setIfInBounds gi x)[k]? = some y
   rw [Array.getElem?_setIfInBounds_ne (Nat.ne_of_gt hlt)]
   exact q
  ·obtain ⟨q0, q1, q2, q3, q4, q5⟩ := f4 b hb
   exact ⟨q3, q1, q4, q5⟩
 refine ⟨a + 1, fun Q i H s => (∀ p ∈ Q, a < p.1) ∧ Inv X (pins ++ Q) σ H s ∧ (∃ gs, s.gens[gi]? = some gs ∧ gs.bare = true ∧ (gs = .fresh (genS elt tg iter scope pos it X'.env) ∨ ∃ k l p cl, gs = .suspended k l (iC elt tg iter scope pos it X'.env) p [] cl ∧ k (.send .none) = .pure (.again (iC elt tg iter scope pos it X'.env)))) ∧
   Inv X' ((a, gob) :: Q) (bV own σ capI) H (s.setGen gi .running) ∧ tn i s.heap ∧ ∀ b ∈ fp, H b = none, ⟨fun st => st.2.1, ?_, ?_, ?_, ?_, ?_, ?_⟩, ?_, Nat.lt_succ_self _, ?_, fun Q i H s st => ⟨gi, isg (hSS (i := i) st.1 st.2.2.2.1).1⟩⟩
 ·
  rintro PP i H s Q E ⟨hQ, I1, ⟨gs, hgs, hb, hgs'⟩, Ib, st, fr⟩ ⟨go, step⟩
  have tr := Bd (A1 := A'.in1) (elt := elt) (tg := tg) (iter := iter) (scope := scope) (pos := pos) T' eA eC eEx ePn eCo eX hg' he' (pfp hQ) Ib st fr go step
  have oa := (hSS (i := i) hQ Ib).1
  rw [eP, eW] at tr
  refine oh hAh I1.nolimit (by have := hr.dp; omega) (isg oa) hgs (Φ := fun e s' => ∃ v k p y H', e = .susp v false [] k (iC elt tg iter scope pos it X'.env) p [] ∧ k (.send .none) = .pure (.again (iC elt tg iter scope pos it X'.env)) ∧ RelV y v ∧ Q y H' ∧ Inv X' ((a, gob) :: PP) (bV own σ capI) H' s' ∧ tn (i + 1) s'.heap ∧ ∀ b ∈ fp, H' b = none) ?_ ?_ ?_
  ·rcases hgs' with e | ⟨k, l, p, cl, e, ek⟩
   ·subst e
    exact rB (i := i) T st tr
   ·subst e
    show bK _ _ _ (k (.send .none)) [] _ _
    rw [ek]
    exact bK.again rfl tr
  ·rintro e s' ⟨v, k, p, y, H', rfl, _⟩
   rfl
  ·rintro e s' ⟨v, k, p, y, H', rfl, ek, ry, qy, I', st', fr'⟩
   left
   refine ⟨v, false, [], k, _, p, [], rfl, v, y, H', rfl, ry, qy, ?_⟩
   obtain ⟨oa', gr', mk⟩ := hSS (i := i) hQ I'
   have e1 : ((s'.setGen gi (End.susp v false [] k (iC elt tg iter scope pos it X'.env) p []).genState).setGen gi .running) = s' := by
    have hl : gi < s'.gens.size := by
     rcases Nat.lt_or_ge gi s'.gens.size with z | z
     ·exact z
     ·rw [Array.getElem?_eq_none z] at gr'; cases gr'
    obtain ⟨hh, gg, dd, tt, oo⟩ := s'
    show (Shared.mk hh ((gg.setIfInBounds gi _).setIfInBounds gi .running) dd tt oo) = _
    congr 1
    apply Array.ext_getElem?
    intro j
    by_cases hj : gi = j
    ·subst hj
     have gr'' : gg[gi]? = some .running := gr'
     have hl' : gi < gg.size := hl
     rw [gr'']
     simp [hl']
    ·simp [hj]
   refine ⟨hQ, mk _ s'.heap s'.toks rfl fun b o e => e, ⟨_, setGen_self gr', rfl, .inr ⟨k, [], p, _, rfl, ek⟩⟩, by rw [e1]; exact I', st', fr'⟩
 ·
  rintro PP i H s E ⟨hQ, I1, ⟨gs, hgs, hb, hgs'⟩, Ib, st, fr⟩ hfin
  have tr := zK (A1 := A'.in1) (elt := elt) (tg := tg) (iter := iter) (scope := scope) (pos := pos) T' eA eC eEx ePn (pfp hQ) Ib st fr hfin
  have oa := (hSS (i := i) hQ Ib).1
  rw [eP, eW] at tr
  refine oh hAh I1.nolimit (by have := hr.dp; omega) (isg oa) hgs (Φ := fun e s' => e = .ret (.ok .next) ∧ Inv X' ((a, gob) :: PP) (bV own σ capI) H s') ?_ ?_ ?_
  ·rcases hgs' with e | ⟨k, l, p, cl, e, ek⟩
   ·subst e
    exact rB (i := i) T st tr
   ·subst e
    show bK _ _ _ (k (.send .none)) [] _ _
    rw [ek]
    exact bK.again rfl tr
  ·rintro e s' ⟨rfl, _⟩
   rfl
  ·rintro e s' ⟨rfl, I'⟩
   right
   obtain ⟨oa', gr', mk⟩ := hSS (i := i) hQ I'
   exact ⟨rfl, fun h' hk => ⟨rfl, mk .finished h' s'.toks rfl hk⟩⟩
 ·
  rintro PP i H s h' tk ⟨hQ, I1, hgs, Ib, st, fr⟩ hk
  exact ⟨hQ, I1.kept hk, hgs, Ib.kept (s := s.setGen gi .running) hk, T.keep _ _ _ st fun b _ o e => hk b o e, fr⟩
 ·
  rintro PP i H s D o ⟨hQ, I1, hgs, Ib, st, fr⟩ hD ho hn hcell
  have hDa : a < D := hD
  have hD4 : s4.heap.objs.size ≤ D := Nat.le_of_lt (Nat.lt_of_le_of_lt hCs (Nat.lt_trans hCa hDa))
  refine ⟨fun p hp => ?_, ?_, hgs, ?_, st, fr⟩
  ·rcases List.mem_cons.mp hp with z | z
   ·subst z; exact hDa
   ·exact hQ p z
  ·refine I1.pins_of fun p hp => ?_
   rcases List.mem_append.mp hp with z | z
   ·exact I1.pin p (by simp [z])
   ·rcases List.mem_cons.mp z with z | z
    ·subst z
     exact ⟨ho, hn, fun z => absurd I4.lt (by rw [← z]; exact Nat.not_lt.mpr hD4), I4.nofs hD4, hcell⟩
    ·exact I1.pin p (by simp [z])
  ·refine Ib.pins_of fun p hp => ?_
   rcases List.mem_cons.mp hp with z | z
   ·exact Ib.pin p (by simp [z])
   ·rcases List.mem_cons.mp z with z | z
    ·subst z
     refine ⟨ho, hn, by rw [eL]; exact Nat.ne_of_gt (Nat.lt_trans hCa hDa), fun hz => ?_, hcell⟩
     rw [eFs] at hz
     rcases List.mem_cons.mp (I4.stkSub D hz) with z | z
     ·exact absurd I4.lt (by rw [← z]; exact Nat.not_lt.mpr hD4)
     ·exact I4.nofs hD4 z
    ·exact Ib.pin p (by simp [z])
 ·
  rintro p PP i H s ⟨hQ, I1, hgs, Ib, st, fr⟩
  exact ⟨fun q hq => hQ q (List.mem_cons_of_mem _ hq), I1.pins_of fun q hq => I1.pin q (by rcases List.mem_append.mp hq with z | z <;> simp [z]), hgs, Ib.pins_of fun q hq => Ib.pin q (by rcases List.mem_cons.mp hq with z | z <;> simp [z]), st, fr⟩
 ·
  rintro PP i H s h' tk D ⟨hQ, I1, hgs, Ib, st, fr⟩ hD hn hPD hk
  have hDa : a < D := hD
  have hDC : C < D := Nat.lt_trans hCa hDa
  have hD4 : s4.heap.objs.size ≤ D := Nat.le_of_lt (Nat.lt_of_le_of_lt hCs hDC)
  have l4 : ∀ b, b < s4.heap.objs.size → b ≠ D := fun b hb => Nat.ne_of_lt (Nat.lt_of_lt_of_le hb hD4)
  have cl4 : ∀ x c, X.env.cells.lookup x = some c → c ≠ D := fun x c e => let ⟨v, q⟩ := I4.cell x c e; l4 c q.lt
  refine ⟨hQ, I1.turned hk hn (Ne.symm (l4 _ I4.lt)) (.inr (Nat.le_trans I4.sz hD4)) cl4 (fun p hp => ?_), hgs, Ib.turned (s := s.setGen gi .running) hk hn (by rw [eL]; exact Nat.ne_of_gt hDC) (.inr (by rw [eS]; exact hD4)) (fun x c e => ?_) (fun p hp => ?_), T.keep _ _ _ st fun b hb o e => hk b o ?_ e, fr⟩
  ·rcases List.mem_append.mp hp with z | z
   ·exact l4 _ (Heap.lt_size (I4.pin p (by simp [z])).1)
   ·rcases List.mem_append.mp z with z | z
    ·exact l4 _ (Heap.lt_size (I4.pin p (by simp [z])).1)
    ·exact hPD p z
  ·obtain ⟨v, q⟩ := Ib.cell x c e
   have e' : (bY X.env scope.names []).lookup x = some c := by rw [← hX'] at e; exact e
   exact cl4 x c ((kh (PySem.mem_of_lookup e')).elim (fun z => by simp at z) id)
  ·rw [ePn, List.nil_append] at hp
   rcases List.mem_cons.mp hp with z | z
   ·subst z; exact Nat.ne_of_lt hDa
   ·exact hPD p z
  ·obtain ⟨o', e'⟩ := o4 b hb
   exact l4 b (Heap.lt_size e')
 ·
  have Ib0 : Inv X' [] (bV own σ capI) H4 { s4 with heap := h6, toks := s4.toks + 1 + 1 + 1, gens := s4.gens.push .running } := by
   rw [← hX']
   refine I4.gen B hown hnc f4 o4 k46 hCs (hn5.at' fun o e => k6 _ o e) ?_ hAh
   rw [hcenv]
   exact vq hAf
  refine ⟨fun p hp => absurd hp (by simp), by rw [List.append_nil]; exact (I4.grown k46 gk6 : Inv X pins σ H4 _), ⟨_, gi6, rfl, .inl (by rw [eE])⟩, ?_, T.keep _ _ _ st4 fun b _ o e => k46 b o e, hfr4⟩
  have e1 : (Shared.setGen { s4 with gens := s4.gens.push (.fresh (genS elt tg iter scope pos it cenv)), toks := s4.toks + 1 + 1 + 1, heap := h6 } gi .running) = { s4 with heap := h6, toks := s4.toks + 1 + 1 + 1, gens := s4.gens.push .running } := by
   show Shared.mk _ ((s4.gens.push _).setIfInBounds gi .running) _ _ _ = _
   congr 1
   rw [← hgi]
   apply Array.ext_getElem?
   intro j
   by_cases hj : s4.gens.size = j
   ·subst hj; simp
   ·simp [hj, Array.getElem?_push, Ne.symm hj]
  rw [e1]
  exact Ib0.pins_of fun p hp => by
   obtain rfl : p = (a, gob) := by simpa using hp
   refine ⟨oa6, ?_, by rw [eL]; exact Nat.ne_of_gt hCa, afs, fun v z => ?_⟩
   ·exact I4.hok.fresh (Nat.le_trans hCs (Nat.le_of_lt hCa))
   ·rw [← hgo] at z; cases z
 ·show a + 1 ≤ h6.objs.size
  rw [← hh6, Heap.size_push, ha]
  exact Nat.le_refl _
end
end L2
namespace L3
open PySem PySem.Spec PyProof.Rows L2
inductive D where
 | non | bl (b : Bool) | int (i : Int) | str (x : Str) | tup (ds : List D) | lst (ds : List D) | ro (ds : List D) | dic (kvs : List (Key × D)) | cell (n : Nat)
abbrev Mu := List (Option (List D))
abbrev En := List (Option D)
mutual
def aQ (K : PySem.W.Frag) (F : Hp) (ad : List Addr) : D → V → Prop
 | .non, v => v = .non
 | .bl b, v => v = .bl b
 | .int i, v => v = .int i
 | .str x, v => v = .str x
 | .tup ds, v => ∃ a xs, v = .ref a ∧ SqT K F a xs ∧ az K F ad ds xs
 | .lst ds, v => ∃ a xs, v = .ref a ∧ F a = some (.lst xs) ∧ az K F ad ds xs
 | .ro ds, v => ∃ a xs, v = .ref a ∧ SqL K F a xs ∧ az K F ad ds xs
 | .dic kvs, v => ∃ a ps, v = .ref a ∧ F a = some (.dK ps) ∧ dY K F ad kvs ps
 | .cell n, v => ∃ a, v = .ref a ∧ ad[n]? = some a
def az (K : PySem.W.Frag) (F : Hp) (ad : List Addr) : List D → List V → Prop
 | [], vs => vs = []
 | d :: ds, vs => ∃ u us, vs = u :: us ∧ aQ K F ad d u ∧ az K F ad ds us
def dY (K : PySem.W.Frag) (F : Hp) (ad : List Addr) : List (Key × D) → List (Key × V) → Prop
 | [], vs => vs = []
 | p :: ds, vs => ∃ u us, vs = u :: us ∧ (u.1 = p.1 ∧ aQ K F ad p.2 u.2) ∧ dY K F ad ds us
end
def kZ (a b : List Addr) : Prop := ∀ (i : Nat) x, a[i]? = some x → b[i]? = some x
theorem kZ.refl (a : List Addr) : kZ a a := fun _ _ e => e
theorem kZ.trans {a b c : List Addr} (x : kZ a b) (y : kZ b c) : kZ a c := fun i z e => y i z (x i z e)
theorem SqT.mono {K : PySem.W.Frag} {F F' : Hp} {a : Addr} {xs : List V} (s : jC F F') (h : SqT K F a xs) : SqT K F' a xs := by
 rcases h with (h | ⟨o, h⟩) | h
 ·exact .inl (.inl (s _ _ h))
 ·exact .inl (.inr ⟨o, s _ _ h⟩)
 ·exact .inr h
theorem SqL.mono {K : PySem.W.Frag} {F F' : Hp} {a : Addr} {xs : List V} (s : jC F F') (h : SqL K F a xs) : SqL K F' a xs := by
 rcases h with (h | ⟨o, h⟩) | h
 ·exact .inl (.inl (s _ _ h))
 ·exact .inl (.inr ⟨o, s _ _ h⟩)
 ·exact .inr h
section
variable {K : PySem.W.Frag} {F F' : Hp} {ad ad' : List Addr}
mutual
theorem aQ.mono (s : jC F F') (l : kZ ad ad') : ∀ (d : D) (v : V), aQ K F ad d v → aQ K F' ad' d v
 | .non, v, h => by unfold aQ at h ⊢; exact h
 | .bl _, v, h => by unfold aQ at h ⊢; exact h
 | .int _, v, h => by unfold aQ at h ⊢; exact h
 | .str _, v, h => by unfold aQ at h ⊢; exact h
 | .tup ds, v, h => by
  unfold aQ at h ⊢
  obtain ⟨a, xs, e, q, r⟩ := h
  exact ⟨a, xs, e, SqT.mono s q, az.mono s l ds xs r⟩
 | .lst ds, v, h => by
  unfold aQ at h ⊢
  obtain ⟨a, xs, e, q, r⟩ := h
  exact ⟨a, xs, e, s _ _ q, az.mono s l ds xs r⟩
 | .ro ds, v, h => by
  unfold aQ at h ⊢
  obtain ⟨a, xs, e, q, r⟩ := h
  exact ⟨a, xs, e, SqL.mono s q, az.mono s l ds xs r⟩
 | .dic kvs, v, h => by
  unfold aQ at h ⊢
  obtain ⟨a, ps, e, q, r⟩ := h
  exact ⟨a, ps, e, s _ _ q, dY.mono s l kvs ps r⟩
 | .cell n, v, h => by
  unfold aQ at h ⊢
  obtain ⟨a, e, q⟩ := h
  exact ⟨a, e, l _ _ q⟩
theorem az.mono (s : jC F F') (l : kZ ad ad') : ∀ (ds : List D) (vs : List V), az K F ad ds vs → az K F' ad' ds vs
 | [], vs, h => by unfold az at h ⊢; exact h
 | d :: ds, vs, h => by
  unfold az at h ⊢
  obtain ⟨u, us, e, p, r⟩ := h
  exact ⟨u, us, e, aQ.mono s l d u p, az.mono s l ds us r⟩
theorem dY.mono (s : jC F F') (l : kZ ad ad') : ∀ (ds : List (Key × D)) (vs : List (Key × V)), dY K F ad ds vs → dY K F' ad' ds vs
 | [], vs, h => by unfold dY at h ⊢; exact h
 | p :: ds, vs, h => by
  unfold dY at h ⊢
  obtain ⟨u, us, e, ⟨p1, p2⟩, r⟩ := h
  exact ⟨u, us, e, ⟨p1, aQ.mono s l p.2 u.2 p2⟩, dY.mono s l ds us r⟩
end
theorem az.nil : az K F ad [] [] := by unfold az; rfl
theorem az.cons {d : D} {v : V} {ds : List D} {vs : List V} (h : aQ K F ad d v) (r : az K F ad ds vs) : az K F ad (d :: ds) (v :: vs) := by unfold az; exact ⟨v, vs, rfl, h, r⟩
theorem az.length : ∀ {ds : List D} {vs : List V}, az K F ad ds vs → ds.length = vs.length
 | [], vs, h => by unfold az at h; subst h; rfl
 | d :: ds, vs, h => by
  unfold az at h
  obtain ⟨u, us, rfl, _, r⟩ := h
  rw [List.length_cons, List.length_cons, az.length r]
theorem az.get : ∀ {ds : List D} {vs : List V} {i : Nat} {d : D}, az K F ad ds vs → ds[i]? = some d → ∃ v, vs[i]? = some v ∧ aQ K F ad d v
 | [], _, _, _, _, e => by simp at e
 | d :: ds, vs, 0, x, h, e => by
  unfold az at h
  obtain ⟨u, us, rfl, p, r⟩ := h
  simp at e; subst e
  exact ⟨u, rfl, p⟩
 | d :: ds, vs, i + 1, x, h, e => by
  unfold az at h
  obtain ⟨u, us, rfl, p, r⟩ := h
  obtain ⟨v, e1, e2⟩ := az.get (i := i) r (by simpa using e)
  exact ⟨v, by simpa using e1, e2⟩
theorem az.append : ∀ {ds es : List D} {vs us : List V}, az K F ad ds vs → az K F ad es us → az K F ad (ds ++ es) (vs ++ us)
 | [], es, vs, us, h, r => by unfold az at h; subst h; exact r
 | d :: ds, es, vs, us, h, r => by
  unfold az at h
  obtain ⟨u, ws, rfl, p, q⟩ := h
  exact az.cons p (az.append q r)
theorem az.drop : ∀ {ds : List D} {vs : List V} (n : Nat), az K F ad ds vs → az K F ad (ds.drop n) (vs.drop n)
 | ds, vs, 0, h => h
 | [], vs, n + 1, h => by unfold az at h; subst h; exact az.nil
 | d :: ds, vs, n + 1, h => by
  unfold az at h
  obtain ⟨u, ws, rfl, p, q⟩ := h
  exact az.drop n q
theorem az.take : ∀ {ds : List D} {vs : List V} (n : Nat), az K F ad ds vs → az K F ad (ds.take n) (vs.take n)
 | ds, vs, 0, h => az.nil
 | [], vs, n + 1, h => by unfold az at h; subst h; exact az.nil
 | d :: ds, vs, n + 1, h => by
  unfold az at h
  obtain ⟨u, ws, rfl, p, q⟩ := h
  exact az.cons p (az.take n q)
theorem az.two {d e : D} {vs : List V} (h : az K F ad [d, e] vs) : ∃ u v, vs = [u, v] ∧ aQ K F ad d u ∧ aQ K F ad e v := by
 unfold az at h
 obtain ⟨u, us, rfl, p, h⟩ := h
 unfold az at h
 obtain ⟨v, ws, rfl, q, h⟩ := h
 unfold az at h
 subst h
 exact ⟨u, v, rfl, p, q⟩
theorem az.one {d : D} {vs : List V} (h : az K F ad [d] vs) : ∃ u, vs = [u] ∧ aQ K F ad d u := by
 unfold az at h
 obtain ⟨u, us, rfl, p, h⟩ := h
 unfold az at h
 subst h
 exact ⟨u, rfl, p⟩
theorem az.zero {vs : List V} (h : az K F ad [] vs) : vs = [] := by unfold az at h; exact h
end
structure Wd where
 H : Hp
 ad : List Addr
 mu : Mu
def lg (ad : List Addr) (mu : Mu) (b : Addr) : Prop := ∃ (i : Nat) (ds : List D), ad[i]? = some b ∧ mu[i]? = some (some ds)
open Classical in
noncomputable def Wd.fz (tb : List Addr) (W : Wd) : Hp := fun b => if lg W.ad W.mu b ∨ b ∈ tb then none else W.H b
abbrev Den (K : PySem.W.Frag) (tb : List Addr) (W : Wd) : D → V → Prop := aQ K (W.fz tb) W.ad
abbrev cB (K : PySem.W.Frag) (tb : List Addr) (W : Wd) : List D → List V → Prop := az K (W.fz tb) W.ad
structure WOk (K : PySem.W.Frag) (tb : List Addr) (W : Wd) : Prop where
 len : W.ad.length = W.mu.length
 cont : ∀ (i : Nat) a ds, W.ad[i]? = some a → W.mu[i]? = some (some ds) → ∃ xs, W.H a = some (.lst xs) ∧ cB K tb W ds xs
 inj : ∀ (i j : Nat) a ds es, W.ad[i]? = some a → W.ad[j]? = some a → W.mu[i]? = some (some ds) → W.mu[j]? = some (some es) → i = j
 tab : ∀ P ∈ tb, ∃ ps, W.H P = some (.tbl ps) ∧ TriplesOk ps.toList
structure Le (tb : List Addr) (W W' : Wd) : Prop where
 same : jC (W.fz tb) (W'.fz tb)
 ad : kZ W.ad W'.ad
theorem Le.refl {tb : List Addr} (W : Wd) : Le tb W W := ⟨jC.refl _, kZ.refl _⟩
theorem Le.trans {tb : List Addr} {W W1 W2 : Wd} (a : Le tb W W1) (b : Le tb W1 W2) : Le tb W W2 := ⟨a.same.trans b.same, a.ad.trans b.ad⟩
section
variable {K : PySem.W.Frag} {tb : List Addr} {W W' : Wd} {d : D} {v : V} {ds : List D} {vs : List V}
theorem Den.mono' (h : Den K tb W d v) (l : Le tb W W') : Den K tb W' d v := aQ.mono l.same l.ad d v h
theorem cB.mono' (h : cB K tb W ds vs) (l : Le tb W W') : cB K tb W' ds vs := az.mono l.same l.ad ds vs h
theorem cX {b : Addr} {o : HO} (h : W.fz tb b = some o) : W.H b = some o ∧ ¬ lg W.ad W.mu b ∧ b ∉ tb := by
 unfold Wd.fz at h
 split at h
 ·cases h
 ·rename_i q
  exact ⟨h, fun z => q (.inl z), fun z => q (.inr z)⟩
theorem lY {b : Addr} (h1 : ¬ lg W.ad W.mu b) (h2 : b ∉ tb) : W.fz tb b = W.H b := by
 unfold Wd.fz
 rw [if_neg]
 rintro (z | z)
 ·exact h1 z
 ·exact h2 z
theorem SqT.fz {a : Addr} {xs : List V} (h : SqT K (W.fz tb) a xs) : SqT K W.H a xs := by
 rcases h with (h | ⟨o, h⟩) | h
 ·exact .inl (.inl (cX h).1)
 ·exact .inl (.inr ⟨o, (cX h).1⟩)
 ·exact .inr h
theorem SqL.fz {a : Addr} {xs : List V} (h : SqL K (W.fz tb) a xs) : SqL K W.H a xs := by
 rcases h with (h | ⟨o, h⟩) | h
 ·exact .inl (.inl (cX h).1)
 ·exact .inl (.inr ⟨o, (cX h).1⟩)
 ·exact .inr h
theorem WOk.live (ok : WOk K tb W) {b : Addr} (h : lg W.ad W.mu b) : ∃ xs, W.H b = some (.lst xs) := by
 obtain ⟨i, ds, e1, e2⟩ := h
 obtain ⟨xs, e, _⟩ := ok.cont i b ds e1 e2
 exact ⟨xs, e⟩
theorem WOk.alloc (ok : WOk K tb W) {p : Addr} {o : HO} (hp : W.H p = none) : WOk K tb ⟨upd W.H p o, W.ad, W.mu⟩ ∧ Le tb W ⟨upd W.H p o, W.ad, W.mu⟩ ∧ (Wd.fz tb ⟨upd W.H p o, W.ad, W.mu⟩) p = some o := by
 have nl : ¬ lg W.ad W.mu p := fun z => by obtain ⟨xs, e⟩ := ok.live z; rw [hp] at e; cases e
 have nt : p ∉ tb := fun z => by obtain ⟨ps, e, _⟩ := ok.tab p z; rw [hp] at e; cases e
 have le : Le tb W ⟨upd W.H p o, W.ad, W.mu⟩ := ⟨fun b u e => by
  obtain ⟨e1, e2, e3⟩ := cX e
  have hb : b ≠ p := cH e1 hp
  have q := lY (tb := tb) (W := ⟨upd W.H p o, W.ad, W.mu⟩) e2 e3
  rw [q]
  show upd W.H p o b = some u
  rw [aK hb]; exact e1, kZ.refl _⟩
 refine ⟨⟨ok.len, fun i a ds e1 e2 => ?_, ok.inj, fun P hP => ?_⟩, le, ?_⟩
 ·obtain ⟨xs, e, r⟩ := ok.cont i a ds e1 e2
  refine ⟨xs, ?_, cB.mono' r le⟩
  show upd W.H p o a = _
  rw [aK (cH e hp)]; exact e
 ·obtain ⟨ps, e, r⟩ := ok.tab P hP
  refine ⟨ps, ?_, r⟩
  show upd W.H p o P = _
  rw [aK (cH e hp)]; exact e
 ·have q := lY (tb := tb) (W := ⟨upd W.H p o, W.ad, W.mu⟩) nl nt
  rw [q]; exact dM
theorem WOk.new (ok : WOk K tb W) {p : Addr} (hp : W.H p = none) (r : cB K tb W ds vs) :
  WOk K tb ⟨upd W.H p (.lst vs), W.ad ++ [p], W.mu ++ [some ds]⟩ ∧ Le tb W ⟨upd W.H p (.lst vs), W.ad ++ [p], W.mu ++ [some ds]⟩ ∧ Den K tb ⟨upd W.H p (.lst vs), W.ad ++ [p], W.mu ++ [some ds]⟩ (.cell W.mu.length) (.ref p) := by
 have adl : kZ W.ad (W.ad ++ [p]) := fun i x e => by
  rw [List.getElem?_append_left (List.getElem?_eq_some_iff.mp e).1]; exact e
 have lv : ∀ b, lg (W.ad ++ [p]) (W.mu ++ [some ds]) b → lg W.ad W.mu b ∨ b = p := fun b zq1 => by
  obtain ⟨i, es, e1, e2⟩ := zq1
  by_cases hi : i < W.ad.length
  ·rw [List.getElem?_append_left hi] at e1
   rw [List.getElem?_append_left (by rw [← ok.len]; exact hi)] at e2
   exact .inl ⟨i, es, e1, e2⟩
  ·rw [List.getElem?_append_right (Nat.le_of_not_lt hi)] at e1
   right
   have : (i - W.ad.length) = 0 := by
    have := (List.getElem?_eq_some_iff.mp e1).1
    simp at this
    omega
   rw [this] at e1
   simpa using e1.symm
 have le : Le tb W ⟨upd W.H p (.lst vs), W.ad ++ [p], W.mu ++ [some ds]⟩ := ⟨fun b u e => by
  obtain ⟨e1, e2, e3⟩ := cX e
  have hb : b ≠ p := cH e1 hp
  have q := lY (tb := tb) (W := ⟨upd W.H p (.lst vs), W.ad ++ [p], W.mu ++ [some ds]⟩) (b := b) (fun z => (lv b z).elim e2 hb) e3
  rw [q]
  show upd W.H p (.lst vs) b = some u
  rw [aK hb]; exact e1, adl⟩
 refine ⟨⟨by simp [ok.len], fun i a es e1 e2 => ?_, fun i j a es fs e1 e2 e3 e4 => ?_, fun P hP => ?_⟩, le, ?_⟩
 ·by_cases hi : i < W.ad.length
  ·have e1' : W.ad[i]? = some a := by rw [← List.getElem?_append_left (l₂ := [p]) hi]; exact e1
   have e2' : W.mu[i]? = some (some es) := by rw [← List.getElem?_append_left (l₂ := [some ds]) (by rw [← ok.len]; exact hi)]; exact e2
   obtain ⟨xs, e, q⟩ := ok.cont i a es e1' e2'
   refine ⟨xs, ?_, cB.mono' q le⟩
   show upd W.H p (.lst vs) a = _
   rw [aK (cH e hp)]; exact e
  ·have h0 : i = W.ad.length := by
    have h1 : i < (W.ad ++ [p]).length := (List.getElem?_eq_some_iff.mp e1).1
    simp at h1
    omega
   have e1' : (W.ad ++ [p])[i]? = some a := e1
   have e2' : (W.mu ++ [some ds])[i]? = some (some es) := e2
   rw [h0] at e1' e2'
   rw [ok.len] at e2'
   simp at e1' e2'
   subst e1' e2'
   exact ⟨vs, dM, cB.mono' r le⟩
 ·have old : ∀ (k : Nat) es, (W.ad ++ [p])[k]? = some a → (W.mu ++ [some ds])[k]? = some (some es) → (k < W.ad.length ∧ W.ad[k]? = some a ∧ W.mu[k]? = some (some es)) ∨ (k = W.ad.length ∧ a = p) := fun k es q1 q2 => by
   by_cases hk : k < W.ad.length
   ·left
    refine ⟨hk, ?_, ?_⟩
    ·rw [← List.getElem?_append_left (l₂ := [p]) hk]; exact q1
    ·rw [← List.getElem?_append_left (l₂ := [some ds]) (by rw [← ok.len]; exact hk)]; exact q2
   ·right
    have h1 : k < (W.ad ++ [p]).length := (List.getElem?_eq_some_iff.mp q1).1
    simp at h1
    have h0 : k = W.ad.length := by omega
    subst h0
    simp at q1
    exact ⟨rfl, q1.symm⟩
  rcases old i es e1 e3 with ⟨_, a1, a2⟩ | ⟨a1, a2⟩ <;> rcases old j fs e2 e4 with ⟨_, b1, b2⟩ | ⟨b1, b2⟩
  ·exact ok.inj i j a es fs a1 b1 a2 b2
  ·obtain ⟨xs, e, _⟩ := ok.cont i a es a1 a2
   rw [b2, hp] at e; cases e
  ·obtain ⟨xs, e, _⟩ := ok.cont j a fs b1 b2
   rw [a2, hp] at e; cases e
  ·rw [a1, b1]
 ·obtain ⟨ps, e, q⟩ := ok.tab P hP
  refine ⟨ps, ?_, q⟩
  show upd W.H p (.lst vs) P = _
  rw [aK (cH e hp)]; exact e
 ·show aQ K _ _ (.cell W.mu.length) (.ref p)
  unfold aQ
  refine ⟨p, rfl, ?_⟩
  rw [← ok.len]
  simp
theorem WOk.write (ok : WOk K tb W) {i : Nat} {a : Addr} {es : List D} (e1 : W.ad[i]? = some a) (e2 : W.mu[i]? = some (some es)) (r : cB K tb W ds vs) :
  WOk K tb ⟨upd W.H a (.lst vs), W.ad, W.mu.set i (some ds)⟩ ∧ Le tb W ⟨upd W.H a (.lst vs), W.ad, W.mu.set i (some ds)⟩ := by
 have hi : i < W.mu.length := (List.getElem?_eq_some_iff.mp e2).1
 have lv : ∀ b, lg W.ad (W.mu.set i (some ds)) b → lg W.ad W.mu b := fun b zq2 => by
  obtain ⟨j, fs, q1, q2⟩ := zq2
  by_cases hj : i = j
  ·subst hj; exact ⟨i, es, q1, e2⟩
  ·rw [List.getElem?_set_ne hj] at q2; exact ⟨j, fs, q1, q2⟩
 have la : lg W.ad W.mu a := ⟨i, es, e1, e2⟩
 have le : Le tb W ⟨upd W.H a (.lst vs), W.ad, W.mu.set i (some ds)⟩ := ⟨fun b u e => by
  obtain ⟨p1, p2, p3⟩ := cX e
  have hb : b ≠ a := fun z => p2 (z ▸ la)
  have q := lY (tb := tb) (W := ⟨upd W.H a (.lst vs), W.ad, W.mu.set i (some ds)⟩) (b := b) (fun z => p2 (lv b z)) p3
  rw [q]
  show upd W.H a (.lst vs) b = some u
  rw [aK hb]; exact p1, kZ.refl _⟩
 refine ⟨⟨by show W.ad.length = (W.mu.set i (some ds)).length; rw [List.length_set]; exact ok.len, fun j b fs q1 q2 => ?_, fun j k b fs gs q1 q2 q3 q4 => ?_, fun P hP => ?_⟩, le⟩
 ·have q2' : (W.mu.set i (some ds))[j]? = some (some fs) := q2
  by_cases hj : i = j
  ·subst hj
   have q1' : W.ad[i]? = some b := q1
   rw [e1] at q1'; cases q1'
   rw [List.getElem?_set_self hi] at q2'
   cases q2'
   exact ⟨vs, dM, cB.mono' r le⟩
  ·rw [List.getElem?_set_ne hj] at q2'
   obtain ⟨xs, e, q⟩ := ok.cont j b fs q1 q2'
   refine ⟨xs, ?_, cB.mono' q le⟩
   show upd W.H a (.lst vs) b = _
   have hba : b ≠ a := by
    intro z
    subst z
    exact hj (ok.inj i j b es fs e1 q1 e2 q2')
   rw [aK hba]; exact e
 ·have up : ∀ (j : Nat) fs, (W.mu.set i (some ds))[j]? = some (some fs) → ∃ gs, W.mu[j]? = some (some gs) := fun j fs q => by
   by_cases hj : i = j
   ·subst hj; exact ⟨es, e2⟩
   ·rw [List.getElem?_set_ne hj] at q; exact ⟨fs, q⟩
  obtain ⟨fs', q3'⟩ := up j fs q3
  obtain ⟨gs', q4'⟩ := up k gs q4
  exact ok.inj j k b fs' gs' q1 q2 q3' q4'
 ·obtain ⟨ps, e, q⟩ := ok.tab P hP
  refine ⟨ps, ?_, q⟩
  show upd W.H a (.lst vs) P = _
  obtain ⟨xs, ea, _⟩ := ok.cont i a es e1 e2
  rw [aK (FZ e ea (by intro z; cases z))]; exact e
theorem WOk.freeze (ok : WOk K tb W) {i : Nat} {a : Addr} {es : List D} (e1 : W.ad[i]? = some a) (e2 : W.mu[i]? = some (some es)) :
  WOk K tb ⟨W.H, W.ad, W.mu.set i none⟩ ∧ Le tb W ⟨W.H, W.ad, W.mu.set i none⟩ ∧ Den K tb ⟨W.H, W.ad, W.mu.set i none⟩ (.lst es) (.ref a) := by
 have hi : i < W.mu.length := (List.getElem?_eq_some_iff.mp e2).1
 have up : ∀ (j : Nat) fs, (W.mu.set i none)[j]? = some (some fs) → i ≠ j ∧ W.mu[j]? = some (some fs) := fun j fs q => by
  by_cases hj : i = j
  ·subst hj; rw [List.getElem?_set_self hi] at q; cases q
  ·rw [List.getElem?_set_ne hj] at q; exact ⟨hj, q⟩
 have lv : ∀ b, lg W.ad (W.mu.set i none) b → lg W.ad W.mu b := fun b ⟨j, fs, q1, q2⟩ => ⟨j, fs, q1, (up j fs q2).2⟩
 have le : Le tb W ⟨W.H, W.ad, W.mu.set i none⟩ := ⟨fun b u e => by
  obtain ⟨p1, p2, p3⟩ := cX e
  have q := lY (tb := tb) (W := ⟨W.H, W.ad, W.mu.set i none⟩) (b := b) (fun z => p2 (lv b z)) p3
  rw [q]; exact p1, kZ.refl _⟩
 obtain ⟨xs, ea, ra⟩ := ok.cont i a es e1 e2
 refine ⟨⟨by show W.ad.length = (W.mu.set i none).length; rw [List.length_set]; exact ok.len, fun j b fs q1 q2 => ?_, fun j k b fs gs q1 q2 q3 q4 => ?_, ok.tab⟩, le, ?_⟩
 ·obtain ⟨xs, e, q⟩ := ok.cont j b fs q1 (up j fs q2).2
  exact ⟨xs, e, cB.mono' q le⟩
 ·exact ok.inj j k b fs gs q1 q2 (up j fs q3).2 (up k gs q4).2
 ·show aQ K _ _ (.lst es) (.ref a)
  unfold aQ
  refine ⟨a, xs, rfl, ?_, cB.mono' ra le⟩
  have nl : ¬ lg W.ad (W.mu.set i none) a := fun zq3 => by
   obtain ⟨j, fs, q1, q2⟩ := zq3
   obtain ⟨hj, q⟩ := up j fs q2
   exact hj (ok.inj i j a es fs e1 q1 e2 q)
  have nt : a ∉ tb := fun z => by
   obtain ⟨ps, e, _⟩ := ok.tab a z
   rw [ea] at e; cases e
  have q := lY (tb := tb) (W := ⟨W.H, W.ad, W.mu.set i none⟩) nl nt
  rw [q]; exact ea
theorem WOk.tbl (ok : WOk K tb W) {P : Addr} {ps ps' : Array Value} (hP : P ∈ tb) (e : W.H P = some (.tbl ps)) (ht : TriplesOk ps'.toList) :
  WOk K tb ⟨upd W.H P (.tbl ps'), W.ad, W.mu⟩ ∧ Le tb W ⟨upd W.H P (.tbl ps'), W.ad, W.mu⟩ := by
 have le : Le tb W ⟨upd W.H P (.tbl ps'), W.ad, W.mu⟩ := ⟨fun b u q => by
  obtain ⟨p1, p2, p3⟩ := cX q
  have hb : b ≠ P := fun z => p3 (z ▸ hP)
  have q := lY (tb := tb) (W := ⟨upd W.H P (.tbl ps'), W.ad, W.mu⟩) (b := b) p2 p3
  rw [q]
  show upd W.H P (.tbl ps') b = some u
  rw [aK hb]; exact p1, kZ.refl _⟩
 refine ⟨⟨ok.len, fun i a ds e1 e2 => ?_, ok.inj, fun Q hQ => ?_⟩, le⟩
 ·obtain ⟨xs, ea, r⟩ := ok.cont i a ds e1 e2
  refine ⟨xs, ?_, cB.mono' r le⟩
  show upd W.H P (.tbl ps') a = _
  rw [aK (FZ ea e (by intro z; cases z))]; exact ea
 ·by_cases hq : Q = P
  ·subst hq; exact ⟨ps', dM, ht⟩
  ·obtain ⟨qs, e', r⟩ := ok.tab Q hQ
   refine ⟨qs, ?_, r⟩
   show upd W.H P (.tbl ps') Q = _
   rw [aK hq]; exact e'
end
end L3
namespace L3
open PySem PySem.Spec PyProof.Rows L2
abbrev SV := L2.St
abbrev EF := En → Mu → Option (D × Mu)
abbrev AF := En → Mu → Option (List D × Mu)
abbrev TF := En → Mu → Option (Bool × Mu)
inductive Fl where
 | nx | bk | ct | rt (d : D)
abbrev SF := En → Mu → Option (Fl × En × Mu)
def gG (K : PySem.W.Frag) (tb : List Addr) (W : Wd) (δ : En) (σ : SV) : Prop := δ.length = σ.length ∧ ∀ (i : Nat) d, δ[i]? = some (some d) → ∃ v, σ[i]? = some (some v) ∧ Den K tb W d v
section
variable {K : PySem.W.Frag} {tb : List Addr} {W W' : Wd} {δ : En} {σ : SV}
theorem gG.mono' (h : gG K tb W δ σ) (l : Le tb W W') : gG K tb W' δ σ := ⟨h.1, fun i d e => let ⟨v, e1, e2⟩ := h.2 i d e; ⟨v, e1, Den.mono' e2 l⟩⟩
theorem gG.set (h : gG K tb W δ σ) {i : Nat} {d : D} {v : V} (r : Den K tb W d v) : gG K tb W (δ.set i (some d)) (σ.set i (some v)) := by
 refine ⟨by rw [List.length_set, List.length_set]; exact h.1, fun j e q => ?_⟩
 by_cases hj : i = j
 ·subst hj
  have hi : i < δ.length := by
   have := (List.getElem?_eq_some_iff.mp q).1
   rwa [List.length_set] at this
  rw [List.getElem?_set_self hi] at q
  cases q
  exact ⟨v, by rw [List.getElem?_set_self (by rw [← h.1]; exact hi)], r⟩
 ·rw [List.getElem?_set_ne hj] at q ⊢
  exact h.2 j e q
end
def tD (K : PySem.W.Frag) (tb : List Addr) (f : EF) : TE := fun σ H Q => ∃ W δ d μ', W.H = H ∧ WOk K tb W ∧ gG K tb W δ σ ∧ f δ W.mu = some (d, μ') ∧
 ∀ v W', WOk K tb W' → Le tb W W' → W'.mu = μ' → Den K tb W' d v → Q v W'.H
def tDA (K : PySem.W.Frag) (tb : List Addr) (f : AF) : TA := fun σ H Q => ∃ W δ ds μ', W.H = H ∧ WOk K tb W ∧ gG K tb W δ σ ∧ f δ W.mu = some (ds, μ') ∧
 ∀ vs W', WOk K tb W' → Le tb W W' → W'.mu = μ' → cB K tb W' ds vs → Q vs W'.H
def tDT (K : PySem.W.Frag) (tb : List Addr) (f : TF) : TT := fun σ H Q => ∃ W δ b μ', W.H = H ∧ WOk K tb W ∧ gG K tb W δ σ ∧ f δ W.mu = some (b, μ') ∧
 ∀ W', WOk K tb W' → Le tb W W' → W'.mu = μ' → Q b W'.H
def EndD (K : PySem.W.Frag) (tb : List Addr) (E : Ends) (fl : Fl) (σ : SV) (W : Wd) : Prop := match fl with
 | .nx => E.nx σ W.H
 | .bk => E.bk σ W.H
 | .ct => E.ct σ W.H
 | .rt d => ∀ v, Den K tb W d v → E.rt v W.H
def tDS (K : PySem.W.Frag) (tb : List Addr) (g : SF) : TS := fun E σ H => ∃ W δ fl δ' μ', W.H = H ∧ WOk K tb W ∧ gG K tb W δ σ ∧ g δ W.mu = some (fl, δ', μ') ∧
 ∀ σ' W', WOk K tb W' → Le tb W W' → W'.mu = μ' → gG K tb W' δ' σ' → EndD K tb E fl σ' W'
def PD (X : Cx) (tb : List Addr) (e : Expr) (f : EF) : Prop := PE X e (tD X.K tb f)
def PAD (X : Cx) (tb : List Addr) (es : List Expr) (f : AF) : Prop := PA X es (tDA X.K tb f)
def PTD (X : Cx) (tb : List Addr) (e : Expr) (f : TF) : Prop := PT X e (tDT X.K tb f)
def PWD (X : Cx) (tb : List Addr) (e : Expr) (f : TF) : Prop := PW X e (tDT X.K tb f)
def PSD (X : Cx) (tb : List Addr) (st : Stmt) (g : SF) : Prop := PS X st (tDS X.K tb g)
def qL (X : Cx) (tb : List Addr) (st : List Stmt) (g : SF) : Prop := PSs X st (tDS X.K tb g)
theorem dH {X : Cx} {e : Expr} {t t' : TE} (h : PE X e t) (k : ∀ σ H Q, t' σ H Q → t σ H Q) : PE X e t' := fun pins s σ H Q I hq => h pins s σ H Q I (k σ H Q hq)
theorem FQ {X : Cx} {e : List Expr} {t t' : TA} (h : PA X e t) (k : ∀ σ H Q, t' σ H Q → t σ H Q) : PA X e t' := fun pos pins s σ H Q I hq => h pos pins s σ H Q I (k σ H Q hq)
theorem Bt {X : Cx} {e : Expr} {t t' : TT} (h : PT X e t) (k : ∀ σ H Q, t' σ H Q → t σ H Q) : PT X e t' := fun pins s σ H Q I hq => h pins s σ H Q I (k σ H Q hq)
theorem Ga {X : Cx} {e : Expr} {t t' : TT} (h : PW X e t) (k : ∀ σ H Q, t' σ H Q → t σ H Q) : PW X e t' := fun wh pins s σ H Q I hq => h wh pins s σ H Q I (k σ H Q hq)
theorem jG {X : Cx} {e : Stmt} {t t' : TS} (h : PS X e t) (k : ∀ E σ H, t' E σ H → t E σ H) : PS X e t' := fun pins s σ H E I hq => h pins s σ H E I (k E σ H hq)
theorem Cg {X : Cx} {e : List Stmt} {t t' : TS} (h : PSs X e t) (k : ∀ E σ H, t' E σ H → t E σ H) : PSs X e t' := fun pins s σ H E I hq => h pins s σ H E I (k E σ H hq)
def ak (i : Nat) : EF := fun δ μ => match δ[i]? with
 | some (some d) => some (d, μ)
 | _ => none
def mC (d : D) : EF := fun _ μ => some (d, μ)
def M1 (fa : EF) (op : D → Mu → Option (D × Mu)) : EF := fun δ μ => (fa δ μ).bind fun r => op r.1 r.2
def M2 (fa fb : EF) (op : D → D → Mu → Option (D × Mu)) : EF := fun δ μ => (fa δ μ).bind fun r => (fb δ r.2).bind fun q => op r.1 q.1 q.2
def au : AF := fun _ μ => some ([], μ)
def aj (f : EF) (fs : AF) : AF := fun δ μ => (f δ μ).bind fun r => (fs δ r.2).bind fun q => some (r.1 :: q.1, q.2)
def MC (fs : AF) (op : List D → Mu → Option (D × Mu)) : EF := fun δ μ => (fs δ μ).bind fun r => op r.1 r.2
def RD1 (K : PySem.W.Frag) (tb : List Addr) (r : V → Hp → VK → Prop) (op : D → Mu → Option (D × Mu)) : Prop := ∀ (W : Wd) (x : D) (v : V) (d : D) (μ' : Mu) (Q : VK), WOk K tb W → Den K tb W x v → op x W.mu = some (d, μ') →
 (∀ v W', WOk K tb W' → Le tb W W' → W'.mu = μ' → Den K tb W' d v → Q v W'.H) → r v W.H Q
def RD2 (K : PySem.W.Frag) (tb : List Addr) (r : R2) (op : D → D → Mu → Option (D × Mu)) : Prop := ∀ (W : Wd) (x y : D) (v u : V) (d : D) (μ' : Mu) (Q : VK), WOk K tb W → Den K tb W x v → Den K tb W y u → op x y W.mu = some (d, μ') →
 (∀ v W', WOk K tb W' → Le tb W W' → W'.mu = μ' → Den K tb W' d v → Q v W'.H) → r v u W.H Q
def RDN (K : PySem.W.Frag) (tb : List Addr) (r : List V → Hp → VK → Prop) (op : List D → Mu → Option (D × Mu)) : Prop := ∀ (W : Wd) (xs : List D) (vs : List V) (d : D) (μ' : Mu) (Q : VK), WOk K tb W → cB K tb W xs vs → op xs W.mu = some (d, μ') →
 (∀ v W', WOk K tb W' → Le tb W W' → W'.mu = μ' → Den K tb W' d v → Q v W'.H) → r vs W.H Q
section
variable {K : PySem.W.Frag} {tb : List Addr}
theorem put {W : Wd} {Q : VK} {d : D} {v : V} (ok : WOk K tb W) (h : ∀ v W', WOk K tb W' → Le tb W W' → W'.mu = W.mu → Den K tb W' d v → Q v W'.H) (r : Den K tb W d v) : Q v W.H := h v W ok (Le.refl _) rfl r
theorem cY {W : Wd} {i : Int} : Den K tb W (.int i) (.int i) := by show aQ _ _ _ _ _; unfold aQ; rfl
theorem fL {W : Wd} {b : Bool} : Den K tb W (.bl b) (.bl b) := by show aQ _ _ _ _ _; unfold aQ; rfl
theorem oO {W : Wd} : Den K tb W .non .non := by show aQ _ _ _ _ _; unfold aQ; rfl
theorem xm {W : Wd} {x : Str} : Den K tb W (.str x) (.str x) := by show aQ _ _ _ _ _; unfold aQ; rfl
theorem bh {W : Wd} {i : Int} {v : V} (h : Den K tb W (.int i) v) : v = .int i := by have h : aQ _ _ _ _ _ := h; unfold aQ at h; exact h
theorem nY {W : Wd} {b : Bool} {v : V} (h : Den K tb W (.bl b) v) : v = .bl b := by have h : aQ _ _ _ _ _ := h; unfold aQ at h; exact h
theorem BL {W : Wd} {v : V} (h : Den K tb W .non v) : v = .non := by have h : aQ _ _ _ _ _ := h; unfold aQ at h; exact h
theorem pG {W : Wd} {x : Str} {v : V} (h : Den K tb W (.str x) v) : v = .str x := by have h : aQ _ _ _ _ _ := h; unfold aQ at h; exact h
theorem gD {W : Wd} {ds : List D} {v : V} (h : Den K tb W (.tup ds) v) : ∃ a xs, v = .ref a ∧ SqT K (W.fz tb) a xs ∧ cB K tb W ds xs := by have h : aQ _ _ _ _ _ := h; unfold aQ at h; exact h
theorem mz {W : Wd} {ds : List D} {v : V} (h : Den K tb W (.lst ds) v) : ∃ a xs, v = .ref a ∧ W.fz tb a = some (.lst xs) ∧ cB K tb W ds xs := by have h : aQ _ _ _ _ _ := h; unfold aQ at h; exact h
theorem jr {W : Wd} {ds : List D} {v : V} (h : Den K tb W (.lst ds) v) : ∃ a xs, v = .ref a ∧ SqL K (W.fz tb) a xs ∧ cB K tb W ds xs := let ⟨a, xs, e, q, r⟩ := mz h; ⟨a, xs, e, SqL.of q, r⟩
theorem vz {W : Wd} {ds : List D} {v : V} (h : Den K tb W (.ro ds) v) : ∃ a xs, v = .ref a ∧ SqL K (W.fz tb) a xs ∧ cB K tb W ds xs := by have h : aQ _ _ _ _ _ := h; unfold aQ at h; exact h
theorem Hi {W : Wd} {kvs : List (Key × D)} {v : V} (h : Den K tb W (.dic kvs) v) : ∃ a ps, v = .ref a ∧ W.fz tb a = some (.dK ps) ∧ dY K (W.fz tb) W.ad kvs ps := by have h : aQ _ _ _ _ _ := h; unfold aQ at h; exact h
theorem gY {W : Wd} {n : Nat} {v : V} (h : Den K tb W (.cell n) v) : ∃ a, v = .ref a ∧ W.ad[n]? = some a := by have h : aQ _ _ _ _ _ := h; unfold aQ at h; exact h
theorem lR {W : Wd} {Q : VK} {ds : List D} {vs : List V} {p : Addr} (ok : WOk K tb W) (h : ∀ v W', WOk K tb W' → Le tb W W' → W'.mu = W.mu → Den K tb W' (.tup ds) v → Q v W'.H) (r : cB K tb W ds vs) (hp : W.H p = none) : Q (.ref p) (upd W.H p (.tup vs)) := by
 obtain ⟨ok', le, e⟩ := ok.alloc (o := .tup vs) hp
 refine h (.ref p) _ ok' le rfl ?_
 show aQ _ _ _ _ _
 unfold aQ
 exact ⟨p, vs, rfl, .inl (.inl e), cB.mono' r le⟩
theorem jo {W : Wd} {Q : VK} {ds : List D} {vs : List V} {p : Addr} (ok : WOk K tb W) (h : ∀ v W', WOk K tb W' → Le tb W W' → W'.mu = W.mu → Den K tb W' (.lst ds) v → Q v W'.H) (r : cB K tb W ds vs) (hp : W.H p = none) : Q (.ref p) (upd W.H p (.lst vs)) := by
 obtain ⟨ok', le, e⟩ := ok.alloc (o := .lst vs) hp
 refine h (.ref p) _ ok' le rfl ?_
 show aQ _ _ _ _ _
 unfold aQ
 exact ⟨p, vs, rfl, e, cB.mono' r le⟩
end
section
variable {X : Cx} {tb : List Addr} {a b c e : Expr} {fa fb fc f : EF} {pos : Pos}
theorem Ip {i : Nat} {x : Str} (hN : X.N[i]? = some x) (hv : Vis X.env.scope x) (hd : (x == ("__debug__" : Str)) = false := by decide) (hcd : (x == ("__classdict__" : Str)) = false := by decide) : PD X tb (.Name x pos) (ak i) :=
 dH (Hr hN hv hd hcd) fun σ H Q zq1 => by
  obtain ⟨W, δ, d, μ', e, ok, hd, hf, h⟩ := zq1
  subst e
  unfold ak at hf
  split at hf
  ·rename_i d' e
   cases hf
   obtain ⟨v, ev, r⟩ := hd.2 i _ e
   exact ⟨v, ev, put ok h r⟩
  ·cases hf
theorem lQ {d : D} {v : V} (hp : PE X e (tC v)) (hd : ∀ W, Den X.K tb W d v) : PD X tb e (mC d) :=
 dH hp fun σ H Q zq2 => by
  obtain ⟨W, δ, d', μ', e, ok, _, hf, h⟩ := zq2
  subst e
  cases hf
  exact put ok h (hd W)
theorem aq {i j} : PD X tb (.Constant (.int i) j pos) (mC (.int i)) := lQ zz fun _ => cY
theorem ie {i j} : PD X tb (.Constant (.bool i) j pos) (mC (.bl i)) := lQ JC fun _ => fL
theorem sS {j} : PD X tb (.Constant .none j pos) (mC .non) := lQ HH fun _ => oO
theorem su {i j} : PD X tb (.Constant (.str i) j pos) (mC (.str i)) := lQ Je fun _ => xm
theorem GP {r : V → Hp → VK → Prop} {op : D → Mu → Option (D × Mu)} (hp : ∀ ta, PE X a ta → PE X e (tUn r ta)) (ho : RD1 X.K tb r op) (ha : PD X tb a fa) : PD X tb e (M1 fa op) :=
 dH (hp _ ha) fun σ H Q zq3 => by
  obtain ⟨W, δ, d, μ', e, ok, hd, hf, h⟩ := zq3
  unfold M1 at hf
  obtain ⟨⟨x, μ1⟩, e1, e2⟩ := Option.bind_eq_some_iff.mp hf
  exact ⟨W, δ, x, μ1, e, ok, hd, e1, fun v W1 ok1 l1 m1 d1 => ho W1 x v d μ' Q ok1 d1 (by rw [m1]; exact e2) fun v' W' ok' l' m' d' => h v' W' ok' (l1.trans l') m' d'⟩
theorem vY {r : R2} {op : D → D → Mu → Option (D × Mu)} (hp : ∀ ta tb, PE X a ta → PE X b tb → PE X e (tOp r ta tb)) (ho : RD2 X.K tb r op) (ha : PD X tb a fa) (hb : PD X tb b fb) : PD X tb e (M2 fa fb op) :=
 dH (hp _ _ ha hb) fun σ H Q zq4 => by
  obtain ⟨W, δ, d, μ', e, ok, hd, hf, h⟩ := zq4
  unfold M2 at hf
  obtain ⟨⟨x, μ1⟩, e1, hf⟩ := Option.bind_eq_some_iff.mp hf
  obtain ⟨⟨y, μ2⟩, e2, e3⟩ := Option.bind_eq_some_iff.mp hf
  refine ⟨W, δ, x, μ1, e, ok, hd, e1, fun v W1 ok1 l1 m1 d1 => ⟨W1, δ, y, μ2, rfl, ok1, hd.mono' l1, (by rw [m1]; exact e2), fun u W2 ok2 l2 m2 d2 => ?_⟩⟩
  exact ho W2 x y v u d μ' Q ok2 (Den.mono' d1 l2) d2 (by rw [m2]; exact e3) fun v' W' ok' l' m' d' => h v' W' ok' ((l1.trans l2).trans l') m' d'
theorem ao : PAD X tb [] au := FQ vQ fun σ H Q zq5 => by
 obtain ⟨W, δ, d, μ', e, ok, hd, hf, h⟩ := zq5
 subst e; cases hf
 exact h [] W ok (Le.refl _) rfl az.nil
theorem aa {es : List Expr} {fs : AF} (ha : PD X tb e f) (hr : PAD X tb es fs) (hs : starEach (e :: es) X.env = (false, eval e X.env) :: starEach es X.env := by rfl) : PAD X tb (e :: es) (aj f fs) :=
 FQ (oR ha hr hs) fun σ H Q zq6 => by
  obtain ⟨W, δ, ds, μ', e, ok, hd, hf, h⟩ := zq6
  unfold aj at hf
  obtain ⟨⟨x, μ1⟩, e1, hf⟩ := Option.bind_eq_some_iff.mp hf
  obtain ⟨⟨xs, μ2⟩, e2, e3⟩ := Option.bind_eq_some_iff.mp hf
  cases e3
  refine ⟨W, δ, x, μ1, e, ok, hd, e1, fun v W1 ok1 l1 m1 d1 => ⟨W1, δ, xs, _, rfl, ok1, hd.mono' l1, (by rw [m1]; exact e2), fun vs W2 ok2 l2 m2 d2 => ?_⟩⟩
  exact h (v :: vs) W2 ok2 (l1.trans l2) m2 (az.cons (Den.mono' d1 l2) d2)
theorem yH {es : List Expr} {fs : AF} {r : List V → Hp → VK → Prop} {op : List D → Mu → Option (D × Mu)} (hp : ∀ ta, PA X es ta → PE X e (tCB r ta)) (ho : RDN X.K tb r op) (ha : PAD X tb es fs) : PD X tb e (MC fs op) :=
 dH (hp _ ha) fun σ H Q zq7 => by
  obtain ⟨W, δ, d, μ', e, ok, hd, hf, h⟩ := zq7
  unfold MC at hf
  obtain ⟨⟨x, μ1⟩, e1, e2⟩ := Option.bind_eq_some_iff.mp hf
  exact ⟨W, δ, x, μ1, e, ok, hd, e1, fun v W1 ok1 l1 m1 d1 => ho W1 x v d μ' Q ok1 d1 (by rw [m1]; exact e2) fun v' W' ok' l' m' d' => h v' W' ok' (l1.trans l') m' d'⟩
def oTup (ds : List D) (μ : Mu) : Option (D × Mu) := if ds.length ≤ sizeLine then some (.tup ds, μ) else none
def oLst (ds : List D) (μ : Mu) : Option (D × Mu) := if ds.length ≤ sizeLine then some (.lst ds, μ) else none
theorem aW {es : List Expr} {fs : AF} {x1} (h : PAD X tb es fs) : PD X tb (.Tuple es x1 pos) (MC fs oTup) :=
 yH (r := fun xs H Q => xs.length ≤ sizeLine ∧ ∀ p, H p = none → Q (.ref p) (upd H p (.tup xs))) (fun ta h => HF h) (fun W xs vs d μ' Q ok r ho h => by
  unfold oTup at ho
  split at ho
  ·rename_i hl
   cases ho
   exact ⟨by rw [← az.length r]; exact hl, fun p hp => lR ok h r hp⟩
  ·cases ho) h
theorem cA {es : List Expr} {fs : AF} (h : PAD X tb es fs) : PD X tb (.List es pos) (MC fs oLst) :=
 yH (r := fun xs H Q => xs.length ≤ sizeLine ∧ ∀ p, H p = none → Q (.ref p) (upd H p (.lst xs))) (fun ta h => Bf h) (fun W xs vs d μ' Q ok r ho h => by
  unfold oLst at ho
  split at ho
  ·rename_i hl
   cases ho
   exact ⟨by rw [← az.length r]; exact hl, fun p hp => jo ok h r hp⟩
  ·cases ho) h
def uN : D → Mu → Option Bool
 | .bl b, _ => some b
 | .int i, _ => some (i != 0)
 | .non, _ => some false
 | .tup ds, _ => some !ds.isEmpty
 | .lst ds, _ => some !ds.isEmpty
 | .cell n, μ => match μ[n]? with
  | some (some ds) => some !ds.isEmpty
  | _ => none
 | _, _ => none
end
end L3
namespace L3
open PySem PySem.Spec PyProof.Rows L2
section
variable {K : PySem.W.Frag} {tb : List Addr}
theorem Eb {W : Wd} {x : D} {v : V} {k : Bool} (ok : WOk K tb W) (h : Den K tb W x v) (e : uN x W.mu = some k) : HS K v W.H k := by
 cases x with
 | non => rw [BL h]; cases e; rfl
 | bl b => rw [nY h]; cases e; rfl
 | int i => rw [bh h]; cases e; rfl
 | str y => cases e
 | dic y => cases e
 | ro y => cases e
 | tup ds =>
  obtain ⟨a, xs, rfl, q, r⟩ := gD h
  cases e
  refine .inr (.inl ⟨xs, SqT.fz q, ?_⟩)
  have := az.length r
  cases ds <;> cases xs <;> simp_all
 | lst ds =>
  obtain ⟨a, xs, rfl, q, r⟩ := jr h
  cases e
  refine .inl ⟨xs, SqL.fz q, ?_⟩
  have := az.length r
  cases ds <;> cases xs <;> simp_all
 | cell n =>
  obtain ⟨a, rfl, q⟩ := gY h
  have e' : (match W.mu[n]? with | some (some ds) => some !ds.isEmpty | _ => none) = some k := e
  cases e2 : W.mu[n]? with
  | none => rw [e2] at e'; cases e'
  | some o =>
   cases o with
   | none => rw [e2] at e'; cases e'
   | some ds =>
    rw [e2] at e'
    have e'' : some (!ds.isEmpty) = some k := e'
    cases e''
    obtain ⟨xs, e3, r⟩ := ok.cont n a ds q e2
    refine .inl ⟨xs, SqL.of e3, ?_⟩
    have := az.length r
    cases ds <;> cases xs <;> simp_all
end
section
variable {X : Cx} {tb : List Addr} {a b c e : Expr} {fa fb fc f : EF} {ta tc : TF} {pos : Pos}
def oA (f : EF) : TF := fun δ μ => (f δ μ).bind fun r => (uN r.1 r.2).map fun k => (k, r.2)
theorem km (h : PD X tb e f) (he : ∀ whole, isTrue e X.env whole = (do let v ← whole; standAt e.pos; holding [v] (truthy v)) := by intro _; rfl) : PTD X tb e (oA f) :=
 Bt (BP h he) fun σ H Q zq1 => by
  obtain ⟨W, δ, k, μ', e, ok, hd, hf, h⟩ := zq1
  unfold oA at hf
  obtain ⟨⟨x, μ1⟩, e1, e2⟩ := Option.bind_eq_some_iff.mp hf
  obtain ⟨k', e3, e4⟩ := Option.map_eq_some_iff.mp e2
  cases e4
  exact ⟨W, δ, x, _, e, ok, hd, e1, fun v W1 ok1 l1 m1 d1 => ⟨k, Eb ok1 d1 (by rw [m1]; exact e3), h W1 ok1 l1 m1⟩⟩
structure OpD (X : Cx) (tb : List Addr) (sem : Value → Value → Sem Value) (op : D → D → Mu → Option (D × Mu)) : Prop where
 ex : ∃ r, OpR X sem r ∧ RD2 X.K tb r op
theorem aA {o : Operator} {op : D → D → Mu → Option (D × Mu)} (ho : OpD X tb (binaryOp o) op) (ha : PD X tb a fa) (hb : PD X tb b fb) : PD X tb (.BinOp a o b pos) (M2 fa fb op) := by
 obtain ⟨r, h1, h2⟩ := ho.ex
 exact vY (fun ta tb ha hb => Gh h1 ha hb) h2 ha hb
theorem zE {o : CmpOp} {op : D → D → Mu → Option (D × Mu)} (ho : OpD X tb (compareOp o) op) (ha : PD X tb a fa) (hb : PD X tb b fb) (hm : behindInMarks o b = false := by first | exact uF _ (by decide) (by decide) | rfl) : PD X tb (.Compare a [o] [b] pos) (M2 fa fb op) := by
 obtain ⟨r, h1, h2⟩ := ho.ex
 exact vY (fun ta tb ha hb => Dq h1 ha hb hm) h2 ha hb
def toB (f : EF) : TF := fun δ μ => (f δ μ).bind fun r => match r.1 with
 | .bl k => some (k, r.2)
 | _ => none
theorem aY {o : CmpOp} {op : D → D → Mu → Option (D × Mu)} (ho : OpD X tb (compareOp o) op) (ha : PD X tb a fa) (hb : PD X tb b fb) (hm : behindInMarks o b = false := by first | exact uF _ (by decide) (by decide) | rfl) : PTD X tb (.Compare a [o] [b] pos) (toB (M2 fa fb op)) := by
 obtain ⟨r, h1, h2⟩ := ho.ex
 refine Bt (Ea h1 ha hb hm) fun σ H Q zq2 => ?_
 obtain ⟨W, δ, k, μ', e, ok, hd, hf, h⟩ := zq2
 unfold toB at hf
 obtain ⟨⟨z, μz⟩, hf, ez⟩ := Option.bind_eq_some_iff.mp hf
 unfold M2 at hf
 obtain ⟨⟨x, μ1⟩, e1, hf⟩ := Option.bind_eq_some_iff.mp hf
 obtain ⟨⟨y, μ2⟩, e2, e3⟩ := Option.bind_eq_some_iff.mp hf
 cases z with
 | bl k' =>
  cases ez
  refine ⟨W, δ, x, μ1, e, ok, hd, e1, fun v W1 ok1 l1 m1 d1 => ⟨W1, δ, y, μ2, rfl, ok1, hd.mono' l1, (by rw [m1]; exact e2), fun u W2 ok2 l2 m2 d2 => ?_⟩⟩
  refine h2 W2 x y v u _ _ _ ok2 (Den.mono' d1 l2) d2 (by rw [m2]; exact e3) fun v' W' ok' l' m' d' => ?_
  exact ⟨k, nY d', h W' ok' ((l1.trans l2).trans l') m'⟩
 | _ => cases ez
def MCh (fa fb fc : EF) (op op' : D → D → Mu → Option (D × Mu)) : EF := fun δ μ => (fa δ μ).bind fun r => (fb δ r.2).bind fun q => (op r.1 q.1 q.2).bind fun z => match z.1 with
 | .bl true => (fc δ z.2).bind fun t => op' q.1 t.1 t.2
 | .bl false => some (.bl false, z.2)
 | _ => none
def jF (ta tc : TF) : TF := fun δ μ => (ta δ μ).bind fun r => if r.1 = true then tc δ r.2 else some (false, r.2)
def oF (ta tc : TF) : TF := fun δ μ => (ta δ μ).bind fun r => if r.1 = true then some (true, r.2) else tc δ r.2
def jy (ta : TF) : TF := fun δ μ => (ta δ μ).bind fun r => some (!r.1, r.2)
theorem uo (ha : PTD X tb a ta) : PWD X tb (.BoolOp .And [a] pos) ta := Fd ha
theorem tG (ha : PTD X tb a ta) : PWD X tb (.BoolOp .Or [a] pos) ta := GD ha
theorem xg {rest : List Expr} (ha : PTD X tb a ta) (hb : PWD X tb (.BoolOp .And (b :: rest) pos) tc) : PWD X tb (.BoolOp .And (a :: b :: rest) pos) (jF ta tc) :=
 Ga (Gu ha hb) fun σ H Q zq4 => by
  obtain ⟨W, δ, k, μ', e, ok, hd, hf, h⟩ := zq4
  unfold jF at hf
  obtain ⟨⟨z, μz⟩, e1, e2⟩ := Option.bind_eq_some_iff.mp hf
  refine ⟨W, δ, z, μz, e, ok, hd, e1, fun W1 ok1 l1 m1 => ?_⟩
  cases z with
  | true => exact ⟨W1, δ, k, μ', rfl, ok1, hd.mono' l1, (by rw [m1]; exact e2), fun W' ok' l' m' => h W' ok' (l1.trans l') m'⟩
  | false => cases e2; exact h W1 ok1 l1 m1
theorem qt {rest : List Expr} (ha : PTD X tb a ta) (hb : PWD X tb (.BoolOp .Or (b :: rest) pos) tc) : PWD X tb (.BoolOp .Or (a :: b :: rest) pos) (oF ta tc) :=
 Ga (JW ha hb) fun σ H Q zq5 => by
  obtain ⟨W, δ, k, μ', e, ok, hd, hf, h⟩ := zq5
  unfold oF at hf
  obtain ⟨⟨z, μz⟩, e1, e2⟩ := Option.bind_eq_some_iff.mp hf
  refine ⟨W, δ, z, μz, e, ok, hd, e1, fun W1 ok1 l1 m1 => ?_⟩
  cases z with
  | false => exact ⟨W1, δ, k, μ', rfl, ok1, hd.mono' l1, (by rw [m1]; exact e2), fun W' ok' l' m' => h W' ok' (l1.trans l') m'⟩
  | true => cases e2; exact h W1 ok1 l1 m1
theorem qg (h : PWD X tb a ta) : PTD X tb a ta := PW.pt h
theorem kE (ha : PTD X tb a ta) : PTD X tb (.UnaryOp .Not a pos) (jy ta) :=
 Bt (Hh ha) fun σ H Q zq6 => by
  obtain ⟨W, δ, k, μ', e, ok, hd, hf, h⟩ := zq6
  unfold jy at hf
  obtain ⟨⟨z, μz⟩, e1, e2⟩ := Option.bind_eq_some_iff.mp hf
  cases e2
  exact ⟨W, δ, z, _, e, ok, hd, e1, fun W1 ok1 l1 m1 => h W1 ok1 l1 m1⟩
def nU (fa fb : EF) : EF := fun δ μ => (fa δ μ).bind fun r => match r.1 with
 | .bl true => fb δ r.2
 | .bl false => some (.bl false, r.2)
 | _ => none
def qd (fa : EF) : EF := fun δ μ => (fa δ μ).bind fun r => match r.1 with
 | .bl k => some (.bl !k, r.2)
 | _ => none
theorem oU {o} (ha : PD X tb a fa) : PD X tb (.BoolOp o [a] pos) fa := Ja ha
theorem tQ {rest : List Expr} (ha : PD X tb a fa) (hb : PD X tb (.BoolOp .And (b :: rest) pos) fb) : PD X tb (.BoolOp .And (a :: b :: rest) pos) (nU fa fb) :=
 dH (Ii ha hb) fun σ H Q zq7 => by
  obtain ⟨W, δ, d, μ', e, ok, hd, hf, h⟩ := zq7
  unfold nU at hf
  obtain ⟨⟨z, μz⟩, e1, e2⟩ := Option.bind_eq_some_iff.mp hf
  refine ⟨W, δ, z, μz, e, ok, hd, e1, fun v W1 ok1 l1 m1 d1 => ?_⟩
  cases z with
  | bl k =>
   cases k with
   | true =>
   refine ⟨true, nY d1, ?_⟩
   rw [if_pos rfl]
   exact ⟨W1, δ, d, μ', rfl, ok1, hd.mono' l1, (by rw [m1]; exact e2), fun v W' ok' l' m' d' => h v W' ok' (l1.trans l') m' d'⟩
   | false =>
   cases e2
   refine ⟨false, nY d1, ?_⟩
   rw [if_neg Bool.false_ne_true]
   exact h _ W1 ok1 l1 m1 fL
  | _ => cases e2
theorem wR (ha : PD X tb a fa) : PD X tb (.UnaryOp .Not a pos) (qd fa) :=
 dH (Hb ha) fun σ H Q zq9 => by
  obtain ⟨W, δ, d, μ', e, ok, hd, hf, h⟩ := zq9
  unfold qd at hf
  obtain ⟨⟨z, μz⟩, e1, e2⟩ := Option.bind_eq_some_iff.mp hf
  refine ⟨W, δ, z, μz, e, ok, hd, e1, fun v W1 ok1 l1 m1 d1 => ?_⟩
  cases z with
  | bl k =>
   cases e2
   exact ⟨k, nY d1, h _ W1 ok1 l1 m1 fL⟩
  | _ => cases e2
end
def bU : SF := fun δ μ => some (.nx, δ, μ)
def aP (g h : SF) : SF := fun δ μ => (g δ μ).bind fun r => match r.1 with
 | .nx => h r.2.1 r.2.2
 | _ => some r
def eF (f : EF) : SF := fun δ μ => (f δ μ).bind fun r => some (.nx, δ, r.2)
def bG (f : EF) : SF := fun δ μ => (f δ μ).bind fun r => some (.rt r.1, δ, r.2)
def sIf (c : TF) (g h : SF) : SF := fun δ μ => (c δ μ).bind fun r => if r.1 = true then g δ r.2 else h δ r.2
def bz (i : Nat) (f : EF) : SF := fun δ μ => (f δ μ).bind fun r => some (.nx, δ.set i (some r.1), r.2)
section
variable {X : Cx} {tb : List Addr} {e : Expr} {f : EF} {g h : SF} {st : Stmt} {rest : List Stmt} {pos : Pos}
theorem bC : qL X tb [] bU := Cg Cw fun E σ H zq11 => by
 obtain ⟨W, δ, fl, δ', μ', e, ok, hd, hf, h⟩ := zq11
 subst e; cases hf
 exact h σ W ok (Le.refl _) rfl hd
theorem aD (h1 : PSD X tb st g) : qL X tb [st] g := Dd h1
theorem aC (h1 : PSD X tb st g) (h2 : qL X tb rest h) : qL X tb (st :: rest) (aP g h) :=
 Cg (Bb h1 h2) fun E σ H zq12 => by
  obtain ⟨W, δ, fl, δ', μ', e, ok, hd, hf, k⟩ := zq12
  unfold aP at hf
  obtain ⟨⟨fl1, δ1, μ1⟩, e1, e2⟩ := Option.bind_eq_some_iff.mp hf
  refine ⟨W, δ, fl1, δ1, μ1, e, ok, hd, e1, fun σ1 W1 ok1 l1 m1 d1 => ?_⟩
  cases fl1 with
  | nx => exact ⟨W1, δ1, fl, δ', μ', rfl, ok1, d1, (by rw [m1]; exact e2), fun σ' W' ok' l' m' d' => k σ' W' ok' (l1.trans l') m' d'⟩
  | bk => cases e2; exact k σ1 W1 ok1 l1 m1 d1
  | ct => cases e2; exact k σ1 W1 ok1 l1 m1 d1
  | rt d => cases e2; exact k σ1 W1 ok1 l1 m1 d1
theorem iy (he : PD X tb e f) (hs : swapsWith e none pos.line X.env = pure false := by rfl) : PSD X tb (.Expr e pos) (eF f) :=
 jG (CZ he hs) fun E σ H zq16 => by
  obtain ⟨W, δ, fl, δ', μ', e, ok, hd, hf, h⟩ := zq16
  unfold eF at hf
  obtain ⟨⟨x, μ1⟩, e1, e2⟩ := Option.bind_eq_some_iff.mp hf
  cases e2
  exact ⟨W, δ, x, _, e, ok, hd, e1, fun v W1 ok1 l1 m1 d1 => h σ W1 ok1 l1 m1 (hd.mono' l1)⟩
theorem aN (he : PD X tb e f) : PSD X tb (.Return (some e) pos) (bG f) :=
 jG (Ha he) fun E σ H zq17 => by
  obtain ⟨W, δ, fl, δ', μ', e, ok, hd, hf, h⟩ := zq17
  unfold bG at hf
  obtain ⟨⟨x, μ1⟩, e1, e2⟩ := Option.bind_eq_some_iff.mp hf
  cases e2
  exact ⟨W, δ, x, _, e, ok, hd, e1, fun v W1 ok1 l1 m1 d1 => h σ W1 ok1 l1 m1 (hd.mono' l1) v d1⟩
theorem dm {c : Expr} {tc : TF} {as bs : List Stmt} (hc : PTD X tb c tc) (ha : qL X tb as g) (hb : qL X tb bs h) : PSD X tb (.If c as bs pos) (sIf tc g h) :=
 jG (Ku hc ha hb) fun E σ H zq18 => by
  obtain ⟨W, δ, fl, δ', μ', e, ok, hd, hf, k⟩ := zq18
  unfold sIf at hf
  obtain ⟨⟨z, μ1⟩, e1, e2⟩ := Option.bind_eq_some_iff.mp hf
  refine ⟨W, δ, z, μ1, e, ok, hd, e1, fun W1 ok1 l1 m1 => ?_⟩
  cases z with
  | true => exact ⟨W1, δ, fl, δ', μ', rfl, ok1, hd.mono' l1, (by rw [m1]; exact e2), fun σ' W' ok' l' m' d' => k σ' W' ok' (l1.trans l') m' d'⟩
  | false => exact ⟨W1, δ, fl, δ', μ', rfl, ok1, hd.mono' l1, (by rw [m1]; exact e2), fun σ' W' ok' l' m' d' => k σ' W' ok' (l1.trans l') m' d'⟩
theorem aZ {i : Nat} {x : Str} {pos' : Pos} (hN : X.N.Nodup) (he : PD X tb e f) (hi : X.N[i]? = some x := by rfl) (hx : Loc X.env.scope x := by first | exact Or.inl rfl | exact Or.inr rfl) (hs : swapsWith e (some (.Name x pos')) pos.line X.env = pure false := by rfl)
  (hf : X.fn x = true ∨ X.env.scope.names.lookup x = some .local := by first | exact .inl rfl | exact .inr rfl | assumption) : PSD X tb (.Assign [.Name x pos'] e pos) (bz i f) :=
 jG (Ie hN hi hx he hs hf) fun E σ H zq19 => by
  obtain ⟨W, δ, fl, δ', μ', e, ok, hd, hf, h⟩ := zq19
  unfold bz at hf
  obtain ⟨⟨x, μ1⟩, e1, e2⟩ := Option.bind_eq_some_iff.mp hf
  cases e2
  exact ⟨W, δ, x, _, e, ok, hd, e1, fun v W1 ok1 l1 m1 d1 => h _ W1 ok1 l1 m1 ((hd.mono' l1).set d1)⟩
def tX (i j : Nat) (fs : AF) : SF := fun δ μ => (fs δ μ).bind fun r => match r.1 with
 | [x, y] => some (.nx, (δ.set i (some x)).set j (some y), r.2)
 | _ => none
theorem tO {i j : Nat} {x y : Str} {a b : Expr} {fs : AF} {px py pt : Pos} {kt k2 pt2} (hc : X.calm = true) (hN : X.N.Nodup) (ha : PAD X tb [a, b] fs) (hij : i ≠ j := by decide) (hi : X.N[i]? = some x := by rfl) (hj : X.N[j]? = some y := by rfl)
  (hx : X.env.scope.names.lookup x = some .local := by rfl) (hy : X.env.scope.names.lookup y = some .local := by rfl)
  (hw : swappedStores [.Tuple [.Name x px, .Name y py] kt pt] (.Tuple [a, b] k2 pt2) X.env = pure (some [x, y]) := by rfl)
  (hs : swapsWithSole [.Tuple [.Name x px, .Name y py] kt pt] (.Tuple [a, b] k2 pt2) pos.line X.env = pure false := by rfl) :
  PSD X tb (.Assign [.Tuple [.Name x px, .Name y py] kt pt] (.Tuple [a, b] k2 pt2) pos) (tX i j fs) :=
 jG (Ht hc hN hi hj hij hx hy ha hw hs) fun E σ H zq20 => by
  obtain ⟨W, δ, fl, δ', μ', e, ok, hd, hf, h⟩ := zq20
  unfold tX at hf
  obtain ⟨⟨xs, μ1⟩, e1, e2⟩ := Option.bind_eq_some_iff.mp hf
  match xs, e1, e2 with
  | [x, y], e1, e2 =>
   cases e2
   refine ⟨W, δ, _, _, e, ok, hd, e1, fun vs W1 ok1 l1 m1 d1 => ?_⟩
   obtain ⟨u, v, rfl, du, dv⟩ := az.two d1
   exact ⟨u, v, rfl, h _ W1 ok1 l1 m1 (((hd.mono' l1).set du).set dv)⟩
def dC (c : TF) (b : SF) : Nat → SF
 | 0 => fun _ _ => none
 | n + 1 => fun δ μ => (c δ μ).bind fun r => if r.1 = true then (b δ r.2).bind fun q => match q.1 with
   | .nx => dC c b n q.2.1 q.2.2
   | .ct => dC c b n q.2.1 q.2.2
   | .bk => some (.nx, q.2)
   | .rt d => some (.rt d, q.2)
  else some (.nx, δ, r.2)
theorem iH {c : TF} {b : SF} : ∀ {n m : Nat} {δ : En} {μ : Mu} {r : Fl × En × Mu}, n ≤ m → dC c b n δ μ = some r → dC c b m δ μ = some r
 | 0, _, _, _, _, _, h => by cases h
 | n + 1, 0, _, _, _, hl, _ => by omega
 | n + 1, m + 1, δ, μ, r, hl, h => by
  unfold dC at h ⊢
  obtain ⟨q, e1, e2⟩ := Option.bind_eq_some_iff.mp h
  rw [e1]
  show (if q.1 = true then _ else _) = _
  by_cases hq : q.1 = true
  ·rw [if_pos hq] at e2 ⊢
   obtain ⟨t, e3, e4⟩ := Option.bind_eq_some_iff.mp e2
   rw [e3]
   show (match t.1 with | .nx => _ | .ct => _ | .bk => _ | .rt d => _) = _
   cases ht : t.1 with
   | nx => rw [ht] at e4; exact iH (by omega) e4
   | ct => rw [ht] at e4; exact iH (by omega) e4
   | bk => rw [ht] at e4; exact e4
   | rt d => rw [ht] at e4; exact e4
  ·rw [if_neg hq] at e2 ⊢; exact e2
open Classical in
noncomputable def jw (c : TF) (b : SF) : SF := fun δ μ => if h : ∃ n r, dC c b n δ μ = some r then some (choose (choose_spec h)) else none
theorem nA {c : TF} {b : SF} {n : Nat} {δ : En} {μ : Mu} {r : Fl × En × Mu} (h : dC c b n δ μ = some r) : jw c b δ μ = some r := by
 have hx : ∃ n r, dC c b n δ μ = some r := ⟨n, r, h⟩
 unfold jw
 rw [dif_pos hx]
 have q := Classical.choose_spec (Classical.choose_spec hx)
 have a := iH (Nat.le_max_left n (Classical.choose hx)) h
 have b := iH (Nat.le_max_right n (Classical.choose hx)) q
 rw [a] at b
 exact b.symm
theorem yI {c : TF} {b : SF} {δ : En} {μ : Mu} {r : Fl × En × Mu} (h : jw c b δ μ = some r) : ∃ n, dC c b n δ μ = some r := by
 unfold jw at h
 split at h
 ·rename_i hx
  cases h
  exact ⟨_, Classical.choose_spec (Classical.choose_spec hx)⟩
 ·cases h
theorem nq {c : Expr} {tc : TF} {body : List Stmt} (hp : PassesOwn (model X.prog X.w) X.A X.env X.xe) (hc : PTD X tb c tc) (hb : qL X tb body g) : PSD X tb (.While c body [] pos) (jw tc g) :=
 jG (Bw hp hc hb) fun E σ H zq21 => by
  obtain ⟨W, δ, fl, δ', μ', e, ok, hd, hf, h⟩ := zq21
  obtain ⟨n0, hn0⟩ := yI hf
  refine ⟨fun m σ1 H1 => ∃ W1 δ1, W1.H = H1 ∧ WOk X.K tb W1 ∧ Le tb W W1 ∧ gG X.K tb W1 δ1 σ1 ∧ dC tc g m δ1 W1.mu = some (fl, δ', μ'), ⟨n0, W, δ, e, ok, Le.refl _, hd, hn0⟩, ?_⟩
  rintro m σ1 H1 ⟨W1, δ1, rfl, ok1, l1, d1, hn⟩
  cases m with
  | zero => cases hn
  | succ m =>
   unfold dC at hn
   obtain ⟨⟨k, μ2⟩, e1, e2⟩ := Option.bind_eq_some_iff.mp hn
   refine ⟨W1, δ1, k, μ2, rfl, ok1, d1, e1, fun W2 ok2 l2 m2 => ?_⟩
   cases k with
   | false =>
    cases e2
    rw [if_neg Bool.false_ne_true]
    exact h σ1 W2 ok2 (l1.trans l2) m2 (d1.mono' l2)
   | true =>
    rw [if_pos rfl]
    obtain ⟨⟨fl3, δ3, μ3⟩, e3, e4⟩ := Option.bind_eq_some_iff.mp e2
    refine ⟨fun σ3 H3 => ∃ W3, W3.H = H3 ∧ WOk X.K tb W3 ∧ Le tb W W3 ∧ gG X.K tb W3 δ3 σ3 ∧ dC tc g m δ3 W3.mu = some (fl, δ', μ'), fun σ3 H3 ⟨W3, q1, q2, q3, q4, q5⟩ => ⟨m, Nat.lt_succ_self _, W3, δ3, q1, q2, q3, q4, q5⟩, ?_⟩
    refine ⟨W2, δ1, fl3, δ3, μ3, rfl, ok2, d1.mono' l2, (by rw [m2]; exact e3), fun σ3 W3 ok3 l3 m3 d3 => ?_⟩
    cases fl3 with
    | nx => exact ⟨W3, rfl, ok3, (l1.trans l2).trans l3, d3, by rw [m3]; exact e4⟩
    | ct => exact ⟨W3, rfl, ok3, (l1.trans l2).trans l3, d3, by rw [m3]; exact e4⟩
    | bk => cases e4; exact h σ3 W3 ok3 ((l1.trans l2).trans l3) m3 d3
    | rt d => cases e4; exact h σ3 W3 ok3 ((l1.trans l2).trans l3) m3 d3
end
end L3
namespace L3
open PySem PySem.Spec PyProof.Rows L2
abbrev GF := D → En → Mu → Option En
abbrev GsF := List D → En → Mu → Option En
def tDG (K : PySem.W.Frag) (tb : List Addr) (ts : List Nat) (h : GF) : TG := fun v σ H Q => ∃ W δ d δ', W.H = H ∧ WOk K tb W ∧ gG K tb W δ σ ∧ Den K tb W d v ∧ h d δ W.mu = some δ' ∧
 ∀ σ', gG K tb W δ' σ' → σ'.length = σ.length → (∀ i, i ∉ ts → σ'[i]? = σ[i]?) → Q σ' H
def tDGs (K : PySem.W.Frag) (tb : List Addr) (ts : List Nat) (h : GsF) : TGs := fun vs σ H Q => ∃ W δ ds δ', W.H = H ∧ WOk K tb W ∧ gG K tb W δ σ ∧ cB K tb W ds vs ∧ h ds δ W.mu = some δ' ∧
 ∀ σ', gG K tb W δ' σ' → σ'.length = σ.length → (∀ i, i ∉ ts → σ'[i]? = σ[i]?) → Q σ' H
def PGD (X : Cx) (tb : List Addr) (tg : Expr) (ts : List Nat) (h : GF) : Prop := PG X tg (tDG X.K tb ts h)
def DP (X : Cx) (tb : List Addr) (tg : List Expr) (ts : List Nat) (h : GsF) : Prop := PGs X tg (tDGs X.K tb ts h)
theorem Gg {X : Cx} {e : Expr} {t t' : TG} (h : PG X e t) (k : ∀ v σ H Q, t' v σ H Q → t v σ H Q) : PG X e t' := fun pins s σ H v u Q I r hq => h pins s σ H v u Q I r (k v σ H Q hq)
theorem Av {X : Cx} {e : List Expr} {t t' : TGs} (h : PGs X e t) (k : ∀ v σ H Q, t' v σ H Q → t v σ H Q) : PGs X e t' := fun pins s σ H v u Q I r hq => h pins s σ H v u Q I r (k v σ H Q hq)
def hName (i : Nat) : GF := fun d δ _ => some (δ.set i (some d))
def jB : GsF := fun ds δ _ => match ds with
 | [] => some δ
 | _ => none
def bW (h : GF) (hs : GsF) : GsF := fun ds δ μ => match ds with
 | [] => none
 | d :: r => (h d δ μ).bind fun δ1 => hs r δ1 μ
def jD (n : Nat) (hs : GsF) : GF := fun d δ μ => match d with
 | .tup ds => if ds.length = n then hs ds δ μ else none
 | _ => none
section
variable {X : Cx} {tb : List Addr} {e tg iter elt : Expr} {f : EF} {pos : Pos}
theorem aH {i : Nat} {x : Str} (hN : X.N.Nodup) (hi : X.N[i]? = some x := by rfl) (hx : Loc X.env.scope x := by first | exact Or.inl rfl | exact Or.inr rfl)
  (hf : X.fn x = true ∨ X.env.scope.names.lookup x = some .local := by first | exact .inl rfl | exact .inr rfl | assumption) : PGD X tb (.Name x pos) [i] (hName i) :=
 Gg (Ej hN hi hx hf) fun v σ H Q zq1 => by
  obtain ⟨W, δ, d, δ', e, ok, hd, dv, hh, h⟩ := zq1
  cases hh
  refine h _ (hd.set dv) (by rw [List.length_set]) fun j hj => ?_
  rw [List.getElem?_set_ne (fun z => hj (by simp [z]))]
theorem gw : DP X tb [] [] jB :=
 Av Eo fun vs σ H Q zq2 => by
  obtain ⟨W, δ, ds, δ', e, ok, hd, dv, hh, h⟩ := zq2
  match ds, dv, hh with
  | [], dv, hh =>
   cases hh
   exact ⟨az.zero dv, h σ hd rfl fun _ _ => rfl⟩
theorem bF {es : List Expr} {ts us : List Nat} {h : GF} {hs : GsF} (h1 : PGD X tb e ts h) (h2 : DP X tb es us hs)
  (ha : (assignEach (e :: es) X.env).map (·.2) = assign e X.env :: (assignEach es X.env).map (·.2) := by rfl) : DP X tb (e :: es) (ts ++ us) (bW h hs) :=
 Av (Aq h1 h2 ha) fun vs σ H Q zq3 => by
  obtain ⟨W, δ, ds, δ', e, ok, hd, dv, hh, k⟩ := zq3
  match ds, dv, hh with
  | d :: r, dv, hh =>
   obtain ⟨δ1, e1, e2⟩ := Option.bind_eq_some_iff.mp hh
   have dv' : az _ _ _ _ _ := dv
   unfold az at dv'
   obtain ⟨u, us', rfl, p, q⟩ := dv'
   refine ⟨u, us', rfl, W, δ, d, δ1, e, ok, hd, p, e1, fun σ1 d1 l1 s1 => ⟨W, δ1, r, δ', e, ok, d1, q, e2, fun σ2 d2 l2 s2 => ?_⟩⟩
   exact k σ2 d2 (l2.trans l1) fun i hi => (s2 i fun z => hi (List.mem_append_right _ z)).trans (s1 i fun z => hi (List.mem_append_left _ z))
theorem iI {es : List Expr} {k : Nat} {ts : List Nat} {hs : GsF} {n : Nat} (hc : X.calm = true) (h : DP X tb es ts hs) (hn : (assignEach es X.env).length = n := by rfl) (hst : (assignEach es X.env).findIdx? (·.1) = none := by rfl) :
  PGD X tb (.Tuple es k pos) ts (jD n hs) :=
 Gg (Gs hc h hn hst) fun v σ H Q zq4 => by
  obtain ⟨W, δ, d, δ', e, ok, hd, dv, hh, k⟩ := zq4
  cases d with
  | tup ds =>
   obtain ⟨a, xs, rfl, q, r⟩ := gD dv
   have hh' : (if ds.length = n then hs ds δ W.mu else none) = some δ' := hh
   by_cases hl : ds.length = n
   ·rw [if_pos hl] at hh'
    have q' : SqT X.K H a xs := by rw [← e]; exact SqT.fz q
    have hl' : xs.length = n := by rw [← az.length r]; exact hl
    exact ⟨a, xs, rfl, q', hl', ⟨W, δ, ds, δ', e, ok, hd, r, hh', k⟩⟩
   ·rw [if_neg hl] at hh'; cases hh'
  | _ => cases hh
def Ae (f : EF) (h : GF) : SF := fun δ μ => (f δ μ).bind fun r => (h r.1 δ r.2).bind fun δ' => some (.nx, δ', r.2)
theorem xf {ts : List Nat} {h : GF} (he : PD X tb e f) (hg : PGD X tb tg ts h) (hs : swapsWithSole [tg] e pos.line X.env = pure false := by rfl) (hw : swappedStores [tg] e X.env = pure none := by rfl)
  (h1 : (assignEach [tg] X.env).map (·.2) = [assign tg X.env] := by rfl) : PSD X tb (.Assign [tg] e pos) (Ae f h) :=
 jG (Jb he hg hs hw h1) fun E σ H zq5 => by
  obtain ⟨W, δ, fl, δ', μ', e, ok, hd, hf, k⟩ := zq5
  unfold Ae at hf
  obtain ⟨⟨x, μ1⟩, e1, hf⟩ := Option.bind_eq_some_iff.mp hf
  obtain ⟨δ1, e2, e3⟩ := Option.bind_eq_some_iff.mp hf
  cases e3
  refine ⟨W, δ, x, _, e, ok, hd, e1, fun v W1 ok1 l1 m1 d1 => ⟨W1, δ, x, _, rfl, ok1, hd.mono' l1, d1, (by rw [m1]; exact e2), fun σ1 d2 _ _ => ?_⟩⟩
  exact k σ1 W1 ok1 l1 m1 d2
structure Src where
 items : List D
 cel : Option Nat
def Src.ok (S : Src) (μ : Mu) : Prop := ∀ n, S.cel = some n → μ[n]? = some (some S.items)
theorem Src.bI {S : Src} {μ : Mu} (h : S.cel = none) : S.ok μ := fun n e => by rw [h] at e; cases e
abbrev IF := En → Mu → Option (Src × Mu)
structure yr (K : PySem.W.Frag) (tb : List Addr) (J : It) (S : Src) (W0 : Wd) : Prop where
 go : ∀ (i : Nat) W d, Le tb W0 W → WOk K tb W → S.ok W.mu → S.items[i]? = some d → J.go i W.H ∧ ∀ x H', J.yld i W.H x H' → ∃ W', W'.H = H' ∧ WOk K tb W' ∧ Le tb W W' ∧ W'.mu = W.mu ∧ Den K tb W' d x
 stop : ∀ (i : Nat) W, Le tb W0 W → WOk K tb W → S.ok W.mu → S.items.length ≤ i → J.stop i W.H
def tDI (K : PySem.W.Frag) (tb : List Addr) (f : IF) : TI := fun σ H R => ∃ W δ S μ', W.H = H ∧ WOk K tb W ∧ gG K tb W δ σ ∧ f δ W.mu = some (S, μ') ∧
 ∀ J W', WOk K tb W' → Le tb W W' → W'.mu = μ' → yr K tb J S W' → R J W'.H
def PID (X : Cx) (tb : List Addr) (tg iter : Expr) (f : IF) : Prop := PI X tg iter (tDI X.K tb f)
theorem wY {w w' : TI} (h : PI X tg iter w) (k : ∀ σ H R, w' σ H R → w σ H R) : PI X tg iter w' := fun pins s σ H R I hq => h pins s σ H R I (k σ H R hq)
theorem Gy {l : Expr} {tl : TE} (hl : PE X l tl) : PI X tg l (fun σ H R => tl σ H fun x H1 => ∃ a, x = .ref a ∧ ((∃ xs, SqL X.K H1 a xs) ∧ R (Itl X.K a) H1 ∨ (∃ xs, SqT X.K H1 a xs) ∧ R (Itt X.K a) H1)) := by
 intro pins s σ H R I h
 refine thn (hl pins s σ H _ I h) fun v s1 zq6 => ?_
 obtain ⟨x, H1, I1, r1, q1⟩ := zq6
 obtain ⟨a, e, q⟩ := q1
 subst e
 cases r1
 rcases q with ⟨⟨xs, hq⟩, q⟩ | ⟨⟨xs, hq⟩, q⟩
 ·obtain ⟨its, rv, p, hz⟩ := I1.list hq
  refine wpAny_pyIter_list p.isList ?_
  refine ⟨s1.heap.objs.size, [s1.heap.objs.size], _, _, H1, rfl, I1.kept (t' := s1.toks) fun b o e => Heap.get?_push_of_some _ e, qZ a _, ⟨_, Heap.get?_push_size _ rfl, rfl, rfl⟩, fun b hb => ?_, q⟩
  have e : b = s1.heap.objs.size := by simpa using hb
  subst e
  exact I1.fpOk (Nat.le_refl _) (I1.hok.fresh (Nat.le_refl _))
 ·obtain ⟨its, rv, p, hz⟩ := I1.tuple hq
  refine wpAny_pyIter_tuple (show s1.heap.IsTuple a its.toArray from p) ?_
  refine ⟨s1.heap.objs.size, [s1.heap.objs.size], _, _, H1, rfl, I1.kept (t' := s1.toks) fun b o e => Heap.get?_push_of_some _ e, pQ a _, ⟨_, Heap.get?_push_size _ rfl, rfl, rfl⟩, fun b hb => ?_, q⟩
  have e : b = s1.heap.objs.size := by simpa using hb
  subst e
  exact I1.fpOk (Nat.le_refl _) (I1.hok.fresh (Nat.le_refl _))
def srcOf (d : D) (μ : Mu) : Option Src := match d with
 | .tup ds => some ⟨ds, none⟩
 | .lst ds => some ⟨ds, none⟩
 | .cell n => match μ[n]? with
  | some (some ds) => some ⟨ds, some n⟩
  | _ => none
 | _ => none
theorem zJ {K : PySem.W.Frag} {W0 : Wd} {a : Addr} {xs : List V} {ds : List D} (q : SqL K (W0.fz tb) a xs) (r : cB K tb W0 ds xs) : yr K tb (Itl K a) ⟨ds, none⟩ W0 where
 go := fun i W d l ok _ e => by
  have q' : SqL K W.H a xs := SqL.fz (SqL.mono l.same q)
  obtain ⟨v, ev, dv⟩ := az.get (cB.mono' r l) e
  exact ⟨⟨xs, v, q', ev⟩, fun x H' ⟨e1, e2⟩ => ⟨W, e1.symm, ok, Le.refl _, rfl, by have := e2 xs q'; rw [ev] at this; cases this; exact dv⟩⟩
 stop := fun i W l ok _ hi => ⟨xs, SqL.fz (SqL.mono l.same q), by rw [← az.length r]; exact hi⟩
theorem zp {K : PySem.W.Frag} {W0 : Wd} {a : Addr} {xs : List V} {ds : List D} (q : SqT K (W0.fz tb) a xs) (r : cB K tb W0 ds xs) : yr K tb (Itt K a) ⟨ds, none⟩ W0 where
 go := fun i W d l ok _ e => by
  have q' : SqT K W.H a xs := SqT.fz (SqT.mono l.same q)
  obtain ⟨v, ev, dv⟩ := az.get (cB.mono' r l) e
  exact ⟨⟨xs, v, q', ev⟩, fun x H' ⟨e1, e2⟩ => ⟨W, e1.symm, ok, Le.refl _, rfl, by have := e2 xs q'; rw [ev] at this; cases this; exact dv⟩⟩
 stop := fun i W l ok _ hi => ⟨xs, SqT.fz (SqT.mono l.same q), by rw [← az.length r]; exact hi⟩
theorem Gr {K : PySem.W.Frag} {W0 : Wd} {a : Addr} {n : Nat} {ds : List D} (q : W0.ad[n]? = some a) : yr K tb (Itl K a) ⟨ds, some n⟩ W0 where
 go := fun i W d l ok hs e => by
  obtain ⟨xs, ex, r⟩ := ok.cont n a ds (l.ad _ _ q) (hs n rfl)
  obtain ⟨v, ev, dv⟩ := az.get r e
  exact ⟨⟨xs, v, SqL.of ex, ev⟩, fun x H' ⟨e1, e2⟩ => ⟨W, e1.symm, ok, Le.refl _, rfl, by have := e2 xs (SqL.of ex); rw [ev] at this; cases this; exact dv⟩⟩
 stop := fun i W l ok hs hi => by
  obtain ⟨xs, ex, r⟩ := ok.cont n a ds (l.ad _ _ q) (hs n rfl)
  exact ⟨xs, SqL.of ex, by rw [← az.length r]; exact hi⟩
def fQ (f : EF) : IF := fun δ μ => (f δ μ).bind fun r => (srcOf r.1 r.2).map fun S => (S, r.2)
theorem cM (he : PD X tb e f) : PID X tb tg e (fQ f) :=
 wY (Gy he) fun σ H R zq7 => by
  obtain ⟨W, δ, S, μ', e, ok, hd, hf, h⟩ := zq7
  unfold fQ at hf
  obtain ⟨⟨x, μ1⟩, e1, hf⟩ := Option.bind_eq_some_iff.mp hf
  obtain ⟨S', e2, e3⟩ := Option.map_eq_some_iff.mp hf
  cases e3
  refine ⟨W, δ, x, _, e, ok, hd, e1, fun v W1 ok1 l1 m1 d1 => ?_⟩
  cases x with
  | tup ds =>
   cases e2
   obtain ⟨a, xs, rfl, q, r⟩ := gD d1
   exact ⟨a, rfl, .inr ⟨⟨xs, SqT.fz q⟩, h _ W1 ok1 l1 m1 (zp q r)⟩⟩
  | lst ds =>
   cases e2
   obtain ⟨a, xs, rfl, q, r⟩ := jr d1
   exact ⟨a, rfl, .inl ⟨⟨xs, SqL.fz q⟩, h _ W1 ok1 l1 m1 (zJ q r)⟩⟩
  | cell n =>
   obtain ⟨a, rfl, q⟩ := gY d1
   have e2' : (match μ1[n]? with | some (some ds) => some (⟨ds, some n⟩ : Src) | _ => none) = some S := e2
   cases e4 : μ1[n]? with
   | none => rw [e4] at e2'; cases e2'
   | some o =>
    cases o with
    | none => rw [e4] at e2'; cases e2'
    | some ds =>
     rw [e4] at e2'
     cases e2'
     obtain ⟨xs, ex, _⟩ := ok1.cont n a ds q (by rw [m1]; exact e4)
     exact ⟨a, rfl, .inl ⟨⟨xs, SqL.of ex⟩, h _ W1 ok1 l1 m1 (Gr q)⟩⟩
  | _ => cases e2
def dZ (lo : Int) (n : Nat) : List D := (List.range n).map fun (k : Nat) => D.int (lo + (k : Int))
theorem Il {K : PySem.W.Frag} {W0 : Wd} {lo : Int} {n : Nat} : yr K tb (Itr lo n) ⟨dZ lo n, none⟩ W0 where
 go := fun i W d l ok _ e => by
  unfold dZ at e
  rw [List.getElem?_map] at e
  by_cases hi : i < n
  ·rw [List.getElem?_range hi] at e
   cases e
   exact ⟨hi, fun x H' ⟨e1, e2⟩ => ⟨W, e1.symm, ok, Le.refl _, rfl, by rw [e2]; exact cY⟩⟩
  ·rw [List.getElem?_eq_none (by simpa using hi)] at e; cases e
 stop := fun i W l ok _ hi => by
  unfold dZ at hi
  have hi' : n ≤ i := by simpa using hi
  exact hi'
def bQ (fs : AF) : IF := fun δ μ => (fs δ μ).bind fun r => match r.1 with
 | [.int j] => if -(2 ^ 62) ≤ j ∧ j < 2 ^ 62 then some (⟨dZ 0 j.toNat, none⟩, r.2) else none
 | _ => none
theorem cR {a : Expr} {fs : AF} {p : Pos} (hm : X.mg "range" = none) (ha : PAD X tb [a] fs) (hg : Gl X "range" := by rfl) (hs : starEach [a] X.env = [(false, eval a X.env)] := by rfl) : PID X tb tg (.Call (.Name "range" p) [a] [] pos) (bQ fs) :=
 wY (zf hg hm ha hs) fun σ H R zq8 => by
  obtain ⟨W, δ, S, μ', e, ok, hd, hf, h⟩ := zq8
  unfold bQ at hf
  obtain ⟨⟨xs, μ1⟩, e1, e2⟩ := Option.bind_eq_some_iff.mp hf
  match xs, e1, e2 with
  | [.int j], e1, e2 =>
   have e2' : (if -(2 ^ 62) ≤ j ∧ j < 2 ^ 62 then some ((⟨dZ 0 j.toNat, none⟩ : Src), μ1) else none) = some (S, μ') := e2
   split at e2'
   ·rename_i hj
    cases e2'
    refine ⟨W, δ, _, _, e, ok, hd, e1, fun vs W1 ok1 l1 m1 d1 => ?_⟩
    obtain ⟨u, rfl, du⟩ := az.one d1
    rw [bh du]
    exact ⟨j, rfl, hj.1, hj.2, h _ W1 ok1 l1 m1 Il⟩
   ·cases e2'
open Classical in
noncomputable def forL (S : Src) (h : GF) (b : SF) : List D → SF
 | [], δ, μ => if S.ok μ then some (.nx, δ, μ) else none
 | d :: r, δ, μ => if S.ok μ then (h d δ μ).bind fun δ1 => (b δ1 μ).bind fun q => match q.1 with
   | .nx => forL S h b r q.2.1 q.2.2
   | .ct => forL S h b r q.2.1 q.2.2
   | .bk => some (.nx, q.2)
   | .rt d => some (.rt d, q.2)
  else none
noncomputable def gb (f : IF) (h : GF) (b : SF) : SF := fun δ μ => (f δ μ).bind fun r => forL r.1 h b r.1.items δ r.2
theorem dF {body : List Stmt} {fi : IF} {ts : List Nat} {h : GF} {b : SF} (hp : PassesOwn (model X.prog X.w) X.A X.env X.xe) (hc : X.calm = true) (hi : PID X tb tg iter fi) (hg : PGD X tb tg ts h) (hb : qL X tb body b)
  (hs : ∀ x, foldedSetIterable iter X.env x = pure x := by intro _; rfl) : PSD X tb (.For tg iter body [] pos) (gb fi h b) :=
 jG (GR hp hc hi hg hb hs) fun E σ H zq10 => by
  obtain ⟨W, δ, fl, δ', μ', e, ok, hd, hf, k⟩ := zq10
  unfold gb at hf
  obtain ⟨⟨S, μ1⟩, e1, e2⟩ := Option.bind_eq_some_iff.mp hf
  refine ⟨W, δ, S, μ1, e, ok, hd, e1, fun J W1 ok1 l1 m1 io => ?_⟩
  refine ⟨fun i m σ2 H2 => m = S.items.length - i ∧ i ≤ S.items.length ∧ ∃ W2 δ2, W2.H = H2 ∧ WOk X.K tb W2 ∧ Le tb W1 W2 ∧ gG X.K tb W2 δ2 σ2 ∧ forL S h b (S.items.drop i) δ2 W2.mu = some (fl, δ', μ'),
   ⟨S.items.length, rfl, Nat.zero_le _, W1, δ, rfl, ok1, Le.refl _, hd.mono' l1, by rw [m1]; exact e2⟩, ?_⟩
  rintro i m σ2 H2 ⟨hm, hi', W2, δ2, rfl, ok2, l2, d2, hn⟩
  by_cases hlt : i < S.items.length
  ·right
   have hdr : S.items.drop i = S.items[i] :: S.items.drop (i + 1) := List.drop_eq_getElem_cons hlt
   rw [hdr] at hn
   unfold forL at hn
   split at hn
   ·rename_i hok
    obtain ⟨δ3, e3, hn⟩ := Option.bind_eq_some_iff.mp hn
    obtain ⟨⟨fl4, δ4, μ4⟩, e4, e5⟩ := Option.bind_eq_some_iff.mp hn
    obtain ⟨go, yl⟩ := io.go i W2 S.items[i] l2 ok2 hok (by simp [hlt])
    refine ⟨go, fun σ5 H5 => ∃ W5, W5.H = H5 ∧ WOk X.K tb W5 ∧ Le tb W1 W5 ∧ gG X.K tb W5 δ4 σ5 ∧ forL S h b (S.items.drop (i + 1)) δ4 W5.mu = some (fl, δ', μ'), fun σ5 H5 ⟨W5, q1, q2, q3, q4, q5⟩ => ⟨S.items.length - (i + 1), by omega, rfl, hlt, W5, δ4, q1, q2, q3, q4, q5⟩, fun x H' y => ?_⟩
    obtain ⟨W3, rfl, ok3, l3, m3, d3⟩ := yl x H' y
    refine ⟨W3, δ2, S.items[i], δ3, rfl, ok3, d2.mono' l3, d3, (by rw [m3]; exact e3), fun σ3 d3' _ _ => ?_⟩
    refine ⟨W3, δ3, fl4, δ4, μ4, rfl, ok3, d3', (by rw [m3]; exact e4), fun σ4 W4 ok4 l4 m4 d4 => ?_⟩
    cases fl4 with
    | nx => exact ⟨W4, rfl, ok4, (l2.trans l3).trans l4, d4, by rw [m4]; exact e5⟩
    | ct => exact ⟨W4, rfl, ok4, (l2.trans l3).trans l4, d4, by rw [m4]; exact e5⟩
    | bk => cases e5; exact k σ4 W4 ok4 (((l1.trans l2).trans l3).trans l4) m4 d4
    | rt d => cases e5; exact k σ4 W4 ok4 (((l1.trans l2).trans l3).trans l4) m4 d4
   ·cases hn
  ·left
   have hdr : S.items.drop i = [] := List.drop_of_length_le (by omega)
   rw [hdr] at hn
   unfold forL at hn
   split at hn
   ·rename_i hok
    have hn' : some (Fl.nx, δ2, W2.mu) = some (fl, δ', μ') := hn
    cases hn'
    exact ⟨io.stop i W2 l2 ok2 hok (by omega), k σ2 W2 ok2 (l1.trans l2) rfl d2⟩
   ·cases hn
abbrev LF := En → Mu → Option (List D × Mu)
def tDN (K : PySem.W.Frag) (tb : List Addr) (f : LF) : TE := fun σ H Q => ∃ W δ ds μ', W.H = H ∧ WOk K tb W ∧ gG K tb W δ σ ∧ f δ W.mu = some (ds, μ') ∧
 ∀ p vs W', WOk K tb W' → Le tb W W' → W'.mu = μ' → W'.H p = none → cB K tb W' ds vs → Q (.ref p) (upd W'.H p (.lst vs))
def PDN (X : Cx) (tb : List Addr) (e : Expr) (f : LF) : Prop := PE X e (tDN X.K tb f)
def mFz (f : LF) : EF := fun δ μ => (f δ μ).bind fun r => some (.lst r.1, r.2)
def mF (f : LF) : EF := fun δ μ => (f δ μ).bind fun r => some (.cell r.2.length, r.2 ++ [some r.1])
theorem fK {f : LF} (h : PDN X tb e f) : PD X tb e (mFz f) := dH h fun σ H Q zq11 => by
 obtain ⟨W, δ, d, μ', e, ok, hd, hf, k⟩ := zq11
 unfold mFz at hf
 obtain ⟨⟨ds, μ1⟩, e1, e2⟩ := Option.bind_eq_some_iff.mp hf
 cases e2
 refine ⟨W, δ, ds, _, e, ok, hd, e1, fun p vs W1 ok1 l1 m1 hp r => ?_⟩
 exact jo ok1 (fun v W' ok' l' m' d' => k v W' ok' (l1.trans l') (m'.trans m1) d') r hp
theorem jZ {f : LF} (h : PDN X tb e f) : PD X tb e (mF f) := dH h fun σ H Q zq12 => by
 obtain ⟨W, δ, d, μ', e, ok, hd, hf, k⟩ := zq12
 unfold mF at hf
 obtain ⟨⟨ds, μ1⟩, e1, e2⟩ := Option.bind_eq_some_iff.mp hf
 cases e2
 refine ⟨W, δ, ds, μ1, e, ok, hd, e1, fun p vs W1 ok1 l1 m1 hp r => ?_⟩
 obtain ⟨ok2, l2, d2⟩ := ok1.new hp r
 exact k _ _ ok2 (l1.trans l2) (by show W1.mu ++ [some ds] = _; rw [m1]) (by rw [← m1]; exact d2)
def oE (fs : AF) : LF := fun δ μ => (fs δ μ).bind fun r => if r.1.length ≤ sizeLine then some r else none
theorem mx {es : List Expr} {fs : AF} (h : PAD X tb es fs) : PDN X tb (.List es pos) (oE fs) := dH (Bf h) fun σ H Q zq13 => by
 obtain ⟨W, δ, ds, μ', e, ok, hd, hf, k⟩ := zq13
 unfold oE at hf
 obtain ⟨⟨xs, μ1⟩, e1, e2⟩ := Option.bind_eq_some_iff.mp hf
 split at e2
 ·rename_i hl
  cases e2
  exact ⟨W, δ, _, _, e, ok, hd, e1, fun vs W1 ok1 l1 m1 d1 => ⟨by rw [← az.length d1]; exact hl, fun p hp => k p vs W1 ok1 l1 m1 hp d1⟩⟩
 ·cases e2
def cO (own : List Str) (δ : En) (capI : List Nat) : En := List.replicate own.length none ++ capI.map fun i => (δ[i]?).join
theorem sY {K : PySem.W.Frag} {W : Wd} {own : List Str} {capI : List Nat} {δ : En} {σ : SV} (h : gG K tb W δ σ) : gG K tb W (cO own δ capI) (bV own σ capI) := by
 refine ⟨by unfold cO bV pH; simp, fun i d e => ?_⟩
 unfold cO at e
 unfold bV pH
 by_cases hi : i < own.length
 ·rw [List.getElem?_append_left (by simpa using hi), List.getElem?_replicate] at e
  split at e <;> cases e
 ·rw [List.getElem?_append_right (by simpa using hi), List.getElem?_map] at e
  rw [List.getElem?_append_right (by simpa using hi), List.getElem?_map]
  rw [List.length_replicate] at e ⊢
  cases q : capI[i - own.length]? with
  | none => rw [q] at e; cases e
  | some j =>
   rw [q] at e
   have e' : (δ[j]?).join = some d := by simpa using e
   cases q2 : δ[j]? with
   | none => rw [q2] at e'; cases e'
   | some o =>
    rw [q2] at e'
    have e2 : o = some d := e'
    subst e2
    obtain ⟨v, ev, dv⟩ := h.2 j d q2
    exact ⟨v, by simp [ev], dv⟩
theorem fits_of {own : List Str} {capI : List Nat} {σ σ' : SV} {ts : List Nat} (hts : ∀ i ∈ ts, i < own.length) (hl : σ'.length = (bV own σ capI).length) (h : ∀ i, i ∉ ts → σ'[i]? = (bV own σ capI)[i]?) : Fits (bV own σ capI) σ' :=
 ⟨hl, fun i v e => by
  rw [h i fun z => ?_]
  ·exact e
  ·unfold bV at e
   rw [List.getElem?_append_left (by simpa using hts i z), List.getElem?_replicate] at e
   split at e <;> cases e⟩
open Classical in
noncomputable def lcL (S : Src) (h : GF) (tt : TF) (fe : EF) (δb : En) : List D → Mu → Option (List D × Mu)
 | [], μ => if S.ok μ then some ([], μ) else none
 | d :: r, μ => if S.ok μ then (h d δb μ).bind fun δ1 => (tt δ1 μ).bind fun k => if k.1 = true then (fe δ1 k.2).bind fun y => (lcL S h tt fe δb r y.2).bind fun ys => some (y.1 :: ys.1, ys.2) else lcL S h tt fe δb r k.2 else none
noncomputable def lLC (own : List Str) (capI : List Nat) (fi : IF) (h : GF) (tt : TF) (fe : EF) : LF := fun δ μ => (fi δ μ).bind fun r => if r.1.items.length ≤ sizeLine then lcL r.1 h tt fe (cO own δ capI) r.1.items r.2 else none
def CW (X : Cx) (tb : List Addr) (ifs : List Expr) (t : TF) : Prop := PIf X ifs (tDT X.K tb t)
def cU : TF := fun _ μ => some (true, μ)
theorem Iw {X : Cx} {e : List Expr} {t t' : TT} (h : PIf X e t) (k : ∀ σ H Q, t' σ H Q → t σ H Q) : PIf X e t' := fun pins s σ H Q I hq => h pins s σ H Q I (k σ H Q hq)
theorem di : CW X tb [] cU := Iw CK fun σ H Q zq14 => by
 obtain ⟨W, δ, k, μ', e, ok, hd, hf, h⟩ := zq14
 subst e; cases hf
 exact h W ok (Le.refl _) rfl
theorem lO {c : Expr} {t : TF} (h : PTD X tb c t) : CW X tb [c] t := CV h
theorem ir {ifs : List Expr} {fi : IF} {h : GF} {tt : TF} {fe : EF} {own cap : List Str} {capI ts : List Nat} {scope : Scope} (hc : X.calm = true) (B : eN X own cap capI scope) (hown : ∀ x ∈ own, (x, NameKind.free) ∉ scope.names) (hi : PID X tb tg iter fi)
  (hg : ∀ cs C fp s2 H2, PGD (cQ X own cap scope cs C fp s2 H2) tb tg ts h) (ht : ∀ cs C fp s2 H2, CW (cQ X own cap scope cs C fp s2 H2) tb ifs tt) (he : ∀ cs C fp s2 H2, PD (cQ X own cap scope cs C fp s2 H2) tb elt fe)
  (hts : ∀ i ∈ ts, i < own.length := by decide) (hs : ∀ x, foldedSetIterable iter X.env x = pure x := by intro _; rfl) : PDN X tb (.ListComp elt [⟨tg, iter, ifs, 0⟩] scope pos) (lLC own capI fi h tt fe) :=
 dH (KH (g := tDG X.K tb ts h) (tt := tDT X.K tb tt) (te := tD X.K tb fe) hc B hown hi hg ht he hs) fun σ H Q zq15 => by
  obtain ⟨W, δ, ds, μ', e, ok, hd, hf, k⟩ := zq15
  unfold lLC at hf
  obtain ⟨⟨S, μ1⟩, e1, e2⟩ := Option.bind_eq_some_iff.mp hf
  split at e2
  ·rename_i hz
   refine ⟨W, δ, S, μ1, e, ok, hd, e1, fun J W1 ok1 l1 m1 io => ?_⟩
   refine ⟨fun i m ys H2 => m = S.items.length - i ∧ i ≤ S.items.length ∧ ys.length ≤ i ∧ ∃ W2 zs rs, W2.H = H2 ∧ WOk X.K tb W2 ∧ Le tb W1 W2 ∧ cB X.K tb W2 zs ys ∧ lcL S h tt fe (cO own δ capI) (S.items.drop i) W2.mu = some (rs, μ') ∧ zs ++ rs = ds,
    ⟨S.items.length, rfl, Nat.zero_le _, Nat.zero_le _, W1, [], ds, rfl, ok1, Le.refl _, az.nil, by rw [m1]; exact e2, rfl⟩, ?_⟩
   rintro i m ys H2 ⟨hm, hi', hy, W2, zs, rs, rfl, ok2, l2, d2, hn, hzs⟩
   by_cases hlt : i < S.items.length
   ·right
    have hdr : S.items.drop i = S.items[i] :: S.items.drop (i + 1) := List.drop_eq_getElem_cons hlt
    rw [hdr] at hn
    unfold lcL at hn
    split at hn
    ·rename_i hok
     obtain ⟨δ3, e3, hn⟩ := Option.bind_eq_some_iff.mp hn
     obtain ⟨⟨kk, μ4⟩, e4, hn⟩ := Option.bind_eq_some_iff.mp hn
     obtain ⟨go, yl⟩ := io.go i W2 S.items[i] l2 ok2 hok (by simp [hlt])
     refine ⟨go, Nat.lt_of_lt_of_le (Nat.lt_of_le_of_lt hy hlt) hz, fun x H' y => ?_⟩
     obtain ⟨W3, rfl, ok3, l3, m3, d3⟩ := yl x H' y
     refine ⟨W3, cO own δ capI, S.items[i], δ3, rfl, ok3, (sY hd).mono' ((l1.trans l2).trans l3), d3, (by rw [m3]; exact e3), fun σ3 d3' hl3 ht3 => ⟨fits_of hts hl3 ht3, ?_⟩⟩
     refine ⟨W3, δ3, kk, μ4, rfl, ok3, d3', (by rw [m3]; exact e4), fun W4 ok4 l4 m4 => ?_⟩
     cases kk with
     | false =>
      rw [if_neg Bool.false_ne_true]
      exact ⟨S.items.length - (i + 1), by omega, rfl, hlt, by omega, W4, zs, rs, rfl, ok4, (l2.trans l3).trans l4, cB.mono' d2 (l3.trans l4), by rw [m4]; exact hn, hzs⟩
     | true =>
      rw [if_pos rfl]
      have hn' : ((fe δ3 μ4).bind fun y => (lcL S h tt fe (cO own δ capI) (S.items.drop (i + 1)) y.2).bind fun ys => some (y.1 :: ys.1, ys.2)) = some (rs, μ') := hn
      obtain ⟨⟨yd, μ5⟩, e5, hn'⟩ := Option.bind_eq_some_iff.mp hn'
      obtain ⟨⟨rs', μ6⟩, e6, e7⟩ := Option.bind_eq_some_iff.mp hn'
      cases e7
      refine ⟨W4, δ3, yd, μ5, rfl, ok4, d3'.mono' l4, (by rw [m4]; exact e5), fun v W5 ok5 l5 m5 d5 => ?_⟩
      refine ⟨S.items.length - (i + 1), by omega, rfl, hlt, by rw [List.length_append]; simp; omega, W5, zs ++ [yd], rs', rfl, ok5, ((l2.trans l3).trans l4).trans l5, az.append (cB.mono' d2 ((l3.trans l4).trans l5)) (az.cons d5 az.nil), by rw [m5]; exact e6, by rw [List.append_assoc]; exact hzs⟩
    ·cases hn
   ·left
    have hdr : S.items.drop i = [] := List.drop_of_length_le (by omega)
    rw [hdr] at hn
    unfold lcL at hn
    split at hn
    ·rename_i hok
     cases hn
     rw [List.append_nil] at hzs
     subst hzs
     exact ⟨io.stop i W2 l2 ok2 hok (by omega), fun l hl => k l ys W2 ok2 (l1.trans l2) rfl hl d2⟩
    ·cases hn
  ·cases e2
end
end L3
namespace L2
open PySem PySem.Spec PyProof.Rows
theorem wW {X : Cx} {pins : List (Addr × Obj)} {σ : L2.St} {H : Hp} {s : Shared} (I : Inv X pins σ H s) (hc : X.calm = true) {A' : Around} (h1 : A'.handled = X.A.handled) (h2 : A'.frames = X.A.frames) : A'.handled = none ∧ A'.frames = some X.stack :=
 ⟨h1.trans (I.ok.hd hc), h2.trans I.ok.frames⟩
theorem tL {X : Cx} {e : Expr} {pos : Pos} {s : Shared} {Q : List Value → Shared → Prop} (h : wpAny (model X.prog X.w) X.A (eval e X.env) (fun u s1 => Q [u] s1) X.xe s) (hs : starEach [e] X.env = (false, eval e X.env) :: starEach [] X.env := by rfl) :
  wpAny (model X.prog X.w) X.A (spliced (backTo pos (starEach [e] X.env))) Q X.xe s := by
 rw [hs]
 show wpAny _ _ (spliced ((false, eval e X.env) :: backTo pos (starEach [] X.env))) _ _ s
 exact Calls.spliced_cons (thn h fun u s1 q => Calls.spliced_nil q)
def yM (y : V) (k : Bool) : Prop := y = .bl k ∨ ∃ i, y = .int i ∧ k = (i != 0)
theorem xn {P : Program} {w : World} {A : Around} {E : Value → Shared → Prop} {s : Shared} {y : V} {v : Value} {k : Bool} {Q : Bool → Shared → Prop} (r : RelV y v) (h : yM y k) (hq : Q k s) : wpAny (model P w) A (truthy v) Q E s := by
 rcases h with rfl | ⟨i, rfl, rfl⟩
 ·cases r; exact wpAny_truthy_bool hq
 ·obtain ⟨t, rfl⟩ := r; exact PySem.P.truthy_int hq
theorem uL {M : Model} {A : Around} {E : Value → Shared → Prop} {s : Shared} {t : Sem (Option Value)} {P : Value → Shared → Prop} {f : Value → Sem Unit} (hf : ∀ u, f u = pure ())
  (h : wpAny M A t (fun r s1 => ∃ u, r = some u ∧ wpAny M A (f u) (fun _ s2 => P u s2) E s1) E s) : wpAny M A t (fun r s1 => ∃ u, r = some u ∧ P u s1) E s := fun Γ p hΓ =>
 Sem.wp_mono M Γ t (fun a p' s ⟨u, e, q⟩ => ⟨u, e, by rw [hf] at q; exact q Γ p' hΓ⟩) (fun _ _ _ e => e) p s (h Γ p hΓ)
section
variable {X : Cx} {e : Expr} {ts : oH} {p pos : Pos} {pins : List (Addr × Obj)} {σ : L2.St}
def Jv (ts : oH) : TE := fun σ H Q => ts σ H fun S H1 => ∃ W : Nat → Nat → Hp → Prop, (∃ m, W 0 m H1) ∧ ∀ i m H, W i m H →
 (S.fin i H ∧ Q (.bl true) H) ∨ S.nxt i H fun y H' => ∃ k, yM y k ∧ if k = true then ∃ m', m' < m ∧ W (i + 1) m' H' else Q (.bl false) H'
def Kv (ts : oH) : TE := fun σ H Q => ts σ H fun S H1 => ∃ W : Nat → Nat → Hp → Prop, (∃ m, W 0 m H1) ∧ ∀ i m H, W i m H →
 (S.fin i H ∧ Q (.bl false) H) ∨ S.nxt i H fun y H' => ∃ k, yM y k ∧ if k = true then Q (.bl true) H' else ∃ m', m' < m ∧ W (i + 1) m' H'
theorem Aa {it : Addr} {lo : Nat} {S : oM} {SS : List (Addr × Obj) → Nat → Hp → Shared → Prop} {Q : VK} {W : Nat → Nat → Hp → Prop} (sm : yK X pins σ X.A.in1 it lo S SS)
  (st : ∀ i m H, W i m H → (S.fin i H ∧ Q (.bl true) H) ∨ S.nxt i H fun y H' => ∃ k, yM y k ∧ if k = true then ∃ m', m' < m ∧ W (i + 1) m' H' else Q (.bl false) H') :
  ∀ (m i : Nat) (H : Hp) (s : Shared), SS [] i H s → W i m H → codeAny (model X.prog X.w) X.A (.builtin "all.loop" ⟨[.ref it], []⟩) (fun r s' => ∃ u, r = .ok (.ret u) ∧ EP X pins σ Q u s') s := by
 intro m
 induction m using Nat.strongRecOn with
 | ind m ih =>
  intro i H s hs hw
  refine codeAny_builtin F.entry_all_loop ?_
  rw [Around.under_plainId F.plain_all_loop _]
  show wpAny _ X.A.in1 (pyNext (.ref it) >>= _) _ _ s
  rcases st i m H hw with ⟨hf, q⟩ | hn
  ·refine wpAny_bind (wpAny_mono (sm.stop (fun _ _ => False) hs hf) (fun r s1 ⟨hr, I1⟩ => ?_) fun _ _ z => z.elim)
   subst hr
   refine wpAny_bind (wpAny_rule (wpAny_pure ⟨_, rfl, .bl true, H, ?_, rfl, q⟩))
   rw [List.append_nil] at I1
   exact I1
  ·refine wpAny_bind (wpAny_mono (sm.next (fun _ _ => False) hs hn) (fun r s1 ⟨u, y, H', hr, ry, ⟨k, tk, q⟩, hs'⟩ => ?_) fun _ _ z => z.elim)
   subst hr
   refine wpAny_bind (wpAny_holding (xn ry tk ?_))
   refine wpAny_bind (wpAny_letGo ?_)
   cases k with
   | true =>
    simp only [if_true]
    rw [if_pos rfl] at q
    obtain ⟨m', hm, hw'⟩ := q
    exact wpAny_pure ⟨plainId_quiet F.plain_all_loop _, ih m' hm (i + 1) H' s1 hs' hw'⟩
   | false =>
    simp only [Bool.false_eq_true, if_false]
    rw [if_neg Bool.false_ne_true] at q
    refine wpAny_bind (wpAny_rule (wpAny_pure ⟨_, rfl, .bl false, H', ?_, rfl, q⟩))
    have I1 := sm.inv hs'
    rw [List.append_nil] at I1
    exact I1
theorem Bl {it : Addr} {lo : Nat} {S : oM} {SS : List (Addr × Obj) → Nat → Hp → Shared → Prop} {Q : VK} {W : Nat → Nat → Hp → Prop} (sm : yK X pins σ X.A.in1 it lo S SS)
  (st : ∀ i m H, W i m H → (S.fin i H ∧ Q (.bl false) H) ∨ S.nxt i H fun y H' => ∃ k, yM y k ∧ if k = true then Q (.bl true) H' else ∃ m', m' < m ∧ W (i + 1) m' H') :
  ∀ (m i : Nat) (H : Hp) (s : Shared), SS [] i H s → W i m H → codeAny (model X.prog X.w) X.A (.builtin "any.loop" ⟨[.ref it], []⟩) (fun r s' => ∃ u, r = .ok (.ret u) ∧ EP X pins σ Q u s') s := by
 intro m
 induction m using Nat.strongRecOn with
 | ind m ih =>
  intro i H s hs hw
  refine codeAny_builtin F.entry_any_loop ?_
  rw [Around.under_plainId F.plain_any_loop _]
  show wpAny _ X.A.in1 (pyNext (.ref it) >>= _) _ _ s
  rcases st i m H hw with ⟨hf, q⟩ | hn
  ·refine wpAny_bind (wpAny_mono (sm.stop (fun _ _ => False) hs hf) (fun r s1 ⟨hr, I1⟩ => ?_) fun _ _ z => z.elim)
   subst hr
   refine wpAny_bind (wpAny_rule (wpAny_pure ⟨_, rfl, .bl false, H, ?_, rfl, q⟩))
   rw [List.append_nil] at I1
   exact I1
  ·refine wpAny_bind (wpAny_mono (sm.next (fun _ _ => False) hs hn) (fun r s1 ⟨u, y, H', hr, ry, ⟨k, tk, q⟩, hs'⟩ => ?_) fun _ _ z => z.elim)
   subst hr
   refine wpAny_bind (wpAny_holding (xn ry tk ?_))
   refine wpAny_bind (wpAny_letGo ?_)
   cases k with
   | false =>
    simp only [Bool.false_eq_true, if_false]
    rw [if_neg Bool.false_ne_true] at q
    obtain ⟨m', hm, hw'⟩ := q
    exact wpAny_pure ⟨plainId_quiet F.plain_any_loop _, ih m' hm (i + 1) H' s1 hs' hw'⟩
   | true =>
    simp only [if_true]
    rw [if_pos rfl] at q
    refine wpAny_bind (wpAny_rule (wpAny_pure ⟨_, rfl, .bl true, H', ?_, rfl, q⟩))
    have I1 := sm.inv hs'
    rw [List.append_nil] at I1
    exact I1
theorem Dh (hc : X.calm = true) (hm : X.mg "all" = none) (hstr : uD X e ts) (hg : Gl X "all" := by rfl) (hs : starEach [e] X.env = (false, eval e X.env) :: starEach [] X.env := by rfl) : PE X (.Call (.Name "all" p) [e] [] pos) (Jv ts) := by
 intro pins s σ H Q I h
 refine wpAny_Call_Name_kw (jn I hg hm boot_all ?_ (by decide) (by decide))
 refine PyProof.Rows.callWith_builtin1 (tL (thn (hstr pins s σ H _ I h) fun u s1 ⟨S, H1, I1, rdy, W, ⟨m, w0⟩, st⟩ => ?_) hs) hs rfl
 refine call_function_tree F.kind_all F.plain_all F.entry_all (F.args_all1 _) ?_
 unfold Builtin.«all»
 refine wpAny_bind (m := oneArg "all" _) (wpAny_pure ?_)
 obtain ⟨a1, a2⟩ := wW I1 hc (A' := X.A.in1) rfl rfl
 refine wpAny_bind (wpAny_mono (rdy X.A.in1 (fun _ _ => False) a1 a2 (Nat.le_succ _) (by show X.A.units + 1 ≤ _; omega)) (fun itv s2 ⟨it, lo, SS, e, sm, s0, _⟩ => ?_) fun _ _ z => z.elim)
 subst e
 refine wpAny_pure ⟨plainId_quiet F.plain_all_loop _, codeAny_mono (Aa sm st m 0 H1 s2 s0 w0) fun r s' ⟨u, hr, q⟩ => ?_⟩
 subst hr
 exact q
theorem Ff (hc : X.calm = true) (hm : X.mg "any" = none) (hstr : uD X e ts) (hg : Gl X "any" := by rfl) (hs : starEach [e] X.env = (false, eval e X.env) :: starEach [] X.env := by rfl) : PE X (.Call (.Name "any" p) [e] [] pos) (Kv ts) := by
 intro pins s σ H Q I h
 refine wpAny_Call_Name_kw (jn I hg hm boot_any ?_ (by decide) (by decide))
 refine PyProof.Rows.callWith_builtin1 (tL (thn (hstr pins s σ H _ I h) fun u s1 ⟨S, H1, I1, rdy, W, ⟨m, w0⟩, st⟩ => ?_) hs) hs rfl
 refine call_function_tree F.kind_any F.plain_any F.entry_any (F.args_any1 _) ?_
 unfold Builtin.«any»
 refine wpAny_bind (m := oneArg "any" _) (wpAny_pure ?_)
 obtain ⟨a1, a2⟩ := wW I1 hc (A' := X.A.in1) rfl rfl
 refine wpAny_bind (wpAny_mono (rdy X.A.in1 (fun _ _ => False) a1 a2 (Nat.le_succ _) (by show X.A.units + 1 ≤ _; omega)) (fun itv s2 ⟨it, lo, SS, e, sm, s0, _⟩ => ?_) fun _ _ z => z.elim)
 subst e
 refine wpAny_pure ⟨plainId_quiet F.plain_any_loop _, codeAny_mono (Bl sm st m 0 H1 s2 s0 w0) fun r s' ⟨u, hr, q⟩ => ?_⟩
 subst hr
 exact q
def yg (J : It) : oM := ⟨fun i H Q => J.go i H ∧ ∀ x H', J.yld i H x H' → Q x H', fun i H => J.stop i H⟩
theorem qR {A' : Around} {it : Addr} {fp : List Addr} {tn : Nat → Heap → Prop} {J : It} {H : Hp} {s : Shared} (hc : X.calm = true) (hP : A'.handled = none) (hf : A'.frames = some X.stack)
  (T : Turn X.prog X.w X.K (.Name "x" ⟨0, 0, 0, 0⟩) J fp it tn) (I : Inv X pins σ H s) (st : tn 0 s.heap) (fk : ∀ b ∈ fp, jd X pins H b) :
  ∃ lo SS, yK X pins σ A' it lo (yg J) SS ∧ SS [] 0 H s ∧ lo ≤ s.heap.objs.size := by
 have toA : ∀ {P : List (Addr × Obj)} {H : Hp} {s : Shared}, Inv X P σ H s → Inv ({ X with A := A' } : Cx) P σ H s := fun I =>
  ⟨⟨I.ok.mod, I.ok.kind, I.ok.glob, I.ok.blt, I.ok.above, I.ok.inj, I.ok.has, I.ok.cab, fun _ => hP, hf, I.ok.stk, I.ok.exf, I.ok.bs, I.ok.bsz, I.ok.noex, I.ok.exfs, I.ok.funs, I.ok.frf⟩, I.os, I.bare, I.base, I.loc, I.cell, I.free, I.freeC, I.pin, I.hok, I.len⟩
 have ofA : ∀ {P : List (Addr × Obj)} {H : Hp} {s : Shared}, X.Ok → Inv ({ X with A := A' } : Cx) P σ H s → Inv X P σ H s := fun ok I =>
  ⟨ok, I.os, I.bare, I.base, I.loc, I.cell, I.free, I.freeC, I.pin, I.hok, I.len⟩
 have flt : ∀ b ∈ fp, b < s.heap.objs.size := fun b hb => let ⟨o, e, _⟩ := T.obj 0 _ st b hb; Heap.lt_size e
 have fkA : ∀ {P : List (Addr × Obj)} {H' : Hp}, (∀ p ∈ P, s.heap.objs.size ≤ p.1) → (∀ b ∈ fp, H' b = none) → ∀ b ∈ fp, jd ({ X with A := A' } : Cx) (pins ++ P) H' b := fun {P H'} hP hn b hb => by
  obtain ⟨q0, q1, q2, q3, q4, q5⟩ := fk b hb
  refine ⟨hn b hb, q1, q2, q3, q4, fun p hp => ?_⟩
  rcases List.mem_append.mp hp with z | z
  ·exact q5 p (by simp only [List.mem_append]; exact .inl z)
  ·rcases List.mem_append.mp z with z | z
   ·exact q5 p (by simp only [List.mem_append]; exact .inr z)
   ·exact fun e => absurd (flt b hb) (by rw [← e]; exact Nat.not_lt.mpr (hP p z))
 refine ⟨s.heap.objs.size, fun P i H' s' => (∀ p ∈ P, s.heap.objs.size ≤ p.1) ∧ Inv X (pins ++ P) σ H' s' ∧ tn i s'.heap ∧ ∀ b ∈ fp, H' b = none, ⟨fun st => st.2.1, ?_, ?_, ?_, ?_, ?_, ?_⟩, ⟨fun p hp => absurd hp (by simp), by rw [List.append_nil]; exact I, st, fun b hb => (fk b hb).1⟩, Nat.le_refl _⟩
 ·rintro P i H1 s1 Q E ⟨hP1, I1, st1, fr1⟩ ⟨go, yl⟩
  have q := T.item ({ X with A := A' } : Cx) rfl rfl rfl hc i (pins ++ P) s1 σ H1 (fun _ _ => False) (toA I1) (fkA hP1 fr1) st1 go
  refine wpAny_mono (uL (fun u => rfl) q) (fun r s2 ⟨u, hr, x, H', I3, r3, y3, st3, fr3⟩ => ?_) fun _ _ z => z.elim
  exact ⟨u, x, H', hr, r3, yl x H' y3, hP1, ofA I1.ok I3, st3, fr3⟩
 ·rintro P i H1 s1 E ⟨hP1, I1, st1, fr1⟩ hf
  exact wpAny_mono (T.done ({ X with A := A' } : Cx) rfl rfl rfl hc i (pins ++ P) s1 σ H1 (fun _ _ => False) (toA I1) (fkA hP1 fr1) st1 hf) (fun r s2 ⟨hr, I2⟩ => ⟨hr, ofA I1.ok I2⟩) fun _ _ z => z.elim
 ·rintro P i H1 s1 h' tk ⟨hP1, I1, st1, fr1⟩ hk
  exact ⟨hP1, I1.kept hk, T.keep _ _ _ st1 fun b _ o e => hk b o e, fr1⟩
 ·rintro P i H1 s1 D o ⟨hP1, I1, st1, fr1⟩ hD ho hn hcell
  refine ⟨fun p hp => ?_, I1.pins_of fun p hp => ?_, st1, fr1⟩
  ·rcases List.mem_cons.mp hp with z | z
   ·subst z; exact hD
   ·exact hP1 p z
  ·rcases List.mem_append.mp hp with z | z
   ·exact I1.pin p (by simp [z])
   ·rcases List.mem_cons.mp z with z | z
    ·subst z
     exact ⟨ho, hn, fun z => absurd I.lt (by rw [← z]; exact Nat.not_lt.mpr hD), I.nofs hD, hcell⟩
    ·exact I1.pin p (by simp [z])
 ·rintro p P i H1 s1 ⟨hP1, I1, st1, fr1⟩
  exact ⟨fun q hq => hP1 q (List.mem_cons_of_mem _ hq), I1.pins_of fun q hq => I1.pin q (by rcases List.mem_append.mp hq with z | z <;> simp [z]), st1, fr1⟩
 ·rintro P i H1 s1 h' tk D ⟨hP1, I1, st1, fr1⟩ hD hn hPD hk
  have l4 : ∀ b, b < s.heap.objs.size → b ≠ D := fun b hb => Nat.ne_of_lt (Nat.lt_of_lt_of_le hb hD)
  refine ⟨hP1, I1.turned hk hn (Ne.symm (l4 _ I.lt)) (.inr (Nat.le_trans I.sz hD)) (fun x c e => let ⟨v, q⟩ := I.cell x c e; l4 c q.lt) (fun p hp => ?_), T.keep _ _ _ st1 fun b hb o e => hk b o (l4 b (flt b hb)) e, fr1⟩
  rcases List.mem_append.mp hp with z | z
  ·exact l4 _ (Heap.lt_size (I.pin p (by simp [z])).1)
  ·rcases List.mem_append.mp z with z | z
   ·exact l4 _ (Heap.lt_size (I.pin p (by simp [z])).1)
   ·exact hPD p z
theorem Ao {te : TE} (hc : X.calm = true) (he : PE X e te) : uD X e (fun σ H R => te σ H fun x H1 => ∃ a, x = .ref a ∧ ((∃ xs, SqL X.K H1 a xs) ∧ R (yg (Itl X.K a)) H1 ∨ (∃ xs, SqT X.K H1 a xs) ∧ R (yg (Itt X.K a)) H1)) := by
 intro pins s σ H R I h
 refine thn (he pins s σ H _ I h) fun v s1 zq1 => ?_
 obtain ⟨x, H1, I1, r1, a, e, q⟩ := zq1
 subst e
 cases r1
 rcases q with ⟨⟨xs, hq⟩, q⟩ | ⟨⟨xs, hq⟩, q⟩
 ·refine ⟨_, H1, I1, fun A' E h1 h2 h3 h4 => ?_, q⟩
  obtain ⟨its, rv, p, hz⟩ := I1.list hq
  refine wpAny_pyIter_list p.isList ?_
  obtain ⟨lo, SS, sm, s0, hl⟩ := qR (A' := A') (H := H1) (s := { s1 with heap := s1.heap.push { cls := .type "list_iterator", data := .fields #[.ref a, .int 0 0] } }) hc h1 h2 (qZ a s1.heap.objs.size) (I1.kept (t' := s1.toks) fun b o e => Heap.get?_push_of_some _ e) ⟨_, Heap.get?_push_size _ rfl, rfl, rfl⟩ fun b hb => by
   have e : b = s1.heap.objs.size := by simpa using hb
   subst e
   exact I1.fpOk (Nat.le_refl _) (I1.hok.fresh (Nat.le_refl _))
  exact ⟨_, lo, SS, rfl, sm, s0, hl⟩
 ·refine ⟨_, H1, I1, fun A' E h1 h2 h3 h4 => ?_, q⟩
  obtain ⟨its, rv, p, hz⟩ := I1.tuple hq
  refine wpAny_pyIter_tuple (show s1.heap.IsTuple a its.toArray from p) ?_
  obtain ⟨lo, SS, sm, s0, hl⟩ := qR (A' := A') (H := H1) (s := { s1 with heap := s1.heap.push { cls := .type "tuple_iterator", data := .fields #[.ref a, .int 0 0] } }) hc h1 h2 (pQ a s1.heap.objs.size) (I1.kept (t' := s1.toks) fun b o e => Heap.get?_push_of_some _ e) ⟨_, Heap.get?_push_size _ rfl, rfl, rfl⟩ fun b hb => by
   have e : b = s1.heap.objs.size := by simpa using hb
   subst e
   exact I1.fpOk (Nat.le_refl _) (I1.hok.fresh (Nat.le_refl _))
  exact ⟨_, lo, SS, rfl, sm, s0, hl⟩
end
end L2
namespace L2
open PySem PySem.Spec PyProof.Rows
section
variable {X : Cx} {e : Expr} {ts : oH} {p pos : Pos} {pins : List (Addr × Obj)} {σ : L2.St}
def JL (ts : oH) : TE := fun σ H Q => ts σ H fun S H1 => ∃ W : Nat → Nat → Int → Hp → Prop, (∃ m, W 0 m 0 H1) ∧ ∀ i m t H, W i m t H →
 (S.fin i H ∧ Q (.int t) H) ∨ S.nxt i H fun y H' => ∃ j, y = .int j ∧ ∃ m', m' < m ∧ W (i + 1) m' (t + j) H'
theorem Bo {A : Around} {it D : Addr} {lo : Nat} {S : oM} {SS : List (Addr × Obj) → Nat → Hp → Shared → Prop} {Q : VK} {W : Nat → Nat → Int → Hp → Prop} (sm : yK X pins σ A.in1 it lo S SS) (hD : lo ≤ D)
  (st : ∀ i m t H, W i m t H → (S.fin i H ∧ Q (.int t) H) ∨ S.nxt i H fun y H' => ∃ j, y = .int j ∧ ∃ m', m' < m ∧ W (i + 1) m' (t + j) H') :
  ∀ (m i : Nat) (t : Int) (tA : Tok) (c : Nat) (stage : Int) (H : Hp) (s : Shared), (stage = 0 ∨ stage = 2) → SS [] i H s → W i m t H → s.heap.get? D = some (bB [.int t tA] c) → H D = none →
   codeAny (model X.prog X.w) A (.builtin "sum.loop" ⟨[.ref it, .ref D, rawInt stage, rawInt 0], []⟩) (fun r s' => ∃ u, r = .ok (.ret u) ∧ EP X pins σ Q u s') s := by
 intro m
 induction m using Nat.strongRecOn with
 | ind m ih =>
  intro i t tA c stage H s hstg hs hw ho hn
  have hsp := sm.pin hs hD ho hn (fun v z => by cases z)
  refine codeAny_builtin F.entry_sum_loop ?_
  rw [Around.under_plainId F.plain_sum_loop _]
  show wpAny _ A.in1 (seqItems? (.ref D) >>= _) _ _ s
  refine wpAny_bind (wpAny_seqItems ho rfl ?_)
  show wpAny _ A.in1 (tryCatch (pyNext (.ref it)) _ >>= _) _ _ s
  rcases st i m t H hw with ⟨hf, q⟩ | hn'
  ·refine wpAny_bind (wpAny_tryCatch (wpAny_mono (sm.stop (fun _ _ => False) hsp hf) (fun r s1 ⟨hr, I1⟩ => ?_) fun _ _ z => z.elim))
   subst hr
   exact wpAny_pure ⟨_, rfl, .int t, H, I1.pins_of fun p hp => I1.pin p (by simp [hp]), ⟨tA, rfl⟩, q⟩
  ·refine wpAny_bind (wpAny_tryCatch (wpAny_mono (sm.next (fun _ _ => False) hsp hn') (fun r s1 ⟨u, y, H', hr, ry, ⟨j, ey, m', hm, hw'⟩, hs'⟩ => ?_) fun _ _ z => z.elim))
   subst hr ey
   obtain ⟨tj, rfl⟩ := ry
   have pl := (sm.inv hs').pin (D, bB [.int t tA] c) (by simp)
   have hs0 := sm.unpin hs'
   have plain : ∀ (next : Value → Int), (∀ r, next r = 2) → wpAny (model X.prog X.w) A.in1 (do
     match ← (holding [Value.int j tj] (binaryOp .Add (Value.int t tA) (Value.int j tj))).attempt with
     | .ok r => updateSeq D fun _ => #[r]; letGo [Value.int t tA, Value.int j tj]; (do updateSeq D fun _ => #[r]; again (.builtin "sum.loop" ⟨[.ref it, .ref D, rawInt (next r), rawInt 0], []⟩))
     | .error e => updateSeq D fun _ => #[]; letGo [Value.int t tA, Value.int j tj] [e]; throw e) (fun fin s' => match fin with
      | .done f => ∃ u, (Except.ok f : Result) = .ok (.ret u) ∧ EP X pins σ Q u s'
      | .again c => c.quiet = true ∧ codeAny (model X.prog X.w) A c (fun r s' => ∃ u, r = .ok (.ret u) ∧ EP X pins σ Q u s') s') (fun e s' => ∃ u, (Except.error e : Result) = .ok (.ret u) ∧ EP X pins σ Q u s') s1 := by
    intro next hnx
    refine wpAny_bind (wpAny_attempt (wpAny_holding (add_int ?_)))
    refine wpAny_bind (wpAny_updateSeq (s := { s1 with toks := s1.toks + 1 }) pl.1 rfl ?_)
    have o1 := Heap.get?_update_self (Obj.mapSeq (fun _ => #[Value.int (t + j) s1.toks])) pl.1 rfl
    refine wpAny_bind (wpAny_letGo ?_)
    refine wpAny_bind (wpAny_updateSeq o1 rfl ?_)
    have o2 := Heap.get?_update_self (Obj.mapSeq (fun _ => #[Value.int (t + j) s1.toks])) o1 rfl
    rw [hnx]
    refine wpAny_pure ⟨plainId_quiet F.plain_sum_loop _, ih m' hm (i + 1) (t + j) s1.toks _ 2 H' _ (.inr rfl) (sm.acc (s := s1) (h' := (s1.heap.update D (Obj.mapSeq (fun _ => #[Value.int (t + j) s1.toks]))).update D (Obj.mapSeq (fun _ => #[Value.int (t + j) s1.toks]))) (tk := s1.toks + 1) hs0 hD pl.2.1 (fun p hp => absurd hp (by simp)) fun b o hb e => (Heap.get?_update_other _ _ (Ne.symm hb)).trans ((Heap.get?_update_other _ _ (Ne.symm hb)).trans e)) hw' o2 pl.2.1⟩
   rcases hstg with rfl | rfl
   ·show wpAny _ A.in1 (if (_ : Bool) = true then (mkInt (t + j) >>= _) else _) _ _ _
    split
    ·refine wpAny_bind (wpAny_mkInt ?_)
     show wpAny _ A.in1 (updateSeq D (fun _ => #[.int (t + j) s1.toks]) >>= _) _ _ _
     refine wpAny_bind (wpAny_updateSeq (s := { s1 with toks := s1.toks + 1 }) pl.1 rfl ?_)
     have o1 := Heap.get?_update_self (Obj.mapSeq (fun _ => #[Value.int (t + j) s1.toks])) pl.1 rfl
     exact wpAny_pure ⟨plainId_quiet F.plain_sum_loop _, ih m' hm (i + 1) (t + j) s1.toks _ 0 H' _ (.inl rfl) (sm.acc (s := s1) (h' := s1.heap.update D (Obj.mapSeq (fun _ => #[Value.int (t + j) s1.toks]))) (tk := s1.toks + 1) hs0 hD pl.2.1 (fun p hp => absurd hp (by simp)) fun b o hb e => (Heap.get?_update_other _ _ (Ne.symm hb)).trans e) hw' o1 pl.2.1⟩
    ·exact wpAny_bind (wpAny_rule (plain (fun _ => 2) fun _ => rfl))
   ·exact plain (fun _ => 2) fun _ => rfl
theorem Es (hc : X.calm = true) (hm : X.mg "sum" = none) (hstr : uD X e ts) (hg : Gl X "sum" := by rfl) (hs : starEach [e] X.env = (false, eval e X.env) :: starEach [] X.env := by rfl) : PE X (.Call (.Name "sum" p) [e] [] pos) (JL ts) := by
 intro pins s σ H Q I h
 refine wpAny_Call_Name_kw (jn I hg hm boot_sum ?_ (by decide) (by decide))
 refine PyProof.Rows.callWith_builtin1 (tL (thn (hstr pins s σ H _ I h) fun u s1 ⟨S, H1, I1, rdy, W, ⟨m, w0⟩, st⟩ => ?_) hs) hs rfl
 refine call_function_tree F.kind_sum F.plain_sum F.entry_sum (F.args_sum1 _) ?_
 unfold Builtin.«sum»
 simp only [List.length_cons, List.length_nil]
 rw [if_neg (by decide)]
 refine wpAny_bind (wpAny_of_eq (show Builtin.Builtins.bindParams "sum" ["start"] 0 { } = pure [none] from rfl) ?_)
 obtain ⟨a1, a2⟩ := wW I1 hc (A' := X.A.in1) rfl rfl
 refine wpAny_bind (wpAny_mono (rdy X.A.in1 (fun _ _ => False) a1 a2 (Nat.le_succ _) (by show X.A.units + 1 ≤ _; omega)) (fun itv s2 ⟨it, lo, SS, e, sm, s0, hlo⟩ => ?_) fun _ _ z => z.elim)
 subst e
 refine wpAny_bind (wpAny_mkInt ?_)
 refine wpAny_bind (wpAny_pure ?_)
 simp only [List.forIn_cons, List.forIn_nil]
 refine wpAny_bind (wpAny_bind (wpAny_bind (wpAny_isInstance (T := "int") (b := false) (typeIs_int _ _ _) PySem.sub_int_str ?_)))
 simp only [Bool.false_eq_true, if_false]
 refine wpAny_pure (wpAny_bind (wpAny_bind (wpAny_isInstance (T := "int") (b := false) (typeIs_int _ _ _) PySem.sub_int_bytes ?_)))
 simp only [Bool.false_eq_true, if_false]
 refine wpAny_pure (wpAny_bind (wpAny_bind (wpAny_isInstance (T := "int") (b := false) (typeIs_int _ _ _) PySem.sub_int_bytearray ?_)))
 simp only [Bool.false_eq_true, if_false]
 refine wpAny_pure (wpAny_pure ?_)
 refine wpAny_bind (wpAny_newObj_type ?_)
 have hn : H1 s2.heap.objs.size = none := (sm.inv s0).hok.fresh (Nat.le_refl _)
 refine wpAny_pure ⟨plainId_quiet F.plain_sum_loop _, codeAny_mono (Bo sm hlo st m 0 0 s2.toks 0 0 H1 _ (.inl rfl) (sm.keep (s := s2) (h' := s2.heap.push { cls := .type "list", dict := none, data := .seq [Value.int 0 s2.toks].toArray }) (tk := s2.toks + 1) s0 fun b o e => Heap.get?_push_of_some _ e) w0 (Heap.get?_push_size _ rfl) hn) fun r s' ⟨u, hr, q⟩ => ?_⟩
 subst hr
 exact q
end
end L2
namespace L3
open PySem PySem.Spec PyProof.Rows L2
abbrev eY := Mu → Option (D × Mu)
structure FN (K : PySem.W.Frag) (tb : List Addr) (S : oM) (ths : List eY) (W0 : Wd) : Prop where
 nxt : ∀ (i : Nat) W th d μ' Q, Le tb W0 W → WOk K tb W → ths[i]? = some th → th W.mu = some (d, μ') → (∀ v W', WOk K tb W' → Le tb W W' → W'.mu = μ' → Den K tb W' d v → Q v W'.H) → S.nxt i W.H Q
 fin : ∀ (i : Nat) W, Le tb W0 W → WOk K tb W → ths.length ≤ i → S.fin i W.H
abbrev StF := En → Mu → Option (List eY × Mu)
def Gd (K : PySem.W.Frag) (tb : List Addr) (f : StF) : oH := fun σ H R => ∃ W δ ths μ', W.H = H ∧ WOk K tb W ∧ gG K tb W δ σ ∧ f δ W.mu = some (ths, μ') ∧
 ∀ S W', WOk K tb W' → Le tb W W' → W'.mu = μ' → FN K tb S ths W' → R S W'.H
def uV (X : Cx) (tb : List Addr) (e : Expr) (f : StF) : Prop := uD X e (Gd X.K tb f)
def Ag (X : Cx) (tb : List Addr) (e : Expr) (f : StF) : Prop := uY X e (Gd X.K tb f)
section
variable {X : Cx} {tb : List Addr} {e tg iter elt : Expr} {f : EF} {pos p : Pos} {fs : StF}
theorem Dt {t t' : oH} (h : uD X e t) (k : ∀ σ H R, t' σ H R → t σ H R) : uD X e t' := fun pins s σ H R I hq => h pins s σ H R I (k σ H R hq)
theorem Ck {t t' : oH} (h : uY X e t) (k : ∀ σ H R, t' σ H R → t σ H R) : uY X e t' := fun pins s σ H R I hq => h pins s σ H R I (k σ H R hq)
theorem uB (h : Ag X tb e fs) : uV X tb e fs := uW h
def thE (d : D) : eY := fun μ => some (d, μ)
def lM (f : EF) : StF := fun δ μ => (f δ μ).bind fun r => match r.1 with
 | .tup ds => some (ds.map thE, r.2)
 | .lst ds => some (ds.map thE, r.2)
 | _ => none
theorem Am {K : PySem.W.Frag} {J : It} {ds : List D} {W0 : Wd} (io : yr K tb J ⟨ds, none⟩ W0) : FN K tb (yg J) (ds.map thE) W0 where
 nxt := fun i W th d μ' Q l ok e1 e2 hQ => by
  rw [List.getElem?_map] at e1
  cases q : ds[i]? with
  | none => rw [q] at e1; cases e1
  | some d0 =>
   rw [q] at e1
   cases e1
   cases e2
   obtain ⟨go, yl⟩ := io.go i W d l ok (Src.bI rfl) q
   exact ⟨go, fun x H' y => by
    obtain ⟨W', rfl, ok', l', m', d'⟩ := yl x H' y
    exact hQ x W' ok' l' m' d'⟩
 fin := fun i W l ok hi => io.stop i W l ok (Src.bI rfl) (by simpa using hi)
theorem jY (hc : X.calm = true) (he : PD X tb e f) : uV X tb e (lM f) :=
 Dt (Ao hc he) fun σ H R zq1 => by
  obtain ⟨W, δ, ths, μ', e, ok, hd, hf, h⟩ := zq1
  unfold lM at hf
  obtain ⟨⟨x, μ1⟩, e1, e2⟩ := Option.bind_eq_some_iff.mp hf
  refine ⟨W, δ, x, μ1, e, ok, hd, e1, fun v W1 ok1 l1 m1 d1 => ?_⟩
  cases x with
  | tup ds =>
   cases e2
   obtain ⟨a, xs, rfl, q, r⟩ := gD d1
   exact ⟨a, rfl, .inr ⟨⟨xs, SqT.fz q⟩, h _ W1 ok1 l1 m1 (Am (zp q r))⟩⟩
  | lst ds =>
   cases e2
   obtain ⟨a, xs, rfl, q, r⟩ := jr d1
   exact ⟨a, rfl, .inl ⟨⟨xs, SqL.fz q⟩, h _ W1 ok1 l1 m1 (Am (zJ q r))⟩⟩
  | _ => cases e2
def thG (h : GF) (fe : EF) (δb : En) (d : D) : eY := fun μ => (h d δb μ).bind fun δ1 => fe δ1 μ
def pX (own : List Str) (capI : List Nat) (fi : IF) (h : GF) (fe : EF) : StF := fun δ μ => (fi δ μ).bind fun r => match r.1.cel with
 | none => some (r.1.items.map (thG h fe (cO own δ capI)), r.2)
 | some _ => none
theorem qM {fi : IF} {h : GF} {fe : EF} {own cap : List Str} {capI ts : List Nat} {scope : Scope} {P : Addr} {kr : Nat} (hc : X.calm = true) (hr : eQ kr X.A) (B : eN X own cap capI scope) (hown : ∀ x ∈ own, (x, NameKind.free) ∉ scope.names) (hnc : ∀ y ∈ scope.names, y.2 ≠ .cell)
  (hP : P ∈ tb) (htb : ∃ c, X.env.code = .ref c ∧ PySem.W.CodeHd X.base c P) (hi : PID X tb tg iter fi)
  (hg : ∀ AG cs C code fp s2 H2, PGD (ph X AG own cap scope cs C code fp s2 H2) tb tg ts h)
  (he : ∀ AG cs C code fp s2 H2, (∀ k, eQ (k + 1) X.A → eQ k AG) → PD (ph X AG own cap scope cs C code fp s2 H2) tb elt fe)
  (hts : ∀ i ∈ ts, i < own.length := by decide) (h0 : scope.names.lookup (".0" : Str) = some NameKind.local := by rfl) (hco : scope.isCoroutine = false := by rfl) (hs : ∀ x, genFold iter X.env x = pure x := by intro _; rfl) :
  Ag X tb (.GeneratorExp elt [⟨tg, iter, [], 0⟩] scope pos) (pX own capI fi h fe) :=
 Ck (Bs (g := tDG X.K tb ts h) (te := tD X.K tb fe) hc hr B hown hnc h0 hco htb hi hg he hs) fun σ H R zq2 => by
  obtain ⟨W, δ, ths, μ', e, ok, hd, hf, k⟩ := zq2
  unfold pX at hf
  obtain ⟨⟨S, μ1⟩, e1, e2⟩ := Option.bind_eq_some_iff.mp hf
  obtain ⟨items, cel⟩ := S
  cases cel with
  | some n => cases e2
  | none =>
   cases e2
   refine ⟨W, δ, ⟨items, none⟩, _, e, ok, hd, e1, fun J W1 ok1 l1 m1 io => ?_⟩
   obtain ⟨ps, ep, tp⟩ := ok1.tab P hP
   refine ⟨ps, ep, tp, fun ps' tp' hmore => ?_⟩
   obtain ⟨ok2, l2⟩ := ok1.tbl hP ep tp'
   refine k _ ⟨upd W1.H P (.tbl ps'), W1.ad, W1.mu⟩ ok2 (l1.trans l2) m1 ⟨fun i W3 th d μ3 Q l3 ok3 e3 e4 hQ => ?_, fun i W3 l3 ok3 hi3 => ?_⟩
   ·rw [List.getElem?_map] at e3
    cases q : items[i]? with
    | none => rw [q] at e3; cases e3
    | some d0 =>
     rw [q] at e3
     cases e3
     unfold thG at e4
     obtain ⟨δ1, e5, e6⟩ := Option.bind_eq_some_iff.mp e4
     obtain ⟨go, yl⟩ := io.go i W3 d0 (l2.trans l3) ok3 (Src.bI rfl) q
     refine ⟨go, fun x H' y => ?_⟩
     obtain ⟨W4, rfl, ok4, l4, m4, d4⟩ := yl x H' y
     refine ⟨W4, cO own δ capI, d0, δ1, rfl, ok4, (sY hd).mono' (((l1.trans l2).trans l3).trans l4), d4, (by rw [m4]; exact e5), fun σ' d' hl ht => ⟨fits_of hts hl ht, ?_⟩⟩
     exact ⟨W4, δ1, d, μ3, rfl, ok4, d', (by rw [m4]; exact e6), fun v W5 ok5 l5 m5 d5 => hQ v W5 ok5 (l4.trans l5) m5 d5⟩
   ·exact io.stop i W3 (l2.trans l3) ok3 (Src.bI rfl) (by simpa using hi3)
def wI : D → Option Bool
 | .bl b => some b
 | .int i => some (i != 0)
 | _ => none
theorem um {K : PySem.W.Frag} {W : Wd} {x : D} {v : V} {k : Bool} (h : Den K tb W x v) (e : wI x = some k) : yM v k := by
 cases x with
 | bl b => cases e; exact .inl (nY h)
 | int i => cases e; exact .inr ⟨i, bh h, rfl⟩
 | _ => cases e
def wj : List eY → Mu → Option (Bool × Mu)
 | [], μ => some (true, μ)
 | t :: r, μ => (t μ).bind fun x => (wI x.1).bind fun k => if k = true then wj r x.2 else some (false, x.2)
def tM : List eY → Mu → Option (Bool × Mu)
 | [], μ => some (false, μ)
 | t :: r, μ => (t μ).bind fun x => (wI x.1).bind fun k => if k = true then some (true, x.2) else tM r x.2
def yq : List eY → Mu → Option (List D × Mu)
 | [], μ => some ([], μ)
 | t :: r, μ => (t μ).bind fun x => (yq r x.2).bind fun q => some (x.1 :: q.1, q.2)
def oK : Int → List eY → Mu → Option (Int × Mu)
 | a, [], μ => some (a, μ)
 | a, t :: r, μ => (t μ).bind fun x => match x.1 with
  | .int j => oK (a + j) r x.2
  | _ => none
def Ep (f : StF) : EF := fun δ μ => (f δ μ).bind fun r => (wj r.1 r.2).bind fun q => some (.bl q.1, q.2)
def zW (f : StF) : EF := fun δ μ => (f δ μ).bind fun r => (tM r.1 r.2).bind fun q => some (.bl q.1, q.2)
def Bh (f : StF) : EF := fun δ μ => (f δ μ).bind fun r => if r.1.length ≤ sizeLine then (yq r.1 r.2).bind fun q => some (.tup q.1, q.2) else none
def uq (f : StF) : EF := fun δ μ => (f δ μ).bind fun r => (oK 0 r.1 r.2).bind fun q => some (.int q.1, q.2)
theorem Hz (hc : X.calm = true) (hm : X.mg "all" = none) (hstr : uV X tb e fs) (hg : Gl X "all" := by rfl) (hs : starEach [e] X.env = (false, eval e X.env) :: starEach [] X.env := by rfl) : PD X tb (.Call (.Name "all" p) [e] [] pos) (Ep fs) :=
 dH (Dh hc hm hstr hg hs) fun σ H Q zq3 => by
  obtain ⟨W, δ, d, μ', e, ok, hd, hf, h⟩ := zq3
  unfold Ep at hf
  obtain ⟨⟨ths, μ1⟩, e1, hf⟩ := Option.bind_eq_some_iff.mp hf
  obtain ⟨⟨b, μ2⟩, e2, e3⟩ := Option.bind_eq_some_iff.mp hf
  cases e3
  refine ⟨W, δ, ths, μ1, e, ok, hd, e1, fun S W1 ok1 l1 m1 so => ?_⟩
  refine ⟨fun i m H2 => m = ths.length - i ∧ ∃ W2, W2.H = H2 ∧ WOk X.K tb W2 ∧ Le tb W1 W2 ∧ wj (ths.drop i) W2.mu = some (b, μ2), ⟨_, rfl, W1, rfl, ok1, Le.refl _, by rw [m1]; exact e2⟩, ?_⟩
  rintro i m H2 ⟨rfl, W2, rfl, ok2, l2, ha⟩
  by_cases hlt : i < ths.length
  ·right
   rw [List.drop_eq_getElem_cons hlt] at ha
   unfold wj at ha
   obtain ⟨⟨x, μ3⟩, e3, ha⟩ := Option.bind_eq_some_iff.mp ha
   obtain ⟨k, e4, ha⟩ := Option.bind_eq_some_iff.mp ha
   refine so.nxt i W2 ths[i] x μ3 _ l2 ok2 (by simp [hlt]) e3 fun v W3 ok3 l3 m3 d3 => ⟨k, um d3 e4, ?_⟩
   cases k with
   | true =>
    rw [if_pos rfl]
    exact ⟨ths.length - (i + 1), by omega, rfl, W3, rfl, ok3, l2.trans l3, by rw [m3]; exact ha⟩
   | false =>
    rw [if_neg Bool.false_ne_true]
    cases ha
    exact h _ W3 ok3 ((l1.trans l2).trans l3) m3 fL
  ·left
   rw [List.drop_of_length_le (by omega)] at ha
   cases ha
   exact ⟨so.fin i W2 l2 ok2 (by omega), h _ W2 ok2 (l1.trans l2) rfl fL⟩
theorem zx (hc : X.calm = true) (hm : X.mg "any" = none) (hstr : uV X tb e fs) (hg : Gl X "any" := by rfl) (hs : starEach [e] X.env = (false, eval e X.env) :: starEach [] X.env := by rfl) : PD X tb (.Call (.Name "any" p) [e] [] pos) (zW fs) :=
 dH (Ff hc hm hstr hg hs) fun σ H Q zq4 => by
  obtain ⟨W, δ, d, μ', e, ok, hd, hf, h⟩ := zq4
  unfold zW at hf
  obtain ⟨⟨ths, μ1⟩, e1, hf⟩ := Option.bind_eq_some_iff.mp hf
  obtain ⟨⟨b, μ2⟩, e2, e3⟩ := Option.bind_eq_some_iff.mp hf
  cases e3
  refine ⟨W, δ, ths, μ1, e, ok, hd, e1, fun S W1 ok1 l1 m1 so => ?_⟩
  refine ⟨fun i m H2 => m = ths.length - i ∧ ∃ W2, W2.H = H2 ∧ WOk X.K tb W2 ∧ Le tb W1 W2 ∧ tM (ths.drop i) W2.mu = some (b, μ2), ⟨_, rfl, W1, rfl, ok1, Le.refl _, by rw [m1]; exact e2⟩, ?_⟩
  rintro i m H2 ⟨rfl, W2, rfl, ok2, l2, ha⟩
  by_cases hlt : i < ths.length
  ·right
   rw [List.drop_eq_getElem_cons hlt] at ha
   unfold tM at ha
   obtain ⟨⟨x, μ3⟩, e3, ha⟩ := Option.bind_eq_some_iff.mp ha
   obtain ⟨k, e4, ha⟩ := Option.bind_eq_some_iff.mp ha
   refine so.nxt i W2 ths[i] x μ3 _ l2 ok2 (by simp [hlt]) e3 fun v W3 ok3 l3 m3 d3 => ⟨k, um d3 e4, ?_⟩
   cases k with
   | false =>
    rw [if_neg Bool.false_ne_true]
    exact ⟨ths.length - (i + 1), by omega, rfl, W3, rfl, ok3, l2.trans l3, by rw [m3]; exact ha⟩
   | true =>
    rw [if_pos rfl]
    cases ha
    exact h _ W3 ok3 ((l1.trans l2).trans l3) m3 fL
  ·left
   rw [List.drop_of_length_le (by omega)] at ha
   cases ha
   exact ⟨so.fin i W2 l2 ok2 (by omega), h _ W2 ok2 (l1.trans l2) rfl fL⟩
theorem wk (hc : X.calm = true) (hm : X.mg "sum" = none) (hstr : uV X tb e fs) (hg : Gl X "sum" := by rfl) (hs : starEach [e] X.env = (false, eval e X.env) :: starEach [] X.env := by rfl) : PD X tb (.Call (.Name "sum" p) [e] [] pos) (uq fs) :=
 dH (Es hc hm hstr hg hs) fun σ H Q zq5 => by
  obtain ⟨W, δ, d, μ', e, ok, hd, hf, h⟩ := zq5
  unfold uq at hf
  obtain ⟨⟨ths, μ1⟩, e1, hf⟩ := Option.bind_eq_some_iff.mp hf
  obtain ⟨⟨b, μ2⟩, e2, e3⟩ := Option.bind_eq_some_iff.mp hf
  cases e3
  refine ⟨W, δ, ths, μ1, e, ok, hd, e1, fun S W1 ok1 l1 m1 so => ?_⟩
  refine ⟨fun i m t H2 => m = ths.length - i ∧ ∃ W2, W2.H = H2 ∧ WOk X.K tb W2 ∧ Le tb W1 W2 ∧ oK t (ths.drop i) W2.mu = some (b, μ2), ⟨_, rfl, W1, rfl, ok1, Le.refl _, by rw [m1]; exact e2⟩, ?_⟩
  rintro i m t H2 ⟨rfl, W2, rfl, ok2, l2, ha⟩
  by_cases hlt : i < ths.length
  ·right
   rw [List.drop_eq_getElem_cons hlt] at ha
   unfold oK at ha
   obtain ⟨⟨x, μ3⟩, e3, ha⟩ := Option.bind_eq_some_iff.mp ha
   cases x with
   | int j =>
    refine so.nxt i W2 ths[i] _ μ3 _ l2 ok2 (by simp [hlt]) e3 fun v W3 ok3 l3 m3 d3 => ⟨j, bh d3, ths.length - (i + 1), by omega, rfl, W3, rfl, ok3, l2.trans l3, by rw [m3]; exact ha⟩
   | _ => cases ha
  ·left
   rw [List.drop_of_length_le (by omega)] at ha
   cases ha
   exact ⟨so.fin i W2 l2 ok2 (by omega), h _ W2 ok2 (l1.trans l2) rfl cY⟩
end
abbrev FF := List D → Mu → Option (D × Mu)
def spD (K : PySem.W.Frag) (tb : List Addr) (n : Nat) (φ : FF) : Sp := fun vs H Q _ => ∃ W ds d μ', W.H = H ∧ WOk K tb W ∧ cB K tb W ds vs ∧ ds.length = n ∧ φ ds W.mu = some (d, μ') ∧
 ∀ v W', WOk K tb W' → Le tb W W' → W'.mu = μ' → Den K tb W' d v → Q v W'.H
structure FI (P : Program) (w : World) (K : PySem.W.Frag) (mg : Str → Option Value) (base : Heap) (tb : List Addr) (x : Str) (n k : Nat) (φ : FF) : Prop where
 is : ∃ f fd ps, lA P w K mg base CX0 k f fd ps (spD K tb n φ) ∧ mg x = some (.ref f) ∧ PySem.W.keepIn K (.ref f) = true ∧ Binds K fd ps []
theorem FI.more {P : Program} {w : World} {K : PySem.W.Frag} {mg : Str → Option Value} {base : Heap} {tb : List Addr} {x : Str} {n k k' : Nat} {φ : FF} (F : FI P w K mg base tb x n k φ) (h : k ≤ k') : FI P w K mg base tb x n k' φ := by
 obtain ⟨f, fd, ps, h1, h2⟩ := F.is
 exact ⟨f, fd, ps, h1.mono h, h2⟩
def aG (m : Nat) (g : SF) : FF := fun ds μ => (g (ds.map some ++ List.replicate (m - ds.length) none) μ).bind fun r => match r.1 with
 | .rt d => some (d, r.2.2)
 | .nx => some (.non, r.2.2)
 | _ => none
section
variable {X : Cx} {tb : List Addr} {e : Expr} {es : List Expr} {fs : AF} {x : Str} {n k : Nat} {φ : FF} {p pos : Pos}
theorem aL (F : FI X.prog X.w X.K X.mg X.base tb x n k φ) (hr : eQ k X.A) (ha : PAD X tb (e :: es) fs) (hn : ∀ δ μ r, fs δ μ = some r → r.1.length = n) (hg : Gl X x := by rfl) (hdb : (x == ("__debug__" : Str)) = false := by decide)
  (he : starEach (e :: es) X.env = (false, eval e X.env) :: starEach es X.env := by rfl) (hpl : (backTo pos (starEach es X.env)).any (·.1) = false := by rfl) : PD X tb (.Call (.Name x p) (e :: es) [] pos) (MC fs φ) := by
 obtain ⟨f, fd, ps, h1, h2, h3, h4⟩ := F.is
 refine dH (De (E := E0) h1 hr hg h2 h3 h4 .nil JX ha hdb he hpl) fun σ H Q zq7 => ?_
 obtain ⟨W, δ, d, μ', e, ok, hd, hf, h⟩ := zq7
 unfold MC at hf
 obtain ⟨⟨xs, μ1⟩, e1, e2⟩ := Option.bind_eq_some_iff.mp hf
 refine ⟨W, δ, xs, μ1, e, ok, hd, e1, fun vs W1 ok1 l1 m1 d1 => ?_⟩
 refine ⟨W1, xs, d, μ', rfl, ok1, by rw [List.append_nil]; exact d1, hn _ _ _ e1, (by rw [m1]; exact e2), fun v W' ok' l' m' d' => h v W' ok' (l1.trans l') m' d'⟩
theorem aM (δ : En) (μ : Mu) (r : List D × Mu) (h : au δ μ = some r) : r.1.length = 0 := by cases h; rfl
theorem aB {f : EF} {fs : AF} {n : Nat} (hk : ∀ δ μ r, fs δ μ = some r → r.1.length = n) (δ : En) (μ : Mu) (r : List D × Mu) (h : aj f fs δ μ = some r) : r.1.length = n + 1 := by
 unfold aj at h
 obtain ⟨q, _, h⟩ := Option.bind_eq_some_iff.mp h
 obtain ⟨t, e, h⟩ := Option.bind_eq_some_iff.mp h
 cases h
 rw [List.length_cons, hk _ _ _ e]
end
structure fG (K : PySem.W.Frag) (x qual : Str) (st : Stmt) (f : Addr) (fd : FuncData) (P : Addr) : Prop where
 ex : ∃ (oc : Value) (od : Option Addr) (kV doc pm : Value) (an : Option Addr) (c : Addr) (ct : Value) (osl : Array (Option Value)),
  fd = PySem.W.fnOf x qual (iJ st) (gk st) (aJ st) .none kV doc pm an (.ref c) ct ∧ K.lookup f = some ⟨oc, od, .func fd, osl⟩ ∧ PySem.W.codeIn K (.ref c) qual = true ∧ ∀ h : Heap, K.In h → PySem.W.CodeHd h c P
 kp : PySem.W.keepIn K (.ref f) = true
theorem dG {P : Program} {w : World} {K : PySem.W.Frag} {mg : Str → Option Value} {base : Heap} {tb : List Addr} {x qual : Str} {st : Stmt} {f : Addr} {fd : FuncData} {T : Addr} {N ps : List Str} {n k : Nat} {g : SF} (F : fG K x qual st f fd T) (KB : K.In base) (hmg : mg x = some (.ref f)) (S : aV N ps (aJ st)) (hps : ps.length = n)
  (hb : ∀ (kV doc pm : Value) (an : Option Addr) (cdv ct : Value) (us : List Value), us.length = ps.length → bindArgs (PySem.W.fnOf x qual (iJ st) (gk st) (aJ st) .none kV doc pm an cdv ct) ⟨us, []⟩ = pure (ps.zip us))
  (hbody : ∀ (c : Addr) (A : Around) (outer : List Env) (s : Shared) (H : Hp) (E : XK), PySem.W.CodeHd base c T → eQ k (A.deeper (envOfC qual (aJ st) s.heap.objs.size f (.ref c))) →
   qL (wQ CX0 P w K mg base N qual (aJ st) f (.ref c) A outer s H E).nox tb (gk st) g) : FI P w K mg base tb x n (k + 1) (aG N.length g) := by
 obtain ⟨oc, od, kV, doc, pm, an, c, ct, osl, rfl, lk, hcd, hhd⟩ := F.ex
 refine ⟨f, _, ps, FP lk hcd S (fun vs H Q E ⟨W, ds, d, μ', e, ok, dl, hl, _⟩ => by rw [← az.length dl, hl, hps]) fun A outer s H vs Q E hr hsp => ?_, hmg, F.kp, .all (hb kV doc pm an (.ref c) ct)⟩
 obtain ⟨W, ds, d, μ', e, ok, dl, hl, hf, k⟩ := hsp
 refine ⟨_, (hbody c A outer s H E (hhd base KB) hr).nox, ?_⟩
 unfold aG at hf
 obtain ⟨⟨fl, δ', μ1⟩, e1, e2⟩ := Option.bind_eq_some_iff.mp hf
 refine ⟨W, _, fl, δ', μ1, e, ok, ?_, e1, fun σ' W' ok' l' m' d' => ?_⟩
 ·have hlen := az.length dl
  refine ⟨by unfold L2.start; simp [hlen], fun i y q => ?_⟩
  unfold L2.start
  by_cases hi : i < ds.length
  ·rw [List.getElem?_append_left (by simpa using hi), List.getElem?_map] at q
   cases q2 : ds[i]? with
   | none => rw [q2] at q; cases q
   | some z =>
    rw [q2] at q
    cases q
    obtain ⟨v, ev, dv⟩ := az.get dl q2
    exact ⟨v, by rw [List.getElem?_append_left (by rw [List.length_map, ← hlen]; exact hi), List.getElem?_map, ev]; rfl, dv⟩
  ·rw [List.getElem?_append_right (by simpa using hi), List.getElem?_replicate] at q
   split at q <;> cases q
 ·cases fl with
  | nx => cases e2; exact k .non W' ok' l' m' oO
  | rt d0 => cases e2; exact fun v dv => k v W' ok' l' m' dv
  | bk => cases e2
  | ct => cases e2
end L3
namespace L2
open PySem PySem.Spec PyProof.Rows
section
variable {X : Cx} {a b c e : Expr} {ta tb tc te : TE} {pos : Pos}
def gR (i j : Int) : Nat := Builtin.Int.intBits i + Builtin.Int.intBits j
theorem Em : OpR X (binaryOp .Mult) (rI (fun i j => gR i j ≤ 134217728) fun i j => .int (i * j)) := opI fun _ _ _ _ _ _ _ hc q => mul_int q (IntMulOk.of_le (Nat.le_refl _) (Nat.le_refl _) hc)
theorem Aw : OpR X (binaryOp .FloorDiv) (rI (fun _ j => j ≠ 0 ∧ j.natAbs.log2 < 9000) fun i j => .int (i.fdiv j)) := opI fun _ _ _ _ _ _ _ hc q => floordiv_int hc.1 q (.inl (PyProof.noPylong_of_log2 hc.2))
theorem Cz : OpR X (binaryOp .Pow) (rI (fun i j => 0 ≤ j ∧ (Builtin.Int.intBits i : Int) * j ≤ 2 ^ 27) fun i j => .int (i ^ j.toNat)) := opI fun _ _ _ _ _ _ _ hc q => pow_int hc.1 hc.2 q
def JS (K : PySem.W.Frag) : R2 := fun x y H Q => ∃ a b xs ys, x = .ref a ∧ y = .ref b ∧ SqT K H a xs ∧ SqT K H b ys ∧ xs.length + ys.length ≤ sizeLine ∧
 (xs = [] → Q (.ref b) H) ∧ (xs ≠ [] → ys = [] → Q (.ref a) H) ∧ (xs ≠ [] → ys ≠ [] → ∀ p, H p = none → Q (.ref p) (upd H p (.tup (xs ++ ys))))
theorem Ds : OpR X (binaryOp .Add) (JS X.K) := by
 intro pins s σ H x y v u Q I rx ry h
 obtain ⟨t, b, xs, ys, rfl, rfl, ha, hb, hz, q0, q1, q2⟩ := h
 by_cases hx : xs = []
 ·subst hx
  cases rx
  cases ry
  obtain ⟨its, r1, p1, _⟩ := I.tuple ha
  obtain ⟨its2, r2, p2, _⟩ := I.tuple hb
  cases r1
  obtain ⟨⟨cls, dd, data, sl⟩, ho, hc, n, hd⟩ := id p1
  obtain ⟨⟨cls2, dd2, data2, sl2⟩, ho2, hc2, n2, hd2⟩ := id p2
  simp only at hc hd hc2 hd2
  subst hc hd hc2 hd2
  exact concat_meets ⟨_, ho, rfl⟩ ⟨_, ho2, rfl⟩ noFill_tuple_add seq_tuple_add PySem.F.slot_tuple_add PySem.F.entry_tuple_add (PySem.F.args_tuple_add_2 _ _)
   (tuple_addW0 t b _ _ n n2 dd dd2 sl sl2 (by simp)) ⟨ho, ho2, ⟨.ref b, H, I, rfl, q0 rfl⟩⟩
 ·exact DN pins s σ H _ _ v u Q I rx ry ⟨t, b, xs, ys, rfl, rfl, ha, hb, hx, hz, q1 hx, q2 hx⟩
theorem mJ : fillsNumberSlot (.type "tuple") "mul" = pure false :=
 PySem.fillsNumberSlot_seq (id := "tuple.__mul__") (r := some (.builtin "tuple.__rmul__")) F.slot_tuple_mul.lookup (by decide +kernel) F.slot_tuple_rmul.lookup (by decide +kernel)
theorem ug : seqRepeat? (.type "tuple") = pure (some (.builtin "tuple.__mul__")) := by
 unfold seqRepeat?
 rw [PySem.seqSlot_of (T := "tuple") (name := "__mul__") (id := "tuple.__mul__") F.slot_tuple_mul.lookup (by decide +kernel), PySem.seqSlot_of (T := "tuple") (name := "__rmul__") (id := "tuple.__rmul__") F.slot_tuple_rmul.lookup (by decide +kernel)]
 rfl
theorem qx (a : Int) (t : Tok) (l : Addr) (items : Array Value) (n : Nat) (dd : Option Addr) (sl : Array (Option Value)) :
  Meets (Builtin.«int.__rmul__» ⟨[.int a t, .ref l], []⟩) (fun _ R s => s.heap.get? l = some { cls := .type "tuple", dict := dd, data := .seq items n, slots := sl } ∧ R (.ok (.ret Value.notImplemented)) s) :=
 .of_wp fun prog w A R s h => by obtain ⟨hp, g, d, tk, os⟩ := s; obtain ⟨hl, h⟩ := h; wp_walk; exact ⟨_, rfl, h⟩
theorem qe (l : Addr) (items : Array Value) (n : Nat) (x : Int) (u : Tok) (dd : Option Addr) (sl : Array (Option Value)) (h0 : (decide (x < -2 ^ 63) || decide (x ≥ 2 ^ 63)) = false) (h1 : (items.isEmpty || x == 1) = true) :
  Meets (Builtin.«tuple.__mul__» ⟨[.ref l, .int x u], []⟩) (fun _ R s => s.heap.get? l = some { cls := .type "tuple", dict := dd, data := .seq items n, slots := sl } ∧ R (.ok (.ret (Value.ref l))) s) :=
 .of_wp fun prog w A R s h => by
  obtain ⟨hp, g, d, tk, os⟩ := s; obtain ⟨hl, h⟩ := h
  unfold Builtin.«tuple.__mul__»
  wp_walk using AutoSeq1.wpAny_loadPart' hl
  refine wpAny_ite_false (decide_eq_false (by rw [h0]; exact Bool.false_ne_true)) ?_
  wp_walk using AutoSeq1.wpAny_loadPart' hl
  exact ⟨_, rfl, h⟩
theorem pq (l : Addr) (items : Array Value) (n : Nat) (x : Int) (u : Tok) (dd : Option Addr) (sl : Array (Option Value)) (h0 : (decide (x < -2 ^ 63) || decide (x ≥ 2 ^ 63)) = false) (h1 : (items.isEmpty || x == 1) = false) (h2 : (decide (x ≤ 0) || items.isEmpty) = true) :
  Meets (Builtin.«tuple.__mul__» ⟨[.ref l, .int x u], []⟩) (fun _ R s => s.heap.get? l = some { cls := .type "tuple", dict := dd, data := .seq items n, slots := sl } ∧ R (.ok (.ret (Value.ref s.heap.objs.size))) { s with heap := s.heap.push { cls := Value.type "tuple", data := Data.seq #[] }, toks := s.toks }) :=
 .of_wp fun prog w A R s h => by
  obtain ⟨hp, g, d, tk, os⟩ := s; obtain ⟨hl, h⟩ := h
  unfold Builtin.«tuple.__mul__»
  wp_walk using AutoSeq1.wpAny_loadPart' hl
  refine wpAny_ite_false (decide_eq_false (by rw [h0]; exact Bool.false_ne_true)) ?_
  wp_walk using AutoSeq1.wpAny_loadPart' hl
  exact ⟨_, rfl, h⟩
theorem qH (l : Addr) (items : Array Value) (n : Nat) (x : Int) (u : Tok) (dd : Option Addr) (sl : Array (Option Value)) (h0 : (decide (x < -2 ^ 63) || decide (x ≥ 2 ^ 63)) = false) (h1 : (items.isEmpty || x == 1) = false) (h2 : (decide (x ≤ 0) || items.isEmpty) = false)
  (h3 : ¬ (items.size : Int) * x > (2 ^ 63 - 1) / 8) (h4 : Builtin.Tuple.tupleTooMany ((items.size : Int) * x) = false) (h5 : ((List.replicate x.toNat items).foldl (· ++ ·) #[]).size ≤ sizeLine) :
  Meets (Builtin.«tuple.__mul__» ⟨[.ref l, .int x u], []⟩) (fun _ R s => s.heap.get? l = some { cls := .type "tuple", dict := dd, data := .seq items n, slots := sl } ∧ R (.ok (.ret (Value.ref s.heap.objs.size))) { s with heap := s.heap.push { cls := Value.type "tuple", data := Data.seq ((List.replicate x.toNat items).foldl (· ++ ·) #[]) }, toks := s.toks }) :=
 .of_wp fun prog w A R s h => by
  obtain ⟨hp, g, d, tk, os⟩ := s; obtain ⟨hl, h⟩ := h
  unfold Builtin.«tuple.__mul__»
  wp_walk using AutoSeq1.wpAny_loadPart' hl
  refine wpAny_ite_false (decide_eq_false (by rw [h0]; exact Bool.false_ne_true)) ?_
  wp_walk using AutoSeq1.wpAny_loadPart' hl
  refine wpAny_ite_false (decide_eq_false h3) ?_
  wp_walk using AutoSeq1.wpAny_loadPart' hl
  exact ⟨_, rfl, h⟩
def Jx (K : PySem.W.Frag) : R2 := fun x y H Q => ∃ l k xs, x = .ref l ∧ y = .int k ∧ SqT K H l xs ∧ -(2 ^ 63) ≤ k ∧ k < 2 ^ 63 ∧ xs.length * k.toNat ≤ sizeLine ∧
 ((xs = [] ∨ k = 1) → Q (.ref l) H) ∧ (¬ (xs = [] ∨ k = 1) → ∀ p, H p = none → Q (.ref p) (upd H p (.tup (List.replicate k.toNat xs).flatten)))
theorem Cp : OpR X (binaryOp .Mult) (Jx X.K) := by
 intro pins s σ H x y v u Q I rx ry h
 obtain ⟨l, k, xs, rfl, rfl, hH, h1, h2, hz, q1, q2⟩ := h
 cases rx
 obtain ⟨t, rfl⟩ := ry
 obtain ⟨its, r, p, hz0⟩ := I.tuple hH
 have hl := r.length
 obtain ⟨⟨cls, dd, data, sl⟩, e, hc, n, hd⟩ := id p
 simp only at hc hd
 subst hc hd
 have h0 : (decide (k < -2 ^ 63) || decide (k ≥ 2 ^ 63)) = false := by
  rw [decide_eq_false (by omega), decide_eq_false (by omega)]; rfl
 refine wpAny_binaryOp_repeat_ref (T := "tuple") (U := "int") (by decide) ⟨_, e, rfl⟩ (fun s' => typeIs_int s' k t) mJ F.fills_int_mul F.slot_int_rmul ug F.slot_int_index.lookup
  (call_meets F.slot_int_rmul (typeIs_int s k t) F.entry_int_rmul (F.args_int_rmul_2 _ _) (qx k t l its.toArray n dd sl) ⟨e, rfl, ⟨_, e, rfl⟩, ?_⟩)
 by_cases hs : xs = [] ∨ k = 1
 ·refine call_meets F.slot_tuple_mul ⟨_, e, rfl⟩ F.entry_tuple_mul (F.args_tuple_mul_2 _ _) (qe l its.toArray n k t dd sl h0 ?_) ⟨e, ⟨.ref l, H, I, rfl, q1 hs⟩⟩
  rcases hs with hs | hs
  ·subst hs; cases r; rfl
  ·subst hs; simp
 ·have hne : (its.toArray.isEmpty || k == 1) = false := by
   rw [Bool.or_eq_false_iff]
   refine ⟨?_, by simpa using fun z => hs (.inr z)⟩
   cases its with
   | nil => cases r; exact absurd (Or.inl rfl) hs
   | cons a b => simp
  have hne' : its.toArray.isEmpty = false := (Bool.or_eq_false_iff.mp hne).1
  by_cases hk : k ≤ 0
  ·refine call_meets F.slot_tuple_mul ⟨_, e, rfl⟩ F.entry_tuple_mul (F.args_tuple_mul_2 _ _) (pq l its.toArray n k t dd sl h0 hne (by rw [decide_eq_true hk]; rfl)) ⟨e, ?_⟩
   have hk0 : k.toNat = 0 := by omega
   refine ⟨.ref s.heap.objs.size, _, I.laid (t' := s.toks) (o := .tup []) (fun b ob q => Heap.get?_push_of_some _ q) (Nat.le_refl _) ⟨Nat.zero_le _, [], .nil, IsTup.new _ _⟩, rfl, ?_⟩
   have := q2 hs _ (I.hok.fresh (Nat.le_refl _))
   rw [hk0] at this
   exact this
  ·have hp : its.length * k.toNat ≤ sizeLine := by rw [← hl]; exact hz
   have hsz := sizeLine_eq
   have hcast : ((its.toArray.size : Int)) * k = ((its.length * k.toNat : Nat) : Int) := by
    rw [List.size_toArray, Int.natCast_mul, Int.toNat_of_nonneg (by omega)]
   have hfold : List.foldl (fun x1 x2 => x1 ++ x2) #[] (List.replicate k.toNat its.toArray) = (List.replicate k.toNat its).flatten.toArray := by
    have := foldl_rep its k.toNat []
    rw [List.nil_append] at this
    exact this
   have hlen : (List.replicate k.toNat its).flatten.length ≤ sizeLine := by rw [len_rep, Nat.mul_comm]; exact hp
   refine call_meets F.slot_tuple_mul ⟨_, e, rfl⟩ F.entry_tuple_mul (F.args_tuple_mul_2 _ _) (qH l its.toArray n k t dd sl h0 hne (by rw [decide_eq_false hk, hne']; rfl) ?_ ?_ ?_) ⟨e, ?_⟩
   ·rw [hcast]
    have : (sizeLine : Int) ≤ (2 ^ 63 - 1) / 8 := by decide
    omega
   ·rw [hcast]
    unfold Builtin.Tuple.tupleTooMany
    exact decide_eq_false (by omega)
   ·rw [hfold, List.size_toArray]; exact hlen
   ·rw [hfold]
    refine ⟨.ref s.heap.objs.size, _, I.laid (t' := s.toks) (o := .tup (List.replicate k.toNat xs).flatten) (fun b ob q => Heap.get?_push_of_some _ q) (Nat.le_refl _) ⟨by rw [len_rep, Nat.mul_comm]; exact hz, _, r.rep k.toNat, IsTup.new _ _⟩, rfl, q2 hs _ (I.hok.fresh (Nat.le_refl _))⟩
def Gn (K : PySem.W.Frag) (T : String) (x : V) (H : Hp) (k : Bool) : Prop := match x with
 | .non => k = false
 | .bl _ => k = (T == "bool" || T == "int")
 | .int _ => k = (T == "int")
 | .str _ => k = (T == "str")
 | .ref p => (k = (T == "list") ∧ ∃ xs, SqL K H p xs) ∨ (k = (T == "tuple") ∧ ∃ xs, SqT K H p xs) ∨ (k = (T == "dict") ∧ ∃ xs, H p = some (.dK xs))
 | _ => False
def Fi : List String := ["bool", "int", "str", "list", "tuple", "dict"]
theorem zO : ji X (.builtin "isinstance") (fun xs H Q => ∃ x T k, xs = [x, .ty T] ∧ T ∈ Fi ∧ Gn X.K T x H k ∧ Q (.bl k) H) := by
 intro pins s σ H xs us Q I r h
 obtain ⟨x, T, k, rfl, hT, hx, q⟩ := h
 obtain ⟨u, w', rfl, rx, rt⟩ := vals2 r
 cases rt
 have fin : EP X pins σ Q (.bool k) s := ⟨.bl k, H, I, rfl, q⟩
 have fin1 : EP X pins σ Q (.bool k) { s with toks := s.toks + 1 } := ⟨.bl k, H, I.tok _, rfl, q⟩
 simp only [Fi, List.mem_cons, List.not_mem_nil, or_false] at hT
 cases x with
 | non =>
  cases rx
  have hk : k = false := hx
  subst hk
  rcases hT with rfl | rfl | rfl | rfl | rfl | rfl
  ·exact IsiPair.NoneType_bool fin1
  ·exact IsiPair.NoneType_int fin1
  ·exact IsiPair.NoneType_str fin1
  ·exact IsiPair.NoneType_list fin1
  ·exact IsiPair.NoneType_tuple fin1
  ·exact IsiPair.NoneType_dict fin1
 | bl b =>
  cases rx
  have hk : k = _ := hx
  subst hk
  rcases hT with rfl | rfl | rfl | rfl | rfl | rfl
  ·exact IsiPair.bool_bool fin
  ·exact IsiPair.bool_int fin
  ·exact IsiPair.bool_str fin1
  ·exact IsiPair.bool_list fin1
  ·exact IsiPair.bool_tuple fin1
  ·exact IsiPair.bool_dict fin1
 | int b =>
  obtain ⟨t, rfl⟩ := rx
  have hk : k = _ := hx
  subst hk
  rcases hT with rfl | rfl | rfl | rfl | rfl | rfl
  ·exact IsiPair.int_bool fin1
  ·exact IsiPair.int_int fin
  ·exact IsiPair.int_str fin1
  ·exact IsiPair.int_list fin1
  ·exact IsiPair.int_tuple fin1
  ·exact IsiPair.int_dict fin1
 | str b =>
  obtain ⟨t, rfl⟩ := rx
  have hk : k = _ := hx
  subst hk
  rcases hT with rfl | rfl | rfl | rfl | rfl | rfl
  ·exact IsiPair.str_bool fin1
  ·exact IsiPair.str_int fin1
  ·exact IsiPair.str_str fin
  ·exact IsiPair.str_list fin1
  ·exact IsiPair.str_tuple fin1
  ·exact IsiPair.str_dict fin1
 | ref p =>
  cases rx
  rcases hx with ⟨hk, xs, hq⟩ | ⟨hk, xs, hq⟩ | ⟨hk, xs, hq⟩
  ·subst hk
   obtain ⟨its, _, pl, _⟩ := I.list hq
   obtain ⟨o, ho, hc, _⟩ := pl.isList
   rcases hT with rfl | rfl | rfl | rfl | rfl | rfl
   ·exact IsiPair.list_bool ho hc fin1
   ·exact IsiPair.list_int ho hc fin1
   ·exact IsiPair.list_str ho hc fin1
   ·exact IsiPair.list_list ho hc fin
   ·exact IsiPair.list_tuple ho hc fin1
   ·exact IsiPair.list_dict ho hc fin1
  ·subst hk
   obtain ⟨its, _, pl, _⟩ := I.tuple hq
   obtain ⟨o, ho, hc, _⟩ := pl
   rcases hT with rfl | rfl | rfl | rfl | rfl | rfl
   ·exact IsiPair.tuple_bool ho hc fin1
   ·exact IsiPair.tuple_int ho hc fin1
   ·exact IsiPair.tuple_str ho hc fin1
   ·exact IsiPair.tuple_list ho hc fin1
   ·exact IsiPair.tuple_tuple ho hc fin
   ·exact IsiPair.tuple_dict ho hc fin1
  ·subst hk
   obtain ⟨_, _, vs, _, o, _, _, ho, ex, _⟩ := I.hok p _ hq
   have hc := ex.1
   rcases hT with rfl | rfl | rfl | rfl | rfl | rfl
   ·exact IsiPair.dict_bool ho hc fin1
   ·exact IsiPair.dict_int ho hc fin1
   ·exact IsiPair.dict_str ho hc fin1
   ·exact IsiPair.dict_list ho hc fin1
   ·exact IsiPair.dict_tuple ho hc fin1
   ·exact IsiPair.dict_dict ho hc fin
 | _ => exact hx.elim
end
end L2
namespace L3
open PySem PySem.Spec PyProof.Rows L2
abbrev O2 := D → D → Mu → Option (D × Mu)
abbrev O1' := D → Mu → Option (D × Mu)
abbrev ON := List D → Mu → Option (D × Mu)
def aU : O2
 | .int i, .int j, μ => some (.int (i + j), μ)
 | .tup xs, .tup ys, μ => if xs.length + ys.length ≤ sizeLine then some (.tup (xs ++ ys), μ) else none
 | .lst xs, .lst ys, μ => if xs.length + ys.length ≤ sizeLine then some (.lst (xs ++ ys), μ) else none
 | .str x, .str y, μ => if x.length + y.length ≤ sizeLine then some (.str (x ++ y), μ) else none
 | _, _, _ => none
def gH : O2
 | .int i, .int j, μ => some (.int (i - j), μ)
 | _, _, _ => none
def bH : O2
 | .int i, .int j, μ => if gR i j ≤ 134217728 then some (.int (i * j), μ) else none
 | .tup xs, .int k, μ => if -(2 ^ 63) ≤ k ∧ k < 2 ^ 63 ∧ xs.length * k.toNat ≤ sizeLine then some (.tup (List.replicate k.toNat xs).flatten, μ) else none
 | .lst xs, .int k, μ => if -(2 ^ 63) ≤ k ∧ k < 2 ^ 63 ∧ xs.length * k.toNat ≤ sizeLine then some (.lst (List.replicate k.toNat xs).flatten, μ) else none
 | _, _, _ => none
def oDiv : O2
 | .int i, .int j, μ => if j ≠ 0 ∧ j.natAbs.log2 < 9000 then some (.int (i.fdiv j), μ) else none
 | _, _, _ => none
def oMod : O2
 | .int i, .int j, μ => if j ≠ 0 then some (.int (i.fmod j), μ) else none
 | _, _, _ => none
def jl : O2
 | .int i, .int j, μ => if 0 ≤ j ∧ (Builtin.Int.intBits i : Int) * j ≤ 2 ^ 27 then some (.int (i ^ j.toNat), μ) else none
 | _, _, _ => none
def oLt : O2
 | .int i, .int j, μ => some (.bl (decide (i < j)), μ)
 | _, _, _ => none
def oGe : O2
 | .int i, .int j, μ => some (.bl (decide (j ≤ i)), μ)
 | _, _, _ => none
section
variable {X : Cx} {tb : List Addr}
theorem sr {K : PySem.W.Frag} {F : Hp} {ad : List Addr} {ds : List D} {vs : List V} (h : az K F ad ds vs) : ∀ k : Nat, az K F ad (List.replicate k ds).flatten (List.replicate k vs).flatten
 | 0 => az.nil
 | k + 1 => by
  rw [List.replicate_succ, List.replicate_succ, List.flatten_cons, List.flatten_cons]
  exact az.append h (sr h k)
theorem jm {K : PySem.W.Frag} {F : Hp} {ad : List Addr} {ds : List D} {vs : List V} (h : az K F ad ds vs) : vs = [] ↔ ds = [] := by
 have := az.length h
 cases ds <;> cases vs <;> simp_all
theorem Dp {α : Type} (xs : List α) : (List.replicate (1 : Int).toNat xs).flatten = xs := by simp
theorem bc : OpD X tb (binaryOp .Add) aU := ⟨_, Jg.or (Ds.or (Bj.or wA)), fun W x y v u d μ' Q ok dx dy ho h => by
 cases x with
 | int i =>
  cases y with
  | int j => cases ho; rw [bh dx, bh dy]; exact .inl ⟨i, j, rfl, rfl, put ok h cY⟩
  | _ => cases ho
 | tup xs =>
  cases y with
  | tup ys =>
   have ho' : (if xs.length + ys.length ≤ sizeLine then some (D.tup (xs ++ ys), W.mu) else none) = some (d, μ') := ho
   split at ho'
   ·rename_i hz
    cases ho'
    obtain ⟨a, us, rfl, q1, r1⟩ := gD dx
    obtain ⟨b, ws, rfl, q2, r2⟩ := gD dy
    refine .inr (.inl ⟨a, b, us, ws, rfl, rfl, SqT.fz q1, SqT.fz q2, by rw [← az.length r1, ← az.length r2]; exact hz, fun e => ?_, fun _ e => ?_, fun _ _ p hp => lR ok h (az.append r1 r2) hp⟩)
    ·have e' := (jm r1).mp e
     subst e'
     exact put ok h dy
    ·have e' := (jm r2).mp e
     subst e'
     rw [List.append_nil] at h
     exact put ok h dx
   ·cases ho'
  | _ => cases ho
 | lst xs =>
  cases y with
  | lst ys =>
   have ho' : (if xs.length + ys.length ≤ sizeLine then some (D.lst (xs ++ ys), W.mu) else none) = some (d, μ') := ho
   split at ho'
   ·rename_i hz
    cases ho'
    obtain ⟨a, us, rfl, q1, r1⟩ := mz dx
    obtain ⟨b, ws, rfl, q2, r2⟩ := mz dy
    exact .inr (.inr (.inl ⟨a, b, us, ws, rfl, rfl, (cX q1).1, (cX q2).1, by rw [← az.length r1, ← az.length r2]; exact hz, fun p hp => jo ok h (az.append r1 r2) hp⟩))
   ·cases ho'
  | _ => cases ho
 | str x =>
  cases y with
  | str y =>
   have ho' : (if x.length + y.length ≤ sizeLine then some (D.str (x ++ y), W.mu) else none) = some (d, μ') := ho
   split at ho'
   ·rename_i hz
    cases ho'
    rw [pG dx, pG dy]
    exact .inr (.inr (.inr ⟨x, y, rfl, rfl, hz, put ok h xm⟩))
   ·cases ho'
  | _ => cases ho
 | _ => cases y <;> cases ho⟩
theorem iV : OpD X tb (binaryOp .Sub) gH := ⟨_, Iu, fun W x y v u d μ' Q ok dx dy ho h => by
 cases x with
 | int i =>
  cases y with
  | int j => cases ho; rw [bh dx, bh dy]; exact ⟨i, j, rfl, rfl, put ok h cY⟩
  | _ => cases ho
 | _ => cases y <;> cases ho⟩
theorem cz : OpD X tb (binaryOp .Mult) bH := ⟨_, Em.or (Cp.or Ik), fun W x y v u d μ' Q ok dx dy ho h => by
 cases x with
 | int i =>
  cases y with
  | int j =>
   have ho' : (if gR i j ≤ 134217728 then some (D.int (i * j), W.mu) else none) = some (d, μ') := ho
   split at ho'
   ·rename_i hz
    cases ho'
    rw [bh dx, bh dy]; exact .inl ⟨i, j, rfl, rfl, hz, put ok h cY⟩
   ·cases ho'
  | _ => cases ho
 | tup xs =>
  cases y with
  | int k =>
   have ho' : (if -(2 ^ 63) ≤ k ∧ k < 2 ^ 63 ∧ xs.length * k.toNat ≤ sizeLine then some (D.tup (List.replicate k.toNat xs).flatten, W.mu) else none) = some (d, μ') := ho
   split at ho'
   ·rename_i hz
    cases ho'
    obtain ⟨a, us, rfl, q1, r1⟩ := gD dx
    rw [bh dy]
    refine .inr (.inl ⟨a, k, us, rfl, rfl, SqT.fz q1, hz.1, hz.2.1, by rw [← az.length r1]; exact hz.2.2, fun e => ?_, fun _ p hp => lR ok h (sr r1 _) hp⟩)
    rcases e with e | e
    ·have e' := (jm r1).mp e
     subst e'
     have e2 : (List.replicate k.toNat ([] : List D)).flatten = [] := by simp
     rw [e2] at h
     exact put ok h dx
    ·subst e
     rw [Dp] at h
     exact put ok h dx
   ·cases ho'
  | _ => cases ho
 | lst xs =>
  cases y with
  | int k =>
   have ho' : (if -(2 ^ 63) ≤ k ∧ k < 2 ^ 63 ∧ xs.length * k.toNat ≤ sizeLine then some (D.lst (List.replicate k.toNat xs).flatten, W.mu) else none) = some (d, μ') := ho
   split at ho'
   ·rename_i hz
    cases ho'
    obtain ⟨a, us, rfl, q1, r1⟩ := mz dx
    rw [bh dy]
    exact .inr (.inr ⟨a, k, us, rfl, rfl, (cX q1).1, hz.1, hz.2.1, by rw [← az.length r1]; exact hz.2.2, fun p hp => jo ok h (sr r1 _) hp⟩)
   ·cases ho'
  | _ => cases ho
 | _ => cases y <;> cases ho⟩
theorem eU : OpD X tb (binaryOp .FloorDiv) oDiv := ⟨_, Aw, fun W x y v u d μ' Q ok dx dy ho h => by
 cases x with
 | int i =>
  cases y with
  | int j =>
   have ho' : (if j ≠ 0 ∧ j.natAbs.log2 < 9000 then some (D.int (i.fdiv j), W.mu) else none) = some (d, μ') := ho
   split at ho'
   ·rename_i hz
    cases ho'
    rw [bh dx, bh dy]; exact ⟨i, j, rfl, rfl, hz, put ok h cY⟩
   ·cases ho'
  | _ => cases ho
 | _ => cases y <;> cases ho⟩
theorem bL : OpD X tb (binaryOp .Mod) oMod := ⟨_, CJ, fun W x y v u d μ' Q ok dx dy ho h => by
 cases x with
 | int i =>
  cases y with
  | int j =>
   have ho' : (if j ≠ 0 then some (D.int (i.fmod j), W.mu) else none) = some (d, μ') := ho
   split at ho'
   ·rename_i hz
    cases ho'
    rw [bh dx, bh dy]; exact ⟨i, j, rfl, rfl, hz, put ok h cY⟩
   ·cases ho'
  | _ => cases ho
 | _ => cases y <;> cases ho⟩
theorem mZ : OpD X tb (binaryOp .Pow) jl := ⟨_, Cz, fun W x y v u d μ' Q ok dx dy ho h => by
 cases x with
 | int i =>
  cases y with
  | int j =>
   have ho' : (if 0 ≤ j ∧ (Builtin.Int.intBits i : Int) * j ≤ 2 ^ 27 then some (D.int (i ^ j.toNat), W.mu) else none) = some (d, μ') := ho
   split at ho'
   ·rename_i hz
    cases ho'
    rw [bh dx, bh dy]; exact ⟨i, j, rfl, rfl, hz, put ok h cY⟩
   ·cases ho'
  | _ => cases ho
 | _ => cases y <;> cases ho⟩
theorem BK : OpD X tb (compareOp .Lt) oLt := ⟨_, JM, fun W x y v u d μ' Q ok dx dy ho h => by
 cases x with
 | int i =>
  cases y with
  | int j => cases ho; rw [bh dx, bh dy]; exact ⟨i, j, rfl, rfl, put ok h fL⟩
  | _ => cases ho
 | _ => cases y <;> cases ho⟩
theorem FW : OpD X tb (compareOp .GtE) oGe := ⟨_, JF, fun W x y v u d μ' Q ok dx dy ho h => by
 cases x with
 | int i =>
  cases y with
  | int j => cases ho; rw [bh dx, bh dy]; exact ⟨i, j, rfl, rfl, put ok h fL⟩
  | _ => cases ho
 | _ => cases y <;> cases ho⟩
end
end L3
namespace L3
open PySem PySem.Spec PyProof.Rows L2 PySem.SeqAt
mutual
def eqD : D → D → Bool
 | .non, .non => true
 | .bl a, .bl b => a == b
 | .bl a, .int b => (if a then 1 else 0) == b
 | .int a, .bl b => a == (if b then 1 else 0)
 | .int a, .int b => a == b
 | .str a, .str b => a == b
 | .tup xs, .tup ys => jW xs ys
 | .lst xs, .lst ys => jW xs ys
 | _, _ => false
def jW : List D → List D → Bool
 | [], [] => true
 | x :: xs, y :: ys => eqD x y && jW xs ys
 | _, _ => false
end
mutual
def gM : D → Nat
 | .tup ds => gO ds + 1
 | .lst ds => gO ds + 1
 | _ => 0
def gO : List D → Nat
 | [] => 0
 | d :: ds => max (gM d) (gO ds)
end
mutual
def cV : D → Bool
 | .non => true
 | .bl _ => true
 | .int _ => true
 | .str _ => true
 | .tup ds => dD ds
 | .lst ds => dD ds
 | _ => false
def dD : List D → Bool
 | [] => true
 | d :: ds => cV d && dD ds
end
mutual
def DV (K : PySem.W.Frag) (H : Hp) : D → V → Prop
 | .non, v => v = .non
 | .bl b, v => v = .bl b
 | .int i, v => v = .int i
 | .str x, v => v = .str x
 | .tup ds, v => ∃ a xs, v = .ref a ∧ SqT K H a xs ∧ DVL K H ds xs
 | .lst ds, v => ∃ a xs, v = .ref a ∧ SqL K H a xs ∧ DVL K H ds xs
 | .ro _, _ => False
 | .dic _, _ => False
 | .cell _, _ => False
def DVL (K : PySem.W.Frag) (H : Hp) : List D → List V → Prop
 | [], vs => vs = []
 | d :: ds, vs => ∃ u us, vs = u :: us ∧ DV K H d u ∧ DVL K H ds us
end
section
variable {K : PySem.W.Frag} {tb : List Addr} {W : Wd}
mutual
theorem Ge : ∀ (d : D) (v : V), cV d = true → aQ K (W.fz tb) W.ad d v → DV K W.H d v
 | .non, v, _, h => by unfold aQ at h; unfold DV; exact h
 | .bl _, v, _, h => by unfold aQ at h; unfold DV; exact h
 | .int _, v, _, h => by unfold aQ at h; unfold DV; exact h
 | .str _, v, _, h => by unfold aQ at h; unfold DV; exact h
 | .tup ds, v, p, h => by
  unfold aQ at h; unfold DV; unfold cV at p
  obtain ⟨a, xs, e, q, r⟩ := h
  exact ⟨a, xs, e, SqT.fz q, pM ds xs p r⟩
 | .lst ds, v, p, h => by
  unfold aQ at h; unfold DV; unfold cV at p
  obtain ⟨a, xs, e, q, r⟩ := h
  exact ⟨a, xs, e, SqL.of (cX q).1, pM ds xs p r⟩
 | .ro ds, v, p, h => by unfold cV at p; cases p
 | .dic ds, v, p, h => by unfold cV at p; cases p
 | .cell ds, v, p, h => by unfold cV at p; cases p
theorem pM : ∀ (ds : List D) (vs : List V), dD ds = true → az K (W.fz tb) W.ad ds vs → DVL K W.H ds vs
 | [], vs, _, h => by unfold az at h; unfold DVL; exact h
 | d :: ds, vs, p, h => by
  unfold az at h; unfold DVL; unfold dD at p
  rw [Bool.and_eq_true] at p
  obtain ⟨u, us, e, q, r⟩ := h
  exact ⟨u, us, e, Ge d u p.1 q, pM ds us p.2 r⟩
end
end
def iG (xs ys : List D) (j : Nat) : Bool := match xs[j]?, ys[j]? with
 | some x, some y => eqD x y
 | _, _ => false
theorem iu : ∀ (xs ys : List D), xs.length = ys.length → (List.range xs.length).all (iG xs ys) = jW xs ys
 | [], [], _ => by unfold jW; rfl
 | x :: xs, y :: ys, h => by
  unfold jW
  rw [List.length_cons, List.range_succ_eq_map, List.all_cons, List.all_map, ← iu xs ys (by simpa using h)]
  rfl
theorem jO : ∀ (xs ys : List D), xs.length ≠ ys.length → jW xs ys = false
 | [], [], h => absurd rfl h
 | [], y :: ys, _ => by unfold jW; rfl
 | x :: xs, [], _ => by unfold jW; rfl
 | x :: xs, y :: ys, h => by
  unfold jW
  rw [jO xs ys (by simpa using h), Bool.and_false]
theorem pN (xs ys : List D) : ((List.range (min xs.length ys.length)).all (iG xs ys) && xs.length == ys.length) = jW xs ys := by
 by_cases h : xs.length = ys.length
 ·rw [← h, Nat.min_self, iu xs ys h]; simp
 ·rw [jO xs ys h, beq_false_of_ne h, Bool.and_false]
section
variable {X : Cx} {pins : List (Addr × Obj)} {σ : L2.St} {H : Hp} {s : Shared}
theorem DVL.length {K : PySem.W.Frag} : ∀ {ds : List D} {vs : List V}, DVL K H ds vs → ds.length = vs.length
 | [], vs, h => by unfold DVL at h; subst h; rfl
 | d :: ds, vs, h => by
  unfold DVL at h
  obtain ⟨u, us, rfl, _, r⟩ := h
  rw [List.length_cons, List.length_cons, DVL.length r]
theorem DVL.get' {K : PySem.W.Frag} : ∀ {ds : List D} {vs : List V} {i : Nat} {v : V}, DVL K H ds vs → vs[i]? = some v → ∃ d, ds[i]? = some d ∧ DV K H d v
 | [], vs, i, v, h, e => by unfold DVL at h; subst h; simp at e
 | d :: ds, vs, 0, x, h, e => by
  unfold DVL at h
  obtain ⟨u, us, rfl, p, r⟩ := h
  simp at e; subst e
  exact ⟨d, rfl, p⟩
 | d :: ds, vs, i + 1, x, h, e => by
  unfold DVL at h
  obtain ⟨u, us, rfl, p, r⟩ := h
  obtain ⟨y, e1, e2⟩ := DVL.get' (i := i) r (by simpa using e)
  exact ⟨y, by simpa using e1, e2⟩
theorem uC {a : Addr} {xs ys : List V} (I : Inv X pins σ H s) (h : SqL X.K H a xs) (h' : SqT X.K H a ys) : False := by
 obtain ⟨its, _, pl, _⟩ := I.list h
 obtain ⟨its', _, pt, _⟩ := I.tuple h'
 obtain ⟨o, ho, hc, _⟩ := pl.isList
 obtain ⟨o', ho', hc', _⟩ := pt
 rw [ho] at ho'; cases ho'
 rw [hc] at hc'
 exact absurd hc' (by decide)
mutual
theorem pC (I : Inv X pins σ H s) : ∀ (x y : D) (v : V), DV X.K H x v → DV X.K H y v → eqD x y = true
 | .non, .non, v, h, k => by unfold eqD; rfl
 | .non, .bl b, v, h, k => by unfold DV at h k; subst h; cases k
 | .non, .int b, v, h, k => by unfold DV at h k; subst h; cases k
 | .non, .str b, v, h, k => by unfold DV at h k; subst h; cases k
 | .non, .tup ys, v, h, k => by unfold DV at h k; obtain ⟨a, us, rfl, q, r⟩ := k; cases h
 | .non, .lst ys, v, h, k => by unfold DV at h k; obtain ⟨a, us, rfl, q, r⟩ := k; cases h
 | .bl a, .non, v, h, k => by unfold DV at h k; subst h; cases k
 | .bl a, .bl b, v, h, k => by unfold DV at h k; subst h; cases k; unfold eqD; simp
 | .bl a, .int b, v, h, k => by unfold DV at h k; subst h; cases k
 | .bl a, .str b, v, h, k => by unfold DV at h k; subst h; cases k
 | .bl a, .tup ys, v, h, k => by unfold DV at h k; obtain ⟨a, us, rfl, q, r⟩ := k; cases h
 | .bl a, .lst ys, v, h, k => by unfold DV at h k; obtain ⟨a, us, rfl, q, r⟩ := k; cases h
 | .int a, .non, v, h, k => by unfold DV at h k; subst h; cases k
 | .int a, .bl b, v, h, k => by unfold DV at h k; subst h; cases k
 | .int a, .int b, v, h, k => by unfold DV at h k; subst h; cases k; unfold eqD; simp
 | .int a, .str b, v, h, k => by unfold DV at h k; subst h; cases k
 | .int a, .tup ys, v, h, k => by unfold DV at h k; obtain ⟨a, us, rfl, q, r⟩ := k; cases h
 | .int a, .lst ys, v, h, k => by unfold DV at h k; obtain ⟨a, us, rfl, q, r⟩ := k; cases h
 | .str a, .non, v, h, k => by unfold DV at h k; subst h; cases k
 | .str a, .bl b, v, h, k => by unfold DV at h k; subst h; cases k
 | .str a, .int b, v, h, k => by unfold DV at h k; subst h; cases k
 | .str a, .str b, v, h, k => by unfold DV at h k; subst h; cases k; unfold eqD; simp
 | .str a, .tup ys, v, h, k => by unfold DV at h k; obtain ⟨a, us, rfl, q, r⟩ := k; cases h
 | .str a, .lst ys, v, h, k => by unfold DV at h k; obtain ⟨a, us, rfl, q, r⟩ := k; cases h
 | .tup xs, .non, v, h, k => by unfold DV at h k; obtain ⟨a, us, rfl, q, r⟩ := h; cases k
 | .tup xs, .bl b, v, h, k => by unfold DV at h k; obtain ⟨a, us, rfl, q, r⟩ := h; cases k
 | .tup xs, .int b, v, h, k => by unfold DV at h k; obtain ⟨a, us, rfl, q, r⟩ := h; cases k
 | .tup xs, .str b, v, h, k => by unfold DV at h k; obtain ⟨a, us, rfl, q, r⟩ := h; cases k
 | .tup xs, .tup ys, v, h, k => by
  unfold DV at h k
  obtain ⟨a, us, rfl, q, r⟩ := h
  obtain ⟨a', us', e, q', r'⟩ := k
  cases e
  have := I.tuple_inj q q'
  subst this
  unfold eqD
  exact nF I xs ys us r r'
 | .tup xs, .lst ys, v, h, k => by
  unfold DV at h k
  obtain ⟨a, us, rfl, q, r⟩ := h
  obtain ⟨a', us', e, q', r'⟩ := k
  cases e
  exact (uC I q' q).elim
 | .lst xs, .non, v, h, k => by unfold DV at h k; obtain ⟨a, us, rfl, q, r⟩ := h; cases k
 | .lst xs, .bl b, v, h, k => by unfold DV at h k; obtain ⟨a, us, rfl, q, r⟩ := h; cases k
 | .lst xs, .int b, v, h, k => by unfold DV at h k; obtain ⟨a, us, rfl, q, r⟩ := h; cases k
 | .lst xs, .str b, v, h, k => by unfold DV at h k; obtain ⟨a, us, rfl, q, r⟩ := h; cases k
 | .lst xs, .tup ys, v, h, k => by
  unfold DV at h k
  obtain ⟨a, us, rfl, q, r⟩ := h
  obtain ⟨a', us', e, q', r'⟩ := k
  cases e
  exact (uC I q q').elim
 | .lst xs, .lst ys, v, h, k => by
  unfold DV at h k
  obtain ⟨a, us, rfl, q, r⟩ := h
  obtain ⟨a', us', e, q', r'⟩ := k
  cases e
  have := I.list_inj q q'
  subst this
  unfold eqD
  exact nF I xs ys us r r'
 | .ro _, _, v, h, _ => by unfold DV at h; exact h.elim
 | .dic _, _, v, h, _ => by unfold DV at h; exact h.elim
 | .cell _, _, v, h, _ => by unfold DV at h; exact h.elim
 | .non, .ro _, v, _, k => by unfold DV at k; exact k.elim
 | .non, .dic _, v, _, k => by unfold DV at k; exact k.elim
 | .non, .cell _, v, _, k => by unfold DV at k; exact k.elim
 | .bl _, .ro _, v, _, k => by unfold DV at k; exact k.elim
 | .bl _, .dic _, v, _, k => by unfold DV at k; exact k.elim
 | .bl _, .cell _, v, _, k => by unfold DV at k; exact k.elim
 | .int _, .ro _, v, _, k => by unfold DV at k; exact k.elim
 | .int _, .dic _, v, _, k => by unfold DV at k; exact k.elim
 | .int _, .cell _, v, _, k => by unfold DV at k; exact k.elim
 | .str _, .ro _, v, _, k => by unfold DV at k; exact k.elim
 | .str _, .dic _, v, _, k => by unfold DV at k; exact k.elim
 | .str _, .cell _, v, _, k => by unfold DV at k; exact k.elim
 | .tup _, .ro _, v, _, k => by unfold DV at k; exact k.elim
 | .tup _, .dic _, v, _, k => by unfold DV at k; exact k.elim
 | .tup _, .cell _, v, _, k => by unfold DV at k; exact k.elim
 | .lst _, .ro _, v, _, k => by unfold DV at k; exact k.elim
 | .lst _, .dic _, v, _, k => by unfold DV at k; exact k.elim
 | .lst _, .cell _, v, _, k => by unfold DV at k; exact k.elim
theorem nF (I : Inv X pins σ H s) : ∀ (xs ys : List D) (vs : List V), DVL X.K H xs vs → DVL X.K H ys vs → jW xs ys = true
 | [], [], vs, _, _ => by unfold jW; rfl
 | [], y :: ys, vs, h, k => by unfold DVL at h k; subst h; obtain ⟨u, us, e, _⟩ := k; cases e
 | x :: xs, [], vs, h, k => by unfold DVL at h k; subst k; obtain ⟨u, us, e, _⟩ := h; cases e
 | x :: xs, y :: ys, vs, h, k => by
  unfold DVL at h k
  obtain ⟨u, us, rfl, p, r⟩ := h
  obtain ⟨u', us', e, p', r'⟩ := k
  cases e
  unfold jW
  rw [pC I x y u p p', nF I xs ys us r r']; rfl
end
mutual
theorem GZ (I : Inv X pins σ H s) : ∀ (x y : D) (v u : V) (vv uu : Value) (A : Around), DV X.K H x v → DV X.K H y u → RelV v vv → RelV u uu → A.units + gM x < cLine → EqAt A s vv uu (eqD x y)
 | .non, .non, v, u, vv, uu, A, h, k, rv, ru, hu => by unfold DV at h k; subst h; cases rv; subst k; cases ru; unfold eqD; exact EqAt.same _
 | .non, .bl b0, v, u, vv, uu, A, h, k, rv, ru, hu => by unfold DV at h k; subst h; cases rv; subst k; cases ru; unfold eqD; exact EqAt.none_bool _
 | .non, .int b0, v, u, vv, uu, A, h, k, rv, ru, hu => by unfold DV at h k; subst h; cases rv; subst k; obtain ⟨t1, rfl⟩ := ru; unfold eqD; exact EqAt.none_int _ _
 | .non, .str b0, v, u, vv, uu, A, h, k, rv, ru, hu => by unfold DV at h k; subst h; cases rv; subst k; obtain ⟨t1, rfl⟩ := ru; unfold eqD; exact EqAt.none_str _ _
 | .non, .tup ys, v, u, vv, uu, A, h, k, rv, ru, hu => by unfold DV at h k; subst h; cases rv; obtain ⟨b, ws, rfl, p, r2⟩ := k; cases ru; obtain ⟨its1, iv1, pl1, hz1⟩ := I.tuple p; unfold eqD; exact EqAt.none_tuple pl1 (by omega)
 | .non, .lst ys, v, u, vv, uu, A, h, k, rv, ru, hu => by unfold DV at h k; subst h; cases rv; obtain ⟨b, ws, rfl, p, r2⟩ := k; cases ru; obtain ⟨its1, iv1, pl1, hz1⟩ := I.list p; unfold eqD; exact EqAt.none_list pl1.isList (by omega)
 | .bl a0, .non, v, u, vv, uu, A, h, k, rv, ru, hu => by unfold DV at h k; subst h; cases rv; subst k; cases ru; unfold eqD; exact EqAt.bool_none _
 | .bl a0, .bl b0, v, u, vv, uu, A, h, k, rv, ru, hu => by unfold DV at h k; subst h; cases rv; subst k; cases ru; unfold eqD; exact EqAt.bool_bool _ _
 | .bl a0, .int b0, v, u, vv, uu, A, h, k, rv, ru, hu => by unfold DV at h k; subst h; cases rv; subst k; obtain ⟨t1, rfl⟩ := ru; unfold eqD; exact EqAt.bool_int _ _ _
 | .bl a0, .str b0, v, u, vv, uu, A, h, k, rv, ru, hu => by unfold DV at h k; subst h; cases rv; subst k; obtain ⟨t1, rfl⟩ := ru; unfold eqD; exact EqAt.bool_str _ _ _
 | .bl a0, .tup ys, v, u, vv, uu, A, h, k, rv, ru, hu => by unfold DV at h k; subst h; cases rv; obtain ⟨b, ws, rfl, p, r2⟩ := k; cases ru; obtain ⟨its1, iv1, pl1, hz1⟩ := I.tuple p; unfold eqD; exact EqAt.bool_tuple _ pl1 (by omega)
 | .bl a0, .lst ys, v, u, vv, uu, A, h, k, rv, ru, hu => by unfold DV at h k; subst h; cases rv; obtain ⟨b, ws, rfl, p, r2⟩ := k; cases ru; obtain ⟨its1, iv1, pl1, hz1⟩ := I.list p; unfold eqD; exact EqAt.bool_list _ pl1.isList (by omega)
 | .int a0, .non, v, u, vv, uu, A, h, k, rv, ru, hu => by unfold DV at h k; subst h; obtain ⟨t0, rfl⟩ := rv; subst k; cases ru; unfold eqD; exact EqAt.int_none _ _
 | .int a0, .bl b0, v, u, vv, uu, A, h, k, rv, ru, hu => by unfold DV at h k; subst h; obtain ⟨t0, rfl⟩ := rv; subst k; cases ru; unfold eqD; exact EqAt.int_bool _ _ _
 | .int a0, .int b0, v, u, vv, uu, A, h, k, rv, ru, hu => by unfold DV at h k; subst h; obtain ⟨t0, rfl⟩ := rv; subst k; obtain ⟨t1, rfl⟩ := ru; unfold eqD; exact EqAt.int_int _ _ _ _
 | .int a0, .str b0, v, u, vv, uu, A, h, k, rv, ru, hu => by unfold DV at h k; subst h; obtain ⟨t0, rfl⟩ := rv; subst k; obtain ⟨t1, rfl⟩ := ru; unfold eqD; exact EqAt.int_str _ _ _ _
 | .int a0, .tup ys, v, u, vv, uu, A, h, k, rv, ru, hu => by unfold DV at h k; subst h; obtain ⟨t0, rfl⟩ := rv; obtain ⟨b, ws, rfl, p, r2⟩ := k; cases ru; obtain ⟨its1, iv1, pl1, hz1⟩ := I.tuple p; unfold eqD; exact EqAt.int_tuple _ _ pl1 (by omega)
 | .int a0, .lst ys, v, u, vv, uu, A, h, k, rv, ru, hu => by unfold DV at h k; subst h; obtain ⟨t0, rfl⟩ := rv; obtain ⟨b, ws, rfl, p, r2⟩ := k; cases ru; obtain ⟨its1, iv1, pl1, hz1⟩ := I.list p; unfold eqD; exact EqAt.int_list _ _ pl1.isList (by omega)
 | .str a0, .non, v, u, vv, uu, A, h, k, rv, ru, hu => by unfold DV at h k; subst h; obtain ⟨t0, rfl⟩ := rv; subst k; cases ru; unfold eqD; exact EqAt.str_none _ _
 | .str a0, .bl b0, v, u, vv, uu, A, h, k, rv, ru, hu => by unfold DV at h k; subst h; obtain ⟨t0, rfl⟩ := rv; subst k; cases ru; unfold eqD; exact EqAt.str_bool _ _ _
 | .str a0, .int b0, v, u, vv, uu, A, h, k, rv, ru, hu => by unfold DV at h k; subst h; obtain ⟨t0, rfl⟩ := rv; subst k; obtain ⟨t1, rfl⟩ := ru; unfold eqD; exact EqAt.str_int _ _ _ _
 | .str a0, .str b0, v, u, vv, uu, A, h, k, rv, ru, hu => by unfold DV at h k; subst h; obtain ⟨t0, rfl⟩ := rv; subst k; obtain ⟨t1, rfl⟩ := ru; unfold eqD; exact EqAt.str_str _ _ _ _
 | .str a0, .tup ys, v, u, vv, uu, A, h, k, rv, ru, hu => by unfold DV at h k; subst h; obtain ⟨t0, rfl⟩ := rv; obtain ⟨b, ws, rfl, p, r2⟩ := k; cases ru; obtain ⟨its1, iv1, pl1, hz1⟩ := I.tuple p; unfold eqD; exact EqAt.str_tuple _ _ pl1 (by omega)
 | .str a0, .lst ys, v, u, vv, uu, A, h, k, rv, ru, hu => by unfold DV at h k; subst h; obtain ⟨t0, rfl⟩ := rv; obtain ⟨b, ws, rfl, p, r2⟩ := k; cases ru; obtain ⟨its1, iv1, pl1, hz1⟩ := I.list p; unfold eqD; exact EqAt.str_list _ _ pl1.isList (by omega)
 | .tup xs, .non, v, u, vv, uu, A, h, k, rv, ru, hu => by unfold DV at h k; obtain ⟨a, us, rfl, q, r⟩ := h; cases rv; obtain ⟨its0, iv0, pl0, hz0⟩ := I.tuple q; subst k; cases ru; unfold eqD; exact EqAt.tuple_none pl0 (by omega)
 | .tup xs, .bl b0, v, u, vv, uu, A, h, k, rv, ru, hu => by unfold DV at h k; obtain ⟨a, us, rfl, q, r⟩ := h; cases rv; obtain ⟨its0, iv0, pl0, hz0⟩ := I.tuple q; subst k; cases ru; unfold eqD; exact EqAt.tuple_bool _ pl0 (by omega)
 | .tup xs, .int b0, v, u, vv, uu, A, h, k, rv, ru, hu => by unfold DV at h k; obtain ⟨a, us, rfl, q, r⟩ := h; cases rv; obtain ⟨its0, iv0, pl0, hz0⟩ := I.tuple q; subst k; obtain ⟨t1, rfl⟩ := ru; unfold eqD; exact EqAt.tuple_int _ _ pl0 (by omega)
 | .tup xs, .str b0, v, u, vv, uu, A, h, k, rv, ru, hu => by unfold DV at h k; obtain ⟨a, us, rfl, q, r⟩ := h; cases rv; obtain ⟨its0, iv0, pl0, hz0⟩ := I.tuple q; subst k; obtain ⟨t1, rfl⟩ := ru; unfold eqD; exact EqAt.tuple_str _ _ pl0 (by omega)
 | .tup xs, .tup ys, v, u, vv, uu, A, h, k, rv, ru, hu => by
  have h0 := h
  have k0 := k
  unfold DV at h k; unfold gM at hu
  obtain ⟨a, us, rfl, q, r⟩ := h; cases rv; obtain ⟨its0, iv0, pl0, hz0⟩ := I.tuple q; obtain ⟨b, ws, rfl, p, r2⟩ := k; cases ru; obtain ⟨its1, iv1, pl1, hz1⟩ := I.tuple p
  by_cases hab : a = b
  ·subst hab
   rw [pC I _ _ _ h0 k0]
   exact EqAt.same _
  ·unfold eqD
   refine EqAt.of_refs hab ?_
   have hl0 : its0.toArray.size = xs.length := by rw [List.size_toArray, ← iv0.length, ← DVL.length r]
   have hl1 : its1.toArray.size = ys.length := by rw [List.size_toArray, ← iv1.length, ← DVL.length r2]
   have rc := RcAt.tuples (A := A) (e := iG xs ys) pl0 pl1 (by omega) (fun j h1 h2 => by
     have h1' : j < its0.length := by simpa using h1
     have h2' : j < its1.length := by simpa using h2
     obtain ⟨d, e1, dv⟩ := DVL.get' r (show us[j]? = some (us[j]'(by rw [iv0.length]; exact h1')) by simp)
     obtain ⟨d', e2, dv'⟩ := DVL.get' r2 (show ws[j]? = some (ws[j]'(by rw [iv1.length]; exact h2')) by simp)
     obtain ⟨z, ez, rz⟩ := iv0.get (show us[j]? = some (us[j]'(by rw [iv0.length]; exact h1')) by simp)
     obtain ⟨z', ez', rz'⟩ := iv1.get (show ws[j]? = some (ws[j]'(by rw [iv1.length]; exact h2')) by simp)
     have f1 : its0.toArray[j] = z := by simpa [h1'] using ez
     have f2 : its1.toArray[j] = z' := by simpa [h2'] using ez'
     rw [f1, f2]
     have := ju I xs ys us ws its0 its1 A.in1 r r2 iv0 iv1 (by rw [units_in1]; omega) j d d' e1 e2 z z' ez ez'
     unfold iG
     rw [e1, e2]
     exact this)
   rw [hl0, hl1, pN] at rc
   exact rc
 | .tup xs, .lst ys, v, u, vv, uu, A, h, k, rv, ru, hu => by unfold DV at h k; obtain ⟨a, us, rfl, q, r⟩ := h; cases rv; obtain ⟨its0, iv0, pl0, hz0⟩ := I.tuple q; obtain ⟨b, ws, rfl, p, r2⟩ := k; cases ru; obtain ⟨its1, iv1, pl1, hz1⟩ := I.list p; unfold eqD; exact EqAt.tuple_list pl0 pl1.isList (by omega)
 | .lst xs, .non, v, u, vv, uu, A, h, k, rv, ru, hu => by unfold DV at h k; obtain ⟨a, us, rfl, q, r⟩ := h; cases rv; obtain ⟨its0, iv0, pl0, hz0⟩ := I.list q; subst k; cases ru; unfold eqD; exact EqAt.list_none pl0.isList (by omega)
 | .lst xs, .bl b0, v, u, vv, uu, A, h, k, rv, ru, hu => by unfold DV at h k; obtain ⟨a, us, rfl, q, r⟩ := h; cases rv; obtain ⟨its0, iv0, pl0, hz0⟩ := I.list q; subst k; cases ru; unfold eqD; exact EqAt.list_bool _ pl0.isList (by omega)
 | .lst xs, .int b0, v, u, vv, uu, A, h, k, rv, ru, hu => by unfold DV at h k; obtain ⟨a, us, rfl, q, r⟩ := h; cases rv; obtain ⟨its0, iv0, pl0, hz0⟩ := I.list q; subst k; obtain ⟨t1, rfl⟩ := ru; unfold eqD; exact EqAt.list_int _ _ pl0.isList (by omega)
 | .lst xs, .str b0, v, u, vv, uu, A, h, k, rv, ru, hu => by unfold DV at h k; obtain ⟨a, us, rfl, q, r⟩ := h; cases rv; obtain ⟨its0, iv0, pl0, hz0⟩ := I.list q; subst k; obtain ⟨t1, rfl⟩ := ru; unfold eqD; exact EqAt.list_str _ _ pl0.isList (by omega)
 | .lst xs, .tup ys, v, u, vv, uu, A, h, k, rv, ru, hu => by unfold DV at h k; obtain ⟨a, us, rfl, q, r⟩ := h; cases rv; obtain ⟨its0, iv0, pl0, hz0⟩ := I.list q; obtain ⟨b, ws, rfl, p, r2⟩ := k; cases ru; obtain ⟨its1, iv1, pl1, hz1⟩ := I.tuple p; unfold eqD; exact EqAt.list_tuple pl0.isList pl1 (by omega)
 | .lst xs, .lst ys, v, u, vv, uu, A, h, k, rv, ru, hu => by
  have h0 := h
  have k0 := k
  unfold DV at h k; unfold gM at hu
  obtain ⟨a, us, rfl, q, r⟩ := h; cases rv; obtain ⟨its0, iv0, pl0, hz0⟩ := I.list q; obtain ⟨b, ws, rfl, p, r2⟩ := k; cases ru; obtain ⟨its1, iv1, pl1, hz1⟩ := I.list p
  by_cases hab : a = b
  ·subst hab
   rw [pC I _ _ _ h0 k0]
   exact EqAt.same _
  ·unfold eqD
   refine EqAt.of_refs hab ?_
   have hl0 : its0.toArray.size = xs.length := by rw [List.size_toArray, ← iv0.length, ← DVL.length r]
   have hl1 : its1.toArray.size = ys.length := by rw [List.size_toArray, ← iv1.length, ← DVL.length r2]
   by_cases hlen : xs.length = ys.length
   ·have rc := RcAt.lists (A := A) (e := iG xs ys) pl0.isList pl1.isList (by rw [hl0, hl1, hlen]) (by omega) (fun j h1 h2 => by
     have h1' : j < its0.length := by simpa using h1
     have h2' : j < its1.length := by simpa using h2
     obtain ⟨d, e1, dv⟩ := DVL.get' r (show us[j]? = some (us[j]'(by rw [iv0.length]; exact h1')) by simp)
     obtain ⟨d', e2, dv'⟩ := DVL.get' r2 (show ws[j]? = some (ws[j]'(by rw [iv1.length]; exact h2')) by simp)
     obtain ⟨z, ez, rz⟩ := iv0.get (show us[j]? = some (us[j]'(by rw [iv0.length]; exact h1')) by simp)
     obtain ⟨z', ez', rz'⟩ := iv1.get (show ws[j]? = some (ws[j]'(by rw [iv1.length]; exact h2')) by simp)
     have f1 : its0.toArray[j] = z := by simpa [h1'] using ez
     have f2 : its1.toArray[j] = z' := by simpa [h2'] using ez'
     rw [f1, f2]
     have := ju I xs ys us ws its0 its1 A.in1 r r2 iv0 iv1 (by rw [units_in1]; omega) j d d' e1 e2 z z' ez ez'
     unfold iG
     rw [e1, e2]
     exact this)
    rw [hl0, iu _ _ hlen] at rc
    exact rc
   ·rw [jO _ _ hlen]
    exact RcAt.lists_lengths pl0.isList pl1.isList (by rw [hl0, hl1]; simpa using hlen) (by omega)
 | .ro _, _, v, u, vv, uu, A, h, _, _, _, _ => by unfold DV at h; exact h.elim
 | .dic _, _, v, u, vv, uu, A, h, _, _, _, _ => by unfold DV at h; exact h.elim
 | .cell _, _, v, u, vv, uu, A, h, _, _, _, _ => by unfold DV at h; exact h.elim
 | .non, .ro _, v, u, vv, uu, A, _, k, _, _, _ => by unfold DV at k; exact k.elim
 | .non, .dic _, v, u, vv, uu, A, _, k, _, _, _ => by unfold DV at k; exact k.elim
 | .non, .cell _, v, u, vv, uu, A, _, k, _, _, _ => by unfold DV at k; exact k.elim
 | .bl _, .ro _, v, u, vv, uu, A, _, k, _, _, _ => by unfold DV at k; exact k.elim
 | .bl _, .dic _, v, u, vv, uu, A, _, k, _, _, _ => by unfold DV at k; exact k.elim
 | .bl _, .cell _, v, u, vv, uu, A, _, k, _, _, _ => by unfold DV at k; exact k.elim
 | .int _, .ro _, v, u, vv, uu, A, _, k, _, _, _ => by unfold DV at k; exact k.elim
 | .int _, .dic _, v, u, vv, uu, A, _, k, _, _, _ => by unfold DV at k; exact k.elim
 | .int _, .cell _, v, u, vv, uu, A, _, k, _, _, _ => by unfold DV at k; exact k.elim
 | .str _, .ro _, v, u, vv, uu, A, _, k, _, _, _ => by unfold DV at k; exact k.elim
 | .str _, .dic _, v, u, vv, uu, A, _, k, _, _, _ => by unfold DV at k; exact k.elim
 | .str _, .cell _, v, u, vv, uu, A, _, k, _, _, _ => by unfold DV at k; exact k.elim
 | .tup _, .ro _, v, u, vv, uu, A, _, k, _, _, _ => by unfold DV at k; exact k.elim
 | .tup _, .dic _, v, u, vv, uu, A, _, k, _, _, _ => by unfold DV at k; exact k.elim
 | .tup _, .cell _, v, u, vv, uu, A, _, k, _, _, _ => by unfold DV at k; exact k.elim
 | .lst _, .ro _, v, u, vv, uu, A, _, k, _, _, _ => by unfold DV at k; exact k.elim
 | .lst _, .dic _, v, u, vv, uu, A, _, k, _, _, _ => by unfold DV at k; exact k.elim
 | .lst _, .cell _, v, u, vv, uu, A, _, k, _, _, _ => by unfold DV at k; exact k.elim
theorem ju (I : Inv X pins σ H s) : ∀ (xs ys : List D) (vs us : List V) (vvs uus : List Value) (A : Around), DVL X.K H xs vs → DVL X.K H ys us → Vals vs vvs → Vals us uus → A.units + gO xs < cLine →
  ∀ (j : Nat) (x y : D), xs[j]? = some x → ys[j]? = some y → ∀ (z z' : Value), vvs[j]? = some z → uus[j]? = some z' → EqAt A s z z' (eqD x y)
 | [], ys, vs, us, vvs, uus, A, _, _, _, _, _ => fun j x y e => by simp at e
 | x :: xs, [], vs, us, vvs, uus, A, _, _, _, _, _ => fun j _ y _ e => by simp at e
 | x :: xs, y :: ys, vs, us, vvs, uus, A, h, k, rv, ru, hu => by
  unfold DVL at h k
  unfold gO at hu
  obtain ⟨v, vs', rfl, p, r⟩ := h
  obtain ⟨u, us', rfl, p', r'⟩ := k
  cases rv with
  | cons rv1 rv2 =>
   cases ru with
   | cons ru1 ru2 =>
    intro j x' y' e1 e2 z z' ez ez'
    cases j with
    | zero =>
     simp at e1 e2 ez ez'
     subst e1 e2 ez ez'
     exact GZ I x y v u _ _ A p p' rv1 ru1 (by omega)
    | succ j =>
     exact ju I xs ys vs' us' _ _ A r r' rv2 ru2 (by omega) j x' y' (by simpa using e1) (by simpa using e2) z z' (by simpa using ez) (by simpa using ez')
end
theorem Gv (I : Inv X pins σ H s) : ∀ (x y : D) (v u : V) (vv uu : Value) (A : Around), DV X.K H x v → DV X.K H y u → RelV v vv → RelV u uu → A.units + gM x < cLine → RcAt A s vv uu (eqD x y)
 | .non, .non, v, u, vv, uu, A, h, k, rv, ru, hu => by unfold DV at h k; subst h; cases rv; subst k; cases ru; unfold eqD; exact RcAt.none_none
 | .non, .bl b0, v, u, vv, uu, A, h, k, rv, ru, hu => by unfold DV at h k; subst h; cases rv; subst k; cases ru; unfold eqD; exact RcAt.none_bool _
 | .non, .int b0, v, u, vv, uu, A, h, k, rv, ru, hu => by unfold DV at h k; subst h; cases rv; subst k; obtain ⟨t1, rfl⟩ := ru; unfold eqD; exact RcAt.none_int _ _
 | .non, .str b0, v, u, vv, uu, A, h, k, rv, ru, hu => by unfold DV at h k; subst h; cases rv; subst k; obtain ⟨t1, rfl⟩ := ru; unfold eqD; exact RcAt.none_str _ _
 | .non, .tup ys, v, u, vv, uu, A, h, k, rv, ru, hu => by unfold DV at h k; subst h; cases rv; obtain ⟨b, ws, rfl, p, r2⟩ := k; cases ru; obtain ⟨its1, iv1, pl1, hz1⟩ := I.tuple p; unfold eqD; exact RcAt.none_tuple pl1 (by omega)
 | .non, .lst ys, v, u, vv, uu, A, h, k, rv, ru, hu => by unfold DV at h k; subst h; cases rv; obtain ⟨b, ws, rfl, p, r2⟩ := k; cases ru; obtain ⟨its1, iv1, pl1, hz1⟩ := I.list p; unfold eqD; exact RcAt.none_list pl1.isList (by omega)
 | .bl a0, .non, v, u, vv, uu, A, h, k, rv, ru, hu => by unfold DV at h k; subst h; cases rv; subst k; cases ru; unfold eqD; exact RcAt.bool_none _
 | .bl a0, .bl b0, v, u, vv, uu, A, h, k, rv, ru, hu => by unfold DV at h k; subst h; cases rv; subst k; cases ru; unfold eqD; exact RcAt.bool_bool _ _
 | .bl a0, .int b0, v, u, vv, uu, A, h, k, rv, ru, hu => by unfold DV at h k; subst h; cases rv; subst k; obtain ⟨t1, rfl⟩ := ru; unfold eqD; exact RcAt.bool_int _ _ _
 | .bl a0, .str b0, v, u, vv, uu, A, h, k, rv, ru, hu => by unfold DV at h k; subst h; cases rv; subst k; obtain ⟨t1, rfl⟩ := ru; unfold eqD; exact RcAt.bool_str _ _ _
 | .bl a0, .tup ys, v, u, vv, uu, A, h, k, rv, ru, hu => by unfold DV at h k; subst h; cases rv; obtain ⟨b, ws, rfl, p, r2⟩ := k; cases ru; obtain ⟨its1, iv1, pl1, hz1⟩ := I.tuple p; unfold eqD; exact RcAt.bool_tuple _ pl1 (by omega)
 | .bl a0, .lst ys, v, u, vv, uu, A, h, k, rv, ru, hu => by unfold DV at h k; subst h; cases rv; obtain ⟨b, ws, rfl, p, r2⟩ := k; cases ru; obtain ⟨its1, iv1, pl1, hz1⟩ := I.list p; unfold eqD; exact RcAt.bool_list _ pl1.isList (by omega)
 | .int a0, .non, v, u, vv, uu, A, h, k, rv, ru, hu => by unfold DV at h k; subst h; obtain ⟨t0, rfl⟩ := rv; subst k; cases ru; unfold eqD; exact RcAt.int_none _ _
 | .int a0, .bl b0, v, u, vv, uu, A, h, k, rv, ru, hu => by unfold DV at h k; subst h; obtain ⟨t0, rfl⟩ := rv; subst k; cases ru; unfold eqD; exact RcAt.int_bool _ _ _
 | .int a0, .int b0, v, u, vv, uu, A, h, k, rv, ru, hu => by unfold DV at h k; subst h; obtain ⟨t0, rfl⟩ := rv; subst k; obtain ⟨t1, rfl⟩ := ru; unfold eqD; exact RcAt.int_int _ _ _ _
 | .int a0, .str b0, v, u, vv, uu, A, h, k, rv, ru, hu => by unfold DV at h k; subst h; obtain ⟨t0, rfl⟩ := rv; subst k; obtain ⟨t1, rfl⟩ := ru; unfold eqD; exact RcAt.int_str _ _ _ _
 | .int a0, .tup ys, v, u, vv, uu, A, h, k, rv, ru, hu => by unfold DV at h k; subst h; obtain ⟨t0, rfl⟩ := rv; obtain ⟨b, ws, rfl, p, r2⟩ := k; cases ru; obtain ⟨its1, iv1, pl1, hz1⟩ := I.tuple p; unfold eqD; exact RcAt.int_tuple _ _ pl1 (by omega)
 | .int a0, .lst ys, v, u, vv, uu, A, h, k, rv, ru, hu => by unfold DV at h k; subst h; obtain ⟨t0, rfl⟩ := rv; obtain ⟨b, ws, rfl, p, r2⟩ := k; cases ru; obtain ⟨its1, iv1, pl1, hz1⟩ := I.list p; unfold eqD; exact RcAt.int_list _ _ pl1.isList (by omega)
 | .str a0, .non, v, u, vv, uu, A, h, k, rv, ru, hu => by unfold DV at h k; subst h; obtain ⟨t0, rfl⟩ := rv; subst k; cases ru; unfold eqD; exact RcAt.str_none _ _
 | .str a0, .bl b0, v, u, vv, uu, A, h, k, rv, ru, hu => by unfold DV at h k; subst h; obtain ⟨t0, rfl⟩ := rv; subst k; cases ru; unfold eqD; exact RcAt.str_bool _ _ _
 | .str a0, .int b0, v, u, vv, uu, A, h, k, rv, ru, hu => by unfold DV at h k; subst h; obtain ⟨t0, rfl⟩ := rv; subst k; obtain ⟨t1, rfl⟩ := ru; unfold eqD; exact RcAt.str_int _ _ _ _
 | .str a0, .str b0, v, u, vv, uu, A, h, k, rv, ru, hu => by unfold DV at h k; subst h; obtain ⟨t0, rfl⟩ := rv; subst k; obtain ⟨t1, rfl⟩ := ru; unfold eqD; exact RcAt.str_str _ _ _ _
 | .str a0, .tup ys, v, u, vv, uu, A, h, k, rv, ru, hu => by unfold DV at h k; subst h; obtain ⟨t0, rfl⟩ := rv; obtain ⟨b, ws, rfl, p, r2⟩ := k; cases ru; obtain ⟨its1, iv1, pl1, hz1⟩ := I.tuple p; unfold eqD; exact RcAt.str_tuple _ _ pl1 (by omega)
 | .str a0, .lst ys, v, u, vv, uu, A, h, k, rv, ru, hu => by unfold DV at h k; subst h; obtain ⟨t0, rfl⟩ := rv; obtain ⟨b, ws, rfl, p, r2⟩ := k; cases ru; obtain ⟨its1, iv1, pl1, hz1⟩ := I.list p; unfold eqD; exact RcAt.str_list _ _ pl1.isList (by omega)
 | .tup xs, .non, v, u, vv, uu, A, h, k, rv, ru, hu => by unfold DV at h k; obtain ⟨a, us, rfl, q, r⟩ := h; cases rv; obtain ⟨its0, iv0, pl0, hz0⟩ := I.tuple q; subst k; cases ru; unfold eqD; exact RcAt.tuple_none pl0 (by omega)
 | .tup xs, .bl b0, v, u, vv, uu, A, h, k, rv, ru, hu => by unfold DV at h k; obtain ⟨a, us, rfl, q, r⟩ := h; cases rv; obtain ⟨its0, iv0, pl0, hz0⟩ := I.tuple q; subst k; cases ru; unfold eqD; exact RcAt.tuple_bool _ pl0 (by omega)
 | .tup xs, .int b0, v, u, vv, uu, A, h, k, rv, ru, hu => by unfold DV at h k; obtain ⟨a, us, rfl, q, r⟩ := h; cases rv; obtain ⟨its0, iv0, pl0, hz0⟩ := I.tuple q; subst k; obtain ⟨t1, rfl⟩ := ru; unfold eqD; exact RcAt.tuple_int _ _ pl0 (by omega)
 | .tup xs, .str b0, v, u, vv, uu, A, h, k, rv, ru, hu => by unfold DV at h k; obtain ⟨a, us, rfl, q, r⟩ := h; cases rv; obtain ⟨its0, iv0, pl0, hz0⟩ := I.tuple q; subst k; obtain ⟨t1, rfl⟩ := ru; unfold eqD; exact RcAt.tuple_str _ _ pl0 (by omega)
 | .tup xs, .tup ys, v, u, vv, uu, A, h, k, rv, ru, hu => by
  unfold DV at h k; unfold gM at hu
  obtain ⟨a, us, rfl, q, r⟩ := h; cases rv; obtain ⟨its0, iv0, pl0, hz0⟩ := I.tuple q; obtain ⟨b, ws, rfl, p, r2⟩ := k; cases ru; obtain ⟨its1, iv1, pl1, hz1⟩ := I.tuple p
  unfold eqD
  have hl0 : its0.toArray.size = xs.length := by rw [List.size_toArray, ← iv0.length, ← DVL.length r]
  have hl1 : its1.toArray.size = ys.length := by rw [List.size_toArray, ← iv1.length, ← DVL.length r2]
  have rc := RcAt.tuples (A := A) (e := iG xs ys) pl0 pl1 (by omega) (fun j h1 h2 => by
     have h1' : j < its0.length := by simpa using h1
     have h2' : j < its1.length := by simpa using h2
     obtain ⟨d, e1, dv⟩ := DVL.get' r (show us[j]? = some (us[j]'(by rw [iv0.length]; exact h1')) by simp)
     obtain ⟨d', e2, dv'⟩ := DVL.get' r2 (show ws[j]? = some (ws[j]'(by rw [iv1.length]; exact h2')) by simp)
     obtain ⟨z, ez, rz⟩ := iv0.get (show us[j]? = some (us[j]'(by rw [iv0.length]; exact h1')) by simp)
     obtain ⟨z', ez', rz'⟩ := iv1.get (show ws[j]? = some (ws[j]'(by rw [iv1.length]; exact h2')) by simp)
     have f1 : its0.toArray[j] = z := by simpa [h1'] using ez
     have f2 : its1.toArray[j] = z' := by simpa [h2'] using ez'
     rw [f1, f2]
     have := ju I xs ys us ws its0 its1 A.in1 r r2 iv0 iv1 (by rw [units_in1]; omega) j d d' e1 e2 z z' ez ez'
     unfold iG
     rw [e1, e2]
     exact this)
  rw [hl0, hl1, pN] at rc
  exact rc
 | .tup xs, .lst ys, v, u, vv, uu, A, h, k, rv, ru, hu => by unfold DV at h k; obtain ⟨a, us, rfl, q, r⟩ := h; cases rv; obtain ⟨its0, iv0, pl0, hz0⟩ := I.tuple q; obtain ⟨b, ws, rfl, p, r2⟩ := k; cases ru; obtain ⟨its1, iv1, pl1, hz1⟩ := I.list p; unfold eqD; exact RcAt.tuple_list pl0 pl1.isList (by omega)
 | .lst xs, .non, v, u, vv, uu, A, h, k, rv, ru, hu => by unfold DV at h k; obtain ⟨a, us, rfl, q, r⟩ := h; cases rv; obtain ⟨its0, iv0, pl0, hz0⟩ := I.list q; subst k; cases ru; unfold eqD; exact RcAt.list_none pl0.isList (by omega)
 | .lst xs, .bl b0, v, u, vv, uu, A, h, k, rv, ru, hu => by unfold DV at h k; obtain ⟨a, us, rfl, q, r⟩ := h; cases rv; obtain ⟨its0, iv0, pl0, hz0⟩ := I.list q; subst k; cases ru; unfold eqD; exact RcAt.list_bool _ pl0.isList (by omega)
 | .lst xs, .int b0, v, u, vv, uu, A, h, k, rv, ru, hu => by unfold DV at h k; obtain ⟨a, us, rfl, q, r⟩ := h; cases rv; obtain ⟨its0, iv0, pl0, hz0⟩ := I.list q; subst k; obtain ⟨t1, rfl⟩ := ru; unfold eqD; exact RcAt.list_int _ _ pl0.isList (by omega)
 | .lst xs, .str b0, v, u, vv, uu, A, h, k, rv, ru, hu => by unfold DV at h k; obtain ⟨a, us, rfl, q, r⟩ := h; cases rv; obtain ⟨its0, iv0, pl0, hz0⟩ := I.list q; subst k; obtain ⟨t1, rfl⟩ := ru; unfold eqD; exact RcAt.list_str _ _ pl0.isList (by omega)
 | .lst xs, .tup ys, v, u, vv, uu, A, h, k, rv, ru, hu => by unfold DV at h k; obtain ⟨a, us, rfl, q, r⟩ := h; cases rv; obtain ⟨its0, iv0, pl0, hz0⟩ := I.list q; obtain ⟨b, ws, rfl, p, r2⟩ := k; cases ru; obtain ⟨its1, iv1, pl1, hz1⟩ := I.tuple p; unfold eqD; exact RcAt.list_tuple pl0.isList pl1 (by omega)
 | .lst xs, .lst ys, v, u, vv, uu, A, h, k, rv, ru, hu => by
  unfold DV at h k; unfold gM at hu
  obtain ⟨a, us, rfl, q, r⟩ := h; cases rv; obtain ⟨its0, iv0, pl0, hz0⟩ := I.list q; obtain ⟨b, ws, rfl, p, r2⟩ := k; cases ru; obtain ⟨its1, iv1, pl1, hz1⟩ := I.list p
  unfold eqD
  have hl0 : its0.toArray.size = xs.length := by rw [List.size_toArray, ← iv0.length, ← DVL.length r]
  have hl1 : its1.toArray.size = ys.length := by rw [List.size_toArray, ← iv1.length, ← DVL.length r2]
  by_cases hlen : xs.length = ys.length
  ·have rc := RcAt.lists (A := A) (e := iG xs ys) pl0.isList pl1.isList (by rw [hl0, hl1, hlen]) (by omega) (fun j h1 h2 => by
     have h1' : j < its0.length := by simpa using h1
     have h2' : j < its1.length := by simpa using h2
     obtain ⟨d, e1, dv⟩ := DVL.get' r (show us[j]? = some (us[j]'(by rw [iv0.length]; exact h1')) by simp)
     obtain ⟨d', e2, dv'⟩ := DVL.get' r2 (show ws[j]? = some (ws[j]'(by rw [iv1.length]; exact h2')) by simp)
     obtain ⟨z, ez, rz⟩ := iv0.get (show us[j]? = some (us[j]'(by rw [iv0.length]; exact h1')) by simp)
     obtain ⟨z', ez', rz'⟩ := iv1.get (show ws[j]? = some (ws[j]'(by rw [iv1.length]; exact h2')) by simp)
     have f1 : its0.toArray[j] = z := by simpa [h1'] using ez
     have f2 : its1.toArray[j] = z' := by simpa [h2'] using ez'
     rw [f1, f2]
     have := ju I xs ys us ws its0 its1 A.in1 r r2 iv0 iv1 (by rw [units_in1]; omega) j d d' e1 e2 z z' ez ez'
     unfold iG
     rw [e1, e2]
     exact this)
   rw [hl0, iu _ _ hlen] at rc
   exact rc
  ·rw [jO _ _ hlen]
   exact RcAt.lists_lengths pl0.isList pl1.isList (by rw [hl0, hl1]; simpa using hlen) (by omega)
 | .ro _, _, v, u, vv, uu, A, h, _, _, _, _ => by unfold DV at h; exact h.elim
 | .dic _, _, v, u, vv, uu, A, h, _, _, _, _ => by unfold DV at h; exact h.elim
 | .cell _, _, v, u, vv, uu, A, h, _, _, _, _ => by unfold DV at h; exact h.elim
 | .non, .ro _, v, u, vv, uu, A, _, k, _, _, _ => by unfold DV at k; exact k.elim
 | .non, .dic _, v, u, vv, uu, A, _, k, _, _, _ => by unfold DV at k; exact k.elim
 | .non, .cell _, v, u, vv, uu, A, _, k, _, _, _ => by unfold DV at k; exact k.elim
 | .bl _, .ro _, v, u, vv, uu, A, _, k, _, _, _ => by unfold DV at k; exact k.elim
 | .bl _, .dic _, v, u, vv, uu, A, _, k, _, _, _ => by unfold DV at k; exact k.elim
 | .bl _, .cell _, v, u, vv, uu, A, _, k, _, _, _ => by unfold DV at k; exact k.elim
 | .int _, .ro _, v, u, vv, uu, A, _, k, _, _, _ => by unfold DV at k; exact k.elim
 | .int _, .dic _, v, u, vv, uu, A, _, k, _, _, _ => by unfold DV at k; exact k.elim
 | .int _, .cell _, v, u, vv, uu, A, _, k, _, _, _ => by unfold DV at k; exact k.elim
 | .str _, .ro _, v, u, vv, uu, A, _, k, _, _, _ => by unfold DV at k; exact k.elim
 | .str _, .dic _, v, u, vv, uu, A, _, k, _, _, _ => by unfold DV at k; exact k.elim
 | .str _, .cell _, v, u, vv, uu, A, _, k, _, _, _ => by unfold DV at k; exact k.elim
 | .tup _, .ro _, v, u, vv, uu, A, _, k, _, _, _ => by unfold DV at k; exact k.elim
 | .tup _, .dic _, v, u, vv, uu, A, _, k, _, _, _ => by unfold DV at k; exact k.elim
 | .tup _, .cell _, v, u, vv, uu, A, _, k, _, _, _ => by unfold DV at k; exact k.elim
 | .lst _, .ro _, v, u, vv, uu, A, _, k, _, _, _ => by unfold DV at k; exact k.elim
 | .lst _, .dic _, v, u, vv, uu, A, _, k, _, _, _ => by unfold DV at k; exact k.elim
 | .lst _, .cell _, v, u, vv, uu, A, _, k, _, _, _ => by unfold DV at k; exact k.elim
theorem Hd (I : Inv X pins σ H s) : ∀ (x y : D) (v u : V) (vv uu : Value) (A : Around), DV X.K H x v → DV X.K H y u → RelV v vv → RelV u uu → A.units + gM x < cLine → RcNeAt A s vv uu (!eqD x y)
 | .non, .non, v, u, vv, uu, A, h, k, rv, ru, hu => by unfold DV at h k; subst h; cases rv; subst k; cases ru; unfold eqD; exact RcNeAt.none_none
 | .non, .bl b0, v, u, vv, uu, A, h, k, rv, ru, hu => by unfold DV at h k; subst h; cases rv; subst k; cases ru; unfold eqD; exact RcNeAt.none_bool _
 | .non, .int b0, v, u, vv, uu, A, h, k, rv, ru, hu => by unfold DV at h k; subst h; cases rv; subst k; obtain ⟨t1, rfl⟩ := ru; unfold eqD; exact RcNeAt.none_int _ _
 | .non, .str b0, v, u, vv, uu, A, h, k, rv, ru, hu => by unfold DV at h k; subst h; cases rv; subst k; obtain ⟨t1, rfl⟩ := ru; unfold eqD; exact RcNeAt.none_str _ _
 | .non, .tup ys, v, u, vv, uu, A, h, k, rv, ru, hu => by unfold DV at h k; subst h; cases rv; obtain ⟨b, ws, rfl, p, r2⟩ := k; cases ru; obtain ⟨its1, iv1, pl1, hz1⟩ := I.tuple p; unfold eqD; exact RcNeAt.none_tuple pl1 (by omega)
 | .non, .lst ys, v, u, vv, uu, A, h, k, rv, ru, hu => by unfold DV at h k; subst h; cases rv; obtain ⟨b, ws, rfl, p, r2⟩ := k; cases ru; obtain ⟨its1, iv1, pl1, hz1⟩ := I.list p; unfold eqD; exact RcNeAt.none_list pl1.isList (by omega)
 | .bl a0, .non, v, u, vv, uu, A, h, k, rv, ru, hu => by unfold DV at h k; subst h; cases rv; subst k; cases ru; unfold eqD; exact RcNeAt.bool_none _
 | .bl a0, .bl b0, v, u, vv, uu, A, h, k, rv, ru, hu => by unfold DV at h k; subst h; cases rv; subst k; cases ru; unfold eqD; exact RcNeAt.bool_bool _ _
 | .bl a0, .int b0, v, u, vv, uu, A, h, k, rv, ru, hu => by unfold DV at h k; subst h; cases rv; subst k; obtain ⟨t1, rfl⟩ := ru; unfold eqD; exact RcNeAt.bool_int _ _ _
 | .bl a0, .str b0, v, u, vv, uu, A, h, k, rv, ru, hu => by unfold DV at h k; subst h; cases rv; subst k; obtain ⟨t1, rfl⟩ := ru; unfold eqD; exact RcNeAt.bool_str _ _ _
 | .bl a0, .tup ys, v, u, vv, uu, A, h, k, rv, ru, hu => by unfold DV at h k; subst h; cases rv; obtain ⟨b, ws, rfl, p, r2⟩ := k; cases ru; obtain ⟨its1, iv1, pl1, hz1⟩ := I.tuple p; unfold eqD; exact RcNeAt.bool_tuple _ pl1 (by omega)
 | .bl a0, .lst ys, v, u, vv, uu, A, h, k, rv, ru, hu => by unfold DV at h k; subst h; cases rv; obtain ⟨b, ws, rfl, p, r2⟩ := k; cases ru; obtain ⟨its1, iv1, pl1, hz1⟩ := I.list p; unfold eqD; exact RcNeAt.bool_list _ pl1.isList (by omega)
 | .int a0, .non, v, u, vv, uu, A, h, k, rv, ru, hu => by unfold DV at h k; subst h; obtain ⟨t0, rfl⟩ := rv; subst k; cases ru; unfold eqD; exact RcNeAt.int_none _ _
 | .int a0, .bl b0, v, u, vv, uu, A, h, k, rv, ru, hu => by unfold DV at h k; subst h; obtain ⟨t0, rfl⟩ := rv; subst k; cases ru; unfold eqD; exact RcNeAt.int_bool _ _ _
 | .int a0, .int b0, v, u, vv, uu, A, h, k, rv, ru, hu => by unfold DV at h k; subst h; obtain ⟨t0, rfl⟩ := rv; subst k; obtain ⟨t1, rfl⟩ := ru; unfold eqD; exact RcNeAt.int_int _ _ _ _
 | .int a0, .str b0, v, u, vv, uu, A, h, k, rv, ru, hu => by unfold DV at h k; subst h; obtain ⟨t0, rfl⟩ := rv; subst k; obtain ⟨t1, rfl⟩ := ru; unfold eqD; exact RcNeAt.int_str _ _ _ _
 | .int a0, .tup ys, v, u, vv, uu, A, h, k, rv, ru, hu => by unfold DV at h k; subst h; obtain ⟨t0, rfl⟩ := rv; obtain ⟨b, ws, rfl, p, r2⟩ := k; cases ru; obtain ⟨its1, iv1, pl1, hz1⟩ := I.tuple p; unfold eqD; exact RcNeAt.int_tuple _ _ pl1 (by omega)
 | .int a0, .lst ys, v, u, vv, uu, A, h, k, rv, ru, hu => by unfold DV at h k; subst h; obtain ⟨t0, rfl⟩ := rv; obtain ⟨b, ws, rfl, p, r2⟩ := k; cases ru; obtain ⟨its1, iv1, pl1, hz1⟩ := I.list p; unfold eqD; exact RcNeAt.int_list _ _ pl1.isList (by omega)
 | .str a0, .non, v, u, vv, uu, A, h, k, rv, ru, hu => by unfold DV at h k; subst h; obtain ⟨t0, rfl⟩ := rv; subst k; cases ru; unfold eqD; exact RcNeAt.str_none _ _
 | .str a0, .bl b0, v, u, vv, uu, A, h, k, rv, ru, hu => by unfold DV at h k; subst h; obtain ⟨t0, rfl⟩ := rv; subst k; cases ru; unfold eqD; exact RcNeAt.str_bool _ _ _
 | .str a0, .int b0, v, u, vv, uu, A, h, k, rv, ru, hu => by unfold DV at h k; subst h; obtain ⟨t0, rfl⟩ := rv; subst k; obtain ⟨t1, rfl⟩ := ru; unfold eqD; exact RcNeAt.str_int _ _ _ _
 | .str a0, .str b0, v, u, vv, uu, A, h, k, rv, ru, hu => by unfold DV at h k; subst h; obtain ⟨t0, rfl⟩ := rv; subst k; obtain ⟨t1, rfl⟩ := ru; unfold eqD; exact RcNeAt.str_str _ _ _ _
 | .str a0, .tup ys, v, u, vv, uu, A, h, k, rv, ru, hu => by unfold DV at h k; subst h; obtain ⟨t0, rfl⟩ := rv; obtain ⟨b, ws, rfl, p, r2⟩ := k; cases ru; obtain ⟨its1, iv1, pl1, hz1⟩ := I.tuple p; unfold eqD; exact RcNeAt.str_tuple _ _ pl1 (by omega)
 | .str a0, .lst ys, v, u, vv, uu, A, h, k, rv, ru, hu => by unfold DV at h k; subst h; obtain ⟨t0, rfl⟩ := rv; obtain ⟨b, ws, rfl, p, r2⟩ := k; cases ru; obtain ⟨its1, iv1, pl1, hz1⟩ := I.list p; unfold eqD; exact RcNeAt.str_list _ _ pl1.isList (by omega)
 | .tup xs, .non, v, u, vv, uu, A, h, k, rv, ru, hu => by unfold DV at h k; obtain ⟨a, us, rfl, q, r⟩ := h; cases rv; obtain ⟨its0, iv0, pl0, hz0⟩ := I.tuple q; subst k; cases ru; unfold eqD; exact RcNeAt.tuple_none pl0 (by omega)
 | .tup xs, .bl b0, v, u, vv, uu, A, h, k, rv, ru, hu => by unfold DV at h k; obtain ⟨a, us, rfl, q, r⟩ := h; cases rv; obtain ⟨its0, iv0, pl0, hz0⟩ := I.tuple q; subst k; cases ru; unfold eqD; exact RcNeAt.tuple_bool _ pl0 (by omega)
 | .tup xs, .int b0, v, u, vv, uu, A, h, k, rv, ru, hu => by unfold DV at h k; obtain ⟨a, us, rfl, q, r⟩ := h; cases rv; obtain ⟨its0, iv0, pl0, hz0⟩ := I.tuple q; subst k; obtain ⟨t1, rfl⟩ := ru; unfold eqD; exact RcNeAt.tuple_int _ _ pl0 (by omega)
 | .tup xs, .str b0, v, u, vv, uu, A, h, k, rv, ru, hu => by unfold DV at h k; obtain ⟨a, us, rfl, q, r⟩ := h; cases rv; obtain ⟨its0, iv0, pl0, hz0⟩ := I.tuple q; subst k; obtain ⟨t1, rfl⟩ := ru; unfold eqD; exact RcNeAt.tuple_str _ _ pl0 (by omega)
 | .tup xs, .tup ys, v, u, vv, uu, A, h, k, rv, ru, hu => by
  unfold DV at h k; unfold gM at hu
  obtain ⟨a, us, rfl, q, r⟩ := h; cases rv; obtain ⟨its0, iv0, pl0, hz0⟩ := I.tuple q; obtain ⟨b, ws, rfl, p, r2⟩ := k; cases ru; obtain ⟨its1, iv1, pl1, hz1⟩ := I.tuple p
  unfold eqD
  have hl0 : its0.toArray.size = xs.length := by rw [List.size_toArray, ← iv0.length, ← DVL.length r]
  have hl1 : its1.toArray.size = ys.length := by rw [List.size_toArray, ← iv1.length, ← DVL.length r2]
  have rc := RcNeAt.tuples (A := A) (e := iG xs ys) pl0 pl1 (by omega) (fun j h1 h2 => by
     have h1' : j < its0.length := by simpa using h1
     have h2' : j < its1.length := by simpa using h2
     obtain ⟨d, e1, dv⟩ := DVL.get' r (show us[j]? = some (us[j]'(by rw [iv0.length]; exact h1')) by simp)
     obtain ⟨d', e2, dv'⟩ := DVL.get' r2 (show ws[j]? = some (ws[j]'(by rw [iv1.length]; exact h2')) by simp)
     obtain ⟨z, ez, rz⟩ := iv0.get (show us[j]? = some (us[j]'(by rw [iv0.length]; exact h1')) by simp)
     obtain ⟨z', ez', rz'⟩ := iv1.get (show ws[j]? = some (ws[j]'(by rw [iv1.length]; exact h2')) by simp)
     have f1 : its0.toArray[j] = z := by simpa [h1'] using ez
     have f2 : its1.toArray[j] = z' := by simpa [h2'] using ez'
     rw [f1, f2]
     have := ju I xs ys us ws its0 its1 A.in1 r r2 iv0 iv1 (by rw [units_in1]; omega) j d d' e1 e2 z z' ez ez'
     unfold iG
     rw [e1, e2]
     exact this)
  rw [hl0, hl1, pN] at rc
  exact rc
 | .tup xs, .lst ys, v, u, vv, uu, A, h, k, rv, ru, hu => by unfold DV at h k; obtain ⟨a, us, rfl, q, r⟩ := h; cases rv; obtain ⟨its0, iv0, pl0, hz0⟩ := I.tuple q; obtain ⟨b, ws, rfl, p, r2⟩ := k; cases ru; obtain ⟨its1, iv1, pl1, hz1⟩ := I.list p; unfold eqD; exact RcNeAt.tuple_list pl0 pl1.isList (by omega)
 | .lst xs, .non, v, u, vv, uu, A, h, k, rv, ru, hu => by unfold DV at h k; obtain ⟨a, us, rfl, q, r⟩ := h; cases rv; obtain ⟨its0, iv0, pl0, hz0⟩ := I.list q; subst k; cases ru; unfold eqD; exact RcNeAt.list_none pl0.isList (by omega)
 | .lst xs, .bl b0, v, u, vv, uu, A, h, k, rv, ru, hu => by unfold DV at h k; obtain ⟨a, us, rfl, q, r⟩ := h; cases rv; obtain ⟨its0, iv0, pl0, hz0⟩ := I.list q; subst k; cases ru; unfold eqD; exact RcNeAt.list_bool _ pl0.isList (by omega)
 | .lst xs, .int b0, v, u, vv, uu, A, h, k, rv, ru, hu => by unfold DV at h k; obtain ⟨a, us, rfl, q, r⟩ := h; cases rv; obtain ⟨its0, iv0, pl0, hz0⟩ := I.list q; subst k; obtain ⟨t1, rfl⟩ := ru; unfold eqD; exact RcNeAt.list_int _ _ pl0.isList (by omega)
 | .lst xs, .str b0, v, u, vv, uu, A, h, k, rv, ru, hu => by unfold DV at h k; obtain ⟨a, us, rfl, q, r⟩ := h; cases rv; obtain ⟨its0, iv0, pl0, hz0⟩ := I.list q; subst k; obtain ⟨t1, rfl⟩ := ru; unfold eqD; exact RcNeAt.list_str _ _ pl0.isList (by omega)
 | .lst xs, .tup ys, v, u, vv, uu, A, h, k, rv, ru, hu => by unfold DV at h k; obtain ⟨a, us, rfl, q, r⟩ := h; cases rv; obtain ⟨its0, iv0, pl0, hz0⟩ := I.list q; obtain ⟨b, ws, rfl, p, r2⟩ := k; cases ru; obtain ⟨its1, iv1, pl1, hz1⟩ := I.tuple p; unfold eqD; exact RcNeAt.list_tuple pl0.isList pl1 (by omega)
 | .lst xs, .lst ys, v, u, vv, uu, A, h, k, rv, ru, hu => by
  unfold DV at h k; unfold gM at hu
  obtain ⟨a, us, rfl, q, r⟩ := h; cases rv; obtain ⟨its0, iv0, pl0, hz0⟩ := I.list q; obtain ⟨b, ws, rfl, p, r2⟩ := k; cases ru; obtain ⟨its1, iv1, pl1, hz1⟩ := I.list p
  unfold eqD
  have hl0 : its0.toArray.size = xs.length := by rw [List.size_toArray, ← iv0.length, ← DVL.length r]
  have hl1 : its1.toArray.size = ys.length := by rw [List.size_toArray, ← iv1.length, ← DVL.length r2]
  by_cases hlen : xs.length = ys.length
  ·have rc := RcNeAt.lists (A := A) (e := iG xs ys) pl0.isList pl1.isList (by rw [hl0, hl1, hlen]) (by omega) (fun j h1 h2 => by
     have h1' : j < its0.length := by simpa using h1
     have h2' : j < its1.length := by simpa using h2
     obtain ⟨d, e1, dv⟩ := DVL.get' r (show us[j]? = some (us[j]'(by rw [iv0.length]; exact h1')) by simp)
     obtain ⟨d', e2, dv'⟩ := DVL.get' r2 (show ws[j]? = some (ws[j]'(by rw [iv1.length]; exact h2')) by simp)
     obtain ⟨z, ez, rz⟩ := iv0.get (show us[j]? = some (us[j]'(by rw [iv0.length]; exact h1')) by simp)
     obtain ⟨z', ez', rz'⟩ := iv1.get (show ws[j]? = some (ws[j]'(by rw [iv1.length]; exact h2')) by simp)
     have f1 : its0.toArray[j] = z := by simpa [h1'] using ez
     have f2 : its1.toArray[j] = z' := by simpa [h2'] using ez'
     rw [f1, f2]
     have := ju I xs ys us ws its0 its1 A.in1 r r2 iv0 iv1 (by rw [units_in1]; omega) j d d' e1 e2 z z' ez ez'
     unfold iG
     rw [e1, e2]
     exact this)
   rw [hl0, iu _ _ hlen] at rc
   exact rc
  ·rw [jO _ _ hlen]
   exact RcNeAt.lists_lengths pl0.isList pl1.isList (by rw [hl0, hl1]; simpa using hlen) (by omega)
 | .ro _, _, v, u, vv, uu, A, h, _, _, _, _ => by unfold DV at h; exact h.elim
 | .dic _, _, v, u, vv, uu, A, h, _, _, _, _ => by unfold DV at h; exact h.elim
 | .cell _, _, v, u, vv, uu, A, h, _, _, _, _ => by unfold DV at h; exact h.elim
 | .non, .ro _, v, u, vv, uu, A, _, k, _, _, _ => by unfold DV at k; exact k.elim
 | .non, .dic _, v, u, vv, uu, A, _, k, _, _, _ => by unfold DV at k; exact k.elim
 | .non, .cell _, v, u, vv, uu, A, _, k, _, _, _ => by unfold DV at k; exact k.elim
 | .bl _, .ro _, v, u, vv, uu, A, _, k, _, _, _ => by unfold DV at k; exact k.elim
 | .bl _, .dic _, v, u, vv, uu, A, _, k, _, _, _ => by unfold DV at k; exact k.elim
 | .bl _, .cell _, v, u, vv, uu, A, _, k, _, _, _ => by unfold DV at k; exact k.elim
 | .int _, .ro _, v, u, vv, uu, A, _, k, _, _, _ => by unfold DV at k; exact k.elim
 | .int _, .dic _, v, u, vv, uu, A, _, k, _, _, _ => by unfold DV at k; exact k.elim
 | .int _, .cell _, v, u, vv, uu, A, _, k, _, _, _ => by unfold DV at k; exact k.elim
 | .str _, .ro _, v, u, vv, uu, A, _, k, _, _, _ => by unfold DV at k; exact k.elim
 | .str _, .dic _, v, u, vv, uu, A, _, k, _, _, _ => by unfold DV at k; exact k.elim
 | .str _, .cell _, v, u, vv, uu, A, _, k, _, _, _ => by unfold DV at k; exact k.elim
 | .tup _, .ro _, v, u, vv, uu, A, _, k, _, _, _ => by unfold DV at k; exact k.elim
 | .tup _, .dic _, v, u, vv, uu, A, _, k, _, _, _ => by unfold DV at k; exact k.elim
 | .tup _, .cell _, v, u, vv, uu, A, _, k, _, _, _ => by unfold DV at k; exact k.elim
 | .lst _, .ro _, v, u, vv, uu, A, _, k, _, _, _ => by unfold DV at k; exact k.elim
 | .lst _, .dic _, v, u, vv, uu, A, _, k, _, _, _ => by unfold DV at k; exact k.elim
 | .lst _, .cell _, v, u, vv, uu, A, _, k, _, _, _ => by unfold DV at k; exact k.elim
end
def rsv (d : D) (μ : Mu) : D := match d with
 | .cell n => match μ[n]? with
  | some (some ds) => .lst ds
  | _ => d
 | .ro ds => .lst ds
 | _ => d
theorem mD {K : PySem.W.Frag} {tb : List Addr} {W : Wd} {d : D} {v : V} (ok : WOk K tb W) (h : Den K tb W d v) (p : cV (rsv d W.mu) = true) : DV K W.H (rsv d W.mu) v := by
 cases d with
 | cell n =>
  obtain ⟨a, rfl, q⟩ := gY h
  unfold rsv at p ⊢
  dsimp only at p ⊢
  cases e : W.mu[n]? with
  | none => rw [e] at p; cases p
  | some o =>
   rw [e] at p
   cases o with
   | none => cases p
   | some ds =>
    dsimp only at p ⊢
    unfold cV at p
    obtain ⟨xs, ex, r⟩ := ok.cont n a ds q e
    unfold DV
    exact ⟨a, xs, rfl, SqL.of ex, pM ds xs p r⟩
 | ro ds =>
  obtain ⟨a, xs, rfl, q, r⟩ := vz h
  have p' : cV (.lst ds) = true := p
  unfold cV at p'
  show DV K W.H (.lst ds) _
  unfold DV
  exact ⟨a, xs, rfl, SqL.fz q, pM ds xs p' r⟩
 | _ => exact Ge _ _ p h
def oEq : O2 := fun x y μ => if (cV (rsv x μ) && cV (rsv y μ)) = true ∧ gM (rsv x μ) < 100 then some (.bl (eqD (rsv x μ) (rsv y μ)), μ) else none
def oNe : O2 := fun x y μ => if (cV (rsv x μ) && cV (rsv y μ)) = true ∧ gM (rsv x μ) < 100 then some (.bl (!eqD (rsv x μ) (rsv y μ)), μ) else none
def rEqD (K : PySem.W.Frag) : R2 := fun v u H Q => ∃ x y, DV K H x v ∧ DV K H y u ∧ gM x < 100 ∧ Q (.bl (eqD x y)) H
def rNeD (K : PySem.W.Frag) : R2 := fun v u H Q => ∃ x y, DV K H x v ∧ DV K H y u ∧ gM x < 100 ∧ Q (.bl (!eqD x y)) H
section
variable {X : Cx} {tb : List Addr} {k : Nat}
theorem Iv (hr : eQ k X.A) : OpR X (compareOp .Eq) (rEqD X.K) := by
 intro pins s σ H v u vv uu Q I rv ru h
 obtain ⟨x, y, hx, hy, hd, q⟩ := h
 have hun := hr.un
 exact Gv I x y v u vv uu X.A hx hy rv ru (by omega) X.prog X.w X.xe _ ⟨.bl _, H, I, rfl, q⟩
theorem Bq (hr : eQ k X.A) : OpR X (compareOp .NotEq) (rNeD X.K) := by
 intro pins s σ H v u vv uu Q I rv ru h
 obtain ⟨x, y, hx, hy, hd, q⟩ := h
 have hun := hr.un
 exact Hd I x y v u vv uu X.A hx hy rv ru (by omega) X.prog X.w X.xe _ ⟨.bl _, H, I, rfl, q⟩
theorem jj (hr : eQ k X.A) : OpD X tb (compareOp .Eq) oEq := ⟨_, Iv hr, fun W x y v u d μ' Q ok dx dy ho h => by
 unfold oEq at ho
 split at ho
 ·rename_i hc
  cases ho
  rw [Bool.and_eq_true] at hc
  exact ⟨_, _, mD ok dx hc.1.1, mD ok dy hc.1.2, hc.2, put ok h fL⟩
 ·cases ho⟩
theorem lu (hr : eQ k X.A) : OpD X tb (compareOp .NotEq) oNe := ⟨_, Bq hr, fun W x y v u d μ' Q ok dx dy ho h => by
 unfold oNe at ho
 split at ho
 ·rename_i hc
  cases ho
  rw [Bool.and_eq_true] at hc
  exact ⟨_, _, mD ok dx hc.1.1, mD ok dy hc.1.2, hc.2, put ok h fL⟩
 ·cases ho⟩
end
end L3
namespace L2
open PySem PySem.Spec PyProof.Rows
section
variable {prog : Program} {w : World} {A : Around} {E : Value → Shared → Prop} {s : Shared}
theorem lV {it l : Addr} {i : Nat} {items} {x : Value} {Q : Value → Shared → Prop} (hit : s.heap.IsTupleIter it l i) (hl : s.heap.IsTuple l items) (hx : items[i]? = some x)
  (hQ : ∀ h', h'.IsTupleIter it l (i + 1) → Heap.SameBut it s.heap h' → Q x { s with heap := h' }) : wpAny (model prog w) A (Builtin.SmallTypes.nextOf (.ref it)) Q E s := by
 obtain ⟨o, ho, hc, hd⟩ := id hit
 obtain ⟨ol, hol, _, nl, hdl⟩ := hl
 unfold Builtin.SmallTypes.nextOf
 refine wpAny_bind (wpAny_callSpecial?_slot (name := Str.ofString "__next__") hit.typeIs F.slot_tuple_iterator_next
  (wpAny_call_entry F.slot_tuple_iterator_next hit.typeIs F.entry_tuple_iterator_next ?_ (F.args_tuple_iterator_next_1 _)))
 show wpAny _ _ (field (.ref it) 0 >>= _) _ _ s
 refine wpAny_bind (wpAny_field ho hd (x := .ref l) rfl ?_)
 show wpAny _ _ (if (Value.ref l == Value.none) = true then _ else _) _ _ s
 rw [if_neg (show ¬ ((Value.ref l == Value.none) = true) from Bool.false_ne_true)]
 show wpAny _ _ (field (.ref it) 1 >>= _) _ _ s
 refine wpAny_bind (wpAny_field ho hd (x := .int i 0) rfl ?_)
 show wpAny _ _ (seqItems? (.ref l) >>= _) _ _ s
 refine wpAny_bind (wpAny_seqItems hol hdl ?_)
 simp only [Int.toNat_natCast, hx]
 refine wpAny_bind (wpAny_setField ho hd (by simp) (wpAny_pure ⟨x, rfl, wpAny_pure (hQ _ ?_ (Heap.SameBut.update ..))⟩))
 exact ⟨_, Heap.get?_update_self _ ho (Obj.isFreed_of_fields (Obj.data_mapFields hd _)), (Obj.cls_mapFields ..).trans hc, by
  rw [Obj.data_mapFields hd]; simp [rawInt]⟩
theorem nu {it l : Addr} {i : Nat} {items} {Q : Value → Shared → Prop} (hh : A.handled = none) (hit : s.heap.IsTupleIter it l i) (hl : s.heap.IsTuple l items) (hx : items[i]? = none)
  (hE : ∀ h' e, Heap.ExtBut it s.heap h' → (∃ o, h'.get? e = some o ∧ o.cls = .type "StopIteration") → E (.ref e) { s with heap := h' }) : wpAny (model prog w) A (Builtin.SmallTypes.nextOf (.ref it)) Q E s := by
 obtain ⟨o, ho, hc, hd⟩ := id hit
 obtain ⟨ol, hol, _, nl, hdl⟩ := hl
 unfold Builtin.SmallTypes.nextOf
 refine wpAny_bind (wpAny_callSpecial?_slot (name := Str.ofString "__next__") hit.typeIs F.slot_tuple_iterator_next
  (wpAny_call_entry F.slot_tuple_iterator_next hit.typeIs F.entry_tuple_iterator_next ?_ (F.args_tuple_iterator_next_1 _)))
 show wpAny _ _ (field (.ref it) 0 >>= _) _ _ s
 refine wpAny_bind (wpAny_field ho hd (x := .ref l) rfl ?_)
 show wpAny _ _ (if (Value.ref l == Value.none) = true then _ else _) _ _ s
 rw [if_neg (show ¬ ((Value.ref l == Value.none) = true) from Bool.false_ne_true)]
 show wpAny _ _ (field (.ref it) 1 >>= _) _ _ s
 refine wpAny_bind (wpAny_field ho hd (x := .int i 0) rfl ?_)
 show wpAny _ _ (seqItems? (.ref l) >>= _) _ _ s
 refine wpAny_bind (wpAny_seqItems hol hdl ?_)
 simp only [Int.toNat_natCast, hx]
 refine wpAny_bind (wpAny_rule (wpAny_bind (wpAny_setField ho hd (by simp) ?_)))
 show wpAny _ _ (newExc (.type "StopIteration") [] >>= _) _ _ _
 refine wpAny_bind ?_
 simp only [newExc, newTuple]
 refine wpAny_bind (wpAny_newObj_type ?_ (by size_fits))
 refine wpAny_bind (m := firstArgMember _ _) (wpAny_of_eq (a := Value.none) (by first | rfl | (simp only [firstArgMember]; rfl)) ?_)
 refine wpAny_newObj_type ?_ (by size_fits)
 simp only [raiseNew]
 refine wpAny_bind (wpAny_handled ?_)
 first | rw [show A.in1.handled = none from hh] | rw [hh]
 refine wpAny_bind (wpAny_pure (wpAny_throw ?_))
 exact hE _ _ (((Heap.SameBut.update ..).extBut.push _).push _) ⟨_, Heap.get?_push_size _ rfl, rfl⟩
end
def cW (k : Bool) (h : Heap) (it l : Addr) (i : Nat) : Prop := if k = true then h.IsTupleIter it l i else h.IsListIter it l i
def fY (k : Bool) (h : Heap) (l : Addr) (xs : Array Value) : Prop := if k = true then h.IsTuple l xs else h.IsList l xs
section
variable {prog : Program} {w : World} {A : Around} {E : Value → Shared → Prop} {s : Shared} {k : Bool} {it l : Addr} {i : Nat} {xs : Array Value} {h h' : Heap}
theorem cW.obj (x : cW k h it l i) : ∃ o, h.get? it = some o ∧ (∀ v, o.data ≠ .cell v) ∧ (o.cls = .type "tuple_iterator" ∨ o.cls = .type "list_iterator") := by
 cases k
 ·obtain ⟨o, e, c, d⟩ : h.IsListIter it l i := x
  exact ⟨o, e, (fun v z => by rw [d] at z; cases z), .inr c⟩
 ·obtain ⟨o, e, c, d⟩ : h.IsTupleIter it l i := x
  exact ⟨o, e, (fun v z => by rw [d] at z; cases z), .inl c⟩
theorem cW.at' (x : cW k h it l i) (hk : ∀ o, h.get? it = some o → h'.get? it = some o) : cW k h' it l i := by
 cases k
 ·obtain ⟨o, e, c, d⟩ : h.IsListIter it l i := x
  exact (⟨o, hk o e, c, d⟩ : h'.IsListIter it l i)
 ·obtain ⟨o, e, c, d⟩ : h.IsTupleIter it l i := x
  exact (⟨o, hk o e, c, d⟩ : h'.IsTupleIter it l i)
theorem fY.at' (x : fY k h l xs) (hk : ∀ o, h.get? l = some o → h'.get? l = some o) : fY k h' l xs := by
 cases k
 ·obtain ⟨o, e, c⟩ : h.IsList l xs := x
  exact (⟨o, hk o e, c⟩ : h'.IsList l xs)
 ·obtain ⟨o, e, c⟩ : h.IsTuple l xs := x
  exact (⟨o, hk o e, c⟩ : h'.IsTuple l xs)
theorem fP {x : Value} {Q : Value → Shared → Prop} (hit : cW k s.heap it l i) (hl : fY k s.heap l xs) (hx : xs[i]? = some x)
  (hQ : ∀ h', cW k h' it l (i + 1) → Heap.SameBut it s.heap h' → Q x { s with heap := h' }) : wpAny (model prog w) A (Builtin.SmallTypes.nextOf (.ref it)) Q E s := by
 cases k
 ·exact wpAny_nextOf_list_item hit hl hx hQ
 ·exact lV hit hl hx hQ
theorem iQ {Q : Value → Shared → Prop} (hh : A.handled = none) (hit : cW k s.heap it l i) (hl : fY k s.heap l xs) (hx : xs[i]? = none)
  (hE : ∀ h' e, Heap.ExtBut it s.heap h' → (∃ o, h'.get? e = some o ∧ o.cls = .type "StopIteration") → E (.ref e) { s with heap := h' }) : wpAny (model prog w) A (Builtin.SmallTypes.nextOf (.ref it)) Q E s := by
 cases k
 ·exact wpAny_nextOf_list_end hh hit hl hx hE
 ·exact nu hh hit hl hx hE
end
structure ZA (z TI TO i1 i2 : Addr) : Prop where
 TIz : TI ≠ z
 TOz : TO ≠ z
 i1z : i1 ≠ z
 i2z : i2 ≠ z
 TITO : TI ≠ TO
 TIi1 : TI ≠ i1
 TIi2 : TI ≠ i2
 TOi1 : TO ≠ i1
 TOi2 : TO ≠ i2
 i12 : i1 ≠ i2
section
variable {prog : Program} {w : World} {A : Around} {E : Value → Shared → Prop} {s : Shared}
theorem yE {z TI TO i1 i2 l1 l2 : Addr} {c1 c2 : Bool} {k1 k2 : Nat} {xs ys : Array Value} {x y a b : Value} {Q : Value → Shared → Prop} (D : ZA z TI TO i1 i2)
  (l1z : l1 ≠ z) (l2z : l2 ≠ z) (l2i1 : l2 ≠ i1) (l2TO : l2 ≠ TO)
  (hz : IsZip s.heap z TI TO .none) (hTI : IsPair s.heap TI (.ref i1) (.ref i2)) (hTO : IsPair s.heap TO a b)
  (h1 : cW c1 s.heap i1 l1 k1) (h2 : cW c2 s.heap i2 l2 k2) (hl1 : fY c1 s.heap l1 xs) (hl2 : fY c2 s.heap l2 ys) (hx : xs[k1]? = some x) (hy : ys[k2]? = some y)
  (hQ : ∀ h', IsZip h' z TI TO (rawInt s.heap.objs.size) → IsPair h' TO x y → cW c1 h' i1 l1 (k1 + 1) → cW c2 h' i2 l2 (k2 + 1) → IsPair h' s.heap.objs.size x y → h'.objs.size = s.heap.objs.size + 1 →
   (∀ c o, c ≠ z → c ≠ TO → c ≠ i1 → c ≠ i2 → s.heap.get? c = some o → h'.get? c = some o) → Q (.ref s.heap.objs.size) { s with heap := h' }) :
  wpAny (model prog w) A (Builtin.«zip.__next__» ⟨[.ref z], []⟩) (fun fin s' => ∃ v, fin = .done (.ret v) ∧ Q v s') E s := by
 show wpAny _ _ (field (.ref z) 2 >>= _) _ _ _
 refine wpAny_bind (wpAny_field hz rfl (x := .bool false) rfl ?_)
 show wpAny _ _ (field (.ref z) 3 >>= _) _ _ _
 refine wpAny_bind (wpAny_field hz rfl (x := .ref TI) rfl ?_)
 refine wpAny_bind (wpAny_seqItems hTI rfl ?_)
 show wpAny _ _ (Builtin.SmallTypes.ownedTupleIsFree (.ref z) >>= _) _ _ _
 refine wpAny_bind ?_
 unfold Builtin.SmallTypes.ownedTupleIsFree
 refine wpAny_bind (wpAny_field hz rfl (x := .none) rfl (wpAny_pure ?_))
 simp only [if_true]
 refine wpAny_bind (wpAny_rule ?_)
 refine wpAny_bind (wpAny_field hz rfl (x := .ref TO) rfl ?_)
 refine wpAny_bind (wpAny_setField_rec hz (by simp) fun h₁ hz₁ hs₁ => ?_)
 replace hz₁ : IsZip h₁ z TI TO .ellipsis := hz₁
 refine wpAny_bind ?_
 simp only [List.zipIdx_cons, List.zipIdx_nil, List.forIn_cons, List.forIn_nil]
 refine wpAny_bind (wpAny_bind (wpAny_onRaise ?_))
 show wpAny _ _ (Builtin.SmallTypes.nextOf (.ref i1) >>= _) _ _ _
 refine wpAny_bind (fP (h1.at' fun o e => hs₁.extBut _ _ D.i1z e) (hl1.at' fun o e => hs₁.extBut _ _ l1z e) hx fun h₂ h1₂ hs₂ => wpAny_pure ?_)
 have hTO₂ : IsPair h₂ TO a b := hs₂.extBut _ _ D.TOi1 (hs₁.extBut _ _ D.TOz hTO)
 refine wpAny_bind (wpAny_seqItems hTO₂ rfl ?_)
 refine wpAny_bind (wpAny_updateSeq_pair hTO₂ fun h₃ hTO₃ hs₃ => ?_)
 replace hTO₃ : IsPair h₃ TO x b := hTO₃
 refine wpAny_bind (wpAny_letGo (wpAny_pure ?_))
 refine wpAny_bind (wpAny_bind (wpAny_onRaise ?_))
 show wpAny _ _ (Builtin.SmallTypes.nextOf (.ref i2) >>= _) _ _ _
 refine wpAny_bind (fP (h2.at' fun o e => hs₃.extBut _ _ D.TOi2.symm (hs₂.extBut _ _ D.i12.symm (hs₁.extBut _ _ D.i2z e))) (hl2.at' fun o e => hs₃.extBut _ _ l2TO (hs₂.extBut _ _ l2i1 (hs₁.extBut _ _ l2z e))) hy fun h₄ h2₄ hs₄ => wpAny_pure ?_)
 have hTO₄ : IsPair h₄ TO x b := hs₄.extBut _ _ D.TOi2 hTO₃
 refine wpAny_bind (wpAny_seqItems hTO₄ rfl ?_)
 refine wpAny_bind (wpAny_updateSeq_pair hTO₄ fun h₅ hTO₅ hs₅ => ?_)
 replace hTO₅ : IsPair h₅ TO x y := hTO₅
 refine wpAny_bind (wpAny_letGo (wpAny_pure (wpAny_pure ?_)))
 refine wpAny_bind (wpAny_seqItems hTO₅ rfl ?_)
 refine wpAny_bind (wpAny_newTuple ?_)
 have hsz : h₅.objs.size = s.heap.objs.size := by rw [hs₅.1, hs₄.1, hs₃.1, hs₂.1, hs₁.1]
 have hz₅ : IsZip h₅ z TI TO .ellipsis := hs₅.extBut _ _ D.TOz.symm (hs₄.extBut _ _ D.i2z.symm (hs₃.extBut _ _ D.TOz.symm (hs₂.extBut _ _ D.i1z.symm hz₁)))
 have hk₅ : ∀ c o, c ≠ z → c ≠ TO → c ≠ i1 → c ≠ i2 → s.heap.get? c = some o → h₅.get? c = some o := fun c o q1 q2 q3 q4 e =>
  hs₅.extBut _ _ q2 (hs₄.extBut _ _ q4 (hs₃.extBut _ _ q2 (hs₂.extBut _ _ q3 (hs₁.extBut _ _ q1 e))))
 have h1₅ : cW c1 h₅ i1 l1 (k1 + 1) := h1₂.at' fun o e => hs₅.extBut _ _ D.TOi1.symm (hs₄.extBut _ _ D.i12 (hs₃.extBut _ _ D.TOi1.symm e))
 have h2₅ : cW c2 h₅ i2 l2 (k2 + 1) := h2₄.at' fun o e => hs₅.extBut _ _ D.TOi2.symm e
 have hzlt : z < h₅.objs.size := Heap.lt_size hz₅
 show wpAny _ _ (Builtin.SmallTypes.ownedTupleHandOut (.ref z) (.ref h₅.objs.size) >>= _) _ _ _
 refine wpAny_bind ?_
 unfold Builtin.SmallTypes.ownedTupleHandOut
 have hz₆ : IsZip (h₅.push { cls := .type "tuple", data := .seq #[x, y] }) z TI TO .ellipsis := Heap.get?_push_of_some _ hz₅
 refine wpAny_bind (wpAny_setField_rec hz₆ (by simp) fun h₇ hz₇ hs₇ => ?_)
 replace hz₇ : IsZip h₇ z TI TO (rawInt h₅.objs.size) := hz₇
 refine wpAny_setField_rec hz₇ (by simp) fun h₈ hz₈ hs₈ => ?_
 replace hz₈ : IsZip h₈ z TI TO (rawInt h₅.objs.size) := hz₈
 have up : ∀ c o, c ≠ z → h₅.get? c = some o → h₈.get? c = some o := fun c o q1 e => hs₈.extBut _ _ q1 (hs₇.extBut _ _ q1 (Heap.get?_push_of_some _ e))
 have hT₈ : IsPair h₈ h₅.objs.size x y := hs₈.extBut _ _ (Nat.ne_of_gt hzlt) (hs₇.extBut _ _ (Nat.ne_of_gt hzlt) (Heap.get?_push_size _ rfl))
 have hz8 : h₈.objs.size = h₅.objs.size + 1 := by rw [hs₈.1, hs₇.1, Heap.size_push]
 rw [hsz] at hz₈ hT₈ hz8
 refine wpAny_pure ⟨_, rfl, ?_⟩
 show Q (.ref h₅.objs.size) _
 rw [hsz]
 exact hQ h₈ hz₈ (up _ _ D.TOz hTO₅) (h1₅.at' fun o e => up _ o D.i1z e) (h2₅.at' fun o e => up _ o D.i2z e) hT₈ hz8 fun c o q1 q2 q3 q4 e => up c o q1 (hk₅ c o q1 q2 q3 q4 e)
theorem zu {z TI TO i1 i2 l1 l2 : Addr} {c1 c2 : Bool} {k1 k2 : Nat} {xs ys : Array Value} {a b : Value} {Q : PySem.Fin → Shared → Prop} (hh : A.handled = none) (D : ZA z TI TO i1 i2)
  (l1z : l1 ≠ z) (l2z : l2 ≠ z) (l2i1 : l2 ≠ i1) (l2TO : l2 ≠ TO)
  (hz : IsZip s.heap z TI TO .none) (hTI : IsPair s.heap TI (.ref i1) (.ref i2)) (hTO : IsPair s.heap TO a b)
  (h1 : cW c1 s.heap i1 l1 k1) (h2 : cW c2 s.heap i2 l2 k2) (hl1 : fY c1 s.heap l1 xs) (hl2 : fY c2 s.heap l2 ys) (hend : xs[k1]? = none ∨ ys[k2]? = none)
  (hE : ∀ h' e, (∀ c o, c ≠ z → c ≠ TO → c ≠ i1 → c ≠ i2 → s.heap.get? c = some o → h'.get? c = some o) → (∃ o, h'.get? e = some o ∧ o.cls = .type "StopIteration") → E (.ref e) { s with heap := h' }) :
  wpAny (model prog w) A (Builtin.«zip.__next__» ⟨[.ref z], []⟩) Q E s := by
 show wpAny _ _ (field (.ref z) 2 >>= _) _ _ _
 refine wpAny_bind (wpAny_field hz rfl (x := .bool false) rfl ?_)
 show wpAny _ _ (field (.ref z) 3 >>= _) _ _ _
 refine wpAny_bind (wpAny_field hz rfl (x := .ref TI) rfl ?_)
 refine wpAny_bind (wpAny_seqItems hTI rfl ?_)
 show wpAny _ _ (Builtin.SmallTypes.ownedTupleIsFree (.ref z) >>= _) _ _ _
 refine wpAny_bind ?_
 unfold Builtin.SmallTypes.ownedTupleIsFree
 refine wpAny_bind (wpAny_field hz rfl (x := .none) rfl (wpAny_pure ?_))
 simp only [if_true]
 refine wpAny_bind (wpAny_rule ?_)
 refine wpAny_bind (wpAny_field hz rfl (x := .ref TO) rfl ?_)
 refine wpAny_bind (wpAny_setField_rec hz (by simp) fun h₁ hz₁ hs₁ => ?_)
 replace hz₁ : IsZip h₁ z TI TO .ellipsis := hz₁
 refine wpAny_bind ?_
 simp only [List.zipIdx_cons, List.zipIdx_nil, List.forIn_cons, List.forIn_nil]
 refine wpAny_bind (wpAny_bind (wpAny_onRaise ?_))
 show wpAny _ _ (Builtin.SmallTypes.nextOf (.ref i1) >>= _) _ _ _
 cases hx : xs[k1]? with
 | none =>
  refine wpAny_bind (iQ hh (h1.at' fun o e => hs₁.extBut _ _ D.i1z e) (hl1.at' fun o e => hs₁.extBut _ _ l1z e) hx fun h₂ e hs₂ he => ?_)
  obtain ⟨oe, hoe, hce⟩ := he
  have hz₂ : IsZip h₂ z TI TO .ellipsis := hs₂ _ _ D.i1z.symm hz₁
  have hez : e ≠ z := fun x => by subst x; rw [hz₂] at hoe; cases hoe; simp at hce
  exact wpAny_setField_rec hz₂ (by simp) fun h₃ _ hs₃ => hE h₃ e (fun c o q1 _ q3 _ x => hs₃.extBut _ _ q1 (hs₂ _ _ q3 (hs₁.extBut _ _ q1 x))) ⟨oe, hs₃.extBut _ _ hez hoe, hce⟩
 | some x =>
  have hy : ys[k2]? = none := by rcases hend with h | h; rw [hx] at h; cases h; exact h
  refine wpAny_bind (fP (h1.at' fun o e => hs₁.extBut _ _ D.i1z e) (hl1.at' fun o e => hs₁.extBut _ _ l1z e) hx fun h₂ h1₂ hs₂ => wpAny_pure ?_)
  have hTO₂ : IsPair h₂ TO a b := hs₂.extBut _ _ D.TOi1 (hs₁.extBut _ _ D.TOz hTO)
  refine wpAny_bind (wpAny_seqItems hTO₂ rfl ?_)
  refine wpAny_bind (wpAny_updateSeq_pair hTO₂ fun h₃ hTO₃ hs₃ => ?_)
  refine wpAny_bind (wpAny_letGo (wpAny_pure ?_))
  refine wpAny_bind (wpAny_bind (wpAny_onRaise ?_))
  show wpAny _ _ (Builtin.SmallTypes.nextOf (.ref i2) >>= _) _ _ _
  refine wpAny_bind (iQ hh (h2.at' fun o e => hs₃.extBut _ _ D.TOi2.symm (hs₂.extBut _ _ D.i12.symm (hs₁.extBut _ _ D.i2z e))) (hl2.at' fun o e => hs₃.extBut _ _ l2TO (hs₂.extBut _ _ l2i1 (hs₁.extBut _ _ l2z e))) hy fun h₄ e hs₄ he => ?_)
  obtain ⟨oe, hoe, hce⟩ := he
  have hz₄ : IsZip h₄ z TI TO .ellipsis := hs₄ _ _ D.i2z.symm (hs₃.extBut _ _ D.TOz.symm (hs₂.extBut _ _ D.i1z.symm hz₁))
  have hez : e ≠ z := fun x => by subst x; rw [hz₄] at hoe; cases hoe; simp at hce
  exact wpAny_setField_rec hz₄ (by simp) fun h₅ _ hs₅ => hE h₅ e (fun c o q1 q2 q3 q4 x => hs₅.extBut _ _ q1 (hs₄ _ _ q4 (hs₃.extBut _ _ q2 (hs₂.extBut _ _ q3 (hs₁.extBut _ _ q1 x))))) ⟨oe, hs₅.extBut _ _ hez hoe, hce⟩
end
end L2
namespace L2
open PySem PySem.Spec PyProof.Rows
section
variable {prog : Program} {w : World} {A : Around} {E : Value → Shared → Prop} {s : Shared}
theorem nH {z TI TO i1 i2 l1 l2 : Addr} {c1 c2 : Bool} {k1 k2 : Nat} {xs ys : Array Value} {x y a b : Value} {Q : Option Value → Shared → Prop} (D : ZA z TI TO i1 i2)
  (l1z : l1 ≠ z) (l2z : l2 ≠ z) (l2i1 : l2 ≠ i1) (l2TO : l2 ≠ TO)
  (hz : IsZip s.heap z TI TO .none) (hTI : IsPair s.heap TI (.ref i1) (.ref i2)) (hTO : IsPair s.heap TO a b)
  (h1 : cW c1 s.heap i1 l1 k1) (h2 : cW c2 s.heap i2 l2 k2) (hl1 : fY c1 s.heap l1 xs) (hl2 : fY c2 s.heap l2 ys) (hx : xs[k1]? = some x) (hy : ys[k2]? = some y)
  (hQ : ∀ h', IsZip h' z TI TO (rawInt s.heap.objs.size) → IsPair h' TO x y → cW c1 h' i1 l1 (k1 + 1) → cW c2 h' i2 l2 (k2 + 1) → IsPair h' s.heap.objs.size x y → h'.objs.size = s.heap.objs.size + 1 →
   (∀ c o, c ≠ z → c ≠ TO → c ≠ i1 → c ≠ i2 → s.heap.get? c = some o → h'.get? c = some o) → Q (some (.ref s.heap.objs.size)) { s with heap := h' }) :
  wpAny (model prog w) A (pyNext (.ref z)) Q E s := by
 have hT : s.TypeIs (.ref z) "zip" := ⟨_, hz, rfl⟩
 unfold pyNext
 exact wpAny_bind (wpAny_attempt (wpAny_callSpecial?_slot (name := Str.ofString "__next__") hT F.slot_zip_next
  (wpAny_call_entry F.slot_zip_next hT F.entry_zip_next
   (yE D l1z l2z l2i1 l2TO hz hTI hTO h1 h2 hl1 hl2 hx hy fun h' a1 a2 a3 a4 a5 a6 a7 => wpAny_pure (hQ h' a1 a2 a3 a4 a5 a6 a7)) (F.args_zip_next_1 _))))
theorem oJ {z TI TO i1 i2 l1 l2 : Addr} {c1 c2 : Bool} {k1 k2 : Nat} {xs ys : Array Value} {a b : Value} {Q : Option Value → Shared → Prop} (hh : A.handled = none) (D : ZA z TI TO i1 i2)
  (l1z : l1 ≠ z) (l2z : l2 ≠ z) (l2i1 : l2 ≠ i1) (l2TO : l2 ≠ TO)
  (hz : IsZip s.heap z TI TO .none) (hTI : IsPair s.heap TI (.ref i1) (.ref i2)) (hTO : IsPair s.heap TO a b)
  (h1 : cW c1 s.heap i1 l1 k1) (h2 : cW c2 s.heap i2 l2 k2) (hl1 : fY c1 s.heap l1 xs) (hl2 : fY c2 s.heap l2 ys) (hend : xs[k1]? = none ∨ ys[k2]? = none)
  (hQ : ∀ h', (∀ c o, c ≠ z → c ≠ TO → c ≠ i1 → c ≠ i2 → s.heap.get? c = some o → h'.get? c = some o) → Q none { s with heap := h' }) : wpAny (model prog w) A (pyNext (.ref z)) Q E s := by
 have hT : s.TypeIs (.ref z) "zip" := ⟨_, hz, rfl⟩
 unfold pyNext
 refine wpAny_bind (wpAny_attempt (wpAny_callSpecial?_slot (name := Str.ofString "__next__") hT F.slot_zip_next
  (wpAny_call_entry F.slot_zip_next hT F.entry_zip_next (zu hh D l1z l2z l2i1 l2TO hz hTI hTO h1 h2 hl1 hl2 hend fun h' e hk he => ?_) (F.args_zip_next_1 _))))
 obtain ⟨o, ho, hc⟩ := he
 refine wpAny_bind (wpAny_isInstance (T := "StopIteration") (b := true) ⟨o, ho, hc⟩ isSubtype_stop ?_)
 exact wpAny_pure (hQ _ hk)
def itTy (k : Bool) : String := if k = true then "tuple_iterator" else "list_iterator"
abbrev gQ (k : Bool) (l : Addr) : Obj := { cls := .type (itTy k), data := .fields #[.ref l, .int 0 0] }
theorem jc {k : Bool} {l : Addr} {xs : Array Value} {Q : Value → Shared → Prop} (hl : fY k s.heap l xs) (hQ : Q (.ref s.heap.objs.size) { s with heap := s.heap.push (gQ k l) }) : wpAny (model prog w) A (pyIter (.ref l)) Q E s := by
 cases k
 ·exact wpAny_pyIter_list hl hQ
 ·exact wpAny_pyIter_tuple hl hQ
end
abbrev zH2 (h : Heap) (c1 c2 : Bool) (l1 l2 : Addr) : Heap := (h.push (gQ c1 l1)).push (gQ c2 l2)
abbrev zH3 (h : Heap) (c1 c2 : Bool) (l1 l2 : Addr) : Heap := (zH2 h c1 c2 l1 l2).push { cls := .type "tuple", data := .seq #[.ref h.objs.size, .ref (h.push (gQ c1 l1)).objs.size] }
abbrev zH4 (h : Heap) (c1 c2 : Bool) (l1 l2 : Addr) : Heap := (zH3 h c1 c2 l1 l2).push { cls := .type "tuple", data := .seq #[.none, .none] }
abbrev zH5 (h : Heap) (c1 c2 : Bool) (l1 l2 : Addr) : Heap := (zH4 h c1 c2 l1 l2).push { cls := .type "zip", data := .fields #[.none, .bool false, .bool false, .ref (zH2 h c1 c2 l1 l2).objs.size, .ref (zH3 h c1 c2 l1 l2).objs.size] }
theorem By (c1 c2 : Bool) (l1 l2 : Addr) (xs ys : Array Value) :
  Meets (Builtin.«zip.__new__» ⟨[.type "zip", .ref l1, .ref l2], []⟩) (fun _ R s => fY c1 s.heap l1 xs ∧ fY c2 s.heap l2 ys ∧
   R (.ok (.ret (.ref (zH4 s.heap c1 c2 l1 l2).objs.size))) { s with heap := zH5 s.heap c1 c2 l1 l2 }) :=
 .of_wp fun prog w A R s h => by
  obtain ⟨hp, g, d, tk, os⟩ := s; obtain ⟨hl1, hl2, h⟩ := h
  have hsub := sub_zip
  have hL1 : fY c1 (Shared.heap ⟨hp, g, d, tk, os⟩) l1 xs := hl1
  have hL2 : fY c2 (Shared.heap ⟨hp.push (gQ c1 l1), g, d, tk, os⟩) l2 ys := hl2.at' fun o e => Heap.get?_push_of_some _ e
  wp_walk using jc hL1, jc hL2
  exact ⟨_, rfl, h⟩
section
variable {prog : Program} {w : World} {A : Around} {E : Value → Shared → Prop} {s : Shared}
theorem cW.new (k : Bool) (h : Heap) (l : Addr) : cW k (h.push (gQ k l)) h.objs.size l 0 := by
 cases k
 ·exact (⟨gQ false l, Heap.get?_push_size _ rfl, rfl, rfl⟩ : Heap.IsListIter _ _ _ 0)
 ·exact (⟨gQ true l, Heap.get?_push_size _ rfl, rfl, rfl⟩ : Heap.IsTupleIter _ _ _ 0)
theorem yN {c1 c2 : Bool} {l1 l2 : Addr} {xs ys : Array Value} {Q : Value → Shared → Prop} (hl1 : fY c1 s.heap l1 xs) (hl2 : fY c2 s.heap l2 ys)
  (h : ∀ h', IsZip h' (s.heap.objs.size + 4) (s.heap.objs.size + 2) (s.heap.objs.size + 3) .none → IsPair h' (s.heap.objs.size + 2) (.ref s.heap.objs.size) (.ref (s.heap.objs.size + 1)) →
   IsPair h' (s.heap.objs.size + 3) .none .none → cW c1 h' s.heap.objs.size l1 0 → cW c2 h' (s.heap.objs.size + 1) l2 0 → h'.objs.size = s.heap.objs.size + 5 →
   (∀ c o, s.heap.get? c = some o → h'.get? c = some o) → Q (.ref (s.heap.objs.size + 4)) { s with heap := h' }) :
  wpAny (model prog w) A (call (.type "zip") [.ref l1, .ref l2]) Q E s := by
 refine callType_new F.called_zip (by decide) (F.typeCall_zip_2 _ _) (F.newCall_zip_2 _ _) (fun obj => F.args_object_init_3 obj _ _) F.entry_zip_new
  (By c1 c2 l1 l2 xs ys) ⟨hl1, hl2, ?_⟩
 have z1 : (s.heap.push (gQ c1 l1)).objs.size = s.heap.objs.size + 1 := Heap.size_push ..
 have z2 : (zH2 s.heap c1 c2 l1 l2).objs.size = s.heap.objs.size + 2 := by rw [Heap.size_push, z1]
 have z3 : (zH3 s.heap c1 c2 l1 l2).objs.size = s.heap.objs.size + 3 := by rw [Heap.size_push, z2]
 have z4 : (zH4 s.heap c1 c2 l1 l2).objs.size = s.heap.objs.size + 4 := by rw [Heap.size_push, z3]
 have z5 : (zH5 s.heap c1 c2 l1 l2).objs.size = s.heap.objs.size + 5 := by rw [Heap.size_push, z4]
 have g5 : (zH5 s.heap c1 c2 l1 l2).get? (zH4 s.heap c1 c2 l1 l2).objs.size = some _ := Heap.get?_push_size _ rfl
 have g4 : (zH5 s.heap c1 c2 l1 l2).get? (zH3 s.heap c1 c2 l1 l2).objs.size = some _ := Heap.get?_push_of_some _ (Heap.get?_push_size _ rfl)
 have g3 : (zH5 s.heap c1 c2 l1 l2).get? (zH2 s.heap c1 c2 l1 l2).objs.size = some _ := Heap.get?_push_of_some _ (Heap.get?_push_of_some _ (Heap.get?_push_size _ rfl))
 have g2 : cW c2 (zH5 s.heap c1 c2 l1 l2) (s.heap.push (gQ c1 l1)).objs.size l2 0 := (cW.new c2 _ l2).at' fun o e => Heap.get?_push_of_some _ (Heap.get?_push_of_some _ (Heap.get?_push_of_some _ e))
 have g1 : cW c1 (zH5 s.heap c1 c2 l1 l2) s.heap.objs.size l1 0 := (cW.new c1 _ l1).at' fun o e => Heap.get?_push_of_some _ (Heap.get?_push_of_some _ (Heap.get?_push_of_some _ (Heap.get?_push_of_some _ e)))
 show _ ∧ _
 rw [z2, z3, z4] at g5
 rw [z1, z2] at g3
 rw [z3] at g4
 rw [z1] at g2
 rw [z4]
 exact ⟨⟨_, g5, rfl⟩, h _ g5 g3 g4 g1 g2 z5 fun c o x =>
  Heap.get?_push_of_some _ (Heap.get?_push_of_some _ (Heap.get?_push_of_some _ (Heap.get?_push_of_some _ (Heap.get?_push_of_some _ x))))⟩
end
def SqB (c : Bool) (K : PySem.W.Frag) (H : Hp) (a : Addr) (xs : List V) : Prop := if c = true then SqT K H a xs else SqL K H a xs
section
variable {X : Cx} {pins : List (Addr × Obj)} {σ : L2.St} {H H' : Hp} {s : Shared} {h' : Heap}
theorem Inv.sqB {c : Bool} {a : Addr} {xs : List V} (I : Inv X pins σ H s) (h : SqB c X.K H a xs) : ∃ its : List Value, Vals xs its ∧ fY c s.heap a its.toArray ∧ xs.length ≤ sizeLine := by
 cases c
 ·obtain ⟨its, r, p, hz⟩ := I.list (show SqL X.K H a xs from h)
  exact ⟨its, r, p.isList, hz⟩
 ·obtain ⟨its, r, p, hz⟩ := I.tuple (show SqT X.K H a xs from h)
  exact ⟨its, r, p, hz⟩
theorem Inv.sqB_inj {c : Bool} {a : Addr} {xs ys : List V} (I : Inv X pins σ H s) (h : SqB c X.K H a xs) (h' : SqB c X.K H a ys) : xs = ys := by
 cases c
 ·exact I.list_inj (show SqL X.K H a xs from h) h'
 ·exact I.tuple_inj (show SqT X.K H a xs from h) h'
theorem Inv.sqB_ne {c : Bool} {a b : Addr} {xs : List V} (I : Inv X pins σ H s) (h : SqB c X.K H a xs) (f : jd X pins H b) : a ≠ b := by
 have key : (∃ o, H a = some o) ∨ ∃ o, X.K.lookup a = some o := by
  cases c
  ·rcases (show SqL X.K H a xs from h) with (h | ⟨o, h⟩) | ⟨o, _, _, h, _⟩
   ·exact .inl ⟨_, h⟩
   ·exact .inl ⟨_, h⟩
   ·exact .inr ⟨_, h⟩
  ·rcases (show SqT X.K H a xs from h) with (h | ⟨o, h⟩) | ⟨o, _, _, h, _⟩
   ·exact .inl ⟨_, h⟩
   ·exact .inl ⟨_, h⟩
   ·exact .inr ⟨_, h⟩
 intro z
 subst z
 rcases key with ⟨o, e⟩ | ⟨o, e⟩
 ·rw [f.1] at e; cases e
 ·have e' := I.ok.mod.kin a o e
  rcases f.2.2.2.1 with q | q
  ·exact I.ok.noex a o e' q
  ·exact absurd (Nat.lt_of_lt_of_le (Heap.lt_size (I.ok.bs a o e').1) q) (Nat.lt_irrefl _)
theorem Inv.turnedL {t' : Nat} {fp : List Addr} (I : Inv X pins σ H s) (k : ∀ b o, b ∉ fp → s.heap.get? b = some o → h'.get? b = some o) (hf : ∀ b ∈ fp, jd X pins H b) : Inv X pins σ H { s with heap := h', toks := t' } := by
 have nit : ∀ b u, H b = some u → b ∉ fp := fun b u e z => by rw [(hf b z).1] at e; cases e
 refine I.step (g' := s.gens) (d' := s.drawn) (ch := fp) (fun b hb => ?_) (fun b o _ _ hc e _ => k b o hc e) (fun b o _ _ hc e _ => ⟨o.slots, k b o hc e⟩) (fun _ _ _ _ n => n)
  (fun b o hc e => ⟨o, k b o hc e⟩) (fun _ _ e => e) (fun _ _ _ e => e) (fun b ps e => ⟨#[], by rw [e]; simp⟩) (fun m hm => ?_) (fun b u e => ?_) I.bare.again
 ·obtain ⟨f0, f1, f2, f3, f4, f5⟩ := hf b hb
  exact ⟨f3, f1, f4, f5⟩
 ·obtain ⟨o, es, ep, ho, r⟩ := hm
  exact ⟨o, es, ep, k _ o (fun z => (hf _ z).2.1 rfl) ho, r⟩
 ·refine (I.hok b u e).stay (fun c v hc q => k c v ?_ q) (fun _ q => q) fun _ _ q => q
  rcases hc with z | z
  ·rw [z]; exact nit b u e
  ·exact nit c _ z
end
def Itz (K : PySem.W.Frag) (c1 c2 : Bool) (a1 a2 : Addr) : It :=
 ⟨fun i H => (∃ xs x, SqB c1 K H a1 xs ∧ xs[i]? = some x) ∧ ∃ ys y, SqB c2 K H a2 ys ∧ ys[i]? = some y,
  fun i H v H' => ∃ p x y, v = .ref p ∧ H p = none ∧ H' = upd H p (.tup [x, y]) ∧ (∀ xs, SqB c1 K H a1 xs → xs[i]? = some x) ∧ ∀ ys, SqB c2 K H a2 ys → ys[i]? = some y,
  fun i H => ∃ xs ys, SqB c1 K H a1 xs ∧ SqB c2 K H a2 ys ∧ (xs.length ≤ i ∨ ys.length ≤ i)⟩
def ZSt (c1 c2 : Bool) (z TI TO i1 i2 a1 a2 : Addr) (i : Nat) (h : Heap) : Prop :=
 IsZip h z TI TO .none ∧ IsPair h TI (.ref i1) (.ref i2) ∧ (∃ a b, IsPair h TO a b) ∧ cW c1 h i1 a1 i ∧ cW c2 h i2 a2 i
theorem uX {h : Heap} {o u : Obj} {b : Addr} (e : (h.push o).get? b = some u) (hb : b ≠ h.objs.size) : h.get? b = some u := by
 unfold Heap.get? at e ⊢
 have hp : (h.push o).objs[b]? = h.objs[b]? := by
  show (h.objs.push o)[b]? = h.objs[b]?
  rw [Array.getElem?_push, if_neg hb]
 rw [hp] at e
 exact e
theorem zV {P : Program} {w : World} {K : PySem.W.Frag} {elts : List Expr} {kk : Nat} {pos : Pos} (c1 c2 : Bool) (z TI TO i1 i2 a1 a2 : Addr) (D : ZA z TI TO i1 i2) :
  Turn P w K (.Tuple elts kk pos) (Itz K c1 c2 a1 a2) [z, TI, TO, i1, i2] z (ZSt c1 c2 z TI TO i1 i2 a1 a2) where
 mem := by simp
 obj := fun i h st b hb => by
  obtain ⟨hz, hTI, ⟨a, b', hTO⟩, h1, h2⟩ := st
  simp only [List.mem_cons, List.not_mem_nil, or_false] at hb
  rcases hb with rfl | rfl | rfl | rfl | rfl
  ·exact ⟨_, hz, fun v q => by cases q⟩
  ·exact ⟨_, hTI, fun v q => by cases q⟩
  ·exact ⟨_, hTO, fun v q => by cases q⟩
  ·obtain ⟨o, e, d, _⟩ := h1.obj; exact ⟨o, e, d⟩
  ·obtain ⟨o, e, d, _⟩ := h2.obj; exact ⟨o, e, d⟩
 keep := fun i h h' st k => by
  obtain ⟨hz, hTI, ⟨a, b', hTO⟩, h1, h2⟩ := st
  exact ⟨k z (by simp) _ hz, k TI (by simp) _ hTI, ⟨a, b', k TO (by simp) _ hTO⟩, h1.at' fun o e => k i1 (by simp) o e, h2.at' fun o e => k i2 (by simp) o e⟩
 item := by
  intro X hP hw hK hc i pins s σ H E I hf st hg
  subst hP hw hK
  obtain ⟨hz, hTI, ⟨a, b', hTO⟩, h1, h2⟩ := st
  obtain ⟨⟨xs, x, hx, ex⟩, ys, y, hy, ey⟩ := hg
  obtain ⟨its1, r1, p1, z1⟩ := I.sqB hx
  obtain ⟨its2, r2, p2, z2⟩ := I.sqB hy
  obtain ⟨u1, eu1, ru1⟩ := r1.get ex
  obtain ⟨u2, eu2, ru2⟩ := r2.get ey
  have fz := hf z (by simp)
  have fTO := hf TO (by simp)
  have fi1 := hf i1 (by simp)
  have ltz : z < s.heap.objs.size := Heap.lt_size hz
  have ltTI : TI < s.heap.objs.size := Heap.lt_size hTI
  have ltTO : TO < s.heap.objs.size := Heap.lt_size hTO
  have lti1 : i1 < s.heap.objs.size := let ⟨_, e, _⟩ := h1.obj; Heap.lt_size e
  have lti2 : i2 < s.heap.objs.size := let ⟨_, e, _⟩ := h2.obj; Heap.lt_size e
  refine nH D (I.sqB_ne hx fz) (I.sqB_ne hy fz) (I.sqB_ne hy fi1) (I.sqB_ne hy fTO) hz hTI hTO h1 h2 p1 p2 (x := u1) (y := u2) (by simpa using eu1) (by simpa using eu2) fun h' q1 q2 q3 q4 q5 q6 q7 => ⟨_, rfl, ?_⟩
  refine wpAny_letOwnedTupleGo_zip q1 fun h2' y1 y2 => ?_
  have hpn : H s.heap.objs.size = none := I.hok.fresh (Nat.le_refl _)
  have IA : Inv X pins σ (upd H s.heap.objs.size (.tup [x, y])) { s with heap := s.heap.push { cls := .type "tuple", data := .seq #[u1, u2] } } :=
   I.laid (t' := s.toks) (o := .tup [x, y]) (fun b ob q => Heap.get?_push_of_some _ q) (Nat.le_refl _) ⟨by show 2 ≤ sizeLine; decide, [u1, u2], .cons ru1 (.cons ru2 .nil), IsTup.new _ _⟩
  have hne : ∀ b ∈ [z, TI, TO, i1, i2], b ≠ s.heap.objs.size := fun b hb => by
   simp only [List.mem_cons, List.not_mem_nil, or_false] at hb
   rcases hb with rfl | rfl | rfl | rfl | rfl
   ·exact Nat.ne_of_lt ltz
   ·exact Nat.ne_of_lt ltTI
   ·exact Nat.ne_of_lt ltTO
   ·exact Nat.ne_of_lt lti1
   ·exact Nat.ne_of_lt lti2
  have hf' : ∀ b ∈ [z, TI, TO, i1, i2], jd X pins (upd H s.heap.objs.size (.tup [x, y])) b := fun b hb => by
   obtain ⟨f0, f1⟩ := hf b hb
   exact ⟨by rw [aK (hne b hb)]; exact f0, f1⟩
  have IB : Inv X pins σ (upd H s.heap.objs.size (.tup [x, y])) { s with heap := h2' } := by
   refine Inv.turnedL (s := { s with heap := s.heap.push { cls := .type "tuple", data := .seq #[u1, u2] } }) (t' := s.toks) (fp := [z, TI, TO, i1, i2]) IA (fun b o hb e => ?_) hf'
   simp only [List.mem_cons, List.not_mem_nil, or_false, not_or] at hb
   obtain ⟨b1, b2, b3, b4, b5⟩ := hb
   by_cases hs : b = s.heap.objs.size
   ·subst hs
    have e' : some ({ cls := .type "tuple", data := .seq #[u1, u2] } : Obj) = some o := (Heap.get?_push_size s.heap rfl).symm.trans e
    cases e'
    exact y2.extBut _ _ b1 q5
   ·exact y2.extBut _ _ b1 (q7 b o b1 b3 b4 b5 (uX e hs))
  refine ⟨.ref s.heap.objs.size, _, IB, rfl, ⟨_, x, y, rfl, hpn, rfl, fun zs hzs => by rw [I.sqB_inj hzs hx]; exact ex, fun zs hzs => by rw [I.sqB_inj hzs hy]; exact ey⟩, ?_, fun b hb => (hf' b hb).1⟩
  exact ⟨y1, y2.extBut _ _ D.TIz (q7 _ _ D.TIz D.TITO D.TIi1 D.TIi2 hTI), ⟨_, _, y2.extBut _ _ D.TOz q2⟩, q3.at' fun o e => y2.extBut _ _ D.i1z e, q4.at' fun o e => y2.extBut _ _ D.i2z e⟩
 done := by
  intro X hP hw hK hc i pins s σ H E I hf st hg
  subst hP hw hK
  obtain ⟨hz, hTI, ⟨a, b', hTO⟩, h1, h2⟩ := st
  obtain ⟨xs, ys, hx, hy, hend⟩ := hg
  obtain ⟨its1, r1, p1, z1⟩ := I.sqB hx
  obtain ⟨its2, r2, p2, z2⟩ := I.sqB hy
  have fz := hf z (by simp)
  have fTO := hf TO (by simp)
  have fi1 := hf i1 (by simp)
  have l1 := r1.length
  have l2 := r2.length
  refine oJ (I.ok.hd hc) D (I.sqB_ne hx fz) (I.sqB_ne hy fz) (I.sqB_ne hy fi1) (I.sqB_ne hy fTO) hz hTI hTO h1 h2 p1 p2 ?_ fun h' q => ⟨rfl, I.turnedL (t' := s.toks) (fp := [z, TI, TO, i1, i2]) (fun b o hb e => ?_) hf⟩
  ·rcases hend with h | h
   ·exact .inl (by simp; omega)
   ·exact .inr (by simp; omega)
  ·simp only [List.mem_cons, List.not_mem_nil, or_false, not_or] at hb
   exact q b o hb.1 hb.2.2.1 hb.2.2.2.1 hb.2.2.2.2 e
 self := fun _ _ _ _ _ st h => wpAny_pyIter_zip st.1 h
def iZip (K : PySem.W.Frag) (ta : TA) : TI := fun σ H R => ta σ H fun vs H1 => ∃ a1 a2 c1 c2, vs = [.ref a1, .ref a2] ∧ (∃ xs, SqB c1 K H1 a1 xs) ∧ (∃ ys, SqB c2 K H1 a2 ys) ∧ R (Itz K c1 c2 a1 a2) H1
section
variable {X : Cx}
theorem Hs {a b : Expr} {ta : TA} {p pos p' : Pos} {elts : List Expr} {kk : Nat} (hg : Gl X "zip") (hm : X.mg "zip" = none) (ha : PA X [a, b] ta) (hs : starEach [a, b] X.env = [(false, eval a X.env), (false, eval b X.env)] := by rfl) (hs2 : starEach [b] X.env = [(false, eval b X.env)] := by rfl) :
  PI X (.Tuple elts kk p') (.Call (.Name "zip" p) [a, b] [] pos) (iZip X.K ta) := by
 intro pins s σ H R I h
 refine Call_ (jn I hg hm boot_zip (PyProof.Rows.callWith_type1 (thn (ha pos pins s σ H _ I h) fun us s1 ⟨vs, H1, I1, r1, q1⟩ => ?_) (by rw [hs, hs2]) (by rw [hs2]; rfl)))
 obtain ⟨a1, a2, c1, c2, rfl, ⟨xs, hx⟩, ⟨ys, hy⟩, q⟩ := q1
 obtain ⟨u, v, rfl, ru, rv⟩ := vals2 r1
 cases ru
 cases rv
 obtain ⟨its1, _, p1, _⟩ := I1.sqB hx
 obtain ⟨its2, _, p2, _⟩ := I1.sqB hy
 refine yN p1 p2 fun h' g1 g2 g3 g4 g5 g6 g7 => ?_
 refine wpAny_pyIter_zip g1 ?_
 refine ⟨_, [s1.heap.objs.size + 4, s1.heap.objs.size + 2, s1.heap.objs.size + 3, s1.heap.objs.size, s1.heap.objs.size + 1], _, _, H1, rfl, I1.kept (t' := s1.toks) g7, zV c1 c2 _ _ _ _ _ a1 a2 ?_, ⟨g1, g2, ⟨_, _, g3⟩, g4, g5⟩, fun b hb => ?_, q⟩
 ·constructor <;> first | exact Nat.ne_of_lt (by omega) | exact Nat.ne_of_gt (by omega)
 ·have hb' : s1.heap.objs.size ≤ b := by
   simp only [List.mem_cons, List.not_mem_nil, or_false] at hb
   rcases hb with q | q | q | q | q <;> rw [q] <;> first | exact Nat.le_add_right _ _ | exact Nat.le_refl _
  exact I1.fpOk hb' (I1.hok.fresh hb')
end
end L2
namespace L3
open PySem PySem.Spec PyProof.Rows L2
def bM : D → Mu → Option (List D)
 | .tup ds, _ => some ds
 | .lst ds, _ => some ds
 | .ro ds, _ => some ds
 | .cell n, μ => match μ[n]? with
  | some (some ds) => some ds
  | _ => none
 | _, _ => none
def wz : D → Bool
 | .tup _ => true
 | _ => false
section
variable {K : PySem.W.Frag} {tb : List Addr}
theorem jX {W : Wd} {x : D} {v : V} {ds : List D} (ok : WOk K tb W) (h : Den K tb W x v) (e : bM x W.mu = some ds) : ∃ a xs, v = .ref a ∧ SqB (wz x) K W.H a xs ∧ cB K tb W ds xs := by
 cases x with
 | tup es => cases e; obtain ⟨a, xs, rfl, q, r⟩ := gD h; exact ⟨a, xs, rfl, SqT.fz q, r⟩
 | lst es => cases e; obtain ⟨a, xs, rfl, q, r⟩ := jr h; exact ⟨a, xs, rfl, SqL.fz q, r⟩
 | ro es => cases e; obtain ⟨a, xs, rfl, q, r⟩ := vz h; exact ⟨a, xs, rfl, SqL.fz q, r⟩
 | cell n =>
  obtain ⟨a, rfl, q⟩ := gY h
  have e' : (match W.mu[n]? with | some (some ds) => some ds | _ => none) = some ds := e
  cases e2 : W.mu[n]? with
  | none => rw [e2] at e'; cases e'
  | some o =>
   cases o with
   | none => rw [e2] at e'; cases e'
   | some es =>
    rw [e2] at e'
    cases e'
    obtain ⟨xs, e3, r⟩ := ok.cont n a ds q e2
    exact ⟨a, xs, rfl, SqL.of e3, r⟩
 | _ => cases e
theorem SqB.or {c : Bool} {H : Hp} {a : Addr} {xs : List V} (h : SqB c K H a xs) : SqL K H a xs ∨ SqT K H a xs := by
 cases c
 ·exact .inl h
 ·exact .inr h
end
theorem Fg {K : PySem.W.Frag} {tb : List Addr} {W : Wd} {ds : List D} {xs : List V} {i : Int} {d : D} (r : cB K tb W ds xs) (h : atI ds i = some d) : ∃ v, atI xs i = some v ∧ Den K tb W d v := by
 unfold atI at h ⊢
 rw [← az.length r]
 cases e : ixN ds.length i with
 | none => rw [e] at h; cases h
 | some j =>
  rw [e] at h
  exact az.get r h
def oIx : O2 := fun x y μ => match y with
 | .int i => (bM x μ).bind fun ds => (atI ds i).map fun d => (d, μ)
 | _ => none
def bN : O1' := fun x μ => match x with
 | .str y => if y.length ≤ sizeLine then some (.int y.length, μ) else none
 | _ => (bM x μ).map fun ds => (.int ds.length, μ)
def lF : O1' := fun x μ => match x with
 | .int i => some (.int (if i < 0 then -i else i), μ)
 | _ => none
def ik : O1' := fun x μ => match x with
 | .int i => some (.int (-i), μ)
 | _ => none
def lw (op : O2) : ON := fun xs μ => match xs with
 | [x, y] => op x y μ
 | _ => none
theorem wy {op : O2} {xs : List D} {μ : Mu} {r : D × Mu} (h : lw op xs μ = some r) : ∃ x y, xs = [x, y] ∧ op x y μ = some r := by
 unfold lw at h
 split at h
 ·exact ⟨_, _, rfl, h⟩
 ·cases h
def nT : O2 := fun x y μ => match x, y with
 | .int i, .int j => some (.int (if j < i then j else i), μ)
 | _, _ => none
def fV : ON := fun xs μ => match xs with
 | [x] => (bM x μ).map fun ds => (.tup ds, μ)
 | _ => none
def Di (T : String) : D → Option Bool
 | .non => some false
 | .bl _ => some (T == "bool" || T == "int")
 | .int _ => some (T == "int")
 | .str _ => some (T == "str")
 | .tup _ => some (T == "tuple")
 | .lst _ => some (T == "list")
 | .ro _ => some (T == "list")
 | .dic _ => some (T == "dict")
 | .cell _ => none
def jt (T : String) : O1' := fun x μ => match x with
 | .cell n => match μ[n]? with
  | some (some _) => some (.bl (T == "list"), μ)
  | _ => none
 | _ => (Di T x).map fun k => (.bl k, μ)
section
variable {X : Cx} {tb : List Addr} {a b e : Expr} {fa fb f : EF} {fs : AF} {p pos : Pos}
theorem gP (ha : PD X tb a fa) (hb : PD X tb b fb) (hs : xO b := by intro _ _; rfl) : PD X tb (.Subscript a b pos) (M2 fa fb oIx) :=
 vY (fun ta tb' ha hb => JH Gq ha hb hs) (fun W x y v u d μ' Q ok dx dy ho h => by
  cases y with
  | int i =>
   obtain ⟨ds, e1, e2⟩ := Option.bind_eq_some_iff.mp (show ((bM x W.mu).bind fun ds => (atI ds i).map fun d => (d, W.mu)) = some (d, μ') from ho)
   obtain ⟨d0, e3, e4⟩ := Option.map_eq_some_iff.mp e2
   cases e4
   rw [bh dy]
   obtain ⟨a, xs, rfl, q, r⟩ := jX ok dx e1
   obtain ⟨v, ev, dv⟩ := Fg r e3
   rcases SqB.or q with q | q
   ·exact .inl ⟨a, xs, i, v, rfl, rfl, q, ev, put ok h dv⟩
   ·exact .inr (.inl ⟨a, xs, i, v, rfl, rfl, q, ev, put ok h dv⟩)
  | _ => cases ho) ha hb
theorem iM (ha : PD X tb a fa) : PD X tb (.UnaryOp .USub a pos) (M1 fa ik) :=
 GP (fun ta ha => JP Hg ha) (fun W x v d μ' Q ok dx ho h => by
  cases x with
  | int i => cases ho; rw [bh dx]; exact ⟨i, rfl, put ok h cY⟩
  | _ => cases ho) ha
def aO (op : O1') : ON := fun xs μ => match xs with
 | [x] => op x μ
 | _ => none
theorem qz {op : O1'} {xs : List D} {μ : Mu} {r : D × Mu} (h : aO op xs μ = some r) : ∃ x, xs = [x] ∧ op x μ = some r := by
 unfold aO at h
 split at h
 ·exact ⟨_, rfl, h⟩
 ·cases h
theorem vp {xs : List D} {μ : Mu} {r : D × Mu} (h : fV xs μ = some r) : ∃ x, xs = [x] ∧ fV [x] μ = some r := by
 unfold fV at h
 split at h
 ·exact ⟨_, rfl, h⟩
 ·cases h
theorem dB (hm : X.mg "len" = none) (ha : PAD X tb [a] fs) (hg : Gl X "len" := by rfl) (he : starEach [a] X.env = (false, eval a X.env) :: starEach [] X.env := by rfl) : PD X tb (.Call (.Name "len" p) [a] [] pos) (MC fs (aO bN)) :=
 yH (fun ta ha => lU (sV.or uc) hg hm PySem.boot_len ha (by decide) (by decide) he (by rfl)) (fun W xs vs d μ' Q ok r ho h => by
  obtain ⟨x, rfl, ho⟩ := qz ho
  obtain ⟨v, rfl, dv⟩ := az.one r
  have gen : ∀ ds, bM x W.mu = some ds → some (D.int ds.length, W.mu) = some (d, μ') → ((∃ p ys, [v] = [V.ref p] ∧ (SqL X.K W.H p ys ∨ SqT X.K W.H p ys) ∧ Q (.int ys.length) W.H) ∨ ∃ z, [v] = [V.str z] ∧ z.length ≤ sizeLine ∧ Q (.int z.length) W.H) := fun ds e1 e2 => by
   cases e2
   obtain ⟨a, xs, e, q, r⟩ := jX ok dv e1
   exact Or.inl ⟨a, xs, by rw [e], SqB.or q, by rw [← az.length r]; exact put ok h cY⟩
  cases x with
  | str y =>
   have ho' : (if y.length ≤ sizeLine then some (D.int y.length, W.mu) else none) = some (d, μ') := ho
   split at ho'
   ·rename_i hz
    cases ho'
    rw [pG dv]
    exact .inr ⟨y, rfl, hz, put ok h cY⟩
   ·cases ho'
  | tup ds => exact gen ds rfl ho
  | lst ds => exact gen ds rfl ho
  | ro ds => exact gen ds rfl ho
  | cell n =>
   obtain ⟨ds, e1, e2⟩ := Option.map_eq_some_iff.mp (show (bM (.cell n) W.mu).map (fun ds => (D.int ds.length, W.mu)) = some (d, μ') from ho)
   exact gen ds e1 (congrArg some e2)
  | _ => cases ho) ha
theorem pA (hm : X.mg "abs" = none) (ha : PAD X tb [a] fs) (hg : Gl X "abs" := by rfl) (he : starEach [a] X.env = (false, eval a X.env) :: starEach [] X.env := by rfl) : PD X tb (.Call (.Name "abs" p) [a] [] pos) (MC fs (aO lF)) :=
 yH (fun ta ha => lU zU hg hm PyProof.Rows.boot_abs ha (by decide) (by decide) he (by rfl)) (fun W xs vs d μ' Q ok r ho h => by
  obtain ⟨x, rfl, ho⟩ := qz ho
  obtain ⟨v, rfl, dv⟩ := az.one r
  cases x with
  | int i => cases ho; rw [bh dv]; exact ⟨i, rfl, put ok h cY⟩
  | _ => cases ho) ha
theorem xK (hc : X.calm = true) (hm : X.mg "min" = none) (ha : PAD X tb [a, b] fs) (hg : Gl X "min" := by rfl) (he : starEach [a, b] X.env = (false, eval a X.env) :: starEach [b] X.env := by rfl) (hpl : (backTo pos (starEach [b] X.env)).any (·.1) = false := by rfl) : PD X tb (.Call (.Name "min" p) [a, b] [] pos) (MC fs (lw nT)) :=
 yH (fun ta ha => lU (yS hc) hg hm PyProof.Rows.boot_min ha (by decide) (by decide) he hpl) (fun W xs vs d μ' Q ok r ho h => by
  obtain ⟨x, y, rfl, ho⟩ := wy ho
  obtain ⟨u, v, rfl, du, dv⟩ := az.two r
  cases x with
  | int i =>
   cases y with
   | int j =>
    cases ho
    rw [bh du, bh dv]
    exact ⟨i, j, rfl, put ok h cY⟩
   | _ => cases ho
  | _ => cases ho) ha
theorem iZ (hm : X.mg "tuple" = none) (ha : PAD X tb [a] fs) (hg : Gl X "tuple" := by rfl) (he : starEach [a] X.env = (false, eval a X.env) :: starEach [] X.env := by rfl) : PD X tb (.Call (.Name "tuple" p) [a] [] pos) (MC fs fV) :=
 yH (fun ta ha => rY qK hg hm PyProof.Rows.boot_tuple ha (by decide) (by decide) he (by rfl)) (fun W xs vs d μ' Q ok r ho h => by
  obtain ⟨x, rfl, ho⟩ := vp ho
  obtain ⟨v, rfl, dv⟩ := az.one r
  obtain ⟨ds, e1, e2⟩ := Option.map_eq_some_iff.mp (show (bM x W.mu).map (fun ds => (D.tup ds, W.mu)) = some (d, μ') from ho)
  cases e2
  by_cases ht : ∃ es, x = .tup es
  ·obtain ⟨es, rfl⟩ := ht
   cases e1
   obtain ⟨a, xs, rfl, q, r⟩ := gD dv
   exact ⟨a, xs, rfl, .inr ⟨SqT.fz q, put ok h dv⟩⟩
  ·obtain ⟨a, xs, rfl, q, r⟩ := jX ok dv e1
   have hf : wz x = false := by cases x <;> first | rfl | exact absurd ⟨_, rfl⟩ ht
   rw [hf] at q
   exact ⟨a, xs, rfl, .inl ⟨q, fun l hl => lR ok h r hl⟩⟩) ha
def lOf (fs : AF) : LF := fun δ μ => (fs δ μ).bind fun r => match r.1 with
 | [x] => (bM x r.2).map fun ds => (ds, r.2)
 | _ => none
theorem Br (hm : X.mg "list" = none) (ha : PAD X tb [a] fs) (hg : Gl X "list" := by rfl) (he : starEach [a] X.env = (false, eval a X.env) :: starEach [] X.env := by rfl) : PDN X tb (.Call (.Name "list" p) [a] [] pos) (lOf fs) :=
 dH (rY sO hg hm PyProof.Rows.boot_list ha (by decide) (by decide) he (by rfl)) fun σ H Q zq1 => by
  obtain ⟨W, δ, ds, μ', e, ok, hd, hf, k⟩ := zq1
  unfold lOf at hf
  obtain ⟨⟨xs, μ1⟩, e1, e2⟩ := Option.bind_eq_some_iff.mp hf
  match xs, e1, e2 with
  | [x], e1, e2 =>
   obtain ⟨ds', e3, e4⟩ := Option.map_eq_some_iff.mp (show (bM x μ1).map (fun ds => (ds, μ1)) = some (ds, μ') from e2)
   cases e4
   refine ⟨W, δ, [x], _, e, ok, hd, e1, fun vs W1 ok1 l1 m1 d1 => ?_⟩
   obtain ⟨v, rfl, dv⟩ := az.one d1
   obtain ⟨a, xs, rfl, q, r⟩ := jX ok1 dv (by rw [m1]; exact e3)
   exact ⟨a, xs, rfl, SqB.or q, fun l hl => k l xs W1 ok1 l1 m1 hl r⟩
theorem lG {T : Str} {tn : String} {pt : Pos} (hm : X.mg "isinstance" = none) (hmT : X.mg T = none) (hT : bootBuiltins T = some (.type tn)) (hmem : tn ∈ Fi) (ha : PD X tb a fa) (hg : Gl X "isinstance" := by rfl) (hgT : Gl X T := by rfl) (hn : T ≠ "__name__" := by decide) (hdb : (T == ("__debug__" : Str)) = false := by decide)
  (hs : starEach [a, .Name T pt] X.env = (false, eval a X.env) :: starEach [.Name T pt] X.env := by rfl) : PD X tb (.Call (.Name "isinstance" p) [a, .Name T pt] [] pos) (M1 fa (jt tn)) :=
 dH (lU zO hg hm PyProof.Rows.boot_isinstance (oR ha (oR (Dc hgT hmT hT (v := .ty tn) rfl hn hdb) vQ) hs) (by decide) (by decide) hs (by rfl)) fun σ H Q zq2 => by
  obtain ⟨W, δ, d, μ', e, ok, hd, hf, h⟩ := zq2
  unfold M1 at hf
  obtain ⟨⟨x, μ1⟩, e1, e2⟩ := Option.bind_eq_some_iff.mp hf
  refine ⟨W, δ, x, μ1, e, ok, hd, e1, fun v W1 ok1 l1 m1 d1 => ?_⟩
  have fin : ∀ k, Gn X.K tn v W1.H k → some (D.bl k, μ1) = some (d, μ') → ∃ x T k, [v, V.ty tn] = [x, .ty T] ∧ T ∈ Fi ∧ Gn X.K T x W1.H k ∧ Q (.bl k) W1.H := fun k hk e => by
   cases e
   exact ⟨v, tn, k, rfl, hmem, hk, h _ W1 ok1 l1 m1 fL⟩
  cases x with
  | non => rw [BL d1] at fin ⊢; exact fin _ rfl e2
  | bl b => rw [nY d1] at fin ⊢; exact fin _ rfl e2
  | int b => rw [bh d1] at fin ⊢; exact fin _ rfl e2
  | str b => rw [pG d1] at fin ⊢; exact fin _ rfl e2
  | tup ds => obtain ⟨a, xs, rfl, q, r⟩ := gD d1; exact fin _ (.inr (.inl ⟨rfl, xs, SqT.fz q⟩)) e2
  | lst ds => obtain ⟨a, xs, rfl, q, r⟩ := jr d1; exact fin _ (.inl ⟨rfl, xs, SqL.fz q⟩) e2
  | ro ds => obtain ⟨a, xs, rfl, q, r⟩ := vz d1; exact fin _ (.inl ⟨rfl, xs, SqL.fz q⟩) e2
  | dic ds => obtain ⟨a, xs, rfl, q, r⟩ := Hi d1; exact fin _ (.inr (.inr ⟨rfl, xs, (cX q).1⟩)) e2
  | cell n =>
   have e2' : (match μ1[n]? with | some (some _) => some (D.bl (tn == "list"), μ1) | _ => none) = some (d, μ') := e2
   obtain ⟨a, rfl, q⟩ := gY d1
   cases e4 : μ1[n]? with
   | none => rw [e4] at e2'; cases e2'
   | some o =>
    cases o with
    | none => rw [e4] at e2'; cases e2'
    | some ds =>
     rw [e4] at e2'
     obtain ⟨xs, ex, _⟩ := ok1.cont n a ds q (by rw [m1]; exact e4)
     exact fin _ (.inl ⟨rfl, xs, SqL.of ex⟩) e2'
def gJ (μ : Mu) (n : Nat) : Bool := match μ[n]? with
 | some (some _) => true
 | _ => false
theorem uG {μ : Mu} {n : Nat} (h : gJ μ n = true) : ∃ ds, μ[n]? = some (some ds) := by
 unfold gJ at h
 split at h
 ·exact ⟨_, by assumption⟩
 ·cases h
def gK (fo : EF) (fs : AF) : EF := fun δ μ => (fo δ μ).bind fun r => (fs δ r.2).bind fun q => match r.1, q.1 with
 | .cell n, [y] => match q.2[n]? with
  | some (some ds) => if gJ r.2 n = true ∧ ds.length < sizeLine then some (.non, q.2.set n (some (ds ++ [y]))) else none
  | _ => none
 | _, _ => none
theorem gf {o : Expr} {fo : EF} {apos cpos : Pos} (ho : PD X tb o fo) (ha : PAD X tb [e] fs)
  (hbase : attributeBase o "append" X.env (eval o X.env) = eval o X.env := by rfl)
  (hfew : ((backTo cpos (starEach [e] X.env)).all (fun x => !x.1) && (backToKw cpos (keywordEach [] X.env)).all (fun x => x.1.isSome)
   && decide ([e].length + ([] : List Keyword).length + (if ([] : List Keyword).isEmpty then 0 else 1) < 30)) = true := by rfl)
  (hline : (apos.endLine == cpos.line) = true := by rfl) (hs : starEach [e] X.env = (false, eval e X.env) :: starEach [] X.env := by rfl) : PD X tb (.Call (.Attribute o "append" apos) [e] [] cpos) (gK fo fs) :=
 dH (Fw PySem.F.plainAttrs_list PySem.F.slot_list_append PySem.F.type_list_append yG ho ha hbase hfew hline hs (by rfl)) fun σ H Q zq3 => by
  obtain ⟨W, δ, d, μ', e, ok, hd, hf, h⟩ := zq3
  unfold gK at hf
  obtain ⟨⟨x, μ1⟩, e1, hf⟩ := Option.bind_eq_some_iff.mp hf
  obtain ⟨⟨ys, μ2⟩, e2, hf⟩ := Option.bind_eq_some_iff.mp hf
  refine ⟨W, δ, x, μ1, e, ok, hd, e1, fun v W1 ok1 l1 m1 d1 => ?_⟩
  match x, ys, e1, e2, hf, d1 with
  | .cell n, [y], e1, e2, hf, d1 =>
   have hf' : (match μ2[n]? with | some (some ds) => if gJ μ1 n = true ∧ ds.length < sizeLine then some (D.non, μ2.set n (some (ds ++ [y]))) else none | _ => none) = some (d, μ') := hf
   cases e4 : μ2[n]? with
   | none => rw [e4] at hf'; cases hf'
   | some oo =>
    cases oo with
    | none => rw [e4] at hf'; cases hf'
    | some ds =>
     rw [e4] at hf'
     have hf'' : (if gJ μ1 n = true ∧ ds.length < sizeLine then some (D.non, μ2.set n (some (ds ++ [y]))) else none) = some (d, μ') := hf'
     split at hf''
     ·rename_i hz
      cases hf''
      obtain ⟨a, rfl, q⟩ := gY d1
      obtain ⟨ds0, e5⟩ := uG hz.1
      obtain ⟨xs0, ex0, _⟩ := ok1.cont n a ds0 q (by rw [m1]; exact e5)
      refine ⟨.inl ⟨rfl, xs0, SqL.of ex0⟩, W1, δ, [y], μ2, rfl, ok1, hd.mono' l1, (by rw [m1]; exact e2), fun vs W2 ok2 l2 m2 d2 => ?_⟩
      obtain ⟨u, rfl, du⟩ := az.one d2
      have q2 := l2.ad _ _ q
      have e6 : W2.mu[n]? = some (some ds) := by rw [m2]; exact e4
      obtain ⟨xs, ex, r⟩ := ok2.cont n a ds q2 e6
      refine ⟨a, xs, u, rfl, rfl, ex, by rw [← az.length r]; exact hz.2, ?_⟩
      obtain ⟨ok3, l3⟩ := ok2.write q2 e6 (az.append r (az.cons du az.nil))
      exact h .non _ ok3 ((l1.trans l2).trans l3) (by rw [← m2]) oO
     ·cases hf''
def xr (fo : EF) : EF := fun δ μ => (fo δ μ).bind fun r => match r.1 with
 | .cell n => match r.2[n]? with
  | some (some (y :: ds)) => some (y, r.2.set n (some ds))
  | _ => none
 | _ => none
theorem Dw {o : Expr} {fo : EF} {apos cpos p0 : Pos} {j} (ho : PD X tb o fo)
  (hbase : attributeBase o "pop" X.env (eval o X.env) = eval o X.env := by rfl)
  (hfew : ((backTo cpos (starEach [.Constant (.int 0) j p0] X.env)).all (fun x => !x.1) && (backToKw cpos (keywordEach [] X.env)).all (fun x => x.1.isSome)
   && decide ([Expr.Constant (.int 0) j p0].length + ([] : List Keyword).length + (if ([] : List Keyword).isEmpty then 0 else 1) < 30)) = true := by rfl)
  (hline : (apos.endLine == cpos.line) = true := by rfl) : PD X tb (.Call (.Attribute o "pop" apos) [.Constant (.int 0) j p0] [] cpos) (xr fo) :=
 dH (Fw PySem.F.plainAttrs_list PySem.F.slot_list_pop PySem.F.type_list_pop Be ho (oR zz vQ) hbase hfew hline (by rfl) (by rfl)) fun σ H Q zq4 => by
  obtain ⟨W, δ, d, μ', e, ok, hd, hf, h⟩ := zq4
  unfold xr at hf
  obtain ⟨⟨x, μ1⟩, e1, hf⟩ := Option.bind_eq_some_iff.mp hf
  refine ⟨W, δ, x, μ1, e, ok, hd, e1, fun v W1 ok1 l1 m1 d1 => ?_⟩
  cases x with
  | cell n =>
   have hf' : (match μ1[n]? with | some (some (y :: ds)) => some (y, μ1.set n (some ds)) | _ => none) = some (d, μ') := hf
   cases e4 : μ1[n]? with
   | none => rw [e4] at hf'; cases hf'
   | some oo =>
    match oo, e4 with
    | none, e4 => rw [e4] at hf'; cases hf'
    | some [], e4 => rw [e4] at hf'; cases hf'
    | some (y :: ds), e4 =>
     rw [e4] at hf'
     have hf'' : some (y, μ1.set n (some ds)) = some (d, μ') := hf'
     cases hf''
     obtain ⟨a, rfl, q⟩ := gY d1
     have e6 : W1.mu[n]? = some (some (d :: ds)) := by rw [m1]; exact e4
     obtain ⟨xs, ex, r⟩ := ok1.cont n a _ q e6
     have r' : az _ _ _ _ _ := r
     unfold az at r'
     obtain ⟨u, us, rfl, du, r2⟩ := r'
     refine ⟨.inl ⟨rfl, _, SqL.of ex⟩, a, u :: us, 0, 0, u, rfl, rfl, ex, by decide, by decide, ?_, rfl, ?_⟩
     ·simp [seqIndex?]
     ·obtain ⟨ok3, l3⟩ := ok1.write q e6 r2
      exact h u _ ok3 (l1.trans l3) (by rw [← m1]) (Den.mono' du l3)
  | _ => cases hf
theorem pdv (i : Nat) {x : Str} (hN : X.N[i]? = some x := by rfl) (hv : Vis X.env.scope x := by first | exact Or.inl rfl | exact Or.inr (Or.inl rfl) | exact Or.inr (Or.inr rfl)) (hd : (x == ("__debug__" : Str)) = false := by decide) (hcd : (x == ("__classdict__" : Str)) = false := by decide) : PD X tb (.Name x pos) (ak i) := Ip hN hv hd hcd
end
end L3
namespace L2
open PySem PySem.Spec PyProof.Rows
section
variable {X : Cx} {e : Expr} {es : List Expr} {te : TE} {t : TA}
end
end L2
namespace L3
open PySem PySem.Spec PyProof.Rows L2
section
variable {X : Cx} {tb : List Addr} {a b e : Expr} {es : List Expr} {fa fb f : EF} {fs : AF} {p pos : Pos}
def jA : List D → List D → List D
 | x :: xs, y :: ys => .tup [x, y] :: jA xs ys
 | _, _ => []
theorem uH : ∀ {xs ys : List D} {i : Nat} {d : D}, (jA xs ys)[i]? = some d → ∃ x y, d = .tup [x, y] ∧ xs[i]? = some x ∧ ys[i]? = some y
 | [], ys, i, d, h => by simp [jA] at h
 | x :: xs, [], i, d, h => by simp [jA] at h
 | x :: xs, y :: ys, 0, d, h => by
  have h' : some (D.tup [x, y]) = some d := by simpa [jA] using h
  cases h'
  exact ⟨x, y, rfl, rfl, rfl⟩
 | x :: xs, y :: ys, i + 1, d, h => by
  obtain ⟨u, v, e, e1, e2⟩ := uH (xs := xs) (ys := ys) (i := i) (by simpa [jA] using h)
  exact ⟨u, v, e, by simpa using e1, by simpa using e2⟩
theorem uP : ∀ (xs ys : List D), (jA xs ys).length = min xs.length ys.length
 | [], ys => by simp [jA]
 | x :: xs, [] => by simp [jA]
 | x :: xs, y :: ys => by simp [jA, uP xs ys]
def cI : D → Option (List D)
 | .tup ds => some ds
 | .lst ds => some ds
 | .ro ds => some ds
 | _ => none
theorem vO {K : PySem.W.Frag} {W : Wd} {x : D} {v : V} {ds : List D} (h : Den K tb W x v) (e : cI x = some ds) : ∃ a xs, v = .ref a ∧ SqB (wz x) K (W.fz tb) a xs ∧ cB K tb W ds xs := by
 cases x with
 | tup es => cases e; obtain ⟨a, xs, rfl, q, r⟩ := gD h; exact ⟨a, xs, rfl, q, r⟩
 | lst es => cases e; obtain ⟨a, xs, rfl, q, r⟩ := jr h; exact ⟨a, xs, rfl, q, r⟩
 | ro es => cases e; obtain ⟨a, xs, rfl, q, r⟩ := vz h; exact ⟨a, xs, rfl, q, r⟩
 | _ => cases e
theorem gF {K : PySem.W.Frag} {c : Bool} {W0 W : Wd} {a : Addr} {xs : List V} (h : SqB c K (W0.fz tb) a xs) (l : Le tb W0 W) : SqB c K W.H a xs := by
 cases c
 ·exact SqL.fz (SqL.mono l.same (show SqL K (W0.fz tb) a xs from h))
 ·exact SqT.fz (SqT.mono l.same (show SqT K (W0.fz tb) a xs from h))
def qD (fs : AF) : IF := fun δ μ => (fs δ μ).bind fun r => match r.1 with
 | [x, y] => (cI x).bind fun xs => (cI y).map fun ys => (⟨jA xs ys, none⟩, r.2)
 | _ => none
theorem tV {p' : Pos} {elts : List Expr} {kk : Nat} (hm : X.mg "zip" = none) (ha : PAD X tb [a, b] fs) (hg : Gl X "zip" := by rfl) (hs : starEach [a, b] X.env = [(false, eval a X.env), (false, eval b X.env)] := by rfl) (hs2 : starEach [b] X.env = [(false, eval b X.env)] := by rfl) :
  PID X tb (.Tuple elts kk p') (.Call (.Name "zip" p) [a, b] [] pos) (qD fs) :=
 wY (Hs hg hm ha hs hs2) fun σ H R zq4 => by
  obtain ⟨W, δ, S, μ', e, ok, hd, hf, h⟩ := zq4
  unfold qD at hf
  obtain ⟨⟨zs, μ1⟩, e1, hf⟩ := Option.bind_eq_some_iff.mp hf
  match zs, e1, hf with
  | [x, y], e1, hf =>
   obtain ⟨xs, e2, hf⟩ := Option.bind_eq_some_iff.mp (show ((cI x).bind fun xs => (cI y).map fun ys => ((⟨jA xs ys, none⟩ : Src), μ1)) = some (S, μ') from hf)
   obtain ⟨ys, e3, e4⟩ := Option.map_eq_some_iff.mp hf
   cases e4
   refine ⟨W, δ, [x, y], _, e, ok, hd, e1, fun vs W1 ok1 l1 m1 d1 => ?_⟩
   obtain ⟨u, v, rfl, du, dv⟩ := az.two d1
   obtain ⟨a1, us, rfl, q1, r1⟩ := vO du e2
   obtain ⟨a2, ws, rfl, q2, r2⟩ := vO dv e3
   refine ⟨a1, a2, _, _, rfl, ⟨us, gF q1 (Le.refl _)⟩, ⟨ws, gF q2 (Le.refl _)⟩, h _ W1 ok1 l1 m1 ⟨fun i W2 d l ok2 _ ei => ?_, fun i W2 l ok2 _ hi => ?_⟩⟩
   ·obtain ⟨x0, y0, rfl, ex, ey⟩ := uH ei
    obtain ⟨vx, evx, dvx⟩ := az.get (cB.mono' r1 l) ex
    obtain ⟨vy, evy, dvy⟩ := az.get (cB.mono' r2 l) ey
    refine ⟨⟨⟨us, vx, gF q1 l, evx⟩, ws, vy, gF q2 l, evy⟩, fun z H' ⟨p, x', y', ez, hp, eH, hx', hy'⟩ => ?_⟩
    have ex' := hx' us (gF q1 l)
    have ey' := hy' ws (gF q2 l)
    rw [evx] at ex'; cases ex'
    rw [evy] at ey'; cases ey'
    obtain ⟨ok3, l3, e3⟩ := ok2.alloc (o := .tup [vx, vy]) hp
    refine ⟨_, eH.symm, ok3, l3, rfl, ?_⟩
    rw [ez]
    show aQ _ _ _ _ _
    unfold aQ
    exact ⟨p, [vx, vy], rfl, .inl (.inl e3), cB.mono' (az.cons dvx (az.cons dvy az.nil)) l3⟩
   ·have hi' : min xs.length ys.length ≤ i := by rw [← uP]; exact hi
    have l1' := az.length r1
    have l2' := az.length r2
    refine ⟨us, ws, gF q1 l, gF q2 l, ?_⟩
    omega
end
end L3
namespace L3
open PySem PySem.Spec PyProof.Rows L2
theorem yo {K : PySem.W.Frag} {F : Hp} {ad : List Addr} : ∀ (ns : List Int), az K F ad (ns.map D.int) (ns.map V.int)
 | [] => az.nil
 | n :: ns => az.cons (by unfold aQ; rfl) (yo ns)
theorem yW {P : Program} {w : World} {K : PySem.W.Frag} {mg mb : Str → Option Value} {k : Nat} {fa a : Addr} {fd : FuncData} {x : Str} {s₁ : Shared} {vs : List Value} {ns : List Int} {tb : List Addr} {φ : FF} {μ' : Mu}
  (KX : K.In s₁.heap) (hns : s₁.heap.Ns mainGlobals mg) (hb : s₁.heap.Ns builtinsNs mb) (hbb : ∀ x : Str, x ≠ "__name__" → mb x = bootBuiltins x) (hlim : s₁.heap.NoLimit)
  (hbm : ∃ bm ob, mg "__builtins__" = some (.ref bm) ∧ bm ≠ builtinsNs ∧ s₁.heap.get? bm = some ob ∧ ob.cls = .type "module" ∧ ob.dict = some builtinsNs ∧ ob.data = .plain) (hg : s₁.gens = #[])
  (ha : s₁.heap.get? a = some { cls := .type "list", data := .seq vs.toArray }) (hi : IntsAre vs ns) (hl : ns.length ≤ sizeLine) (hr : eQ k callerA)
  (htb : ∀ P ∈ tb, ∃ c, PySem.W.CodeHd s₁.heap c P ∧ s₁.heap.get? P = some (PySem.W.tabObj #[])) (hnt : PySem.W.noTabs K = true)
  (F : ∀ base : Heap, K.In base → base.Ns mainGlobals mg → lA P w K mg base CX0 k fa fd [x] (spD K tb 1 φ)) (hbind : ∀ (s : Shared) (u : Value), BindsTo s fd ⟨[u], []⟩ [(x, u)])
  (hsp : φ [.ro (ns.map .int)] [] = some (.bl true, μ')) :
  codeAny (model P w) callerA (.call (.ref fa) ⟨[.ref a], []⟩) (fun r s' => r = .ok (.ret (.bool true)) ∧ OldK s₁.heap s'.heap ∧ s'.os = s₁.os ∧ AllBare s'.gens) s₁ := by
 have rv := qT hi
 have lenV := hi.length
 have hat : a ∉ tb := fun z => by
  obtain ⟨c, _, e⟩ := htb a z
  rw [ha] at e; cases e
 have hKt : ∀ P ∈ tb, K.lookup P = none := fun P hP => by
  cases q : K.lookup P with
  | none => rfl
  | some o =>
   obtain ⟨c, _, e⟩ := htb P hP
   have e2 := KX P o q
   rw [e] at e2
   cases e2
   have h2 := List.all_eq_true.mp hnt (P, _) (PySem.W.mem_of_lookupK q)
   exact absurd (show false = true from h2) Bool.false_ne_true
 have core : ∀ H : Hp, (∀ b, H b = none ∨ (b = a ∧ ∃ o xs, H b = some (.frz o (.lst xs))) ∨ (b ∈ tb ∧ H b = some (.tbl #[]))) → SqL K H a (ns.map V.int) → HOk P w H s₁.heap → (∀ P ∈ tb, H P = some (.tbl #[])) → (H a ≠ none → K.lookup a = none) →
   codeAny (model P w) callerA (.call (.ref fa) ⟨[.ref a], []⟩) (fun r s' => r = .ok (.ret (.bool true)) ∧ OldK s₁.heap s'.heap ∧ s'.os = s₁.os ∧ AllBare s'.gens) s₁ := by
  intro H hO hS hok hT hK
  have base_of : ∀ {b : Addr} {o : Obj}, s₁.heap.get? b = some o → H b = none → (sJ s₁.heap H).get? b = some o := fun e n => zA e n
  have noH : ∀ {b : Addr} {o : Obj}, s₁.heap.get? b = some o → o.cls ≠ .type "list" → o.cls ≠ .none → H b = none := fun {b o} e d1 d2 => by
   rcases hO b with z | ⟨rfl, _⟩ | ⟨z, _⟩
   ·exact z
   ·rw [ha] at e; cases e; exact absurd rfl d1
   ·obtain ⟨c, _, e2⟩ := htb b z
    rw [e2] at e; cases e; exact absurd rfl d2
  have noA : ∀ {b : Addr} {o : Obj} {es : Array DictEntry} {ep : Nat}, s₁.heap.get? b = some o → o.data = .dict es ep → H b = none := fun {b o es ep} e d => by
   rcases hO b with z | ⟨rfl, _⟩ | ⟨z, _⟩
   ·exact z
   ·rw [ha] at e; cases e; cases d
   ·obtain ⟨c, _, e2⟩ := htb b z
    rw [e2] at e; cases e; cases d
  have nsK : ∀ {b : Addr} {m : Str → Option Value}, s₁.heap.Ns b m → (sJ s₁.heap H).Ns b m := fun {b m} ⟨o, es, ep, e, d, r⟩ => ⟨o, es, ep, base_of e (noA e d), d, r⟩
  have hKb : K.In (sJ s₁.heap H) := fun b o e => base_of (KX b o e) (by
   rcases hO b with z | ⟨rfl, _, _, z⟩ | ⟨z, _⟩
   ·exact z
   ·rw [hK (by rw [z]; simp)] at e; cases e
   ·rw [hKt b z] at e; cases e)
  have hM : Mod K mg (sJ s₁.heap H) := ⟨hKb, nsK hns, ⟨mb, nsK hb, hbb⟩, (let ⟨mc, h1, h2⟩ := hlim; ⟨mc, nsK h1, h2⟩), (let ⟨bm, ob, h1, h2, h3, h4, r⟩ := hbm; ⟨bm, ob, h1, h2, base_of h3 (noH h3 (by rw [h4]; decide) (by rw [h4]; decide)), h4, r⟩)⟩
  have e0 : Dm P w K mg (sJ s₁.heap H) callerA [] s₁ H := ⟨rfl, hM, fun b o e => CN e, Nat.le_of_eq (yP _ _), trivial, fun b hb => absurd (show b ∈ ([] : List Addr) from hb) (by simp), hok, .of_eq hg⟩
  have okW : WOk K tb ⟨H, [], []⟩ := ⟨rfl, fun i a ds e => by simp at e, fun i j a ds es e => by simp at e, fun P hP => ⟨#[], hT P hP, by unfold TriplesOk; trivial⟩⟩
  have nlive : ∀ b, ¬ lg ([] : List Addr) ([] : Mu) b := fun b ⟨i, ds, e, _⟩ => by simp at e
  have fzA : Wd.fz tb ⟨H, [], []⟩ a = H a := lY (W := ⟨H, [], []⟩) (nlive a) hat
  have hden : Den K tb ⟨H, [], []⟩ (.ro (ns.map .int)) (.ref a) := by
   show aQ _ _ _ _ _
   unfold aQ
   refine ⟨a, _, rfl, ?_, yo ns⟩
   rcases hS with (h | ⟨o, h⟩) | h
   ·exact .inl (.inl (fzA.trans h))
   ·exact .inl (.inr ⟨o, fzA.trans h⟩)
   ·exact .inr h
  refine codeAny_mono ((F _ hKb (nsK hns)).run callerA [] s₁ H ⟨[.ref a], []⟩ [.ref a] [.ref a] (fun v _ => v = .bl true) (fun _ _ _ => False) hr e0 (hbind s₁ (.ref a)) (.cons rfl .nil)
   ⟨⟨H, [], []⟩, [.ro (ns.map .int)], _, _, rfl, okW, az.cons hden az.nil, rfl, hsp, fun v W' _ _ _ dv => nY dv⟩) fun r s' h => ?_
  cases r with
  | error e => exact False.elim h
  | ok fl =>
   cases fl with
   | next => exact False.elim h
   | brk => exact False.elim h
   | cont => exact False.elim h
   | ret u =>
    obtain ⟨v, H', os, bare, un, hok', r', q⟩ := h
    have q' : v = .bl true := q
    subst q'
    obtain rfl : u = Value.bool true := r'
    have old : ∀ b o, s₁.heap.get? b = some o → asItWas s₁.heap s'.heap b o ∧ ∃ o', s'.heap.get? b = some o' := fun b o e => by
     rcases hO b with z | ⟨rfl, ob, xs, z⟩ | ⟨hb, z⟩
     ·have := un.keep b o e z (by intro z; exact absurd (show b ∈ ([] : List Addr) from z) (by simp)) (by simp)
      exact ⟨.inl this, o, this⟩
     ·have z2 := un.frzs b ob _ z
      obtain ⟨e1, _⟩ := hok b _ z
      obtain ⟨e2, _⟩ := hok' b _ z2
      rw [e] at e1; cases e1
      exact ⟨.inl e2, _, e2⟩
     ·obtain ⟨more, z2⟩ := un.tbls b _ z
      have e2 := hok' b _ z2
      obtain ⟨c, hd, hp⟩ := htb b hb
      rw [hp] at e; cases e
      have e3 : s'.heap.get? b = some { cls := .none, data := .fields (#[] ++ more) } := e2
      exact ⟨.inr (.inl ⟨(hd.tab hp).isCodeTable, rfl, #[], more, rfl, e3⟩), _, e3⟩
    exact ⟨rfl, ⟨fun b o e => (old b o e).1, fun b o e => (old b o e).2⟩, os, bare.bare⟩
 have tbOk : ∀ {H : Hp} {b : Addr}, b ∈ tb → fU P w H s₁.heap b (.tbl #[]) := fun {H b} hb => by
  obtain ⟨c, _, e⟩ := htb b hb
  exact e
 classical
 cases hk : K.lookup a with
 | some o =>
  have e := KX a o hk
  rw [ha] at e
  cases e
  refine core (fun b => if b ∈ tb then some (.tbl #[]) else none) (fun b => ?_) (.inr ⟨_, vs.toArray, _, hk, rfl, rfl, rfl, by rw [List.size_toArray, lenV]; exact hl, by simpa using rv⟩) (fun b u z => ?_) (fun P hP => if_pos hP) fun z => absurd (if_neg hat) z
  ·by_cases hb : b ∈ tb
   ·exact .inr (.inr ⟨hb, if_pos hb⟩)
   ·exact .inl (if_neg hb)
  ·by_cases hb : b ∈ tb
   ·have z' := (if_pos hb).symm.trans z
    cases z'
    exact tbOk hb
   ·have z' := (if_neg hb).symm.trans z
    cases z'
 | none =>
  refine core (fun b => if b = a then some (.frz { cls := .type "list", data := .seq vs.toArray } (.lst (ns.map V.int))) else if b ∈ tb then some (.tbl #[]) else none) (fun b => ?_) (.inl (.inr ⟨{ cls := .type "list", data := .seq vs.toArray }, if_pos rfl⟩)) (fun b u z => ?_) (fun P hP => ?_) fun _ => hk
  ·by_cases hb : b = a
   ·exact .inr (.inl ⟨hb, _, _, if_pos hb⟩)
   ·by_cases hb' : b ∈ tb
    ·exact .inr (.inr ⟨hb', (if_neg hb).trans (if_pos hb')⟩)
    ·exact .inl ((if_neg hb).trans (if_neg hb'))
  ·by_cases hb : b = a
   ·have z' := (if_pos hb).symm.trans z
    cases z'
    subst hb
    exact ⟨ha, by rw [List.length_map]; exact hl, vs, _, rv, ha⟩
   ·have z1 := (if_neg hb).symm.trans z
    by_cases hb' : b ∈ tb
    ·have z' := (if_pos hb').symm.trans z1
     cases z'
     exact tbOk hb'
    ·have z' := (if_neg hb').symm.trans z1
     cases z'
  ·have hne : P ≠ a := fun z => hat (z ▸ hP)
   exact (if_neg hne).trans (if_pos hP)
theorem zM {l : PySem.W.OpenLaw} {n k : Nat} {q : Program} {loose : List Str} {XP : (Str → Option Value) → Heap → Prop} {YP : World → Heap → Prop} {d : DefRec} {K : Params → PySem.W.Frag} {x : Str} {φ : FF}
  (hn : l.most = some n) (hn2 : n ≤ sizeLine) (hdf : d.params.defaults = []) (hr : eQ k callerA)
  (hY : ∀ (w : World) (h : Heap), YP w h → (K w.params).In h)
  (F : ∀ (w : World) (mg mb : Str → Option Value) (mean : ExcName → Option Value) (lo : List Str) (fa : Addr) (h : Heap), (K w.params).In h → Top q lo mean mg mb h → mg d.name = some (.ref fa) →
   ∃ (fd : FuncData) (tb : List Addr), (∀ (s : Shared) (u : Value), BindsTo s fd ⟨[u], []⟩ [(x, u)]) ∧ (∀ P ∈ tb, ∃ c, PySem.W.CodeHd h c P ∧ h.get? P = some (PySem.W.tabObj #[])) ∧ PySem.W.noTabs (K w.params) = true ∧
    ∀ base : Heap, (K w.params).In base → base.Ns mainGlobals mg → lA l.prog w (K w.params) mg base CX0 k fa fd [x] (spD (K w.params) tb 1 φ))
  (hsp : ∀ (ns : List Int), ns.length ≤ n → ∃ μ', φ [.ro (ns.map .int)] [] = some (.bl true, μ')) :
  PySem.W.WalkO q loose XP YP l.row.toRowW d [] (fun f vs => PySem.call f vs) := by
 refine Att.attach_call hn hdf fun w s₀ s₁ mg mb fa o pm cd doc a vs ns G Y ho hd hcd hmg hobj hints hlen hg => ?_
 have KX := hY w _ Y
 obtain ⟨fd, tb, hb, htb, hnt, hF⟩ := F w mg mb _ _ fa _ KX G.T hmg
 obtain ⟨μ', hs⟩ := hsp ns hlen
 exact yW KX G.T.g G.T.b G.T.builtins G.T.nolimit G.T.bmain hg hobj hints (Nat.le_trans hlen hn2) hr htb hnt hF hb hs
end L3
namespace L2
open PySem PySem.Spec PyProof.Rows
section
variable {X : Cx} {tg iter elt : Expr} {ifs : List Expr} {wi : TI} {g : TG} {tt : TT} {te : TE} {own cap : List Str} {capI : List Nat} {scope : Scope} {pos : Pos}
theorem Ke {i₀ : Nat} {x₀ : Str} {px₀ spos : Pos} (hN : X.N.Nodup) (hi₀ : X.N[i₀]? = some x₀) (hx₀ : Loc X.env.scope x₀) (hc : X.calm = true) (B : eN X own cap capI scope) (hown : ∀ x ∈ own, (x, NameKind.free) ∉ scope.names) (hi : PI X tg iter wi)
  (hg : ∀ cs C fp s2 H2, PG (cQ X own cap scope cs C fp s2 H2) tg g) (ht : ∀ cs C fp s2 H2, PIf (cQ X own cap scope cs C fp s2 H2) ifs tt) (he : ∀ cs C fp s2 H2, PE (cQ X own cap scope cs C fp s2 H2) elt te)
  (hs : ∀ x, foldedSetIterable iter X.env x = pure x := by intro _; rfl) (hsw : swapsWith (.ListComp elt [⟨tg, iter, ifs, 0⟩] scope pos) (some (.Name x₀ px₀)) spos.line X.env = pure true := by rfl)
  (hf₀ : X.fn x₀ = true ∨ X.env.scope.names.lookup x₀ = some .local := by first | exact .inl rfl | exact .inr rfl | assumption) :
  PS X (.Assign [.Name x₀ px₀] (.ListComp elt [⟨tg, iter, ifs, 0⟩] scope pos) spos) (Jd (tLC own capI wi g tt te) (Ca i₀)) := by
 intro pins s σ H D I h
 rw [exec_Assign_Name_used _ _ _ _ hsw]
 refine wpAny_bind (wpAny_standAt (wpAny_bind ?_))
 show wpAny _ X.A (do let _ ← comprehension (.ListComp elt [⟨tg, iter, ifs, 0⟩] scope pos) scope X.env _ (newList []) false (eval iter X.env) (some (assign (.Name x₀ px₀) X.env))) _ _ s
 refine wpAny_bind (wpAny_mono (wpAny_comprehension_free (use := some (assign (.Name x₀ px₀) X.env)) (Q := fun _ s' => SP X pins D .next s') (cl := bY X.env scope.names []) rfl hs (iR (B.cells I)) B.kind (fun y hy e => cT B.nd (by rw [← e]; exact hy)) ?_) (fun _ s' hq => wpAny_pure (wpAny_pure hq)) fun _ _ e => e)
 refine thn (hi pins s σ H _ I h) fun v s1 h1 => thn h1 fun itv s2 h2 => ?_
 obtain ⟨it, fp, tn, J, H2, e, I2, T, st2, f2, W, ⟨m0, w0⟩, turn⟩ := h2
 subst e
 refine wpAny_newObj_type (lq ?_)
 dsimp only
 generalize hl : s2.heap.objs.size = l
 generalize hh0 : s2.heap.push { cls := .type "list", dict := none, data := .seq ([] : List Value).toArray } = h0
 have hsz0 : h0.objs.size = l + 1 := by rw [← hh0, Heap.size_push, hl]
 generalize hC : h0.objs.size = C
 generalize hh1 : pushCells (h0.push { cls := .type (if (some X.env).isSome = true then "dict" else "frame"), data := .dict #[] }) scope.names = h1
 have hl0 : h0.get? l = some (bB [] 0) := by rw [← hh0, ← hl]; exact Heap.get?_push_size _ rfl
 have hk0 : ∀ b o, s2.heap.get? b = some o → h0.get? b = some o := fun b o e => by rw [← hh0]; exact Heap.get?_push_of_some _ e
 have hlC : l ≠ C := by rw [← hC, hsz0]; exact Nat.ne_of_lt (Nat.lt_succ_self _)
 have hls : s2.heap.objs.size ≤ l := Nat.le_of_eq hl
 have hCs : s2.heap.objs.size ≤ C := by rw [← hC, hsz0, hl]; exact Nat.le_succ _
 have ho2 : ∀ b ∈ fp, ∃ o, s2.heap.get? b = some o := fun b hb => let ⟨o, e, _⟩ := T.obj 0 _ st2 b hb; ⟨o, e⟩
 have hfl : ∀ b ∈ fp, b ≠ l ∧ b ≠ C := fun b hb => let ⟨o, e⟩ := ho2 b hb; ⟨Nat.ne_of_lt (Nat.lt_of_lt_of_le (Heap.lt_size e) hls), Nat.ne_of_lt (Nat.lt_of_lt_of_le (Heap.lt_size e) hCs)⟩
 have hl1 : h1.get? l = some (bB [] 0) := by rw [← hh1]; exact pushCells_keeps _ _ _ _ (Heap.get?_push_of_some _ hl0)
 have keep1 : ∀ b o, s2.heap.get? b = some o → h1.get? b = some o := fun b o e => by rw [← hh1]; exact pushCells_keeps _ _ _ _ (Heap.get?_push_of_some _ (hk0 b o e))
 generalize hcs : cellsFrom (C + 1) scope.names (bY X.env scope.names []) = cs
 have I0 : Inv (cQ X own cap scope cs C fp s2 H2) [] (bV own σ capI) H2 { s2 with heap := h1 } := by
  have q := I2.comp (tk := s2.toks) B hown f2 ho2 hk0 (by rw [hsz0, hl]; exact Nat.le_succ _) hC.symm hh1.symm
  rw [hcs] at q
  exact q
 have henv : (newEnv scope C X.env.globals cs X.env.qual none .none (some X.env) builtinsNs) = { compEnvC scope cs C X.env with scope := scope } := rfl
 have henv2 : ({ newEnv scope C X.env.globals cs X.env.qual none .none (some X.env) builtinsNs with scope := relabel scope X.env } : Env) = (cQ X own cap scope cs C fp s2 H2).env := rfl
 generalize hX' : cQ X own cap scope cs C fp s2 H2 = X' at I0 henv2
 have eP : X'.prog = X.prog := by rw [← hX']; rfl
 have eW : X'.w = X.w := by rw [← hX']; rfl
 have eK : X'.K = X.K := by rw [← hX']; rfl
 have eA : X'.A = X.A := by rw [← hX']; rfl
 have eFs : X'.fs = frs X.stack := by rw [← hX']; rfl
 have eEx : X'.ex = fp := by rw [← hX']; rfl
 have eS : X'.s₀ = s2 := by rw [← hX']; rfl
 have eH : X'.H₀ = H2 := by rw [← hX']; rfl
 have eL : X'.env.locals = C := by rw [← hX']; rfl
 have eC : X'.calm = true := by rw [← hX']; exact hc
 have eX : X'.xe = fun _ _ => False := by rw [← hX']; rfl
 have ePn : X'.pn = [] := by rw [← hX']; rfl
 have hg' : PG X' tg g := by rw [← hX']; exact hg cs C fp s2 H2
 have ht' : PIf X' ifs tt := by rw [← hX']; exact ht cs C fp s2 H2
 have he' : PE X' elt te := by rw [← hX']; exact he cs C fp s2 H2
 have stat : ∀ {H' : Hp} {P : List (Addr × Obj)}, X'.Ok → (∀ b ∈ fp, H' b = none) → (∀ p ∈ P, p.1 = l) → ∀ b ∈ fp, jd X' P H' b := fun {H' P} ok hn hP b hb => by
  refine ⟨hn b hb, ?_, ?_, .inl (by rw [eEx]; exact hb), ?_, fun p hp => ?_⟩
  ·exact (ok.exf b (by rw [eEx]; exact hb)).1
  ·exact ok.exfs b (by rw [eEx]; exact hb)
  ·exact (ok.exf b (by rw [eEx]; exact hb)).2
  ·rw [ePn, List.nil_append] at hp
   rw [hP p hp]
   exact Ne.symm (hfl b hb).1
 have lfs : X'.Ok → l ∉ X'.fs := fun ok hz => by
  rw [eFs] at hz
  exact (Inv.nofs (X := X) I2 hls) ((List.mem_cons.mp (I2.stkSub l hz)).elim (fun z => absurd I2.lt (by rw [← z, hl]; exact Nat.lt_irrefl _)) id)
 have pinL : ∀ {σ' : St} {H' : Hp} {s' : Shared} {us : List Value} {k : Nat}, Inv X' [] σ' H' s' → s'.heap.get? l = some (bB us k) → H' l = none → Inv X' [(l, bB us k)] σ' H' s' := fun {σ' H' s' us k} I' e n =>
  I'.pins_of fun p hp => by
   obtain rfl : p = (l, bB us k) := by simpa using hp
   exact ⟨e, n, by rw [eL]; exact hlC, lfs I'.ok, fun v z => by cases z⟩
 have loop : ∀ s3 : Shared, s3 = { s2 with heap := h1 } → codeAny (model X.prog X.w) X.A (.compLoop (.ListComp elt [⟨tg, iter, ifs, 0⟩] scope pos) 0 (.ref it) (.ref l) X'.env) (compPost (model X.prog X.w) X.A X.xe (some (assign (.Name x₀ px₀) X.env)) (fun _ s' => SP X pins D .next s') (.ref l) C) s3 := by
  rintro s3 rfl
  refine qU (E' := fun _ _ => False) (fun n s' => ∃ i ys us k H', Inv X' [] (bV own σ capI) H' s' ∧ tn i s'.heap ∧ (∀ b ∈ fp, H' b = none) ∧ W i n ys H' ∧ Vals ys us ∧ s'.heap.get? l = some (bB us k) ∧ H' l = none ∧ ys.length ≤ sizeLine) (fun _ _ z => z.elim) ?_ m0
   ⟨0, [], [], 0, H2, I0, T.keep _ _ _ st2 fun b _ o e => keep1 b o e, fun b hb => (f2 b hb).1, w0, .nil, hl1, I2.hok.fresh hls, Nat.zero_le _⟩
  rintro n s3 ⟨i, ys, us, k, H3, I3, st3, fr3, w3, v3, o3, n3, z3⟩
  have I3p := pinL I3 o3 n3
  have P1 : ∀ p ∈ [(l, bB us k)], p.1 = l := fun p hp => by
   obtain rfl : p = (l, bB us k) := by simpa using hp
   rfl
  rcases turn i n ys H3 w3 with ⟨stop, qn⟩ | ⟨go, hlt, step⟩
  ·have q := T.done X' eP eW eK eC i _ s3 _ H3 (fun _ _ => False) I3p (stat I3.ok fr3 P1) st3 stop
   rw [eA] at q
   refine wpAny_mono q (fun r s4 ⟨hr, I4⟩ => ?_) fun _ _ z => z
   subst hr
   have pl := I4.pin (l, bB us k) (by simp)
   obtain ⟨m4, hn4, _⟩ := I4.loc
   rw [eL] at hn4
   have fC : H3 C = none := by have := I4.free; rw [eL] at this; exact this
   have IE : Inv X pins σ (upd H3 l (.lst ys)) s4 := by
    have := I2.compEnd f2 eP eW eFs eEx eS eH eL I4 hls hlC hCs pl.1 n3 v3 z3 (Heap.SameBut.refl C s4.heap)
    exact this
   show wpAny _ X.A (assign (.Name x₀ px₀) X.env (.ref l)) _ _ s4
   refine wpAny_assign_Name (rP IE hN hi₀ hx₀ (v := .ref l) rfl (fun s5 I5 ⟨a, sa, ha⟩ => ?_) hf₀)
   have hnL : C ≠ X.env.locals := Nat.ne_of_gt (Nat.lt_of_lt_of_le I2.lt hCs)
   have hnc : ∀ y c, X.env.cells.lookup y = some c → c ≠ C := fun y c e => by
    obtain ⟨v, q⟩ := I2.cell y c e
    exact Nat.ne_of_lt (Nat.lt_of_lt_of_le q.lt hCs)
   have haC : C ≠ a := by
    rcases ha with q | q
    ·rw [q]; exact hnL
    ·exact Ne.symm (hnc _ _ q)
   obtain ⟨o4, es4, ep4, ho4, r4⟩ := hn4
   refine ⟨m4, ⟨o4, es4, ep4, (sa.2 C haC).trans ho4, r4⟩, fun h' sb => ⟨_, _, ?_, qn l n3⟩⟩
   refine I5.turned (t' := s5.toks) (it := C) (fun b o hb e => (sb.2 b hb).trans e) (by rw [aK (Ne.symm hlC)]; exact fC) hnL (.inr (Nat.le_trans I2.sz hCs)) hnc fun p hp => ?_
   exact Nat.ne_of_lt (Nat.lt_of_lt_of_le (Heap.lt_size (I2.pin p hp).1) hCs)
  ·have q := T.item X' eP eW eK eC i _ s3 _ H3 (fun _ _ => False) I3p (stat I3.ok fr3 P1) st3 go
   rw [eA] at q
   refine wpAny_mono q (fun r s4 ⟨u, hr, h4⟩ => ?_) fun _ _ z => z
   subst hr
   refine wpAny_mono h4 (fun _ s5 ⟨x, H5, I5, r5, y5, st5, fr5⟩ => ?_) fun _ _ z => z
   have I5' := I5.pinned (stat I5.ok fr5 P1) (T.obj _ _ st5)
   have a1 := hg' _ s5 _ H5 x u _ I5' r5 (step x H5 y5)
   rw [eP, eW, eA, eX] at a1
   refine wpAny_mono a1 (fun _ s6 ⟨σ6, H6, I6, ft6, q6⟩ => ?_) fun _ _ z => z
   have a2 := ht' _ s6 σ6 H6 _ I6 q6
   rw [eP, eW, eA, eX] at a2
   refine wpAny_mono a2 (fun ok s7 ⟨H7, I7, q7⟩ => ?_) fun _ _ z => z
   have back : ∀ {H8 : Hp} {s8 : Shared}, Inv X' ([(l, bB us k)] ++ mV fp s5.heap) σ6 H8 s8 → Inv X' [] (bV own σ capI) H8 s8 ∧ tn (i + 1) s8.heap ∧ (∀ b ∈ fp, H8 b = none) ∧ s8.heap.get? l = some (bB us k) ∧ H8 l = none := fun {H8 s8} I8 => by
    have pl := I8.pin (l, bB us k) (by simp)
    refine ⟨(I8.weak ft6.1.symm ft6.2).pins_of fun p hp => absurd hp (by simp), T.keep _ _ _ st5 fun b hb o e => ?_, fun b hb => ?_, pl.1, pl.2.1⟩
    ·exact (I8.pin (b, o) (List.mem_append_right _ (List.mem_append_right _ (dN hb e)))).1
    ·obtain ⟨o, e, d⟩ := T.obj _ _ st5 b hb
     exact (I8.pin (b, o) (List.mem_append_right _ (List.mem_append_right _ (dN hb e)))).2.1
   cases ok with
   | false =>
    rw [if_neg Bool.false_ne_true]
    rw [if_neg Bool.false_ne_true] at q7
    obtain ⟨m', hm, w7⟩ := q7
    obtain ⟨I8, st8, fr8, o8, n8⟩ := back I7
    exact ⟨m', hm, i + 1, ys, us, k, H7, I8, st8, fr8, w7, v3, o8, n8, z3⟩
   | true =>
    rw [if_pos rfl]
    rw [if_pos rfl] at q7
    have a3 := he' _ s7 σ6 H7 _ I7 q7
    rw [eP, eW, eA, eX] at a3
    refine wpAny_mono a3 (fun yv s8 ⟨y, H8, I8', r8, m', hm, w8⟩ => ?_) fun _ _ z => z
    obtain ⟨I8, st8, fr8, o8, n8⟩ := back I8'
    refine append_at (hsz := by show us.toArray.size ≤ sizeLine; rw [List.size_toArray, ← v3.length]; exact z3) o8 fun h9 sb9 o9 => ?_
    have I9 : Inv X' [] (bV own σ capI) H8 { s8 with heap := h9 } := I8.turned (t' := s8.toks) (fun b o hb e => (sb9.2 b hb).trans e) n8 (by rw [eL]; exact hlC) (.inr (by rw [eS]; exact hls)) (fun x c e => by
     rintro rfl
     obtain ⟨v', ho', hd', hd''⟩ := I8.cell x c e
     rw [o8] at hd'
     cases hd'
     cases hd'') (fun p hp => by rw [ePn] at hp; exact absurd hp (by simp))
    refine ⟨m', hm, i + 1, ys ++ [y], us ++ [yv], k + 1, H8, I9, T.keep _ _ _ st8 fun b hb o e => (sb9.2 b (hfl b hb).1).trans e, fr8, w8, v3.append (.cons r8 .nil), ?_, n8, ?_⟩
    ·rw [o9]
     simp [bB]
    ·rw [List.length_append]
     exact hlt
 have T0 := T.keep 0 s2.heap h1 st2 fun b _ o e => keep1 b o e
 rw [henv2]
 exact codeAny_compStart_list (loop _ rfl) (T.self X.A 0 _ _ _ T0 (loop _ rfl))
end
end L2
namespace L3
open PySem PySem.Spec PyProof.Rows L2
section
variable {X : Cx} {tb : List Addr} {e tg iter elt : Expr} {f : EF} {pos : Pos}
theorem Dv {fi : IF} {h : GF} {tt : TF} {fe : EF} {own : List Str} {capI ts : List Nat} {σ : SV} {H : Hp} {Q : VK} (hts : ∀ i ∈ ts, i < own.length) (hx : tDN X.K tb (lLC own capI fi h tt fe) σ H Q) :
  tLC own capI (tDI X.K tb fi) (tDG X.K tb ts h) (tDT X.K tb tt) (tD X.K tb fe) σ H Q := by
  obtain ⟨W, δ, ds, μ', e, ok, hd, hf, k⟩ := hx
  unfold lLC at hf
  obtain ⟨⟨S, μ1⟩, e1, e2⟩ := Option.bind_eq_some_iff.mp hf
  split at e2
  ·rename_i hz
   refine ⟨W, δ, S, μ1, e, ok, hd, e1, fun J W1 ok1 l1 m1 io => ?_⟩
   refine ⟨fun i m ys H2 => m = S.items.length - i ∧ i ≤ S.items.length ∧ ys.length ≤ i ∧ ∃ W2 zs rs, W2.H = H2 ∧ WOk X.K tb W2 ∧ Le tb W1 W2 ∧ cB X.K tb W2 zs ys ∧ lcL S h tt fe (cO own δ capI) (S.items.drop i) W2.mu = some (rs, μ') ∧ zs ++ rs = ds,
    ⟨S.items.length, rfl, Nat.zero_le _, Nat.zero_le _, W1, [], ds, rfl, ok1, Le.refl _, az.nil, by rw [m1]; exact e2, rfl⟩, ?_⟩
   rintro i m ys H2 ⟨hm, hi', hy, W2, zs, rs, rfl, ok2, l2, d2, hn, hzs⟩
   by_cases hlt : i < S.items.length
   ·right
    have hdr : S.items.drop i = S.items[i] :: S.items.drop (i + 1) := List.drop_eq_getElem_cons hlt
    rw [hdr] at hn
    unfold lcL at hn
    split at hn
    ·rename_i hok
     obtain ⟨δ3, e3, hn⟩ := Option.bind_eq_some_iff.mp hn
     obtain ⟨⟨kk, μ4⟩, e4, hn⟩ := Option.bind_eq_some_iff.mp hn
     obtain ⟨go, yl⟩ := io.go i W2 S.items[i] l2 ok2 hok (by simp [hlt])
     refine ⟨go, Nat.lt_of_lt_of_le (Nat.lt_of_le_of_lt hy hlt) hz, fun x H' y => ?_⟩
     obtain ⟨W3, rfl, ok3, l3, m3, d3⟩ := yl x H' y
     refine ⟨W3, cO own δ capI, S.items[i], δ3, rfl, ok3, (sY hd).mono' ((l1.trans l2).trans l3), d3, (by rw [m3]; exact e3), fun σ3 d3' hl3 ht3 => ⟨fits_of hts hl3 ht3, ?_⟩⟩
     refine ⟨W3, δ3, kk, μ4, rfl, ok3, d3', (by rw [m3]; exact e4), fun W4 ok4 l4 m4 => ?_⟩
     cases kk with
     | false =>
      rw [if_neg Bool.false_ne_true]
      exact ⟨S.items.length - (i + 1), by omega, rfl, hlt, by omega, W4, zs, rs, rfl, ok4, (l2.trans l3).trans l4, cB.mono' d2 (l3.trans l4), by rw [m4]; exact hn, hzs⟩
     | true =>
      rw [if_pos rfl]
      have hn' : ((fe δ3 μ4).bind fun y => (lcL S h tt fe (cO own δ capI) (S.items.drop (i + 1)) y.2).bind fun ys => some (y.1 :: ys.1, ys.2)) = some (rs, μ') := hn
      obtain ⟨⟨yd, μ5⟩, e5, hn'⟩ := Option.bind_eq_some_iff.mp hn'
      obtain ⟨⟨rs', μ6⟩, e6, e7⟩ := Option.bind_eq_some_iff.mp hn'
      cases e7
      refine ⟨W4, δ3, yd, μ5, rfl, ok4, d3'.mono' l4, (by rw [m4]; exact e5), fun v W5 ok5 l5 m5 d5 => ?_⟩
      refine ⟨S.items.length - (i + 1), by omega, rfl, hlt, by rw [List.length_append]; simp; omega, W5, zs ++ [yd], rs', rfl, ok5, ((l2.trans l3).trans l4).trans l5, az.append (cB.mono' d2 ((l3.trans l4).trans l5)) (az.cons d5 az.nil), by rw [m5]; exact e6, by rw [List.append_assoc]; exact hzs⟩
    ·cases hn
   ·left
    have hdr : S.items.drop i = [] := List.drop_of_length_le (by omega)
    rw [hdr] at hn
    unfold lcL at hn
    split at hn
    ·rename_i hok
     cases hn
     rw [List.append_nil] at hzs
     subst hzs
     exact ⟨io.stop i W2 l2 ok2 hok (by omega), fun l hl => k l ys W2 ok2 (l1.trans l2) rfl hl d2⟩
    ·cases hn
  ·cases e2
theorem kJ {i : Nat} {x : Str} {px spos : Pos} {ifs : List Expr} {fi : IF} {h : GF} {tt : TF} {fe : EF} {own cap : List Str} {capI ts : List Nat} {scope : Scope} (hN : X.N.Nodup) (hc : X.calm = true) (B : eN X own cap capI scope) (hown : ∀ x ∈ own, (x, NameKind.free) ∉ scope.names) (hi : PID X tb tg iter fi)
  (hg : ∀ cs C fp s2 H2, PGD (cQ X own cap scope cs C fp s2 H2) tb tg ts h) (ht : ∀ cs C fp s2 H2, CW (cQ X own cap scope cs C fp s2 H2) tb ifs tt) (he : ∀ cs C fp s2 H2, PD (cQ X own cap scope cs C fp s2 H2) tb elt fe)
  (hts : ∀ i ∈ ts, i < own.length := by decide) (hs : ∀ x, foldedSetIterable iter X.env x = pure x := by intro _; rfl) (hi₀ : X.N[i]? = some x := by rfl) (hx₀ : Loc X.env.scope x := by first | exact Or.inl rfl | exact Or.inr rfl)
  (hsw : swapsWith (.ListComp elt [⟨tg, iter, ifs, 0⟩] scope pos) (some (.Name x px)) spos.line X.env = pure true := by rfl)
  (hf₀ : X.fn x = true ∨ X.env.scope.names.lookup x = some .local := by first | exact .inl rfl | exact .inr rfl | assumption) :
  PSD X tb (.Assign [.Name x px] (.ListComp elt [⟨tg, iter, ifs, 0⟩] scope pos) spos) (bz i (mFz (lLC own capI fi h tt fe))) :=
 jG (Ke (g := tDG X.K tb ts h) (tt := tDT X.K tb tt) (te := tD X.K tb fe) hN hi₀ hx₀ hc B hown hi hg ht he hs hsw hf₀) fun E σ H zq1 => by
  obtain ⟨W, δ, fl, δ', μ', e, ok, hd, hf, k⟩ := zq1
  unfold bz at hf
  obtain ⟨⟨d, μ1⟩, e1, e2⟩ := Option.bind_eq_some_iff.mp hf
  cases e2
  unfold mFz at e1
  obtain ⟨⟨ds, μ2⟩, e3, e4⟩ := Option.bind_eq_some_iff.mp e1
  cases e4
  refine Dv hts ⟨W, δ, ds, _, e, ok, hd, e3, fun p vs W1 ok1 l1 m1 hp r => ?_⟩
  exact jo (Q := fun v H => E.nx (σ.set i (some v)) H) ok1 (fun v W' ok' l' m' d' => k _ W' ok' (l1.trans l') (m'.trans m1) ((hd.mono' (l1.trans l')).set d')) r hp
end
theorem Dn {P : Program} {w : World} {K : PySem.W.Frag} {mg : Str → Option Value} {base : Heap} {tb : List Addr} {x qual : Str} {st : Stmt} {f : Addr} {fd : FuncData} {T : Addr} {ps : List Str} {n : Nat} (F : fG K x qual st f fd T) (hmg : mg x = some (.ref f)) (hps : ps.length = n)
  (hb : ∀ (kV doc pm : Value) (an : Option Addr) (cdv ct : Value) (us : List Value), us.length = ps.length → bindArgs (PySem.W.fnOf x qual (iJ st) (gk st) (aJ st) .none kV doc pm an cdv ct) ⟨us, []⟩ = pure (ps.zip us)) : FI P w K mg base tb x n 0 (fun _ _ => none) := by
 obtain ⟨oc, od, kV, doc, pm, an, c, ct, osl, rfl, lk, hcd, hhd⟩ := F.ex
 refine ⟨f, _, ps, ⟨fun vs H Q E ⟨W, ds, d, μ', e, ok, dl, hl, hf, _⟩ => (by cases hf), fun A outer s H args us vs Q E hr e0 hb r ⟨W, ds, d, μ', e, ok, dl, hl, hf, _⟩ => (by cases hf)⟩, hmg, F.kp, .all (hb kV doc pm an (.ref c) ct)⟩
theorem Fj {P : Program} {w : World} {K : PySem.W.Frag} {mg : Str → Option Value} {base : Heap} {tb : List Addr} {x qual : Str} {st : Stmt} {f : Addr} {fd : FuncData} {T : Addr} {N ps : List Str} {n k : Nat} {g : SF} (F : fG K x qual st f fd T) (KB : K.In base) (S : aV N ps (aJ st)) (hps : ps.length = n)
  (hbody : ∀ (c : Addr) (A : Around) (outer : List Env) (s : Shared) (H : Hp) (E : XK), PySem.W.CodeHd base c T → eQ k (A.deeper (envOfC qual (aJ st) s.heap.objs.size f (.ref c))) →
   qL (wQ CX0 P w K mg base N qual (aJ st) f (.ref c) A outer s H E).nox tb (gk st) g) : lA P w K mg base CX0 (k + 1) f fd ps (spD K tb n (aG N.length g)) := by
 obtain ⟨oc, od, kV, doc, pm, an, c, ct, osl, rfl, lk, hcd, hhd⟩ := F.ex
 refine FP lk hcd S (fun vs H Q E ⟨W, ds, d, μ', e, ok, dl, hl, _⟩ => by rw [← az.length dl, hl, hps]) fun A outer s H vs Q E hr hsp => ?_
 obtain ⟨W, ds, d, μ', e, ok, dl, hl, hf, k⟩ := hsp
 refine ⟨_, (hbody c A outer s H E (hhd base KB) hr).nox, ?_⟩
 unfold aG at hf
 obtain ⟨⟨fl, δ', μ1⟩, e1, e2⟩ := Option.bind_eq_some_iff.mp hf
 refine ⟨W, _, fl, δ', μ1, e, ok, ?_, e1, fun σ' W' ok' l' m' d' => ?_⟩
 ·have hlen := az.length dl
  refine ⟨by unfold L2.start; simp [hlen], fun i y q => ?_⟩
  unfold L2.start
  by_cases hi : i < ds.length
  ·rw [List.getElem?_append_left (by simpa using hi), List.getElem?_map] at q
   cases q2 : ds[i]? with
   | none => rw [q2] at q; cases q
   | some z =>
    rw [q2] at q
    cases q
    obtain ⟨v, ev, dv⟩ := az.get dl q2
    exact ⟨v, by rw [List.getElem?_append_left (by rw [List.length_map, ← hlen]; exact hi), List.getElem?_map, ev]; rfl, dv⟩
  ·rw [List.getElem?_append_right (by simpa using hi), List.getElem?_replicate] at q
   split at q <;> cases q
 ·cases fl with
  | nx => cases e2; exact k .non W' ok' l' m' oO
  | rt d0 => cases e2; exact fun v dv => k v W' ok' l' m' dv
  | bk => cases e2
  | ct => cases e2
def tZ (vs : Array Value) : Bool := (match vs.getD 18 .none with | .str _ _ => true | _ => false) && (match vs.getD 7 .none with | .int _ _ => true | _ => false) &&
 (match vs.getD 9 .none with | .bool _ => true | _ => false) && (match vs.getD 10 .none with | .int _ _ => true | _ => false)
theorem yV {K : PySem.W.Frag} {c P : Addr} {dd : Option Addr} {vs : Array Value} {sl : Array (Option Value)} (lc : K.lookup c = some ⟨.type "code", dd, .fields vs, sl⟩) (p : vs[11]? = some (.ref P)) (q : tZ vs = true) (ne : (c != P) = true) : PySem.W.codeHdIn K c P = true := by
 unfold PySem.W.codeHdIn
 rw [lc]
 unfold tZ at q
 simp only [Bool.and_eq_true] at q ⊢
 obtain ⟨⟨⟨q1, q2⟩, q3⟩, q4⟩ := q
 refine ⟨⟨⟨⟨⟨?_, q1⟩, q2⟩, q3⟩, q4⟩, ne⟩
 rw [p]
 exact beq_self_eq_true P
theorem Ef {K : PySem.W.Frag} {x qual : Str} {st : Stmt} {f c P : Addr} {oc : Value} {od an : Option Addr} {osl : Array (Option Value)} {kV doc pm ct : Value} {dd : Option Addr} {vs : Array Value} {sl : Array (Option Value)}
  (l : K.lookup f = some ⟨oc, od, .func (PySem.W.fnOf x qual (iJ st) (gk st) (aJ st) .none kV doc pm an (.ref c) ct), osl⟩) (hc : PySem.W.codeIn K (.ref c) qual = true) (k : PySem.W.keepIn K (.ref f) = true)
  (lc : K.lookup c = some ⟨.type "code", dd, .fields vs, sl⟩) (p : vs[11]? = some (.ref P)) (q : tZ vs = true) (ne : (c != P) = true) : fG K x qual st f (PySem.W.fnOf x qual (iJ st) (gk st) (aJ st) .none kV doc pm an (.ref c) ct) P :=
 ⟨⟨oc, od, kV, doc, pm, an, c, ct, osl, rfl, l, hc, fun h X => PySem.W.codeHd_of_K X (yV lc p q ne)⟩, k⟩
theorem Ih {K : PySem.W.Frag} {x : Str} {f c P : Addr} {oc oc' : Value} {od dd : Option Addr} {fd : FuncData} {osl sl : Array (Option Value)} {vs : Array Value} (a : PySem.W.nsIn K mainGlobals x = some (some (.ref f))) (l : K.lookup f = some ⟨oc, od, .func fd, osl⟩) (hc : fd.code = .ref c)
  (lc : K.lookup c = some ⟨oc', dd, .fields vs, sl⟩) (p : vs[11]? = some (.ref P)) : PySem.W.tabIn K x = some (c, P) := by
 unfold PySem.W.tabIn
 rw [a]
 simp only [l, hc, lc, p]
theorem BV {q : Program} {lo : List Str} {mean : ExcName → Option Value} {mg mb : Str → Option Value} {h : Heap} {K : PySem.W.Frag} {x : Str} {c P : Addr} (T : Top q lo mean mg mb h) (X : K.In h) (hr : ((recsOf q).find? (fun e => e.name == x)).isSome = true) (ht : PySem.W.tabIn K x = some (c, P)) : PySem.W.CodeHd h c P ∧ h.get? P = some (PySem.W.tabObj #[]) := by
 obtain ⟨d, hd⟩ := Option.isSome_iff_exists.mp hr
 exact PySem.W.tab_of T X hd ht
end L3
namespace L2
open PySem PySem.Spec PyProof.Rows HT
section
variable {prog : Program} {w : World} {A : Around} {E : Value → Shared → Prop} {s : Shared}
theorem kW {t sl : Addr} {items : Array Value} {vl vu : Value} {lo hi : Option Int} {Q : Value → Shared → Prop} (ht : IsTup s.heap t items) (hs : s.heap.IsSliceOf sl vl vu .none) (pl : IsPart vl lo) (pu : IsPart vu hi)
  (hw : sIx items.size 0 lo = 0 ∧ sIx items.size items.size hi = items.size) (h : Q (.ref t) s) : wpAny (model prog w) A (getItem (.ref t) (.ref sl)) Q E s := by
 obtain ⟨os, hos, hcs, hds⟩ := id hs
 have hTs : s.TypeIs (.ref sl) "slice" := ⟨os, hos, hcs⟩
 unfold getItem
 try with_reducible refine wpAny_holding ?_
 first | refine wpAny_bind (wpAny_pure ?_) | skip
 refine wpAny_bind (wpAny_sequenceKey ht.typeIs (by decide) ?_)
 refine wpAny_bind (wpAny_callSpecial?_slot (name := Str.ofString "__getitem__") ht.typeIs PyProof.Rows.slot_tuple_getitem
  (wpAny_call_entry PyProof.Rows.slot_tuple_getitem ht.typeIs entry_tuple_getitem ?_ (args_tuple_getitem _ _)))
 show wpAny _ _ (Builtin.Tuple.tupleItemsOf (.ref t) >>= _) _ _ s
 refine wpAny_bind (tupleItemsOf_ ht ?_)
 refine wpAny_bind (wpAny_typeOf hTs ?_)
 rw [if_pos (by decide)]
 refine wpAny_bind (jg hs pl pu ?_)
 have hyes : (((sIx items.size 0 lo : Nat) : Int) == 0 && (1 : Int) == 1 && (sIx items.size items.size hi - sIx items.size 0 lo) == items.size) = true := by
  rw [hw.1, hw.2]
  simp
 show wpAny _ _ (if (((sIx items.size 0 lo : Nat) : Int) == 0 && (1 : Int) == 1 && (sIx items.size items.size hi - sIx items.size 0 lo) == items.size) = true then _ else _) _ _ s
 rw [if_pos hyes]
 refine wpAny_bind (m := Builtin.Tuple.tupleIsExact (.ref t)) (wpAny_bind (wpAny_typeOf ht.typeIs (wpAny_pure ?_)))
 rw [if_pos (by decide)]
 refine wpAny_bind (wpAny_rule ?_)
 first
  | exact wpAny_pure ⟨_, rfl, wpAny_pure h⟩
  | exact wpAny_bind (wpAny_pure (wpAny_pure ⟨_, rfl, wpAny_pure h⟩))
  | exact wpAny_pure (wpAny_pure h)
end
section
variable {X : Cx}
def rSlW (K : PySem.W.Frag) : V → Option Int → Option Int → Hp → VK → Prop := fun x lo hi H Q => ∃ a xs, x = .ref a ∧ SqT K H a xs ∧
 (HT.sIx xs.length 0 lo = 0 ∧ HT.sIx xs.length xs.length hi = xs.length) ∧ Q (.ref a) H
theorem CQ : SlR X (rSlW X.K) := by
 intro pins s σ H x v vl vu lo hi sl Q I rx hs pl pu h
 obtain ⟨a, xs, rfl, hx, hw, q⟩ := h
 cases rx
 obtain ⟨its, r, ht, hz⟩ := I.tuple hx
 have hlen : its.toArray.size = xs.length := by rw [List.size_toArray]; exact r.length.symm
 refine ⟨"tuple", _, PyProof.Rows.slot_tuple_getitem.lookup, ht.typeIs, ?_⟩
 exact kW ht hs pl pu (by rw [hlen]; exact hw) ⟨.ref a, H, I, rfl, q⟩
end
end L2
namespace L2
open PySem PySem.Spec PyProof.Rows
section
variable {prog : Program} {w : World} {A : Around} {E : Value → Shared → Prop} {s : Shared}
theorem wU {e j l : Addr} {c : Bool} {i : Nat} {xs : Array Value} {x old : Value} {Q : Value → Shared → Prop} (he : IsEnum s.heap e j i old) (hj : cW c s.heap j l i) (hl : fY c s.heap l xs) (hx : xs[i]? = some x) (ne : e ≠ j)
  (hQ : ∀ h', IsEnumOut h' e j ((i : Int) + 1) x s.heap.objs.size → cW c h' j l (i + 1) → IsPair h' s.heap.objs.size (.int i s.toks) x → h'.objs.size = s.heap.objs.size + 1 →
   (∀ b o, b ≠ e → b ≠ j → s.heap.get? b = some o → h'.get? b = some o) → Q (.ref s.heap.objs.size) { s with heap := h', toks := s.toks + 1 }) :
  wpAny (model prog w) A (Builtin.«enumerate.__next__» ⟨[.ref e], []⟩) (fun fin s' => ∃ v, fin = .done (.ret v) ∧ Q v s') E s := by
 obtain ⟨hp, gg, dr, tk, os⟩ := s
 show wpAny _ _ (field (.ref e) 2 >>= _) _ _ _
 refine wpAny_bind (wpAny_field he rfl (x := .ref j) rfl (wpAny_bind (fP hj hl hx fun k1 j1 m1 => ?_)))
 replace m1 : Heap.SameBut j hp k1 := m1
 have e1 : IsEnum k1 e j i old := (m1.2 e ne).trans he
 show wpAny _ _ (field (.ref e) 3 >>= _) _ _ ⟨k1, gg, dr, tk, os⟩
 refine wpAny_bind (wpAny_field e1 rfl (x := rawInt i) rfl ?_)
 show wpAny _ _ (field (.ref e) 4 >>= _) _ _ ⟨k1, gg, dr, tk, os⟩
 refine wpAny_bind (wpAny_field e1 rfl (x := .none) rfl ?_)
 show wpAny _ _ (mkInt i >>= _) _ _ ⟨k1, gg, dr, tk, os⟩
 refine wpAny_bind (wpAny_mkInt ?_)
 show wpAny _ _ (setField (.ref e) 3 (rawInt ((i : Int) + 1)) >>= _) _ _ ⟨k1, gg, dr, tk + 1, os⟩
 refine wpAny_bind (wpAny_setField_rec e1 (by simp) fun k2 e2 m2 => ?_)
 replace m2 : Heap.SameBut e k1 k2 := m2
 replace e2 : IsEnum k2 e j ((i : Int) + 1) old := e2
 show wpAny _ _ (setField (.ref e) 4 .none >>= _) _ _ ⟨k2, gg, dr, tk + 1, os⟩
 refine wpAny_bind (wpAny_setField_rec e2 (by simp) fun k3 e3 m3 => ?_)
 replace m3 : Heap.SameBut e k2 k3 := m3
 replace e3 : IsEnum k3 e j ((i : Int) + 1) old := e3
 show wpAny _ _ (newTuple [.int i tk, x] >>= _) _ _ ⟨k3, gg, dr, tk + 1, os⟩
 refine wpAny_bind (wpAny_newTuple ?_)
 have n3 : k3.objs.size = hp.objs.size := by rw [m3.1, m2.1, m1.1]
 have lt : e < hp.objs.size := Heap.lt_size he
 obtain ⟨k4, hk4⟩ : ∃ k4, k3.push { cls := .type "tuple", data := .seq #[.int i tk, x] } = k4 := ⟨_, rfl⟩
 have e4 : IsEnum k4 e j ((i : Int) + 1) old := by rw [← hk4]; exact Heap.get?_push_of_some _ e3
 have t4 : IsPair k4 hp.objs.size (.int i tk) x := by rw [← hk4, ← n3]; exact Heap.get?_push_size _ rfl
 have n4 : k4.objs.size = hp.objs.size + 1 := by rw [← hk4, Heap.size_push, n3]
 have o4 : ∀ b o, b ≠ e → b ≠ j → hp.get? b = some o → k4.get? b = some o := fun b o q1 q2 q => by
  rw [← hk4]
  exact Heap.get?_push_of_some _ (m3.extBut b o q1 (m2.extBut b o q1 (m1.extBut b o q2 q)))
 have j4 : cW c k4 j l (i + 1) := j1.at' fun o q => by
  rw [← hk4]
  exact Heap.get?_push_of_some _ (m3.extBut _ o ne.symm (m2.extBut _ o ne.symm q))
 show wpAny _ _ (Builtin.SmallTypes.ownedTupleIsFree (.ref e) >>= _) _ _ ⟨k3.push _, gg, dr, tk + 1, os⟩
 rw [hk4, n3]
 refine wpAny_bind ?_
 unfold Builtin.SmallTypes.ownedTupleIsFree
 refine wpAny_bind (wpAny_field e4 rfl (x := .none) rfl (wpAny_pure ?_))
 simp only [if_true]
 refine wpAny_bind (wpAny_rule (wpAny_bind (wpAny_field e4 rfl (x := old) rfl (wpAny_bind (wpAny_setField_rec e4 (by simp) fun k5 e5 m5 => ?_)))))
 replace m5 : Heap.SameBut e k4 k5 := m5
 replace e5 : IsEnum k5 e j ((i : Int) + 1) x := e5
 show wpAny _ _ (Builtin.SmallTypes.ownedTupleHandOut (.ref e) (.ref hp.objs.size) >>= _) _ _ ⟨k5, gg, dr, tk + 1, os⟩
 refine wpAny_bind ?_
 unfold Builtin.SmallTypes.ownedTupleHandOut
 refine wpAny_bind (wpAny_setField_rec e5 (by simp) fun k6 e6 m6 => ?_)
 replace m6 : Heap.SameBut e k5 k6 := m6
 replace e6 : IsEnumOut k6 e j ((i : Int) + 1) x hp.objs.size := e6
 refine wpAny_setField_rec e6 (by simp) fun k7 e7 m7 => ?_
 replace m7 : Heap.SameBut e k6 k7 := m7
 replace e7 : IsEnumOut k7 e j ((i : Int) + 1) x hp.objs.size := e7
 have up : ∀ b o, b ≠ e → k4.get? b = some o → k7.get? b = some o := fun b o q1 q => m7.extBut b o q1 (m6.extBut b o q1 (m5.extBut b o q1 q))
 exact wpAny_bind (wpAny_letGo (wpAny_pure ⟨_, rfl, hQ k7 e7 (j4.at' fun o q => up _ o ne.symm q) (up _ _ (Nat.ne_of_gt lt) t4) (by rw [m7.1, m6.1, m5.1, n4]) fun b o q1 q2 q => up b o q1 (o4 b o q1 q2 q)⟩))
theorem lZ {e j l : Addr} {c : Bool} {i : Nat} {xs : Array Value} {x old : Value} {Q : Option Value → Shared → Prop} (he : IsEnum s.heap e j i old) (hj : cW c s.heap j l i) (hl : fY c s.heap l xs) (hx : xs[i]? = some x) (ne : e ≠ j)
  (hQ : ∀ h', IsEnumOut h' e j ((i : Int) + 1) x s.heap.objs.size → cW c h' j l (i + 1) → IsPair h' s.heap.objs.size (.int i s.toks) x → h'.objs.size = s.heap.objs.size + 1 →
   (∀ b o, b ≠ e → b ≠ j → s.heap.get? b = some o → h'.get? b = some o) → Q (some (.ref s.heap.objs.size)) { s with heap := h', toks := s.toks + 1 }) : wpAny (model prog w) A (pyNext (.ref e)) Q E s := by
 have ty : s.TypeIs (.ref e) "enumerate" := ⟨_, he, rfl⟩
 unfold pyNext
 exact wpAny_bind (wpAny_attempt (wpAny_callSpecial?_slot (name := Str.ofString "__next__") ty F.slot_enumerate_next
  (wpAny_call_entry F.slot_enumerate_next ty F.entry_enumerate_next (wU he hj hl hx ne fun h' a1 a2 a3 a4 a5 => wpAny_pure (hQ h' a1 a2 a3 a4 a5)) (F.args_enumerate_next_1 _))))
theorem mQ {e j l : Addr} {c : Bool} {i : Nat} {xs : Array Value} {old : Value} {Q : Option Value → Shared → Prop} (hh : A.handled = none) (he : IsEnum s.heap e j i old) (hj : cW c s.heap j l i) (hl : fY c s.heap l xs) (hx : xs[i]? = none)
  (hQ : ∀ h', Heap.ExtBut j s.heap h' → Q none { s with heap := h' }) : wpAny (model prog w) A (pyNext (.ref e)) Q E s := by
 have ty : s.TypeIs (.ref e) "enumerate" := ⟨_, he, rfl⟩
 unfold pyNext
 refine wpAny_bind (wpAny_attempt (wpAny_callSpecial?_slot (name := Str.ofString "__next__") ty F.slot_enumerate_next
  (wpAny_call_entry F.slot_enumerate_next ty F.entry_enumerate_next ?_ (F.args_enumerate_next_1 _))))
 show wpAny _ _ (field (.ref e) 2 >>= _) _ _ _
 refine wpAny_bind (wpAny_field he rfl (x := .ref j) rfl (wpAny_bind (iQ hh hj hl hx fun h' v k1 zq1 => ?_)))
 obtain ⟨o, q1, q2⟩ := zq1
 exact wpAny_bind (wpAny_isInstance (T := "StopIteration") (b := true) ⟨o, q1, q2⟩ isSubtype_stop (wpAny_pure (hQ _ k1)))
set_option maxHeartbeats 1000000 in
theorem yF (c : Bool) (l : Addr) (xs : Array Value) :
  Meets (Builtin.«enumerate.__new__» ⟨[.type "enumerate", .ref l], []⟩) (fun _ R s => fY c s.heap l xs ∧
   R (.ok (.ret (.ref (s.heap.push (gQ c l)).objs.size))) { s with heap := (s.heap.push (gQ c l)).push { cls := .type "enumerate", data := .fields #[.none, .bool false, .ref s.heap.objs.size, rawInt 0, .none, .none] } }) :=
 .of_wp fun prog w A R s h => by
  obtain ⟨hp, g, d, tk, os⟩ := s
  obtain ⟨hl, h⟩ := h
  have hsub := sub_enumerate
  have hL : fY c (Shared.heap ⟨hp, g, d, tk, os⟩) l xs := hl
  wp_walk
  refine wpAny_stack_any fun st => wpAny_pure ?_
  split
  ·rename_i v _ _ _ _ _
   cases (v == Value.type "enumerate")
   ·wp_walk using jc hL
    exact ⟨_, rfl, h⟩
   ·wp_walk using jc hL
    exact ⟨_, rfl, h⟩
  ·wp_walk using jc hL
   exact ⟨_, rfl, h⟩
theorem wO {c : Bool} {l : Addr} {xs : Array Value} {Q : Value → Shared → Prop} (hl : fY c s.heap l xs)
  (h : ∀ h', IsEnum h' (s.heap.objs.size + 1) s.heap.objs.size 0 .none → cW c h' s.heap.objs.size l 0 → (∀ b o, s.heap.get? b = some o → h'.get? b = some o) → Q (.ref (s.heap.objs.size + 1)) { s with heap := h' }) :
  wpAny (model prog w) A (call (.type "enumerate") [.ref l]) Q E s := by
 refine callType_new F.called_enumerate (by decide) (F.typeCall_enumerate_1 _) (F.newCall_enumerate_1 _) (fun obj => F.args_object_init_2 obj _) F.entry_enumerate_new (yF c l xs) ⟨hl, ?_⟩
 have z1 : (s.heap.push (gQ c l)).objs.size = s.heap.objs.size + 1 := Heap.size_push ..
 have g2 : ((s.heap.push (gQ c l)).push { cls := .type "enumerate", data := .fields #[.none, .bool false, .ref s.heap.objs.size, rawInt 0, .none, .none] }).get? (s.heap.push (gQ c l)).objs.size = some _ := Heap.get?_push_size _ rfl
 have g1 : cW c ((s.heap.push (gQ c l)).push { cls := .type "enumerate", data := .fields #[.none, .bool false, .ref s.heap.objs.size, rawInt 0, .none, .none] }) s.heap.objs.size l 0 := (cW.new c _ l).at' fun o q => Heap.get?_push_of_some _ q
 show _ ∧ _
 rw [z1] at g2 ⊢
 exact ⟨⟨_, g2, rfl⟩, h _ g2 g1 fun b o q => Heap.get?_push_of_some _ (Heap.get?_push_of_some _ q)⟩
end
def Ite (K : PySem.W.Frag) (c : Bool) (a : Addr) : It :=
 ⟨fun i H => ∃ xs x, SqB c K H a xs ∧ xs[i]? = some x,
  fun i H v H' => ∃ p x, v = .ref p ∧ H p = none ∧ H' = upd H p (.tup [.int i, x]) ∧ ∀ xs, SqB c K H a xs → xs[i]? = some x,
  fun i H => ∃ xs, SqB c K H a xs ∧ xs.length ≤ i⟩
def ESt (c : Bool) (e j a : Addr) (i : Nat) (h : Heap) : Prop := (∃ old, IsEnum h e j i old) ∧ cW c h j a i
theorem yL {P : Program} {w : World} {K : PySem.W.Frag} {elts : List Expr} {kk : Nat} {pos : Pos} (c : Bool) (e j a : Addr) (ne : e ≠ j) :
  Turn P w K (.Tuple elts kk pos) (Ite K c a) [e, j] e (ESt c e j a) where
 mem := by simp
 obj := fun i h st b hb => by
  obtain ⟨⟨old, he⟩, hj⟩ := st
  simp only [List.mem_cons, List.not_mem_nil, or_false] at hb
  rcases hb with rfl | rfl
  ·exact ⟨_, he, fun v q => by cases q⟩
  ·obtain ⟨o, q, d, _⟩ := hj.obj; exact ⟨o, q, d⟩
 keep := fun i h h' st k => by
  obtain ⟨⟨old, he⟩, hj⟩ := st
  exact ⟨⟨old, k e (by simp) _ he⟩, hj.at' fun o q => k j (by simp) o q⟩
 item := by
  intro X hP hw hK hc i pins s σ H E I hf st hg
  subst hP hw hK
  obtain ⟨⟨old, he⟩, hj⟩ := st
  obtain ⟨xs, x, hx, ex⟩ := hg
  obtain ⟨its, r, p, z⟩ := I.sqB hx
  obtain ⟨u, eu, ru⟩ := r.get ex
  have fe := hf e (by simp)
  have fj := hf j (by simp)
  have lte : e < s.heap.objs.size := Heap.lt_size he
  have ltj : j < s.heap.objs.size := let ⟨_, q, _⟩ := hj.obj; Heap.lt_size q
  refine lZ he hj p (x := u) (by simpa using eu) ne fun h' q1 q2 q3 q4 q5 => ⟨_, rfl, ?_⟩
  refine wpAny_letOwnedTupleGo_enum q1 fun h2 y1 y2 => ?_
  have hpn : H s.heap.objs.size = none := I.hok.fresh (Nat.le_refl _)
  have IA : Inv X pins σ (upd H s.heap.objs.size (.tup [.int i, x])) { s with heap := s.heap.push { cls := .type "tuple", data := .seq #[.int i s.toks, u] }, toks := s.toks + 1 } :=
   I.laid (t' := s.toks + 1) (o := .tup [.int i, x]) (fun b ob q => Heap.get?_push_of_some _ q) (Nat.le_refl _) ⟨by show 2 ≤ sizeLine; decide, [.int i s.toks, u], .cons ⟨_, rfl⟩ (.cons ru .nil), IsTup.new _ _⟩
  have hne : ∀ b ∈ [e, j], b ≠ s.heap.objs.size := fun b hb => by
   simp only [List.mem_cons, List.not_mem_nil, or_false] at hb
   rcases hb with rfl | rfl
   ·exact Nat.ne_of_lt lte
   ·exact Nat.ne_of_lt ltj
  have hf' : ∀ b ∈ [e, j], jd X pins (upd H s.heap.objs.size (.tup [.int i, x])) b := fun b hb => by
   obtain ⟨f0, f1⟩ := hf b hb
   exact ⟨by rw [aK (hne b hb)]; exact f0, f1⟩
  have IB : Inv X pins σ (upd H s.heap.objs.size (.tup [.int i, x])) { s with heap := h2, toks := s.toks + 1 } := by
   refine Inv.turnedL (s := { s with heap := s.heap.push { cls := .type "tuple", data := .seq #[.int i s.toks, u] }, toks := s.toks + 1 }) (t' := s.toks + 1) (fp := [e, j]) IA (fun b o hb q => ?_) hf'
   simp only [List.mem_cons, List.not_mem_nil, or_false, not_or] at hb
   by_cases hs : b = s.heap.objs.size
   ·subst hs
    have q' : some ({ cls := .type "tuple", data := .seq #[.int i s.toks, u] } : Obj) = some o := (Heap.get?_push_size s.heap rfl).symm.trans q
    cases q'
    exact y2.extBut _ _ hb.1 q3
   ·exact y2.extBut _ _ hb.1 (q5 b o hb.1 hb.2 (uX q hs))
  exact ⟨.ref s.heap.objs.size, _, IB, rfl, ⟨_, x, rfl, hpn, rfl, fun zs hzs => by rw [I.sqB_inj hzs hx]; exact ex⟩, ⟨⟨u, by simpa using y1⟩, q2.at' fun o q => y2.extBut _ _ ne.symm q⟩, fun b hb => (hf' b hb).1⟩
 done := by
  intro X hP hw hK hc i pins s σ H E I hf st hg
  subst hP hw hK
  obtain ⟨⟨old, he⟩, hj⟩ := st
  obtain ⟨xs, hx, hend⟩ := hg
  obtain ⟨its, r, p, z⟩ := I.sqB hx
  have hl := r.length
  refine mQ (I.ok.hd hc) he hj p (by simp; omega) fun h' q => ⟨rfl, I.turnedL (t' := s.toks) (fp := [e, j]) (fun b o hb k => ?_) hf⟩
  simp only [List.mem_cons, List.not_mem_nil, or_false, not_or] at hb
  exact q b o hb.2 k
 self := fun _ _ _ _ _ st h => by
  obtain ⟨⟨old, he⟩, _⟩ := st
  exact wpAny_pyIter_enum he h
def Ky (K : PySem.W.Frag) (ta : TA) : TI := fun σ H R => ta σ H fun vs H1 => ∃ a c, vs = [.ref a] ∧ (∃ xs, SqB c K H1 a xs) ∧ R (Ite K c a) H1
section
variable {X : Cx}
theorem Fb {a : Expr} {ta : TA} {p pos p' : Pos} {elts : List Expr} {kk : Nat} (hg : Gl X "enumerate") (hm : X.mg "enumerate" = none) (ha : PA X [a] ta) (hs : starEach [a] X.env = [(false, eval a X.env)] := by rfl) :
  PI X (.Tuple elts kk p') (.Call (.Name "enumerate" p) [a] [] pos) (Ky X.K ta) := by
 intro pins s σ H R I h
 refine Call_ (jn I hg hm boot_enumerate (PyProof.Rows.callWith_type1 (thn (ha pos pins s σ H _ I h) fun us s1 ⟨vs, H1, I1, r1, q1⟩ => ?_) (by rw [hs]; rfl) (by rfl)))
 obtain ⟨a1, c, rfl, ⟨xs, hx⟩, q⟩ := q1
 obtain ⟨u, rfl, ru⟩ := vals1 r1
 cases ru
 obtain ⟨its, _, p1, _⟩ := I1.sqB hx
 refine wO p1 fun h' g1 g2 g3 => ?_
 refine wpAny_pyIter_enum g1 ?_
 refine ⟨_, [s1.heap.objs.size + 1, s1.heap.objs.size], _, _, H1, rfl, I1.kept (t' := s1.toks) g3, yL c _ _ a1 (Nat.ne_of_gt (by omega)), ⟨⟨_, g1⟩, g2⟩, fun b hb => ?_, q⟩
 have hb' : s1.heap.objs.size ≤ b := by
  simp only [List.mem_cons, List.not_mem_nil, or_false] at hb
  rcases hb with q | q <;> rw [q] <;> first | exact Nat.le_add_right _ _ | exact Nat.le_refl _
 exact I1.fpOk hb' (I1.hok.fresh hb')
end
end L2
namespace L3
open PySem PySem.Spec PyProof.Rows L2
def dO (k : Nat) : List D → List D
 | [] => []
 | d :: ds => .tup [.int k, d] :: dO (k + 1) ds
theorem mR : ∀ {ds : List D} {k i : Nat} {d : D}, (dO k ds)[i]? = some d → ∃ x, d = .tup [.int ((k + i : Nat) : Int), x] ∧ ds[i]? = some x
 | [], k, i, d, h => by simp [dO] at h
 | x :: ds, k, 0, d, h => by
  have h : some (D.tup [.int (k : Int), x]) = some d := by simpa [dO] using h
  cases h
  exact ⟨x, rfl, rfl⟩
 | x :: ds, k, i + 1, d, h => by
  obtain ⟨y, e, q⟩ := mR (ds := ds) (k := k + 1) (i := i) (by simpa [dO] using h)
  exact ⟨y, by rw [e]; congr 4; omega, by simpa using q⟩
theorem mU : ∀ (ds : List D) (k : Nat), (dO k ds).length = ds.length
 | [], k => rfl
 | d :: ds, k => by simp [dO, mU ds]
def jL (fs : AF) : IF := fun δ μ => (fs δ μ).bind fun r => match r.1 with
 | [x] => (cI x).map fun xs => (⟨dO 0 xs, none⟩, r.2)
 | _ => none
theorem qm {X : Cx} {tb : List Addr} {a : Expr} {fs : AF} {p pos : Pos} {p' : Pos} {elts : List Expr} {kk : Nat} (hm : X.mg "enumerate" = none) (ha : PAD X tb [a] fs) (hg : Gl X "enumerate" := by rfl) (hs : starEach [a] X.env = [(false, eval a X.env)] := by rfl) :
  PID X tb (.Tuple elts kk p') (.Call (.Name "enumerate" p) [a] [] pos) (jL fs) :=
 wY (Fb hg hm ha hs) fun σ H R zq2 => by
  obtain ⟨W, δ, S, μ', e, ok, hd, hf, h⟩ := zq2
  unfold jL at hf
  obtain ⟨⟨zs, μ1⟩, e1, hf⟩ := Option.bind_eq_some_iff.mp hf
  match zs, e1, hf with
  | [x], e1, hf =>
   obtain ⟨xs, e2, e4⟩ := Option.map_eq_some_iff.mp (show (cI x).map (fun xs => ((⟨dO 0 xs, none⟩ : Src), μ1)) = some (S, μ') from hf)
   cases e4
   refine ⟨W, δ, [x], _, e, ok, hd, e1, fun vs W1 ok1 l1 m1 d1 => ?_⟩
   obtain ⟨u, rfl, du⟩ := az.one d1
   obtain ⟨a1, us, rfl, q1, r1⟩ := vO du e2
   refine ⟨a1, _, rfl, ⟨us, gF q1 (Le.refl _)⟩, h _ W1 ok1 l1 m1 ⟨fun i W2 d l ok2 _ ei => ?_, fun i W2 l ok2 _ hi => ?_⟩⟩
   ·obtain ⟨x0, rfl, ex⟩ := mR ei
    obtain ⟨vx, evx, dvx⟩ := az.get (cB.mono' r1 l) ex
    refine ⟨⟨us, vx, gF q1 l, evx⟩, fun z H' ⟨p, x', ez, hp, eH, hx'⟩ => ?_⟩
    have ex' := hx' us (gF q1 l)
    rw [evx] at ex'; cases ex'
    obtain ⟨ok3, l3, e3⟩ := ok2.alloc (o := .tup [.int i, vx]) hp
    refine ⟨_, eH.symm, ok3, l3, rfl, ?_⟩
    rw [ez]
    show aQ _ _ _ _ _
    unfold aQ
    refine ⟨p, [.int i, vx], rfl, .inl (.inl e3), cB.mono' (az.cons ?_ (az.cons dvx az.nil)) l3⟩
    have : ((0 + i : Nat) : Int) = (i : Int) := by omega
    rw [this]
    exact cY
   ·have hi' : xs.length ≤ i := by rw [← mU xs 0]; exact hi
    have l1' := az.length r1
    exact ⟨us, gF q1 l, by omega⟩
end L3
namespace L3
open PySem PySem.Spec PyProof.Rows L2
abbrev PF := En → Mu → Option (Option Int × Mu)
def tDO (K : PySem.W.Frag) (tb : List Addr) (f : PF) : TO := fun σ H Q => ∃ W δ i μ', W.H = H ∧ WOk K tb W ∧ gG K tb W δ σ ∧ f δ W.mu = some (i, μ') ∧ ∀ W', WOk K tb W' → Le tb W W' → W'.mu = μ' → Q i W'.H
def POD (X : Cx) (tb : List Addr) (e : Option Expr) (f : PF) : Prop := PO X e (tDO X.K tb f)
theorem Gi {X : Cx} {e : Option Expr} {t t' : TO} (h : PO X e t) (k : ∀ σ H Q, t' σ H Q → t σ H Q) : PO X e t' := fun pins s σ H Q I hq => h pins s σ H Q I (k σ H Q hq)
def fNo : PF := fun _ μ => some (none, μ)
def fAt (f : EF) : PF := fun δ μ => (f δ μ).bind fun r => match r.1 with
 | .int i => some (some i, r.2)
 | _ => none
def cutD (ds : List D) (lo hi : Option Int) : List D := (ds.drop (HT.sIx ds.length 0 lo)).take (HT.sIx ds.length ds.length hi - HT.sIx ds.length 0 lo)
def oSl (x : D) (lo hi : Option Int) (μ : Mu) : Option (D × Mu) := match x with
 | .tup ds => some (.tup (cutD ds lo hi), μ)
 | .lst ds => some (.lst (cutD ds lo hi), μ)
 | .ro ds => some (.lst (cutD ds lo hi), μ)
 | _ => none
def mSl (f : EF) (fl fh : PF) : EF := fun δ μ => (f δ μ).bind fun r => (fl δ r.2).bind fun l => (fh δ l.2).bind fun u => oSl r.1 l.1 u.1 u.2
section
variable {X : Cx} {tb : List Addr} {e : Expr} {lo hi : Option Expr} {f : EF} {fl fh : PF} {pos p2 : Pos}
theorem jV : POD X tb none fNo := Gi Er fun σ H Q zq1 => by
 obtain ⟨W, δ, i, μ', e, ok, hd, hf, h⟩ := zq1
 subst e; cases hf
 exact h W ok (Le.refl _) rfl
theorem jR (h : PD X tb e f) : POD X tb (some e) (fAt f) := Gi (Ez h) fun σ H Q zq2 => by
 obtain ⟨W, δ, i, μ', e, ok, hd, hf, h⟩ := zq2
 unfold fAt at hf
 obtain ⟨⟨x, μ1⟩, e1, e2⟩ := Option.bind_eq_some_iff.mp hf
 cases x with
 | int j =>
  cases e2
  exact ⟨W, δ, _, _, e, ok, hd, e1, fun v W1 ok1 l1 m1 d1 => ⟨j, bh d1, h W1 ok1 l1 m1⟩⟩
 | _ => cases e2
theorem tK {K : PySem.W.Frag} {W : Wd} {ds : List D} {vs : List V} {l h : Option Int} (r : cB K tb W ds vs) : cB K tb W (cutD ds l h) (vg vs l h) := by
 unfold cutD vg
 rw [← az.length r]
 exact az.take _ (az.drop _ r)
theorem jJ (he : PD X tb e f) (hl : POD X tb lo fl) (hh : POD X tb hi fh) : PD X tb (.Subscript e (.Slice lo hi none p2) pos) (mSl f fl fh) :=
 dH (Ad (Gw.or (CQ.or Dg)) he hl hh) fun σ H Q zq3 => by
  obtain ⟨W, δ, d, μ', e, ok, hd, hf, h⟩ := zq3
  unfold mSl at hf
  obtain ⟨⟨x, μ1⟩, e1, hf⟩ := Option.bind_eq_some_iff.mp hf
  obtain ⟨⟨l, μ2⟩, e2, hf⟩ := Option.bind_eq_some_iff.mp hf
  obtain ⟨⟨u, μ3⟩, e3, hf⟩ := Option.bind_eq_some_iff.mp hf
  refine ⟨W, δ, x, μ1, e, ok, hd, e1, fun v W1 ok1 l1 m1 d1 => ⟨W1, δ, l, μ2, rfl, ok1, hd.mono' l1, (by rw [m1]; exact e2), fun W2 ok2 l2 m2 => ⟨W2, δ, u, μ3, rfl, ok2, hd.mono' (l1.trans l2), (by rw [m2]; exact e3), fun W3 ok3 l3 m3 => ?_⟩⟩⟩
  have d3 := Den.mono' d1 (l2.trans l3)
  have k : ∀ v W', WOk X.K tb W' → Le tb W3 W' → W'.mu = W3.mu → Den X.K tb W' d v → W3.mu = μ' → Q v W'.H := fun v W' ok' l' m' d' q => h v W' ok' (((l1.trans l2).trans l3).trans l') (m'.trans q) d'
  cases x with
  | tup ds =>
   obtain ⟨a, xs, rfl, q, r⟩ := gD d3
   cases hf
   by_cases hw : HT.sIx ds.length 0 l = 0 ∧ HT.sIx ds.length ds.length u = ds.length
   ·have e : cutD ds l u = ds := by unfold cutD; rw [hw.1, hw.2]; simp
    exact .inr (.inl ⟨a, xs, rfl, SqT.fz q, by rw [← az.length r]; exact hw, k (.ref a) W3 ok3 (Le.refl _) rfl (by rw [e]; exact d3) m3⟩)
   ·exact .inl ⟨a, xs, rfl, SqT.fz q, by rw [← az.length r]; exact hw, fun p hp => lR ok3 (fun v W' ok' l' m' d' => k v W' ok' l' m' d' m3) (tK r) hp⟩
  | lst ds =>
   obtain ⟨a, xs, rfl, q, r⟩ := jr d3
   cases hf
   exact .inr (.inr ⟨a, xs, rfl, SqL.fz q, fun p hp => jo ok3 (fun v W' ok' l' m' d' => k v W' ok' l' m' d' m3) (tK r) hp⟩)
  | ro ds =>
   obtain ⟨a, xs, rfl, q, r⟩ := vz d3
   cases hf
   exact .inr (.inr ⟨a, xs, rfl, SqL.fz q, fun p hp => jo ok3 (fun v W' ok' l' m' d' => k v W' ok' l' m' d' m3) (tK r) hp⟩)
  | _ => cases hf
end
end L3
namespace L3
open PySem PySem.Spec PyProof.Rows L2
section
variable {X : Cx} {tb : List Addr} {e : Expr} {es : List Expr} {f : EF} {fs fk : AF} {x : Str} {n k : Nat} {φ : FF} {p pos kpos : Pos} {kws : List Keyword} {ks : List Str} {π : List Nat} {nm : Option Str}
end
end L3
namespace L2
open PySem PySem.Spec PyProof.Rows
section
variable {κ : Type} [DecidableEq κ]
def putK (kvs : List (κ × V)) (k : κ) (v : V) : List (κ × V) :=
 if (kvs.any fun kv => decide (kv.1 = k)) = true then kvs.map (fun kv => if kv.1 = k then (kv.1, v) else kv) else kvs ++ [(k, v)]
theorem KV.any {kvs : List (κ × V)} {vs : List (κ × Value)} (r : KV kvs vs) (k : κ) : (kvs.any fun kv => decide (kv.1 = k)) = vs.any fun kv => decide (kv.1 = k) := by
 unfold KV at r
 induction r with
 | nil => rfl
 | cons h t ih => rw [List.any_cons, List.any_cons, ih, h.1]
theorem KV.repl {kvs : List (κ × V)} {vs : List (κ × Value)} (r : KV kvs vs) (k : κ) {y : V} {u : Value} (ry : RelV y u) :
  KV (kvs.map fun kv => if kv.1 = k then (kv.1, y) else kv) (vs.map fun kv => if kv.1 = k then (kv.1, u) else kv) := by
 unfold KV at r ⊢
 induction r with
 | nil => exact .nil
 | @cons p q ps qs h t ih =>
  rw [List.map_cons, List.map_cons]
  refine .cons ?_ ih
  obtain ⟨h1, h2⟩ := h
  by_cases e : p.1 = k
  ·rw [if_pos e, if_pos (h1.symm.trans e)]; exact ⟨h1, ry⟩
  ·rw [if_neg e, if_neg (fun z => e (h1.trans z))]; exact ⟨h1, h2⟩
theorem KV.put {kvs : List (κ × V)} {vs : List (κ × Value)} (r : KV kvs vs) (k : κ) {y : V} {u : Value} (ry : RelV y u) : KV (putK kvs k y) (stored vs k u) := by
 unfold putK stored
 rw [r.any k]
 by_cases e : (vs.any fun kv => decide (kv.1 = k)) = true
 ·rw [if_pos e, if_pos e]; exact r.repl k ry
 ·rw [if_neg e, if_neg e]; exact Paired.snoc r ⟨rfl, ry⟩
end
theorem La {P : Program} {w : World} {k : Key} {u : Value} (r : RelV (kV k) u) : (gq P w).is k u = true := by
 cases k with
 | inl i => obtain ⟨t, e⟩ := (show ∃ t, u = Value.int i t from r); subst e; exact uO P w i t
 | inr x => obtain ⟨t, e⟩ := (show ∃ t, u = Value.str x t from r); subst e; exact uw P w x t
section
variable {P : Program} {w : World} {H : Hp} {h : Heap} {a : Addr}
end
section
variable {X : Cx} {pins : List (Addr × Obj)} {σ : St} {H : Hp} {s : Shared} {a : Addr} {y v : V} {u r : Value} {o : Option V} {A : Around} {E : Value → Shared → Prop}
theorem Inv.big (I : Inv X pins σ H s) : sysModules < s.heap.objs.size := by
 have h : mainGlobals < s.heap.objs.size := (I.mod.glob.keeps I.bk).lt
 exact Nat.lt_trans (by decide) h
end
section
variable {X : Cx} {pins : List (Addr × Obj)} {σ : St} {H : Hp} {s : Shared} {a : Addr} {kvs : List (Key × V)} {k : Key} {u : Value} {A : Around} {E : Value → Shared → Prop}
end
section
variable {X : Cx} {o i e value : Expr} {pos pos' tpos : Pos} {td ty tv : TE}
end
theorem zQ {P : Program} {w : World} {H : Hp} (h : Heap) (hb : sysModules < h.objs.size) : fU P w H (h.push { cls := .type "dict", data := .dict #[] }) h.objs.size (.dK []) :=
 ⟨Nat.zero_le _, beq_eq_false_iff_ne.mpr (Ne.symm (Nat.ne_of_lt hb)), [], .nil, Heap.DictOf.new h⟩
def Hl : TE := fun _ H Q => ∀ p, H p = none → Q (.ref p) (upd H p (.dK []))
section
variable {X : Cx} {pos : Pos}
theorem Bk : PE X (.Dict [] [] pos) Hl := fun pins s σ H Q I h =>
 wpAny_Dict_empty ⟨.ref s.heap.objs.size, _, I.laid (a := s.heap.objs.size) (o := .dK []) (t' := s.toks) (fun _ _ q => Heap.get?_push_of_some _ q) (Nat.le_refl _) (zQ s.heap I.big), rfl, h _ (I.hok.fresh (Nat.le_refl _))⟩
end
def vI : List (TE × TE) → St → Hp → (List (V × V) → Hp → Prop) → Prop
 | [], _, H, Q => Q [] H
 | (tk, tv) :: r, σ, H, Q => tk σ H fun x H1 => tv σ H1 fun y H2 => vI r σ H2 fun ps H3 => Q ((x, y) :: ps) H3
abbrev VV : List (V × V) → List (Value × Value) → Prop := Paired fun p q => RelV p.1 q.1 ∧ RelV p.2 q.2
def PPs (X : Cx) (pos : Pos) (keys : List (Option Expr)) (values : List Expr) (trs : List (TE × TE)) : Prop :=
 ∀ (pins : List (Addr × Obj)) (s : Shared) (σ : St) (H : Hp) (Q : List (V × V) → Hp → Prop), Inv X pins σ H s → vI trs σ H Q →
  wpAny (model X.prog X.w) X.A (evalPairs (pairTrees keys values X.env pos)) (fun vs s' => ∃ ps H', Inv X pins σ H' s' ∧ VV ps vs ∧ Q ps H') X.xe s
theorem Ec {X : Cx} {pos : Pos} : PPs X pos [] [] [] := fun pins s σ H Q I h => pairTrees_nil_walk ⟨[], H, I, .nil, h⟩
theorem zy {X : Cx} {pos : Pos} {k v : Expr} {ks : List (Option Expr)} {vs : List Expr} {tk tv : TE} {trs : List (TE × TE)} (hk : PE X k tk) (hv : PE X v tv) (hr : PPs X pos ks vs trs) :
  PPs X pos (some k :: ks) (v :: vs) ((tk, tv) :: trs) := fun pins s σ H Q I h =>
 pairTrees_cons_walk (thn (hk pins s σ H _ I h) fun u s1 ⟨x, H1, I1, rx, q1⟩ => thn (hv pins s1 σ H1 _ I1 q1) fun w2 s2 ⟨y, H2, I2, ry, q2⟩ =>
  thn (hr pins s2 σ H2 _ I2 q2) fun ws s3 ⟨ps, H3, I3, rel, q3⟩ => ⟨(x, y) :: ps, H3, I3, .cons ⟨rx, ry⟩ rel, q3⟩)
def wH (kvs more : List (Key × V)) : List (Key × V) := more.foldl (fun acc kv => putK acc kv.1 kv.2) kvs
theorem KV.merge : ∀ {more : List (Key × V)} {rs : List (Key × Value)} {kvs : List (Key × V)} {vs : List (Key × Value)}, KV more rs → KV kvs vs → KV (wH kvs more) (merged vs rs) := by
 intro more rs kvs vs r
 unfold KV at r
 induction r generalizing kvs vs with
 | nil => intro q; exact q
 | @cons p q ps qs h t ih =>
  intro r0
  have e : KV (putK kvs p.1 p.2) (stored vs q.1 q.2) := by
   have := r0.put p.1 h.2
   rw [← h.1]; exact this
  exact ih e
theorem pF {P : Program} {w : World} : ∀ {kvs : List (Key × V)} {ws : List (Value × Value)}, VV (kvs.map fun kv => (kV kv.1, kv.2)) ws → ∃ rs, Carries (gq P w) ws rs ∧ KV kvs rs
 | [], _, r => by rw [List.map_nil] at r; cases r; exact ⟨[], True.intro, .nil⟩
 | p :: kvs, _, r => by
  rw [List.map_cons] at r
  cases r with
  | @cons a b as bs h t =>
   obtain ⟨rs, c, q⟩ := pF (P := P) (w := w) t
   obtain ⟨b1, b2⟩ := b
   exact ⟨(p.1, b2) :: rs, ⟨La h.1, rfl, c⟩, .cons ⟨rfl, h.2⟩ q⟩
end L2
namespace L2
open PySem PySem.Spec PyProof.Rows
section
variable {X : Cx} {pins : List (Addr × Obj)} {σ : St} {H H2 : Hp} {s s2 : Shared} {h' : Heap} {p : Addr} {o : HO} {ob : Obj} {t' : Nat}
theorem Inv.pin1 (I : Inv X pins σ H s) (hd : ∀ v, ob.data ≠ .cell v) (hfr : ob.isFreed = false) : Inv X (pins ++ [(s.heap.objs.size, ob)]) σ H { s with heap := s.heap.push ob } := by
 have I1 : Inv X pins σ H { s with heap := s.heap.push ob } := I.kept (t' := s.toks) fun b u e => Heap.get?_push_of_some _ e
 refine I1.pins_of fun q hq => ?_
 rcases List.mem_append.mp hq with z | z
 ·exact I1.pin q (List.mem_append_right _ z)
 ·have e : q = (s.heap.objs.size, ob) := by simpa using z
  subst e
  exact ⟨Heap.get?_push_size _ hfr, I.hok.fresh (Nat.le_refl _), Nat.ne_of_gt I.lt, I.nofs (Nat.le_refl _), hd⟩
theorem Inv.track (I0 : Inv X pins σ H s) (hp : s.heap.objs.size ≤ p) (I : Inv X (pins ++ [(p, ob)]) σ H2 s2) (k : ∀ b u, b ≠ p → s2.heap.get? b = some u → h'.get? b = some u) (he : ∃ u, h'.get? p = some u) (new : fU X.prog X.w (upd H2 p o) h' p o) :
  Inv X pins σ (upd H2 p o) { s2 with heap := h', toks := t' } := by
 obtain ⟨h1, h2, h3, h4, h5⟩ := I.pin (p, ob) (by simp)
 have J : Inv X pins σ H2 s2 := I.pins_of fun q hq => I.pin q (by simp only [List.mem_append]; exact .inr (.inl hq))
 have np : ∀ b u, H2 b = some u → b ≠ p := fun b u e z => by rw [z, h2] at e; cases e
 refine J.step (g' := s2.gens) (d' := s2.drawn) (t' := t') (ch := [p]) (fun b hb => ?_) (fun b o _ _ hc e _ => k b o (fun z => hc (by simp [z])) e) (fun b o _ _ hc e _ => ⟨o.slots, k b o (fun z => hc (by simp [z])) e⟩)
  (fun b o hc e n => ?_) (fun b o hc e => ⟨o, k b o (fun z => hc (by simp [z])) e⟩) (fun b xs e => ?_) (fun b o u e => ?_) (fun b ps e => ⟨#[], ?_⟩) (fun m hm => ?_) (fun b u e => ?_) J.bare.again
 ·have e : b = p := by simpa using hb
  subst e
  refine ⟨.inr (Nat.le_trans I0.sz hp), h3, fun x c e z => ?_, fun q hq z => ?_⟩
  ·obtain ⟨v, oc, hc, _⟩ := I0.cell x c e
   have := Heap.lt_size hc
   rw [z] at this
   exact absurd this (Nat.not_lt.mpr hp)
  ·have := Heap.lt_size (I0.pin q hq).1
   rw [z] at this
   exact absurd this (Nat.not_lt.mpr hp)
 ·rw [aK (fun z => hc (by simp [z]))]; exact n
 ·rw [aK (np b _ e)]; exact e
 ·rw [aK (np b _ e)]; exact e
 ·rw [aK (np b _ e), e]; simp
 ·obtain ⟨o, es, ep, ho, r⟩ := hm
  exact ⟨o, es, ep, k _ o (Ne.symm h3) ho, r⟩
 ·by_cases hb : b = p
  ·subst hb
   rw [dM] at e
   cases e
   exact new
  ·rw [aK hb] at e
   refine (J.hok b u e).stay (fun c v hc q => k c v ?_ q) (fun c q => by rw [aK (np c _ q)]; exact q) fun c xs q => by rw [aK (np c _ q)]; exact q
   rcases hc with z | z
   ·rw [z]; exact hb
   ·exact np c _ z
end
def Hu (tk tv : TE) : TE := fun σ H Q => tk σ H fun x H1 => tv σ H1 fun y H2 => ∃ k : Key, x = kV k ∧ ∀ p, H2 p = none → Q (.ref p) (upd H2 p (.dK [(k, y)]))
theorem Ac {X : Cx} {pos : Pos} {k v : Expr} {tk tv : TE} (hk : PE X k tk) (hv : PE X v tv) : PE X (.Dict [some k] [v] pos) (Hu tk tv) := by
 intro pins s σ H Q I q
 have I1 := I.pin1 (ob := { cls := .type "dict", data := .dict #[] }) (fun v z => by cases z) rfl
 have h := zy (pos := pos) hk hv Ec
 refine wpAny_Dict_walk (knd := gq X.prog X.w) rfl rfl (by simp) (by simp) (thn (h (pins ++ [(s.heap.objs.size, { cls := .type "dict", data := .dict #[] })]) _ σ H (fun ps H2 => ∃ (k : Key) (y : V), ps = [(kV k, y)] ∧ ∀ p, H2 p = none → Q (.ref p) (upd H2 p (.dK [(k, y)]))) I1 ?_) fun ws s2 ⟨ps, H2, I2, rel, k, y, ep, q2⟩ => ?_)
 ·have : vI [(tk, tv)] σ H (fun ps H2 => ∃ (k : Key) (y : V), ps = [(kV k, y)] ∧ ∀ p, H2 p = none → Q (.ref p) (upd H2 p (.dK [(k, y)]))) = tk σ H fun x H1 => tv σ H1 fun y H2 => ∃ (k : Key) (y' : V), [(x, y)] = [(kV k, y')] ∧ ∀ p, H2 p = none → Q (.ref p) (upd H2 p (.dK [(k, y')])) := rfl
  rw [this]
  have e2 : (fun x H1 => tv σ H1 fun y H2 => ∃ k : Key, x = kV k ∧ ∀ p, H2 p = none → Q (.ref p) (upd H2 p (.dK [(k, y)]))) = (fun x H1 => tv σ H1 fun y H2 => ∃ (k : Key) (y' : V), [(x, y)] = [(kV k, y')] ∧ ∀ p, H2 p = none → Q (.ref p) (upd H2 p (.dK [(k, y')]))) := by
   funext x H1
   congr 1
   funext y H2
   apply propext
   constructor
   ·rintro ⟨k, rfl, h⟩
    exact ⟨k, y, rfl, h⟩
   ·rintro ⟨k, y', e, h⟩
    simp only [List.cons.injEq, Prod.mk.injEq, and_true] at e
    obtain ⟨rfl, rfl⟩ := e
    exact ⟨k, rfl, h⟩
  rw [← e2]
  exact q
 ·subst ep
  obtain ⟨rs, c, rk⟩ := pF (P := X.prog) (w := X.w) (kvs := [(k, y)]) rel
  obtain ⟨h1, h2, _⟩ := I2.pin (s.heap.objs.size, { cls := .type "dict", data := .dict #[] }) (by simp)
  have dd : s2.heap.DictOf (gq X.prog X.w) s.heap.objs.size [] := by
   obtain ⟨o, es, ep, e1, e2, e3, e4⟩ := Heap.DictOf.new (knd := gq X.prog X.w) s.heap
   rw [Heap.get?_push_size _ rfl] at e1
   cases e1
   exact ⟨_, es, ep, h1, e2, e3, e4⟩
  refine ⟨rs, c, dd, fun h' dd' hs => ⟨.ref s.heap.objs.size, _, ?_, rfl, q2 _ h2⟩⟩
  have he : ∃ q, h'.get? s.heap.objs.size = some q := let ⟨q, _, _, hq, _⟩ := dd'; ⟨q, hq⟩
  have hm : KV (wH [] [(k, y)]) (merged [] rs) := rk.merge .nil
  have e : wH [] [(k, y)] = [(k, y)] := rfl
  rw [e] at hm
  refine I.track (Nat.le_refl _) I2 (fun b u hb e => (hs.2 b hb).trans e) he (show fU X.prog X.w _ h' _ (.dK [(k, y)]) from ⟨?_, ?_, _, hm, dd'⟩)
  ·show 1 ≤ sizeLine
   rw [sizeLine_eq]; decide
  ·exact beq_eq_false_iff_ne.mpr (Ne.symm (Nat.ne_of_lt I.big))
end L2
namespace L3
open PySem PySem.Spec PyProof.Rows L2
def Az : D → Option Key
 | .int i => some (.inl i)
 | .str x => some (.inr x)
 | _ => none
theorem Dk {K : PySem.W.Frag} {tb : List Addr} {W : Wd} {x : D} {v : V} {k : Key} (h : Den K tb W x v) (e : Az x = some k) : v = kV k := by
 cases x with
 | int i => cases e; exact bh h
 | str z => cases e; exact pG h
 | _ => cases e
def xV : EF := fun _ μ => some (.dic [], μ)
def pU (fk fv : EF) : EF := fun δ μ => (fk δ μ).bind fun r => (fv δ r.2).bind fun q => (Az r.1).map fun k => (.dic [(k, q.1)], q.2)
section
variable {X : Cx} {tb : List Addr} {k v : Expr} {fk fv : EF} {pos : Pos}
theorem xG {K : PySem.W.Frag} {W : Wd} {Q : VK} {kvs : List (Key × D)} {ps : List (Key × V)} {p : Addr} (ok : WOk K tb W) (h : ∀ v W', WOk K tb W' → Le tb W W' → W'.mu = W.mu → Den K tb W' (.dic kvs) v → Q v W'.H) (r : dY K (W.fz tb) W.ad kvs ps) (hp : W.H p = none) : Q (.ref p) (upd W.H p (.dK ps)) := by
 obtain ⟨ok', le, e⟩ := ok.alloc (o := .dK ps) hp
 refine h (.ref p) _ ok' le rfl ?_
 show aQ _ _ _ _ _
 unfold aQ
 exact ⟨p, ps, rfl, e, dY.mono le.same le.ad _ _ r⟩
theorem xU : PD X tb (.Dict [] [] pos) xV := dH Bk fun σ H Q zq1 => by
 obtain ⟨W, δ, d, μ', e, ok, hd, hf, h⟩ := zq1
 subst e; cases hf
 exact fun p hp => xG ok h (by unfold dY; rfl) hp
theorem xu (hk : PD X tb k fk) (hv : PD X tb v fv) : PD X tb (.Dict [some k] [v] pos) (pU fk fv) := dH (Ac hk hv) fun σ H Q zq2 => by
 obtain ⟨W, δ, d, μ', e, ok, hd, hf, h⟩ := zq2
 unfold pU at hf
 obtain ⟨⟨x, μ1⟩, e1, hf⟩ := Option.bind_eq_some_iff.mp hf
 obtain ⟨⟨y, μ2⟩, e2, hf⟩ := Option.bind_eq_some_iff.mp hf
 obtain ⟨k, e3, e4⟩ := Option.map_eq_some_iff.mp hf
 cases e4
 refine ⟨W, δ, x, μ1, e, ok, hd, e1, fun v W1 ok1 l1 m1 d1 => ⟨W1, δ, y, _, rfl, ok1, hd.mono' l1, (by rw [m1]; exact e2), fun u W2 ok2 l2 m2 d2 => ⟨k, Dk d1 e3, fun p hp => ?_⟩⟩⟩
 exact xG ok2 (fun v' W' ok' l' m' d' => h v' W' ok' ((l1.trans l2).trans l') (m'.trans m2) d') (by unfold dY; exact ⟨_, _, rfl, ⟨rfl, d2⟩, by unfold dY; rfl⟩) hp
end
section
variable {X : Cx} {tb : List Addr} {a b : Expr} {fs : AF} {p p2 pos pos2 : Pos}
end
end L3
namespace L3
open PySem PySem.Spec PyProof.Rows L2
def yz (f : EF) : EF := fun δ μ => (f δ μ).bind fun r => match r.1 with
 | .cell n => (r.2.getD n none).map fun ds => (.lst ds, r.2.set n none)
 | d => some (d, r.2)
theorem Ci {X : Cx} {tb : List Addr} {e : Expr} {f : EF} (h : PD X tb e f) : PD X tb e (yz f) :=
 dH h fun σ H Q zq1 => by
  obtain ⟨W, δ, d, μ', e, ok, hd, hf, k⟩ := zq1
  unfold yz at hf
  obtain ⟨⟨x, μ1⟩, e1, e2⟩ := Option.bind_eq_some_iff.mp hf
  refine ⟨W, δ, x, μ1, e, ok, hd, e1, fun v W1 ok1 l1 m1 d1 => ?_⟩
  cases x with
  | cell n =>
   obtain ⟨ds, e3, e4⟩ := Option.map_eq_some_iff.mp e2
   cases e4
   obtain ⟨a, rfl, ea⟩ := gY d1
   have em : W1.mu[n]? = some (some ds) := by
    rw [m1]
    rw [List.getD_eq_getElem?_getD] at e3
    cases q : μ1[n]? with
    | none => rw [q] at e3; cases e3
    | some z => rw [q] at e3; exact congrArg some e3
   obtain ⟨ok2, l2, d2⟩ := ok1.freeze ea em
   exact k _ ⟨W1.H, W1.ad, W1.mu.set n none⟩ ok2 (l1.trans l2) (by show W1.mu.set n none = _; rw [m1]) d2
  | _ => cases e2; exact k v W1 ok1 l1 m1 d1
mutual
def cLt (m : Nat) : D → Bool
 | .tup ds => iU m ds
 | .lst ds => iU m ds
 | .ro ds => iU m ds
 | .dic kvs => nJ m kvs
 | .cell n => decide (n < m)
 | _ => true
def iU (m : Nat) : List D → Bool
 | [] => true
 | d :: ds => cLt m d && iU m ds
def nJ (m : Nat) : List (Key × D) → Bool
 | [] => true
 | p :: ds => cLt m p.2 && nJ m ds
end
section
variable {K : PySem.W.Frag} {F F' : Hp} {ad : List Addr} {m : Nat}
mutual
theorem aQ.cut (s : jC F F') : ∀ (d : D) (v : V), cLt m d = true → aQ K F ad d v → aQ K F' (ad.take m) d v
 | .non, v, _, h => by unfold aQ at h ⊢; exact h
 | .bl _, v, _, h => by unfold aQ at h ⊢; exact h
 | .int _, v, _, h => by unfold aQ at h ⊢; exact h
 | .str _, v, _, h => by unfold aQ at h ⊢; exact h
 | .tup ds, v, c, h => by
  unfold aQ at h ⊢; unfold cLt at c
  obtain ⟨a, xs, e, q, r⟩ := h
  exact ⟨a, xs, e, SqT.mono s q, az.cut s ds xs c r⟩
 | .lst ds, v, c, h => by
  unfold aQ at h ⊢; unfold cLt at c
  obtain ⟨a, xs, e, q, r⟩ := h
  exact ⟨a, xs, e, s _ _ q, az.cut s ds xs c r⟩
 | .ro ds, v, c, h => by
  unfold aQ at h ⊢; unfold cLt at c
  obtain ⟨a, xs, e, q, r⟩ := h
  exact ⟨a, xs, e, SqL.mono s q, az.cut s ds xs c r⟩
 | .dic kvs, v, c, h => by
  unfold aQ at h ⊢; unfold cLt at c
  obtain ⟨a, ps, e, q, r⟩ := h
  exact ⟨a, ps, e, s _ _ q, dY.cut s kvs ps c r⟩
 | .cell n, v, c, h => by
  unfold aQ at h ⊢; unfold cLt at c
  obtain ⟨a, e, q⟩ := h
  exact ⟨a, e, by rw [List.getElem?_take_of_lt (by simpa using c)]; exact q⟩
theorem az.cut (s : jC F F') : ∀ (ds : List D) (vs : List V), iU m ds = true → az K F ad ds vs → az K F' (ad.take m) ds vs
 | [], vs, _, h => by unfold az at h ⊢; exact h
 | d :: ds, vs, c, h => by
  unfold az at h ⊢; unfold iU at c
  have c := (Bool.and_eq_true _ _).mp c
  obtain ⟨u, us, e, p, r⟩ := h
  exact ⟨u, us, e, aQ.cut s d u c.1 p, az.cut s ds us c.2 r⟩
theorem dY.cut (s : jC F F') : ∀ (ds : List (Key × D)) (vs : List (Key × V)), nJ m ds = true → dY K F ad ds vs → dY K F' (ad.take m) ds vs
 | [], vs, _, h => by unfold dY at h ⊢; exact h
 | p :: ds, vs, c, h => by
  unfold dY at h ⊢; unfold nJ at c
  have c := (Bool.and_eq_true _ _).mp c
  obtain ⟨u, us, e, ⟨p1, p2⟩, r⟩ := h
  exact ⟨u, us, e, ⟨p1, aQ.cut s p.2 u.2 c.1 p2⟩, dY.cut s ds us c.2 r⟩
end
end
def cOk (m : Nat) (μ : Mu) : Bool := μ.all fun o => match o with
 | some ds => iU m ds
 | none => true
theorem WOk.cut {K : PySem.W.Frag} {tb : List Addr} {W : Wd} {m : Nat} (ok : WOk K tb W) (c : cOk m (W.mu.take m) = true) :
  WOk K tb ⟨W.H, W.ad.take m, W.mu.take m⟩ ∧ jC (W.fz tb) (Wd.fz tb ⟨W.H, W.ad.take m, W.mu.take m⟩) := by
 have lv : ∀ b, lg (W.ad.take m) (W.mu.take m) b → lg W.ad W.mu b := fun b zq2 => by
  obtain ⟨i, es, e1, e2⟩ := zq2
  have h1 : i < m := by have := (List.getElem?_eq_some_iff.mp e1).1; simp at this; omega
  rw [List.getElem?_take_of_lt h1] at e1 e2
  exact ⟨i, es, e1, e2⟩
 have sm : jC (W.fz tb) (Wd.fz tb ⟨W.H, W.ad.take m, W.mu.take m⟩) := fun b u e => by
  obtain ⟨e1, e2, e3⟩ := cX e
  have q := lY (tb := tb) (W := ⟨W.H, W.ad.take m, W.mu.take m⟩) (b := b) (fun z => e2 (lv b z)) e3
  rw [q]; exact e1
 refine ⟨⟨by simp [ok.len], fun i a ds e1 e2 => ?_, fun i j a ds es e1 e2 e3 e4 => ?_, ok.tab⟩, sm⟩
 ·have h1 : i < m := by have := (List.getElem?_eq_some_iff.mp e1).1; simp at this; omega
  have cd : iU m ds = true := by
   have := List.all_eq_true.mp c (some ds) (List.mem_of_getElem? e2)
   exact this
  have e1' : (W.ad.take m)[i]? = some a := e1
  have e2' : (W.mu.take m)[i]? = some (some ds) := e2
  rw [List.getElem?_take_of_lt h1] at e1' e2'
  obtain ⟨xs, e, r⟩ := ok.cont i a ds e1' e2'
  exact ⟨xs, e, az.cut sm ds xs cd r⟩
 ·have h1 : i < m := by have := (List.getElem?_eq_some_iff.mp e1).1; simp at this; omega
  have h2 : j < m := by have := (List.getElem?_eq_some_iff.mp e2).1; simp at this; omega
  have e1' : (W.ad.take m)[i]? = some a := e1
  have e2' : (W.ad.take m)[j]? = some a := e2
  have e3' : (W.mu.take m)[i]? = some (some ds) := e3
  have e4' : (W.mu.take m)[j]? = some (some es) := e4
  rw [List.getElem?_take_of_lt h1] at e1' e3'
  rw [List.getElem?_take_of_lt h2] at e2' e4'
  exact ok.inj i j a ds es e1' e2' e3' e4'
def trunc (φ : FF) : FF := fun ds μ => (φ ds μ).bind fun r => if (cLt μ.length r.1 && cOk μ.length (r.2.take μ.length)) = true then some (r.1, r.2.take μ.length) else some r
theorem FI.trunc {P : Program} {w : World} {K : PySem.W.Frag} {mg : Str → Option Value} {base : Heap} {tb : List Addr} {x : Str} {n k : Nat} {φ : FF} (F : FI P w K mg base tb x n k φ) : FI P w K mg base tb x n k (trunc φ) := by
 obtain ⟨f, fd, ps, h1, h2⟩ := F.is
 refine ⟨f, fd, ps, h1.imp fun vs H Q E ⟨W, ds, d, μ', e, ok, dl, hl, hf, k⟩ => ?_, h2⟩
 unfold L3.trunc at hf
 obtain ⟨⟨d1, μ1⟩, e1, e2⟩ := Option.bind_eq_some_iff.mp hf
 split at e2
 ·rename_i hc
  have hc := (Bool.and_eq_true _ _).mp hc
  cases e2
  refine ⟨W, ds, d1, μ1, e, ok, dl, hl, e1, fun v W' ok' l' m' d' => ?_⟩
  obtain ⟨ok2, sm⟩ := ok'.cut (m := W.mu.length) (by rw [m']; exact hc.2)
  exact k v ⟨W'.H, W'.ad.take W.mu.length, W'.mu.take W.mu.length⟩ ok2 ⟨l'.same.trans sm, fun i x q => by
   have hi : i < W.mu.length := by rw [← ok.len]; exact (List.getElem?_eq_some_iff.mp q).1
   show (W'.ad.take W.mu.length)[i]? = some x
   rw [List.getElem?_take_of_lt hi]; exact l'.ad i x q⟩ (by show W'.mu.take _ = _; rw [m']) (aQ.cut sm d1 v hc.1 d')
 ·cases e2
  exact ⟨W, ds, d, μ', e, ok, dl, hl, e1, k⟩
noncomputable def Hn : Nat → (FF → FF) → FF
 | 0, _ => fun _ _ => none
 | n + 1, F => F (Hn n F)
theorem rn {φ : FF} {ds : List D} {μ μ' : Mu} {d : D} (h : φ ds μ = some (d, μ')) (hl : μ'.length = μ.length) : trunc φ ds μ = some (d, μ') := by
 unfold trunc
 rw [h]
 simp only [Option.bind_some]
 rw [← hl, List.take_length]
 split <;> rfl
theorem fX {φ : FF} {ds : List D} {μ : Mu} {d : D} (h : φ ds μ = some (d, μ)) : trunc φ ds μ = some (d, μ) := rn h rfl
end L3
namespace HT
open PySem PySem.Spec PyProof.Rows
section
variable {prog : Program} {w : World} {A : Around} {E : Value → Shared → Prop} {s : Shared}
end
end HT
namespace L2
open PySem PySem.Spec PyProof.Rows
end L2
namespace L3
open PySem PySem.Spec PyProof.Rows L2
end L3
namespace L3
open PySem PySem.Spec PyProof.Rows L2
def JQ (x o i : D) (μ : Mu) : Option Mu := match o, i with
 | .cell n, .int k => match μ[n]? with
  | some (some ds) => (ixN ds.length k).map fun j => μ.set n (some (ds.set j x))
  | _ => none
 | _, _ => none
def yZ (i : Nat) (f : EF) (op : O2) : SF := fun δ μ => match δ[i]? with
 | some (some x) => (f δ μ).bind fun r => (op x r.1 r.2).map fun z => (.nx, δ.set i (some z.1), z.2)
 | _ => none
def JZ : O2
 | .int i, .int j, μ => some (.int (i + j), μ)
 | _, _, _ => none
def xj : O2
 | .int i, .int j, μ => if gR i j ≤ 134217728 then some (.int (i * j), μ) else none
 | _, _, _ => none
theorem DK {X : Cx} : PIp X .Mult (fun x y H Q => ∃ i j, x = .int i ∧ y = .int j ∧ gR i j ≤ 134217728 ∧ Q (.int (i * j)) H) := by
 intro pins s σ H x y v u Q I r1 r2 h
 obtain ⟨i, j, e1, e2, hb, q⟩ := h
 subst e1; subst e2
 obtain ⟨t, rfl⟩ := r1
 obtain ⟨t', rfl⟩ := r2
 exact imul_int ⟨.int _, H, I.tok _, ⟨_, rfl⟩, q⟩ (IntMulOk.of_le (Nat.le_refl _) (Nat.le_refl _) hb)
section
variable {X : Cx} {tb : List Addr} {e : Expr} {f : EF} {pos pos' : Pos} {i : Nat} {x : Str}
theorem Ia {op : Operator} {o : O2} {ti : TIp} (hN : X.N.Nodup) (he : PD X tb e f) (hip : PIp X op ti) (hi : X.N[i]? = some x) (hx : Loc X.env.scope x) (hf : X.fn x = true ∨ X.env.scope.names.lookup x = some .local)
  (ho : ∀ x y μ d μ', o x y μ = some (d, μ') → μ' = μ ∧ ∃ a b c, x = .int a ∧ y = .int b ∧ d = .int c ∧ ∀ H Q, Q (.int c) H → ti (.int a) (.int b) H Q) : PSD X tb (.AugAssign (.Name x pos') op e pos) (yZ i f o) :=
 jG (Hx hN hi hx he hip hf) fun E σ H zq2 => by
  obtain ⟨W, δ, fl, δ', μ', e, ok, hd, hf, h⟩ := zq2
  unfold yZ at hf
  cases e0 : δ[i]? with
  | none => rw [e0] at hf; cases hf
  | some oo =>
   cases oo with
   | none => rw [e0] at hf; cases hf
   | some z =>
    rw [e0] at hf
    obtain ⟨⟨y, μ1⟩, e1, hf⟩ := Option.bind_eq_some_iff.mp hf
    obtain ⟨⟨d, μ2⟩, e2, e3⟩ := Option.map_eq_some_iff.mp hf
    obtain ⟨rfl, a, b, c, rfl, rfl, rfl, q⟩ := ho _ _ _ _ _ e2
    cases e3
    obtain ⟨v, ev, dv⟩ := hd.2 i _ e0
    rw [bh dv] at ev
    refine ⟨.int a, ev, W, δ, _, _, e, ok, hd, e1, fun u W1 ok1 l1 m1 d1 => ?_⟩
    rw [bh d1]
    exact q _ _ (h _ W1 ok1 l1 m1 ((hd.mono' l1).set cY))
theorem wJ (hN : X.N.Nodup) (he : PD X tb e f) (hi : X.N[i]? = some x := by rfl) (hx : Loc X.env.scope x := by first | exact Or.inl rfl | exact Or.inr rfl) (hf : X.fn x = true ∨ X.env.scope.names.lookup x = some .local := by first | exact .inl rfl | exact .inr rfl | assumption) : PSD X tb (.AugAssign (.Name x pos') .Mult e pos) (yZ i f xj) :=
 Ia hN he DK hi hx hf fun x y μ d μ' h => by
  unfold xj at h
  split at h
  ·split at h
   ·rename_i hb
    cases h
    exact ⟨rfl, _, _, _, rfl, rfl, rfl, fun H Q q => ⟨_, _, rfl, rfl, hb, q⟩⟩
   ·cases h
  ·cases h
end
def eqF : D → D → Bool
 | .non, .non => true
 | .bl a, .bl b => a == b
 | .bl a, .int b => (if a then 1 else 0) == b
 | .int a, .bl b => a == (if b then 1 else 0)
 | .int a, .int b => a == b
 | .str a, .str b => a == b
 | _, _ => false
def inF (x : D) (ds : List D) : Bool := ds.any fun y => eqF y x
section
variable {K : PySem.W.Frag} {tb : List Addr} {W : Wd}
end
end L3
namespace L3
open PySem PySem.Spec PyProof.Rows L2 PySem.SeqAt
theorem Bu {X : Cx} {k : Nat} (hr : eQ k X.A) : OpR X (compareOp .NotEq) (fun v u H Q => ∃ a b xs ys, v = .ref a ∧ u = .ref b ∧ SqL X.K H a xs ∧ SqL X.K H b ys ∧ xs.length ≠ ys.length ∧ Q (.bl true) H) := by
 intro pins s σ H v u vv uu Q I rv ru h
 obtain ⟨a, b, xs, ys, rfl, rfl, hx, hy, hl, q⟩ := h
 have hun := hr.un
 cases rv
 cases ru
 obtain ⟨its0, iv0, pl0, hz0⟩ := I.list hx
 obtain ⟨its1, iv1, pl1, hz1⟩ := I.list hy
 have hl' : its0.length ≠ its1.length := by rw [← iv0.length, ← iv1.length]; exact hl
 exact RcNeAt.lists_lengths (A := X.A) pl0.isList pl1.isList (by simpa using hl') (by omega) X.prog X.w X.xe _ ⟨.bl true, H, I, rfl, q⟩
def vM : O2 := fun x y μ => match x, y with
 | .lst ds, .lst [] => some (.bl (!ds.isEmpty), μ)
 | x, y => oNe x y μ
theorem vN {x y : D} {μ : Mu} : vM x y μ = oNe x y μ ∨ ∃ d ds, x = .lst (d :: ds) ∧ y = .lst [] ∧ vM x y μ = some (.bl true, μ) := by
 unfold vM
 split
 ·rename_i ds
  cases ds with
  | nil => left; unfold oNe rsv; simp [cV, dD, gM, gO, eqD, jW]
  | cons d ds => exact .inr ⟨d, ds, rfl, rfl, rfl⟩
 ·exact .inl rfl
theorem Hf {X : Cx} {tb : List Addr} {k : Nat} (hr : eQ k X.A) : OpD X tb (compareOp .NotEq) vM := ⟨_, (Bq hr).or (Bu hr), fun W x y v u d μ' Q ok dx dy ho h => by
 rcases vN (x := x) (y := y) (μ := W.mu) with e | ⟨d', ds, rfl, rfl, e⟩
 ·rw [e] at ho
  unfold oNe at ho
  split at ho
  ·rename_i hc
   cases ho
   rw [Bool.and_eq_true] at hc
   exact .inl ⟨_, _, mD ok dx hc.1.1, mD ok dy hc.1.2, hc.2, put ok h fL⟩
  ·cases ho
 ·rw [e] at ho
  cases ho
  obtain ⟨a, xs, rfl, q, r⟩ := jr dx
  obtain ⟨b, ys, rfl, q2, r2⟩ := jr dy
  refine .inr ⟨a, b, xs, ys, rfl, rfl, SqL.fz q, SqL.fz q2, ?_, put ok h fL⟩
  have h1 := az.length r
  have h2 := az.length r2
  simp at h1 h2
  omega⟩
end L3
namespace L3
open PySem PySem.Spec PyProof.Rows L2
def lW : D → Mu → Option (List D)
 | .lst ds, _ => some ds
 | .cell n, μ => (μ[n]?).join
 | _, _ => none
theorem rW {K : PySem.W.Frag} {tb : List Addr} {W : Wd} {x : D} {v : V} {ds : List D} (ok : WOk K tb W) (h : Den K tb W x v) (e : lW x W.mu = some ds) : ∃ a xs, v = .ref a ∧ W.H a = some (.lst xs) ∧ cB K tb W ds xs := by
 cases x with
 | lst es =>
  cases e
  obtain ⟨a, xs, rfl, q, r⟩ := mz h
  exact ⟨a, xs, rfl, (cX q).1, r⟩
 | cell n =>
  obtain ⟨a, rfl, q⟩ := gY h
  have e : (W.mu[n]?).join = some ds := e
  cases e2 : W.mu[n]? with
  | none => rw [e2] at e; cases e
  | some o =>
   rw [e2] at e
   have e : o = some ds := e
   subst e
   obtain ⟨xs, ex, r⟩ := ok.cont n a ds q e2
   exact ⟨a, xs, rfl, ex, r⟩
 | _ => cases e
def sG (fa fb : EF) : LF := fun δ μ => (fa δ μ).bind fun r => (fb δ r.2).bind fun q => (lW r.1 q.2).bind fun xs => (lW q.1 q.2).bind fun ys => if xs.length + ys.length ≤ sizeLine then some (xs ++ ys, q.2) else none
theorem sW {X : Cx} {tb : List Addr} {a b : Expr} {fa fb : EF} {pos : Pos} (ha : PD X tb a fa) (hb : PD X tb b fb) : PDN X tb (.BinOp a .Add b pos) (sG fa fb) :=
 dH (Gh Bj ha hb) fun σ H Q zq3 => by
  obtain ⟨W, δ, ds, μ', e, ok, hd, hf, h⟩ := zq3
  unfold sG at hf
  obtain ⟨⟨x, μ1⟩, e1, hf⟩ := Option.bind_eq_some_iff.mp hf
  obtain ⟨⟨y, μ2⟩, e2, hf⟩ := Option.bind_eq_some_iff.mp hf
  obtain ⟨xs, e3, hf⟩ := Option.bind_eq_some_iff.mp hf
  obtain ⟨ys, e4, hf⟩ := Option.bind_eq_some_iff.mp hf
  refine ⟨W, δ, x, μ1, e, ok, hd, e1, fun v W1 ok1 l1 m1 d1 => ⟨W1, δ, y, μ2, rfl, ok1, hd.mono' l1, (by rw [m1]; exact e2), fun u W2 ok2 l2 m2 d2 => ?_⟩⟩
  have d1 := Den.mono' d1 l2
  split at hf
  ·rename_i hz
   cases hf
   obtain ⟨a1, us, rfl, q1, r1⟩ := rW ok2 d1 (by rw [m2]; exact e3)
   obtain ⟨a2, ws, rfl, q2, r2⟩ := rW ok2 d2 (by rw [m2]; exact e4)
   exact ⟨a1, a2, us, ws, rfl, rfl, q1, q2, by rw [← az.length r1, ← az.length r2]; exact hz, fun p hp => h p _ W2 ok2 (l1.trans l2) m2 hp (az.append r1 r2)⟩
  ·cases hf
end L3
namespace L2
open PySem PySem.Spec PyProof.Rows
section
variable {X : Cx} {pos : Pos}
def JN (i j k : Nat) (ta : TA) : TS := fun D σ H => ta σ H fun vs H1 => ∃ v w z, vs = [v, w, z] ∧ D.nx (((σ.set i (some v)).set j (some w)).set k (some z)) H1
theorem Fq {i j k : Nat} {x y z : Str} {a b c : Expr} {ta : TA} {px py pz pt : Pos} {kt k2 pt2} (hc : X.calm = true) (hN : X.N.Nodup) (hi : X.N[i]? = some x) (hj : X.N[j]? = some y) (hk : X.N[k]? = some z) (hij : i ≠ j) (hik : i ≠ k) (hjk : j ≠ k)
  (hx : X.env.scope.names.lookup x = some .local) (hy : X.env.scope.names.lookup y = some .local) (hz : X.env.scope.names.lookup z = some .local) (ha : PA X [a, b, c] ta)
  (hw : swappedStores [.Tuple [.Name x px, .Name y py, .Name z pz] kt pt] (.Tuple [a, b, c] k2 pt2) X.env = pure (some [x, y, z]))
  (hs : swapsWithSole [.Tuple [.Name x px, .Name y py, .Name z pz] kt pt] (.Tuple [a, b, c] k2 pt2) pos.line X.env = pure false := by rfl) :
  PS X (.Assign [.Tuple [.Name x px, .Name y py, .Name z pz] kt pt] (.Tuple [a, b, c] k2 pt2) pos) (JN i j k ta) := by
 intro pins s σ H D I h
 rw [exec_Assign_arm]
 refine wpAny_bind (wpAny_standAt ?_)
 rw [hs]
 refine wpAny_bind (wpAny_pure ?_)
 rw [if_neg (by decide)]
 refine wpAny_bind (Tuple_ (thn (ha _ pins s σ H _ I h) fun us s1 zq4 => ?_))
 obtain ⟨vs, H1, I1, r1, q1⟩ := zq4
 obtain ⟨v, w, t, e1, q1⟩ := q1
 subst e1
 obtain ⟨u1, u2, u3, rfl, rv, rw', rt⟩ : ∃ u1 u2 u3, us = [u1, u2, u3] ∧ RelV v u1 ∧ RelV w u2 ∧ RelV t u3 := by
  cases r1 with
  | cons p q =>
   cases q with
   | cons p' q' =>
    cases q' with
    | cons p'' q'' =>
     cases q''
     exact ⟨_, _, _, rfl, p, p', p''⟩
 refine wpAny_newObj_type ?_ (by show 3 ≤ sizeLine; decide)
 have I2 : Inv X pins σ H1 { s1 with heap := s1.heap.push { cls := .type "tuple", data := .seq [u1, u2, u3].toArray } } := I1.kept (t' := s1.toks) fun b o e => Heap.get?_push_of_some _ e
 rw [hw]
 refine wpAny_bind (wpAny_pure ?_)
 show wpAny (model X.prog X.w) X.A (do rule "assign.swapped-stores"; let items ← unpackItems (.ref s1.heap.objs.size) 3 none; assignInOrder [fun v => bindName X.env z v, fun v => bindName X.env y v, fun v => bindName X.env x v] items.reverse; pure Flow.next) _ _ _
 refine wpAny_bind (wpAny_rule (wpAny_bind (unpackItems_tuple (items := #[u1, u2, u3]) (I.ok.hd hc) (IsTup.new s1.heap _) fun h' hx' => ?_)))
 have I3 := I2.kept (h' := h') (t' := s1.toks) fun b o e => hx' b o (Nat.ne_of_lt (Heap.lt_size e)) e
 show wpAny _ _ (assignInOrder [fun v => bindName X.env z v, fun v => bindName X.env y v, fun v => bindName X.env x v] [u3, u2, u1] >>= fun _ => pure Flow.next) _ _ _
 refine wpAny_bind (assignInOrder_cons (wpAny_bindName (gA I3 hN hk (.inl hz) rt (fun s2 I4 => ?_) (.inr hz))))
 refine assignInOrder_cons (wpAny_bindName (gA I4 hN hj (.inl hy) rw' (fun s3 I5 => ?_) (.inr hy)))
 refine assignInOrder_cons (wpAny_bindName (gA I5 hN hi (.inl hx) rv (fun s4 I6 => assignInOrder_nil (wpAny_pure ?_)) (.inr hx)))
 have e : ((σ.set k (some t)).set j (some w)).set i (some v) = ((σ.set i (some v)).set j (some w)).set k (some t) := by
  rw [List.set_comm _ _ (Ne.symm hij), List.set_comm _ _ (Ne.symm hik), List.set_comm (l := σ.set i (some v)) _ _ (Ne.symm hjk)]
 rw [e] at I6
 exact ⟨_, H1, I6, q1⟩
end
end L2
namespace L3
open PySem PySem.Spec PyProof.Rows L2
def xF (i j k : Nat) (fs : AF) : SF := fun δ μ => (fs δ μ).bind fun r => match r.1 with
 | [x, y, z] => some (.nx, ((δ.set i (some x)).set j (some y)).set k (some z), r.2)
 | _ => none
theorem Ai {X : Cx} {tb : List Addr} {pos : Pos} {i j k : Nat} {x y z : Str} {a b c : Expr} {fs : AF} {px py pz pt : Pos} {kt k2 pt2} (hc : X.calm = true) (hN : X.N.Nodup) (ha : PAD X tb [a, b, c] fs) (hij : i ≠ j := by decide) (hik : i ≠ k := by decide) (hjk : j ≠ k := by decide) (hi : X.N[i]? = some x := by rfl) (hj : X.N[j]? = some y := by rfl) (hk : X.N[k]? = some z := by rfl)
  (hx : X.env.scope.names.lookup x = some .local := by rfl) (hy : X.env.scope.names.lookup y = some .local := by rfl) (hz : X.env.scope.names.lookup z = some .local := by rfl)
  (hw : swappedStores [.Tuple [.Name x px, .Name y py, .Name z pz] kt pt] (.Tuple [a, b, c] k2 pt2) X.env = pure (some [x, y, z]) := by rfl)
  (hs : swapsWithSole [.Tuple [.Name x px, .Name y py, .Name z pz] kt pt] (.Tuple [a, b, c] k2 pt2) pos.line X.env = pure false := by rfl) :
  PSD X tb (.Assign [.Tuple [.Name x px, .Name y py, .Name z pz] kt pt] (.Tuple [a, b, c] k2 pt2) pos) (xF i j k fs) :=
 jG (Fq hc hN hi hj hk hij hik hjk hx hy hz ha hw hs) fun E σ H zq5 => by
  obtain ⟨W, δ, fl, δ', μ', e, ok, hd, hf, h⟩ := zq5
  unfold xF at hf
  obtain ⟨⟨xs, μ1⟩, e1, e2⟩ := Option.bind_eq_some_iff.mp hf
  match xs, e1, e2 with
  | [x, y, z], e1, e2 =>
   cases e2
   refine ⟨W, δ, _, _, e, ok, hd, e1, fun vs W1 ok1 l1 m1 d1 => ?_⟩
   unfold cB az at d1
   obtain ⟨u, us, rfl, du, d1⟩ := d1
   obtain ⟨v, w, rfl, dv, dw⟩ := az.two d1
   exact ⟨u, v, w, rfl, h _ W1 ok1 l1 m1 ((((hd.mono' l1).set du).set dv).set dw)⟩
theorem us1 {α : Type} {P : List α → Prop} (h : ∀ a, P [a]) : ∀ us : List α, us.length = 1 → P us
 | [a], _ => h a
theorem us2 {α : Type} {P : List α → Prop} (h : ∀ a b, P [a, b]) : ∀ us : List α, us.length = 2 → P us
 | [a, b], _ => h a b
theorem us3 {α : Type} {P : List α → Prop} (h : ∀ a b c, P [a, b, c]) : ∀ us : List α, us.length = 3 → P us
 | [a, b, c], _ => h a b c
theorem us4 {α : Type} {P : List α → Prop} (h : ∀ a b c d, P [a, b, c, d]) : ∀ us : List α, us.length = 4 → P us
 | [a, b, c, d], _ => h a b c d
structure Got (K : PySem.W.Frag) (x : Str) (st : Stmt) (f c P : Addr) (fd : FuncData) : Prop where
 F : fG K x x st f fd P
 m : PySem.W.nsIn K mainGlobals x = some (some (.ref f))
 t : PySem.W.tabIn K x = some (c, P)
 e : ∃ kV dc pm an ct, fd = PySem.W.fnOf x x (iJ st) (gk st) (aJ st) .none kV dc pm an (.ref c) ct
theorem cg {K : PySem.W.Frag} {x : Str} {st : Stmt} {f c P : Addr} {oc : Value} {od an : Option Addr} {osl : Array (Option Value)} {kV doc pm ct : Value} {dd : Option Addr} {vs : Array Value} {sl : Array (Option Value)} (a : PySem.W.nsIn K mainGlobals x = some (some (.ref f)))
  (l : K.lookup f = some ⟨oc, od, .func (PySem.W.fnOf x x (iJ st) (gk st) (aJ st) .none kV doc pm an (.ref c) ct), osl⟩) (hc : PySem.W.codeIn K (.ref c) x = true) (k : PySem.W.keepIn K (.ref f) = true)
  (lc : K.lookup c = some ⟨.type "code", dd, .fields vs, sl⟩) (p : vs[11]? = some (.ref P)) (q : tZ vs = true) (ne : (c != P) = true) : ∃ f c P fd, Got K x st f c P fd :=
 ⟨f, c, P, _, Ef l hc k lc p q ne, a, Ih a l rfl lc p, kV, doc, pm, an, ct, rfl⟩
end L3
set_option maxHeartbeats 4000000
namespace LG
open PySem PySem.Spec PyProof.Rows L2 L3
noncomputable def dI : SF := bG (nU (M1 (ak 0) (jt "int")) (qd (M1 (ak 0) (jt "bool"))))
noncomputable def cL (cP : FF) : SF := bG (nU (M1 (ak 0) (jt "tuple")) (Ep (pX ["part"] [] (fQ (ak 0)) (hName 0) (MC (aj (ak 0) (au)) cP))))
noncomputable def cG : SF := aP (tX 0 1 (aj (MC (aj (ak 0) (au)) (aO lF)) (aj (MC (aj (ak 1) (au)) (aO lF)) (au)))) (aP (jw (toB (M2 (ak 1) (mC (.int 0)) oNe)) (tX 0 1 (aj (ak 1) (aj (M2 (ak 0) (ak 1) oMod) (au))))) (bG (ak 0)))
noncomputable def gB : SF := aP (bz 2 (M2 (M2 (M2 (M2 (M2 (ak 0) (mC (.int 2147483647)) oMod) (mC (.int 48271)) bH) (M2 (M2 (mC (.int 7919)) (ak 1) bH) (ak 1) bH) aU) (mC (.int 104729)) aU) (mC (.int 2147483647)) oMod)) (bG (M2 (M2 (ak 2) (ak 2) bH) (mC (.int 2147483629)) oMod))
noncomputable def jT (aR : FF) : SF := aP (bz 1 (mF (oE (au)))) (aP (gb (bQ (aj (MC (aj (MC (aj (ak 0) (au)) (aO bN)) (aj (mC (.int 63)) (au))) (lw nT)) (au))) (hName 2) (aP (bz 3 (MC (aj (M2 (ak 0) (ak 2) oIx) (au)) (aO lF))) (aP (sIf (toB (M2 (ak 3) (M2 (mC (.int 10)) (mC (.int 18)) jl) oLt)) (gb (bQ (aj (mC (.int 12)) (au))) (hName 4) (eF (gK (ak 1) (aj (MC (aj (MC (aj (ak 3) (aj (M2 (M2 (mC (.int 3)) (ak 4) bH) (mC (.int 1)) aU) (au))) aR) (aj (M2 (M2 (ak 4) (ak 2) aU) (mC (.int 2)) aU) (au))) aR) (au))))) (bU)) (aP (jw (jF (toB (M2 (ak 3) (M2 (mC (.int 10)) (mC (.int 18)) jl) oGe)) (toB (M2 (MC (aj (ak 1) (au)) (aO bN)) (mC (.int 900)) oLt))) (aP (eF (gK (ak 1) (aj (M2 (ak 3) (mC (.int 2147483629)) oMod) (au)))) (bz 3 (M2 (ak 3) (mC (.int 2147483629)) oDiv)))) (sIf (toB (M2 (ak 3) (mC (.int 2147483629)) oGe)) (eF (gK (ak 1) (aj (M2 (ak 3) (mC (.int 2147483629)) oMod) (au)))) (bU)))))) (bG (ak 1)))
noncomputable def jq : SF := aP (sIf (toB (M2 (ak 0) (MC (au) oLst) oEq)) (bG (mC (.int 0))) (bU)) (bG (xr (ak 0)))
noncomputable def lC : SF := aP (jw (toB (M2 (ak 1) (mC (.int 0)) oNe)) (tX 0 1 (aj (ak 1) (aj (M2 (ak 0) (ak 1) oMod) (au))))) (bG (MC (aj (ak 0) (au)) (aO lF)))
noncomputable def fZ (cZ : FF) : SF := aP (bz 2 (ak 1)) (aP (gb (fQ (ak 0)) (hName 3) (bz 2 (MC (aj (ak 2) (aj (ak 3) (au))) cZ))) (aP (sIf (toB (M2 (ak 1) (mC (.int 0)) oLt)) (bz 2 (M2 (mC (.int 0)) (MC (aj (ak 2) (au)) (aO lF)) gH)) (bU)) (bG (M2 (MC (aj (mFz (lLC ["_law_number"] [2] (fQ (ak 0)) (hName 0) (cU) (M2 (ak 0) (ak 1) oDiv))) (au)) fV) (MC (aj (M2 (ak 1) (ak 2) oDiv) (au)) oTup) aU))))
noncomputable def jE : SF := bG (nU (M1 (ak 0) (jt "int")) (qd (M1 (ak 0) (jt "bool"))))
noncomputable def kO : SF := bG (nU (M1 (ak 0) (jt "bool")) (M2 (ak 0) (ak 1) oEq))
noncomputable def mG : SF := aP (bz 1 (MC (aj (mC .non) (aj (mC (.bl true)) (aj (mC (.bl false)) (aj (mC (.int 0)) (aj (mC (.int 1)) (aj (M1 (mC (.int 1)) ik) (aj (mC (.int 7)) (aj (mC (.str "")) (aj (mC (.str "1")) (aj (mC (.str "spot")) (aj (MC (au) oTup) (aj (MC (au) oLst) (aj (xV) (aj (MC (aj (mC (.int 1)) (au)) oTup) (aj (MC (aj (mC (.int 1)) (au)) oLst) (aj (MC (aj (mC (.int 0)) (aj (mC (.int 1)) (au))) oTup) (aj (MC (aj (mC (.int 0)) (aj (mC (.int 1)) (au))) oLst) (aj (MC (aj (MC (aj (mC (.int 0)) (aj (mC (.int 1)) (au))) oTup) (au)) oTup) (aj (M2 (mC (.int 10)) (mC (.int 30)) jl) (au)))))))))))))))))))) oLst)) (aP (bz 1 (M2 (ak 1) (MC (aj (MC (aj (mC (.int 1)) (aj (mC (.int 1)) (au))) oTup) (aj (MC (aj (mC (.bl true)) (aj (mC (.int 1)) (au))) oTup) (aj (MC (aj (mC (.int 0)) (aj (mC (.bl true)) (au))) oTup) (aj (pU (mC (.int 0)) (mC (.int 1))) (aj (MC (aj (mC .non) (aj (mC (.int 1)) (au))) oTup) (aj (MC (aj (mC (.str "0")) (aj (mC (.int 1)) (au))) oTup) (aj (MC (aj (mC (.int 0)) (aj (mC (.int 0)) (aj (mC (.int 1)) (au)))) oTup) (aj (MC (aj (MC (aj (mC (.int 0)) (aj (mC (.int 1)) (au))) oTup) (au)) oLst) (aj (M2 (mC (.int 10)) (mC (.int 64)) jl) (aj (MC (aj (mC (.int 2)) (aj (mC (.int 2)) (au))) oTup) (au))))))))))) oLst) aU)) (bG (M2 (ak 1) (M2 (ak 0) (MC (aj (ak 1) (au)) (aO bN)) oMod) oIx)))
noncomputable def nG : SF := bG (M2 (M2 (mSl (ak 0) (fNo) (fAt (ak 1))) (MC (aj (ak 2) (au)) oTup) aU) (mSl (ak 0) (fAt (M2 (ak 1) (mC (.int 1)) aU)) (fNo)) aU)
noncomputable def eG : SF := aP (sIf (toB (M2 (ak 1) (mC (.int 0)) oEq)) (bG (MC (aj (M2 (M2 (ak 0) (mC (.int 20001)) oMod) (mC (.int 10000)) gH) (aj (M2 (mC (.int 1)) (M2 (M2 (ak 0) (mC (.int 20001)) oDiv) (mC (.int 60)) oMod) aU) (au))) oTup)) (bU)) (aP (sIf (toB (M2 (ak 1) (mC (.int 1)) oEq)) (bG (MC (aj (M2 (M2 (ak 0) (mC (.int 5)) oMod) (mC (.int 2)) gH) (aj (mC (.int 1)) (au))) oTup)) (bU)) (aP (sIf (toB (M2 (ak 1) (mC (.int 2)) oEq)) (bG (MC (aj (M2 (M2 (ak 0) (mC (.int 11)) oMod) (mC (.int 5)) gH) (aj (M2 (mC (.int 1)) (M2 (M2 (ak 0) (mC (.int 11)) oDiv) (mC (.int 3)) oMod) aU) (au))) oTup)) (bU)) (aP (sIf (toB (M2 (ak 1) (mC (.int 3)) oEq)) (bG (MC (aj (M2 (ak 2) (M2 (MC (aj (mC (.int 0)) (aj (mC (.int 0)) (aj (mC (.int 1)) (aj (mC (.int 40)) (au))))) oLst) (M2 (ak 0) (mC (.int 4)) oMod) oIx) aU) (aj (mC (.int 1)) (au))) oTup)) (bU)) (bG (MC (aj (M2 (M2 (ak 0) (mC (.int 2)) oMod) (M2 (mC (.int 1)) (M2 (ak 2) (mC (.int 7)) oMod) aU) bH) (aj (mC (.int 1)) (au))) oTup)))))
noncomputable def iY (aR gh bu : FF) : SF := aP (bz 4 (mF (oE (au)))) (aP (bz 5 (mC (.int 1))) (aP (gb (bQ (aj (ak 1) (au))) (hName 6) (aP (Ae (MC (aj (MC (aj (ak 0) (aj (M2 (ak 6) (mC (.int 1)) aU) (au))) aR) (aj (ak 2) (aj (M2 (ak 3) (ak 6) aU) (au)))) gh) (jD 2 (bW (hName 7) (bW (hName 8) (jB))))) (aP (sIf (toB (M2 (ak 6) (mC (.int 0)) oEq)) (bz 5 (ak 8)) (bU)) (eF (gK (ak 4) (aj (ak 7) (au))))))) (bG (MC (aj (yz (ak 4)) (aj (ak 5) (au))) bu))))
noncomputable def oY (φ_common_divisor : FF) : SF := aP (bz 1 (MC (aj (ak 0) (au)) φ_common_divisor)) (bG (Bh (pX ["number"] [1] (fQ (ak 0)) (hName 0) (M2 (ak 0) (ak 1) oDiv))))
noncomputable def bR (bf : FF) : SF := aP (bz 1 (mC (.int 1))) (aP (gb (fQ (ak 0)) (hName 2) (yZ 1 (M2 (ak 2) (MC (aj (ak 1) (aj (ak 2) (au))) bf) oDiv) xj)) (bG (ak 1)))
noncomputable def bT : SF := bG (uq (pX ["one", "other"] [] (qD (aj (ak 0) (aj (ak 1) (au)))) (jD 2 (bW (hName 0) (bW (hName 1) (jB)))) (M2 (ak 0) (ak 1) bH)))
noncomputable def gZ (bx : FF) : SF := bG (mFz (lLC ["at"] [1, 0] (bQ (aj (MC (aj (M2 (ak 0) (mC (.int 0)) oIx) (au)) (aO bN)) (au))) (hName 0) (cU) (MC (aj (ak 1) (aj (mFz (lLC ["row"] [0] (fQ (ak 2)) (hName 0) (cU) (M2 (ak 0) (ak 1) oIx))) (au))) bx)))
noncomputable def dh (bw : FF) : SF := aP (bz 2 (MC (aj (mFz (lLC ["point"] [] (fQ (ak 0)) (hName 0) (cU) (M2 (ak 0) (M1 (mC (.int 1)) ik) oIx))) (au)) bw)) (bG (mFz (lLC ["number", "point"] [2] (qD (aj (ak 1) (aj (ak 0) (au)))) (jD 2 (bW (hName 0) (bW (hName 1) (jB)))) (cU) (M2 (ak 0) (M2 (ak 2) (M2 (ak 1) (M1 (mC (.int 1)) ik) oIx) oDiv) bH))))
noncomputable def cF (cC cj eZ : FF) : SF := aP (sIf (oF (jy (oA (MC (aj (ak 1) (au)) cC))) (oF (toB (M2 (MC (aj (ak 1) (au)) (aO bN)) (MC (aj (ak 0) (au)) (aO bN)) oNe)) (jy (oA (zW (lM (ak 1))))))) (bG (mC (.bl false))) (bU)) (bG (qd (zW (lM (MC (aj (ak 0) (aj (MC (aj (ak 0) (aj (ak 1) (au))) cj) (au))) eZ)))))
noncomputable def iW (dj : FF) : SF := aP (sIf (toB (M2 (ak 0) (MC (au) oLst) oEq)) (bG (mC (.int 1))) (bU)) (aP (bz 1 (mC (.int 0))) (aP (gb (jL (aj (M2 (ak 0) (mC (.int 0)) oIx) (au))) (jD 2 (bW (hName 2) (bW (hName 3) (jB)))) (aP (bz 4 (mFz (lLC ["_law_row"] [2] (fQ (mSl (ak 0) (fAt (mC (.int 1))) (fNo))) (hName 0) (cU) (M2 (mSl (ak 0) (fNo) (fAt (ak 1))) (mSl (ak 0) (fAt (M2 (ak 1) (mC (.int 1)) aU)) (fNo)) aU)))) (bz 1 (M2 (ak 1) (M2 (M2 (M2 (MC (aj (mC (.int 1)) (aj (M1 (mC (.int 1)) ik) (au))) oLst) (M2 (ak 2) (mC (.int 2)) oMod) oIx) (ak 3) bH) (MC (aj (ak 4) (au)) dj) bH) aU)))) (bG (ak 1))))
noncomputable def rD (dz cZ : FF) : SF := aP (sIf (oF (jy (oA (M1 (ak 1) (jt "tuple")))) (oF (toB (M2 (MC (aj (ak 1) (au)) (aO bN)) (MC (aj (ak 0) (au)) (aO bN)) oNe)) (toB (M2 (mFz (lLC ["_law_one"] [] (fQ (ak 1)) (hName 0) (jy (oA (MC (aj (ak 0) (au)) dz))) (ak 0))) (MC (au) oLst) vM)))) (bG (mC (.bl false))) (bU)) (aP (sIf (oF (toB (M2 (mFz (lLC ["_law_one"] [] (fQ (ak 1)) (hName 0) (toB (M2 (ak 0) (mC (.int 0)) oNe)) (ak 0))) (MC (au) oLst) oEq)) (toB (M2 (uq (lM (ak 1))) (mC (.int 0)) oNe))) (bG (mC (.bl false))) (bU)) (aP (bz 2 (mC (.int 1))) (aP (gb (fQ (ak 0)) (hName 3) (bz 2 (M2 (M2 (ak 2) (M2 (ak 3) (M1 (mC (.int 1)) ik) oIx) bH) (MC (aj (ak 2) (aj (M2 (ak 3) (M1 (mC (.int 1)) ik) oIx) (au))) cZ) oDiv))) (aP (gb (bQ (aj (M2 (MC (aj (M2 (ak 0) (mC (.int 0)) oIx) (au)) (aO bN)) (mC (.int 1)) gH) (au))) (hName 4) (sIf (toB (M2 (uq (lM (mFz (lLC ["_law_one", "_law_point_here"] [4, 2] (qD (aj (ak 1) (aj (ak 0) (au)))) (jD 2 (bW (hName 0) (bW (hName 1) (jB)))) (cU) (M2 (M2 (ak 0) (M2 (ak 1) (ak 2) oIx) bH) (M2 (ak 3) (M2 (ak 1) (M1 (mC (.int 1)) ik) oIx) oDiv) bH))))) (mC (.int 0)) oNe)) (bG (mC (.bl false))) (bU))) (bG (mC (.bl true)))))))
noncomputable def rK (dj : FF) : SF := aP (bz 1 (mF (oE (au)))) (aP (gb (jL (aj (ak 0) (au))) (jD 2 (bW (hName 2) (bW (hName 3) (jB)))) (aP (bz 4 (mFz (lLC ["_law_j", "_law_other"] [2] (jL (aj (ak 0) (au))) (jD 2 (bW (hName 0) (bW (hName 1) (jB)))) (toB (M2 (ak 0) (ak 2) oNe)) (ak 1)))) (eF (gK (ak 1) (aj (M2 (M2 (M2 (MC (aj (mC (.int 1)) (aj (M1 (mC (.int 1)) ik) (au))) oLst) (M2 (ak 2) (mC (.int 2)) oMod) oIx) (MC (aj (ak 4) (au)) dj) bH) (M2 (ak 3) (M1 (mC (.int 1)) ik) oIx) bH) (au)))))) (bG (MC (aj (yz (ak 1)) (au)) fV)))
noncomputable def bA (dz cZ : FF) : SF := aP (sIf (oF (jy (oA (M1 (ak 1) (jt "tuple")))) (oF (toB (M2 (MC (aj (ak 1) (au)) (aO bN)) (MC (aj (ak 0) (au)) (aO bN)) oNe)) (toB (M2 (mFz (lLC ["_law_one"] [] (fQ (ak 1)) (hName 0) (jy (oA (MC (aj (ak 0) (au)) dz))) (ak 0))) (MC (au) oLst) vM)))) (bG (mC (.bl false))) (bU)) (aP (sIf (oF (toB (M2 (mFz (lLC ["_law_one"] [] (fQ (ak 1)) (hName 0) (toB (M2 (ak 0) (mC (.int 0)) oNe)) (ak 0))) (MC (au) oLst) oEq)) (toB (M2 (uq (lM (ak 1))) (mC (.int 0)) oNe))) (bG (mC (.bl false))) (bU)) (aP (bz 2 (mC (.int 1))) (aP (gb (fQ (ak 0)) (hName 3) (bz 2 (M2 (M2 (ak 2) (M2 (ak 3) (M1 (mC (.int 1)) ik) oIx) bH) (MC (aj (ak 2) (aj (M2 (ak 3) (M1 (mC (.int 1)) ik) oIx) (au))) cZ) oDiv))) (aP (gb (bQ (aj (M2 (MC (aj (M2 (ak 0) (mC (.int 0)) oIx) (au)) (aO bN)) (mC (.int 1)) gH) (au))) (hName 4) (sIf (toB (M2 (uq (lM (mFz (lLC ["_law_one", "_law_point_here"] [4, 2] (qD (aj (ak 1) (aj (ak 0) (au)))) (jD 2 (bW (hName 0) (bW (hName 1) (jB)))) (cU) (M2 (M2 (ak 0) (M2 (ak 1) (ak 2) oIx) bH) (M2 (ak 3) (M2 (ak 1) (M1 (mC (.int 1)) ik) oIx) oDiv) bH))))) (mC (.int 0)) oNe)) (bG (mC (.bl false))) (bU))) (bG (mC (.bl true)))))))
noncomputable def iT (dj : FF) : SF := aP (bz 1 (mF (oE (au)))) (aP (gb (jL (aj (ak 0) (au))) (jD 2 (bW (hName 2) (bW (hName 3) (jB)))) (aP (bz 4 (mFz (lLC ["_law_j", "_law_other"] [2] (jL (aj (ak 0) (au))) (jD 2 (bW (hName 0) (bW (hName 1) (jB)))) (toB (M2 (ak 0) (ak 2) oNe)) (ak 1)))) (eF (gK (ak 1) (aj (M2 (M2 (M2 (MC (aj (mC (.int 1)) (aj (M1 (mC (.int 1)) ik) (au))) oLst) (M2 (ak 2) (mC (.int 2)) oMod) oIx) (MC (aj (ak 4) (au)) dj) bH) (M2 (ak 3) (M1 (mC (.int 1)) ik) oIx) bH) (au)))))) (bG (MC (aj (yz (ak 1)) (au)) fV)))
noncomputable def jU (bJ dg aR bu bZ : FF) : SF := aP (bz 2 (MC (aj (ak 0) (au)) bJ)) (aP (bz 3 (MC (aj (ak 2) (aj (ak 1) (aj (mC (.int 2)) (aj (mC (.int 0)) (au))))) dg)) (aP (bz 4 (mFz (lLC ["_law_k"] [0, 1] (bQ (aj (M2 (ak 2) (mC (.int 4)) oMod) (au))) (hName 0) (cU) (MC (aj (MC (aj (ak 1) (au)) bJ) (aj (ak 2) (aj (mC (.int 1)) (aj (mC (.int 0)) (au))))) dg)))) (aP (sIf (toB (M2 (M2 (M2 (ak 2) (mC (.int 4)) oDiv) (mC (.int 3)) oMod) (mC (.int 0)) oEq)) (bG (MC (aj (M2 (M2 (MC (aj (ak 3) (au)) oLst) (ak 4) aU) (MC (aj (ak 3) (au)) oLst) aU) (aj (M2 (M2 (MC (aj (mC (.int 1)) (au)) oTup) (M2 (MC (aj (mC (.int 0)) (au)) oTup) (MC (aj (ak 4) (au)) (aO bN)) bH) aU) (MC (aj (M1 (mC (.int 1)) ik) (au)) oTup) aU) (au))) oTup)) (bU)) (aP (bz 5 (mFz (lLC ["_law_k"] [2] (bQ (aj (ak 1) (au))) (hName 0) (cU) (M2 (M2 (MC (aj (ak 1) (aj (M2 (ak 0) (mC (.int 2)) aU) (au))) aR) (mC (.int 9)) oMod) (mC (.int 4)) gH)))) (aP (xF 6 7 8 (aj (M2 (M2 (ak 2) (mC (.int 12)) oDiv) (mC (.int 7)) oMod) (aj (M2 (M2 (M2 (ak 2) (mC (.int 84)) oDiv) (mC (.int 11)) oMod) (mC (.int 9)) gH) (aj (M2 (M2 (M2 (ak 2) (mC (.int 900)) oDiv) (mC (.int 9)) oMod) (mC (.int 3)) aU) (au))))) (aP (bz 9 (mF (oE (au)))) (aP (gb (fQ (MC (aj (ak 6) (aj (ak 7) (aj (ak 8) (au)))) oLst)) (hName 10) (eF (gK (ak 9) (aj (MC (aj (mFz (lLC ["_law_one"] [10] (fQ (ak 5)) (hName 0) (cU) (M2 (mC (.int 5)) (M2 (ak 1) (ak 0) bH) aU))) (aj (mC (.int 1)) (au))) bu) (au))))) (aP (sIf (toB (M2 (M2 (M2 (ak 2) (mC (.int 4)) oDiv) (mC (.int 3)) oMod) (mC (.int 1)) oEq)) (bG (MC (aj (mFz (sG (ak 9) (ak 4))) (aj (M2 (MC (aj (M2 (ak 7) (ak 8) gH) (aj (M2 (ak 8) (ak 6) gH) (aj (M2 (ak 6) (ak 7) gH) (au)))) oTup) (M2 (MC (aj (mC (.int 0)) (au)) oTup) (MC (aj (ak 4) (au)) (aO bN)) bH) aU) (au))) oTup)) (bU)) (aP (bz 11 (mFz (lLC ["_law_k"] [0, 1] (bQ (aj (M2 (ak 1) (mC (.int 2)) aU) (au))) (hName 0) (cU) (MC (aj (MC (aj (ak 1) (au)) bJ) (aj (ak 2) (aj (mC (.int 2)) (aj (mC (.int 0)) (au))))) dg)))) (bG (MC (aj (M2 (ak 11) (ak 4) aU) (aj (M2 (MC (aj (ak 11) (au)) bZ) (M2 (MC (aj (mC (.int 0)) (au)) oTup) (MC (aj (ak 4) (au)) (aO bN)) bH) aU) (au))) oTup)))))))))))
noncomputable def jf (gm gW : FF) : SF := aP (bz 2 (M2 (ak 1) (MC (aj (ak 0) (au)) (aO bN)) oMod)) (aP (bz 3 (M2 (ak 1) (mC (.int 41)) oDiv)) (aP (bz 4 (mF (oE (aj (MC (aj (ak 0) (aj (ak 2) (aj (MC (aj (ak 3) (au)) gm) (au)))) gW) (aj (MC (aj (ak 3) (au)) gm) (aj (M2 (MC (aj (MC (aj (ak 3) (au)) gm) (au)) oTup) (MC (aj (ak 0) (au)) (aO bN)) bH) (aj (mFz (lOf (aj (ak 0) (au)))) (au)))))))) (aP (bz 4 (mF (sG (ak 4) (MC (aj (ak 0) (aj (MC (aj (ak 0) (au)) oTup) (aj (MC (aj (mFz (lLC ["_law_one"] [] (fQ (ak 0)) (hName 0) (cU) (M2 (M2 (mC (.int 10)) (mC (.int 60)) jl) (ak 0) bH))) (au)) fV) (aj (pU (mC (.int 0)) (ak 0)) (aj (M2 (ak 0) (ak 0) aU) (au)))))) oLst)))) (aP (bz 5 (mFz (lLC ["_law_one"] [] (fQ (ak 0)) (hName 0) (jF (toB (M2 (ak 0) (mC (.int 1)) oNe)) (toB (M2 (ak 0) (mC (.int 0)) oNe))) (ak 0)))) (aP (sIf (toB (M2 (ak 5) (MC (au) oLst) oEq)) (eF (gK (ak 4) (aj (MC (aj (mFz (lLC ["_law_one"] [] (fQ (ak 0)) (hName 0) (cU) (M2 (ak 0) (mC (.int 1)) oEq))) (au)) fV) (au)))) (bU)) (bG (mFz (sG (ak 4) (MC (aj (MC (aj (M2 (MC (aj (mC (.bl false)) (au)) oLst) (MC (aj (ak 0) (au)) (aO bN)) bH) (au)) fV) (aj (MC (aj (M2 (MC (aj (mC .non) (au)) oLst) (MC (aj (ak 0) (au)) (aO bN)) bH) (au)) fV) (aj (M2 (MC (aj (M2 (mC (.int 10)) (mC (.int 60)) jl) (au)) oTup) (MC (aj (ak 0) (au)) (aO bN)) bH) (aj (MC (au) oTup) (au))))) oLst)))))))))
noncomputable def mH (fD bJ dW dq dJ bO fM : FF) : SF := aP (bz 1 (MC (aj (ak 0) (au)) fD)) (aP (gb (bQ (aj (M2 (mC (.int 2)) (MC (aj (mC (.int 10)) (aj (MC (aj (ak 0) (au)) (aO bN)) (au))) (lw nT)) aU) (au))) (hName 2) (aP (Ae (MC (aj (ak 1) (aj (M2 (mC (.int 1)) (M2 (MC (aj (ak 1) (au)) bJ) (mC (.int 3)) oMod) aU) (au))) dW) (jD 2 (bW (hName 3) (bW (hName 4) (jB))))) (aP (gb (bQ (aj (mC (.int 3)) (au))) (hName 5) (gb (fQ (MC (aj (ak 4) (aj (MC (aj (ak 1) (au)) bJ) (au))) dq)) (hName 6) (sIf (jy (oA (MC (aj (MC (aj (ak 3) (aj (ak 6) (au))) bO) (aj (MC (aj (ak 3) (aj (ak 6) (au))) dJ) (au))) fM))) (bG (mC (.bl false))) (bU)))) (gb (fQ (MC (aj (MC (au) oTup) (aj (MC (au) oLst) (aj (mC .non) (aj (MC (aj (mC (.int 0)) (au)) oTup) (aj (mC (.int 0)) (aj (xV) (aj (mC (.bl true)) (au)))))))) oLst)) (hName 6) (sIf (jy (oA (MC (aj (MC (aj (MC (au) oLst) (aj (ak 6) (au))) bO) (aj (mC (.bl false)) (au))) fM))) (bG (mC (.bl false))) (bU)))))) (bG (mC (.bl true))))
end LG
namespace Lk08
open PySem PySem.Spec PyProof.Rows L2 L3 LG
def top (i : Nat) : Stmt := PySem.Challenge.pw_heapsmeet_k08_ties_of_anything.main.body.getD i (.Pass ⟨0, 0, 0, 0⟩)
structure BI (K : PySem.W.Frag) (mg : Str → Option Value) : Prop where
 b_abs : mg "abs" = none
 b_all : mg "all" = none
 b_any : mg "any" = none
 b_bool : mg "bool" = none
 b_enumerate : mg "enumerate" = none
 b_int : mg "int" = none
 b_isinstance : mg "isinstance" = none
 b_len : mg "len" = none
 b_list : mg "list" = none
 b_min : mg "min" = none
 b_range : mg "range" = none
 b_sum : mg "sum" = none
 b_tuple : mg "tuple" = none
 b_zip : mg "zip" = none
variable {P : Program} {w : World} {K : PySem.W.Frag} {mg : Str → Option Value} {base : Heap} {tb : List Addr} {f Tb : Addr} {fd : FuncData}
abbrev qi : Stmt := top 12
theorem rT : aV ["_law_cell", "_law_k", "_law_number"] ["_law_cell", "_law_k"] (aJ qi) := ⟨rfl, rfl, rfl, by decide +kernel, rfl, by decide +kernel, by decide +kernel⟩
theorem yD (T : BI K mg) (F : fG K "_law_mixed" "_law_mixed" qi f fd Tb) (KB : K.In base) (hmg : mg "_law_mixed" = some (.ref f)) : FI P w K mg base tb "_law_mixed" 2 (0 + 1) (aG 3 (gB)) :=
 dG F KB hmg rT rfl (fun _ _ _ _ _ _ => us2 fun _ _ => rfl) fun c A outer s H E hcd hr => by
  have nd := rT.nd
  refine aC ?_ ?_
  refine aZ (i := 2) nd ?_
  refine aA bL ?_ ?_
  refine aA bc ?_ ?_
  refine aA bc ?_ ?_
  refine aA cz ?_ ?_
  refine aA bL (pdv 0) ?_
  exact aq
  exact aq
  refine aA cz ?_ (pdv 1)
  refine aA cz ?_ (pdv 1)
  exact aq
  exact aq
  exact aq
  refine aD ?_
  refine aN ?_
  refine aA bL ?_ ?_
  exact aA cz (pdv 2) (pdv 2)
  exact aq
abbrev pY : Stmt := top 13
theorem rJ : aV ["_law_script", "_law_drawn", "_law_k", "_law_cell", "_law_j"] ["_law_script"] (aJ pY) := ⟨rfl, rfl, rfl, by decide +kernel, rfl, by decide +kernel, by decide +kernel⟩
theorem yt {aR : FF} (T : BI K mg) (F : fG K "_law_draws" "_law_draws" pY f fd Tb) (KB : K.In base) (hmg : mg "_law_draws" = some (.ref f)) (F_Lmixed : FI P w K mg base tb "_law_mixed" 2 1 aR) : FI P w K mg base tb "_law_draws" 1 (1 + 1) (aG 5 (jT aR)) :=
 dG F KB hmg rJ rfl (fun _ _ _ _ _ _ => us1 fun _ => rfl) fun c A outer s H E hcd hr => by
  have nd := rJ.nd
  refine aC ?_ ?_
  refine aZ (i := 1) nd ?_
  refine jZ ?_
  exact mx ao
  refine aC ?_ ?_
  refine dF (ts := [2]) PassesOwn.never rfl ?_ (aH (i := 2) nd) ?_
  refine cR T.b_range ?_
  refine aa ?_ ao
  refine xK rfl T.b_min ?_
  refine aa ?_ ?_
  refine dB T.b_len ?_
  exact aa (pdv 0) ao
  refine aa ?_ ao
  exact aq
  refine aC ?_ ?_
  refine aZ (i := 3) nd ?_
  refine pA T.b_abs ?_
  refine aa ?_ ao
  exact gP (pdv 0) (pdv 2)
  refine aC ?_ ?_
  refine dm ?_ ?_ bC
  refine aY (BK) (pdv 3) ?_
  refine aA mZ ?_ ?_
  exact aq
  exact aq
  refine aD ?_
  refine dF (ts := [4]) PassesOwn.never rfl ?_ (aH (i := 4) nd) ?_
  refine cR T.b_range ?_
  refine aa ?_ ao
  exact aq
  refine aD ?_
  refine iy ?_
  refine gf (pdv 1) ?_
  refine aa ?_ ao
  refine aL F_Lmixed (hr.mono (by decide)) ?_ (aB (aB (aM)))
  refine aa ?_ ?_
  refine aL F_Lmixed (hr.mono (by decide)) ?_ (aB (aB (aM)))
  refine aa (pdv 3) ?_
  refine aa ?_ ao
  refine aA bc ?_ ?_
  refine aA cz ?_ (pdv 4)
  exact aq
  exact aq
  refine aa ?_ ao
  refine aA bc ?_ ?_
  exact aA bc (pdv 4) (pdv 2)
  exact aq
  refine aC ?_ ?_
  refine nq PassesOwn.never ?_ ?_
  refine qg ?_
  refine xg ?_ ?_
  refine aY (FW) (pdv 3) ?_
  refine aA mZ ?_ ?_
  exact aq
  exact aq
  refine uo ?_
  refine aY (BK) ?_ ?_
  refine dB T.b_len ?_
  exact aa (pdv 1) ao
  exact aq
  refine aC ?_ ?_
  refine iy ?_
  refine gf (pdv 1) ?_
  refine aa ?_ ao
  refine aA bL (pdv 3) ?_
  exact aq
  refine aD ?_
  refine aZ (i := 3) nd ?_
  refine aA eU (pdv 3) ?_
  exact aq
  refine aD ?_
  refine dm ?_ ?_ bC
  refine aY (FW) (pdv 3) ?_
  exact aq
  refine aD ?_
  refine iy ?_
  refine gf (pdv 1) ?_
  refine aa ?_ ao
  refine aA bL (pdv 3) ?_
  exact aq
  refine aD ?_
  exact aN (pdv 1)
abbrev uf : Stmt := top 14
theorem uK : aV ["_law_drawn"] ["_law_drawn"] (aJ uf) := ⟨rfl, rfl, rfl, by decide +kernel, rfl, by decide +kernel, by decide +kernel⟩
theorem Bp (T : BI K mg) (F : fG K "_law_next" "_law_next" uf f fd Tb) (KB : K.In base) (hmg : mg "_law_next" = some (.ref f)) : FI P w K mg base tb "_law_next" 1 (0 + 1) (aG 1 (jq)) :=
 dG F KB hmg uK rfl (fun _ _ _ _ _ _ => us1 fun _ => rfl) fun c A outer s H E hcd hr => by
  have nd := uK.nd
  refine aC ?_ ?_
  refine dm ?_ ?_ bC
  refine aY (jj hr) (pdv 0) ?_
  exact cA ao
  refine aD ?_
  refine aN ?_
  exact aq
  refine aD ?_
  refine aN ?_
  exact Dw (pdv 0)
abbrev pL : Stmt := top 17
theorem qN : aV ["_law_number", "_law_kind", "_law_base"] ["_law_number", "_law_kind", "_law_base"] (aJ pL) := ⟨rfl, rfl, rfl, by decide +kernel, rfl, by decide +kernel, by decide +kernel⟩
theorem yu (T : BI K mg) (F : fG K "_law_place" "_law_place" pL f fd Tb) (KB : K.In base) (hmg : mg "_law_place" = some (.ref f)) : FI P w K mg base tb "_law_place" 3 (0 + 1) (aG 3 (eG)) :=
 dG F KB hmg qN rfl (fun _ _ _ _ _ _ => us3 fun _ _ _ => rfl) fun c A outer s H E hcd hr => by
  have nd := qN.nd
  refine aC ?_ ?_
  refine dm ?_ ?_ bC
  refine aY (jj hr) (pdv 1) ?_
  exact aq
  refine aD ?_
  refine aN ?_
  refine aW ?_
  refine aa ?_ ?_
  refine aA iV ?_ ?_
  refine aA bL (pdv 0) ?_
  exact aq
  exact aq
  refine aa ?_ ao
  refine aA bc ?_ ?_
  exact aq
  refine aA bL ?_ ?_
  refine aA eU (pdv 0) ?_
  exact aq
  exact aq
  refine aC ?_ ?_
  refine dm ?_ ?_ bC
  refine aY (jj hr) (pdv 1) ?_
  exact aq
  refine aD ?_
  refine aN ?_
  refine aW ?_
  refine aa ?_ ?_
  refine aA iV ?_ ?_
  refine aA bL (pdv 0) ?_
  exact aq
  exact aq
  refine aa ?_ ao
  exact aq
  refine aC ?_ ?_
  refine dm ?_ ?_ bC
  refine aY (jj hr) (pdv 1) ?_
  exact aq
  refine aD ?_
  refine aN ?_
  refine aW ?_
  refine aa ?_ ?_
  refine aA iV ?_ ?_
  refine aA bL (pdv 0) ?_
  exact aq
  exact aq
  refine aa ?_ ao
  refine aA bc ?_ ?_
  exact aq
  refine aA bL ?_ ?_
  refine aA eU (pdv 0) ?_
  exact aq
  exact aq
  refine aC ?_ ?_
  refine dm ?_ ?_ bC
  refine aY (jj hr) (pdv 1) ?_
  exact aq
  refine aD ?_
  refine aN ?_
  refine aW ?_
  refine aa ?_ ?_
  refine aA bc (pdv 2) ?_
  refine gP ?_ ?_
  refine cA ?_
  refine aa ?_ ?_
  exact aq
  refine aa ?_ ?_
  exact aq
  refine aa ?_ ?_
  exact aq
  refine aa ?_ ao
  exact aq
  refine aA bL (pdv 0) ?_
  exact aq
  refine aa ?_ ao
  exact aq
  refine aD ?_
  refine aN ?_
  refine aW ?_
  refine aa ?_ ?_
  refine aA cz ?_ ?_
  refine aA bL (pdv 0) ?_
  exact aq
  refine aA bc ?_ ?_
  exact aq
  refine aA bL (pdv 2) ?_
  exact aq
  refine aa ?_ ao
  exact aq
abbrev vV : Stmt := top 15
theorem yf : aV ["_law_one", "_law_other"] ["_law_one", "_law_other"] (aJ vV) := ⟨rfl, rfl, rfl, by decide +kernel, rfl, by decide +kernel, by decide +kernel⟩
theorem Eg (T : BI K mg) (F : fG K "_law_gcd" "_law_gcd" vV f fd Tb) (KB : K.In base) (hmg : mg "_law_gcd" = some (.ref f)) : FI P w K mg base tb "_law_gcd" 2 (0 + 1) (aG 2 (lC)) :=
 dG F KB hmg yf rfl (fun _ _ _ _ _ _ => us2 fun _ _ => rfl) fun c A outer s H E hcd hr => by
  have nd := yf.nd
  refine aC ?_ ?_
  refine nq PassesOwn.never ?_ ?_
  refine aY (lu hr) (pdv 1) ?_
  exact aq
  refine aD ?_
  refine tO (i := 0) (j := 1) rfl nd ?_
  refine aa (pdv 1) ?_
  refine aa ?_ ao
  exact aA bL (pdv 0) (pdv 1)
  refine aD ?_
  refine aN ?_
  refine pA T.b_abs ?_
  exact aa (pdv 0) ao
abbrev mO : Stmt := top 16
theorem pW : aV ["_law_numbers", "_law_bottom", "_law_common", "_law_number"] ["_law_numbers", "_law_bottom"] (aJ mO) := ⟨rfl, rfl, rfl, by decide +kernel, rfl, by decide +kernel, by decide +kernel⟩
theorem vH {cZ : FF} (T : BI K mg) (F : fG K "_law_lowest" "_law_lowest" mO f fd Tb) (KB : K.In base) (hmg : mg "_law_lowest" = some (.ref f)) (F_Lgcd : FI P w K mg base tb "_law_gcd" 2 1 cZ) : FI P w K mg base tb "_law_lowest" 2 (1 + 1) (aG 4 (fZ cZ)) :=
 dG F KB hmg pW rfl (fun _ _ _ _ _ _ => us2 fun _ _ => rfl) fun c A outer s H E hcd hr => by
  have nd := pW.nd
  refine aC ?_ ?_
  exact aZ (i := 2) nd (pdv 1)
  refine aC ?_ ?_
  refine dF (ts := [3]) PassesOwn.never rfl ?_ (aH (i := 3) nd) ?_
  exact cM (pdv 0)
  refine aD ?_
  refine aZ (i := 2) nd ?_
  refine aL F_Lgcd (hr.mono (by decide)) ?_ (aB (aB (aM)))
  refine aa (pdv 2) ?_
  exact aa (pdv 3) ao
  refine aC ?_ ?_
  refine dm ?_ ?_ bC
  refine aY (BK) (pdv 1) ?_
  exact aq
  refine aD ?_
  refine aZ (i := 2) nd ?_
  refine aA iV ?_ ?_
  exact aq
  refine pA T.b_abs ?_
  exact aa (pdv 2) ao
  refine aD ?_
  refine aN ?_
  refine aA bc ?_ ?_
  refine iZ T.b_tuple ?_
  refine aa ?_ ao
  refine fK ?_
  refine ir (own := ["_law_number"]) (cap := ["_law_common"]) (capI := [2]) (ts := [0]) rfl ⟨rfl, by decide +kernel, ⟨⟨rfl, by first | exact Or.inl rfl | exact Or.inr rfl⟩, trivial⟩, by decide +kernel, by decide +kernel⟩ (by decide +kernel) ?_ (fun cs C fp s2 H2 => aH (i := 0) (show (["_law_number", "_law_common"] : List Str).Nodup by decide +kernel)) ?_ ?_
  exact cM (pdv 0)
  intro cs C fp s2 H2
  exact di
  intro cs C fp s2 H2
  exact aA eU (pdv 0) (pdv 1)
  refine aW ?_
  refine aa ?_ ao
  exact aA eU (pdv 1) (pdv 2)
abbrev pP : Stmt := top 18
theorem qQ : aV ["_law_number", "_law_directions", "_law_kind", "_law_base", "_law_numbers", "_law_bottom", "_law_k", "_law_top", "_law_under"] ["_law_number", "_law_directions", "_law_kind", "_law_base"] (aJ pP) := ⟨rfl, rfl, rfl, by decide +kernel, rfl, by decide +kernel, by decide +kernel⟩
theorem yR {aR gh bu : FF} (T : BI K mg) (F : fG K "_law_point" "_law_point" pP f fd Tb) (KB : K.In base) (hmg : mg "_law_point" = some (.ref f)) (F_Lmixed : FI P w K mg base tb "_law_mixed" 2 1 aR) (F_Lplace : FI P w K mg base tb "_law_place" 3 1 gh) (F_Llowest : FI P w K mg base tb "_law_lowest" 2 2 bu) : FI P w K mg base tb "_law_point" 4 (2 + 1) (aG 9 (iY aR gh bu)) :=
 dG F KB hmg qQ rfl (fun _ _ _ _ _ _ => us4 fun _ _ _ _ => rfl) fun c A outer s H E hcd hr => by
  have nd := qQ.nd
  refine aC ?_ ?_
  refine aZ (i := 4) nd ?_
  refine jZ ?_
  exact mx ao
  refine aC ?_ ?_
  refine aZ (i := 5) nd ?_
  exact aq
  refine aC ?_ ?_
  refine dF (ts := [6]) PassesOwn.never rfl ?_ (aH (i := 6) nd) ?_
  refine cR T.b_range ?_
  exact aa (pdv 1) ao
  refine aC ?_ ?_
  refine xf (ts := [7, 8]) ?_ (iI rfl (bF (aH (i := 7) nd) (bF (aH (i := 8) nd) (gw))))
  refine aL F_Lplace (hr.mono (by decide)) ?_ (aB (aB (aB (aM))))
  refine aa ?_ ?_
  refine aL F_Lmixed (hr.mono (by decide)) ?_ (aB (aB (aM)))
  refine aa (pdv 0) ?_
  refine aa ?_ ao
  refine aA bc (pdv 6) ?_
  exact aq
  refine aa (pdv 2) ?_
  refine aa ?_ ao
  exact aA bc (pdv 3) (pdv 6)
  refine aC ?_ ?_
  refine dm ?_ ?_ bC
  refine aY (jj hr) (pdv 6) ?_
  exact aq
  refine aD ?_
  exact aZ (i := 5) nd (pdv 8)
  refine aD ?_
  refine iy ?_
  refine gf (pdv 4) ?_
  exact aa (pdv 7) ao
  refine aD ?_
  refine aN ?_
  refine aL F_Llowest (hr.mono (by decide)) ?_ (aB (aB (aM)))
  refine aa ?_ ?_
  exact Ci (pdv 4)
  exact aa (pdv 5) ao
abbrev wg : Stmt := top 23
theorem wZ : aV ["_law_rows", "_law_found", "_law_k", "_law_number", "_law_rest"] ["_law_rows"] (aJ wg) := ⟨rfl, rfl, rfl, by decide +kernel, rfl, by decide +kernel, by decide +kernel⟩
theorem kI {dj : FF} (T : BI K mg) (F : fG K "_law_det" "_law_det" wg f fd Tb) (KB : K.In base) (hmg : mg "_law_det" = some (.ref f)) {k : Nat} (hk : 0 ≤ k) (F_Ldet : FI P w K mg base tb "_law_det" 1 k dj) : FI P w K mg base tb "_law_det" 1 (k + 1) (aG 5 (iW dj)) :=
 dG F KB hmg wZ rfl (fun _ _ _ _ _ _ => us1 fun _ => rfl) fun c A outer s H E hcd hr => by
  have nd := wZ.nd
  refine aC ?_ ?_
  refine dm ?_ ?_ bC
  refine aY (jj hr) (pdv 0) ?_
  exact cA ao
  refine aD ?_
  refine aN ?_
  exact aq
  refine aC ?_ ?_
  refine aZ (i := 1) nd ?_
  exact aq
  refine aC ?_ ?_
  refine dF (ts := [2, 3]) PassesOwn.never rfl ?_ (iI rfl (bF (aH (i := 2) nd) (bF (aH (i := 3) nd) (gw)))) ?_
  refine qm T.b_enumerate ?_
  refine aa ?_ ao
  refine gP (pdv 0) ?_
  exact aq
  refine aC ?_ ?_
  refine kJ (i := 4) nd (own := ["_law_row"]) (cap := ["_law_k"]) (capI := [2]) (ts := [0]) rfl ⟨rfl, by decide +kernel, ⟨⟨rfl, by first | exact Or.inl rfl | exact Or.inr rfl⟩, trivial⟩, by decide +kernel, by decide +kernel⟩ (by decide +kernel) ?_ (fun cs C fp s2 H2 => aH (i := 0) (show (["_law_row", "_law_k"] : List Str).Nodup by decide +kernel)) ?_ ?_
  refine cM ?_
  refine jJ (pdv 0) ?_ jV
  refine jR ?_
  exact aq
  intro cs C fp s2 H2
  exact di
  intro cs C fp s2 H2
  refine aA bc ?_ ?_
  refine jJ (pdv 0) jV ?_
  exact jR (pdv 1)
  refine jJ (pdv 0) ?_ jV
  refine jR ?_
  refine aA bc (pdv 1) ?_
  exact aq
  refine aD ?_
  refine aZ (i := 1) nd ?_
  refine aA bc (pdv 1) ?_
  refine aA cz ?_ ?_
  refine aA cz ?_ (pdv 3)
  refine gP ?_ ?_
  refine cA ?_
  refine aa ?_ ?_
  exact aq
  refine aa ?_ ao
  refine iM ?_
  exact aq
  refine aA bL (pdv 2) ?_
  exact aq
  refine aL F_Ldet (hr.mono (by first | decide | omega)) ?_ (aB (aM))
  exact aa (pdv 4) ao
  refine aD ?_
  exact aN (pdv 1)
abbrev mW : Stmt := top 25
theorem qw : aV ["_law_points", "_law_found", "_law_k", "_law_point_here", "_law_rest"] ["_law_points"] (aJ mW) := ⟨rfl, rfl, rfl, by decide +kernel, rfl, by decide +kernel, by decide +kernel⟩
theorem wV {dj : FF} (T : BI K mg) (F : fG K "_law_minors" "_law_minors" mW f fd Tb) (KB : K.In base) (hmg : mg "_law_minors" = some (.ref f)) (F_Ldet : FI P w K mg base tb "_law_det" 1 6 dj) : FI P w K mg base tb "_law_minors" 1 (6 + 1) (aG 5 (iT dj)) :=
 dG F KB hmg qw rfl (fun _ _ _ _ _ _ => us1 fun _ => rfl) fun c A outer s H E hcd hr => by
  have nd := qw.nd
  refine aC ?_ ?_
  refine aZ (i := 1) nd ?_
  refine jZ ?_
  exact mx ao
  refine aC ?_ ?_
  refine dF (ts := [2, 3]) PassesOwn.never rfl ?_ (iI rfl (bF (aH (i := 2) nd) (bF (aH (i := 3) nd) (gw)))) ?_
  refine qm T.b_enumerate ?_
  exact aa (pdv 0) ao
  refine aC ?_ ?_
  refine kJ (i := 4) nd (own := ["_law_j", "_law_other"]) (cap := ["_law_k"]) (capI := [2]) (ts := [0, 1]) rfl ⟨rfl, by decide +kernel, ⟨⟨rfl, by first | exact Or.inl rfl | exact Or.inr rfl⟩, trivial⟩, by decide +kernel, by decide +kernel⟩ (by decide +kernel) ?_ (fun cs C fp s2 H2 => iI rfl (bF (aH (i := 0) (show (["_law_j", "_law_other", "_law_k"] : List Str).Nodup by decide +kernel)) (bF (aH (i := 1) (show (["_law_j", "_law_other", "_law_k"] : List Str).Nodup by decide +kernel)) (gw)))) ?_ ?_
  refine qm T.b_enumerate ?_
  exact aa (pdv 0) ao
  intro cs C fp s2 H2
  refine lO ?_
  exact aY (lu hr) (pdv 0) (pdv 2)
  intro cs C fp s2 H2
  exact pdv 1
  refine aD ?_
  refine iy ?_
  refine gf (pdv 1) ?_
  refine aa ?_ ao
  refine aA cz ?_ ?_
  refine aA cz ?_ ?_
  refine gP ?_ ?_
  refine cA ?_
  refine aa ?_ ?_
  exact aq
  refine aa ?_ ao
  refine iM ?_
  exact aq
  refine aA bL (pdv 2) ?_
  exact aq
  refine aL F_Ldet (hr.mono (by decide)) ?_ (aB (aM))
  exact aa (pdv 4) ao
  refine gP (pdv 3) ?_
  refine iM ?_
  exact aq
  refine aD ?_
  refine aN ?_
  refine iZ T.b_tuple ?_
  refine aa ?_ ao
  exact Ci (pdv 1)
abbrev pg : Stmt := top 26
theorem rN : aV ["_law_drawn", "_law_directions", "_law_number", "_law_point_here", "_law_more", "_law_step", "_law_a", "_law_b", "_law_c", "_law_some", "_law_turn", "_law_points"] ["_law_drawn", "_law_directions"] (aJ pg) := ⟨rfl, rfl, rfl, by decide +kernel, rfl, by decide +kernel, by decide +kernel⟩
theorem zb {bJ dg aR bu bZ : FF} (T : BI K mg) (F : fG K "_law_known" "_law_known" pg f fd Tb) (KB : K.In base) (hmg : mg "_law_known" = some (.ref f)) (F_Lnext : FI P w K mg base tb "_law_next" 1 1 bJ) (F_Lpoint : FI P w K mg base tb "_law_point" 4 3 dg) (F_Lmixed : FI P w K mg base tb "_law_mixed" 2 1 aR) (F_Llowest : FI P w K mg base tb "_law_lowest" 2 2 bu) (F_Lminors : FI P w K mg base tb "_law_minors" 1 7 bZ) : FI P w K mg base tb "_law_known" 2 (7 + 1) (aG 12 (jU bJ dg aR bu bZ)) :=
 dG F KB hmg rN rfl (fun _ _ _ _ _ _ => us2 fun _ _ => rfl) fun c A outer s H E hcd hr => by
  have nd := rN.nd
  refine aC ?_ ?_
  refine aZ (i := 2) nd ?_
  refine aL F_Lnext (hr.mono (by decide)) ?_ (aB (aM))
  exact aa (pdv 0) ao
  refine aC ?_ ?_
  refine aZ (i := 3) nd ?_
  refine aL F_Lpoint (hr.mono (by decide)) ?_ (aB (aB (aB (aB (aM)))))
  refine aa (pdv 2) ?_
  refine aa (pdv 1) ?_
  refine aa ?_ ?_
  exact aq
  refine aa ?_ ao
  exact aq
  refine aC ?_ ?_
  refine kJ (i := 4) nd (own := ["_law_k"]) (cap := ["_law_drawn", "_law_directions"]) (capI := [0, 1]) (ts := [0]) rfl ⟨rfl, by decide +kernel, ⟨⟨rfl, by first | exact Or.inl rfl | exact Or.inr rfl⟩, ⟨⟨rfl, by first | exact Or.inl rfl | exact Or.inr rfl⟩, trivial⟩⟩, by decide +kernel, by decide +kernel⟩ (by decide +kernel) ?_ (fun cs C fp s2 H2 => aH (i := 0) (show (["_law_k", "_law_drawn", "_law_directions"] : List Str).Nodup by decide +kernel)) ?_ ?_
  refine cR T.b_range ?_
  refine aa ?_ ao
  refine aA bL (pdv 2) ?_
  exact aq
  intro cs C fp s2 H2
  exact di
  intro cs C fp s2 H2
  refine aL F_Lpoint (hr.mono (by decide)) ?_ (aB (aB (aB (aB (aM)))))
  refine aa ?_ ?_
  refine aL F_Lnext (hr.mono (by decide)) ?_ (aB (aM))
  exact aa (pdv 1) ao
  refine aa (pdv 2) ?_
  refine aa ?_ ?_
  exact aq
  refine aa ?_ ao
  exact aq
  refine aC ?_ ?_
  refine dm ?_ ?_ bC
  refine aY (jj hr) ?_ ?_
  refine aA bL ?_ ?_
  refine aA eU (pdv 2) ?_
  exact aq
  exact aq
  exact aq
  refine aD ?_
  refine aN ?_
  refine aW ?_
  refine aa ?_ ?_
  refine aA bc ?_ ?_
  refine aA bc ?_ (pdv 4)
  refine cA ?_
  exact aa (pdv 3) ao
  refine cA ?_
  exact aa (pdv 3) ao
  refine aa ?_ ao
  refine aA bc ?_ ?_
  refine aA bc ?_ ?_
  refine aW ?_
  refine aa ?_ ao
  exact aq
  refine aA cz ?_ ?_
  refine aW ?_
  refine aa ?_ ao
  exact aq
  refine dB T.b_len ?_
  exact aa (pdv 4) ao
  refine aW ?_
  refine aa ?_ ao
  refine iM ?_
  exact aq
  refine aC ?_ ?_
  refine kJ (i := 5) nd (own := ["_law_k"]) (cap := ["_law_number"]) (capI := [2]) (ts := [0]) rfl ⟨rfl, by decide +kernel, ⟨⟨rfl, by first | exact Or.inl rfl | exact Or.inr rfl⟩, trivial⟩, by decide +kernel, by decide +kernel⟩ (by decide +kernel) ?_ (fun cs C fp s2 H2 => aH (i := 0) (show (["_law_k", "_law_number"] : List Str).Nodup by decide +kernel)) ?_ ?_
  refine cR T.b_range ?_
  exact aa (pdv 1) ao
  intro cs C fp s2 H2
  exact di
  intro cs C fp s2 H2
  refine aA iV ?_ ?_
  refine aA bL ?_ ?_
  refine aL F_Lmixed (hr.mono (by decide)) ?_ (aB (aB (aM)))
  refine aa (pdv 1) ?_
  refine aa ?_ ao
  refine aA bc (pdv 0) ?_
  exact aq
  exact aq
  exact aq
  refine aC ?_ ?_
  refine Ai (i := 6) (j := 7) (k := 8) rfl nd ?_
  refine aa ?_ ?_
  refine aA bL ?_ ?_
  refine aA eU (pdv 2) ?_
  exact aq
  exact aq
  refine aa ?_ ?_
  refine aA iV ?_ ?_
  refine aA bL ?_ ?_
  refine aA eU (pdv 2) ?_
  exact aq
  exact aq
  exact aq
  refine aa ?_ ao
  refine aA bc ?_ ?_
  refine aA bL ?_ ?_
  refine aA eU (pdv 2) ?_
  exact aq
  exact aq
  exact aq
  refine aC ?_ ?_
  refine aZ (i := 9) nd ?_
  refine jZ ?_
  exact mx ao
  refine aC ?_ ?_
  refine dF (ts := [10]) PassesOwn.never rfl ?_ (aH (i := 10) nd) ?_
  refine cM ?_
  refine cA ?_
  refine aa (pdv 6) ?_
  refine aa (pdv 7) ?_
  exact aa (pdv 8) ao
  refine aD ?_
  refine iy ?_
  refine gf (pdv 9) ?_
  refine aa ?_ ao
  refine aL F_Llowest (hr.mono (by decide)) ?_ (aB (aB (aM)))
  refine aa ?_ ?_
  refine fK ?_
  refine ir (own := ["_law_one"]) (cap := ["_law_turn"]) (capI := [10]) (ts := [0]) rfl ⟨rfl, by decide +kernel, ⟨⟨rfl, by first | exact Or.inl rfl | exact Or.inr rfl⟩, trivial⟩, by decide +kernel, by decide +kernel⟩ (by decide +kernel) ?_ (fun cs C fp s2 H2 => aH (i := 0) (show (["_law_one", "_law_turn"] : List Str).Nodup by decide +kernel)) ?_ ?_
  exact cM (pdv 5)
  intro cs C fp s2 H2
  exact di
  intro cs C fp s2 H2
  refine aA bc ?_ ?_
  exact aq
  exact aA cz (pdv 1) (pdv 0)
  refine aa ?_ ao
  exact aq
  refine aC ?_ ?_
  refine dm ?_ ?_ bC
  refine aY (jj hr) ?_ ?_
  refine aA bL ?_ ?_
  refine aA eU (pdv 2) ?_
  exact aq
  exact aq
  exact aq
  refine aD ?_
  refine aN ?_
  refine aW ?_
  refine aa ?_ ?_
  refine fK ?_
  exact sW (pdv 9) (pdv 4)
  refine aa ?_ ao
  refine aA bc ?_ ?_
  refine aW ?_
  refine aa ?_ ?_
  exact aA iV (pdv 7) (pdv 8)
  refine aa ?_ ?_
  exact aA iV (pdv 8) (pdv 6)
  refine aa ?_ ao
  exact aA iV (pdv 6) (pdv 7)
  refine aA cz ?_ ?_
  refine aW ?_
  refine aa ?_ ao
  exact aq
  refine dB T.b_len ?_
  exact aa (pdv 4) ao
  refine aC ?_ ?_
  refine kJ (i := 11) nd (own := ["_law_k"]) (cap := ["_law_drawn", "_law_directions"]) (capI := [0, 1]) (ts := [0]) rfl ⟨rfl, by decide +kernel, ⟨⟨rfl, by first | exact Or.inl rfl | exact Or.inr rfl⟩, ⟨⟨rfl, by first | exact Or.inl rfl | exact Or.inr rfl⟩, trivial⟩⟩, by decide +kernel, by decide +kernel⟩ (by decide +kernel) ?_ (fun cs C fp s2 H2 => aH (i := 0) (show (["_law_k", "_law_drawn", "_law_directions"] : List Str).Nodup by decide +kernel)) ?_ ?_
  refine cR T.b_range ?_
  refine aa ?_ ao
  refine aA bc (pdv 1) ?_
  exact aq
  intro cs C fp s2 H2
  exact di
  intro cs C fp s2 H2
  refine aL F_Lpoint (hr.mono (by decide)) ?_ (aB (aB (aB (aB (aM)))))
  refine aa ?_ ?_
  refine aL F_Lnext (hr.mono (by decide)) ?_ (aB (aM))
  exact aa (pdv 1) ao
  refine aa (pdv 2) ?_
  refine aa ?_ ?_
  exact aq
  refine aa ?_ ao
  exact aq
  refine aD ?_
  refine aN ?_
  refine aW ?_
  refine aa ?_ ?_
  exact aA bc (pdv 11) (pdv 4)
  refine aa ?_ ao
  refine aA bc ?_ ?_
  refine aL F_Lminors (hr.mono (by decide)) ?_ (aB (aM))
  exact aa (pdv 11) ao
  refine aA cz ?_ ?_
  refine aW ?_
  refine aa ?_ ao
  exact aq
  refine dB T.b_len ?_
  exact aa (pdv 4) ao
abbrev vW : Stmt := top 21
theorem xM : aV ["_law_number", "_law_some"] ["_law_number"] (aJ vW) := ⟨rfl, rfl, rfl, by decide +kernel, rfl, by decide +kernel, by decide +kernel⟩
theorem Ed (T : BI K mg) (F : fG K "_law_odd" "_law_odd" vW f fd Tb) (KB : K.In base) (hmg : mg "_law_odd" = some (.ref f)) : FI P w K mg base tb "_law_odd" 1 (0 + 1) (aG 2 (mG)) :=
 dG F KB hmg xM rfl (fun _ _ _ _ _ _ => us1 fun _ => rfl) fun c A outer s H E hcd hr => by
  have nd := xM.nd
  refine aC ?_ ?_
  refine aZ (i := 1) nd ?_
  refine cA ?_
  refine aa ?_ ?_
  exact sS
  refine aa ?_ ?_
  exact ie
  refine aa ?_ ?_
  exact ie
  refine aa ?_ ?_
  exact aq
  refine aa ?_ ?_
  exact aq
  refine aa ?_ ?_
  refine iM ?_
  exact aq
  refine aa ?_ ?_
  exact aq
  refine aa ?_ ?_
  exact su
  refine aa ?_ ?_
  exact su
  refine aa ?_ ?_
  exact su
  refine aa ?_ ?_
  exact aW ao
  refine aa ?_ ?_
  exact cA ao
  refine aa ?_ ?_
  exact xU
  refine aa ?_ ?_
  refine aW ?_
  refine aa ?_ ao
  exact aq
  refine aa ?_ ?_
  refine cA ?_
  refine aa ?_ ao
  exact aq
  refine aa ?_ ?_
  refine aW ?_
  refine aa ?_ ?_
  exact aq
  refine aa ?_ ao
  exact aq
  refine aa ?_ ?_
  refine cA ?_
  refine aa ?_ ?_
  exact aq
  refine aa ?_ ao
  exact aq
  refine aa ?_ ?_
  refine aW ?_
  refine aa ?_ ao
  refine aW ?_
  refine aa ?_ ?_
  exact aq
  refine aa ?_ ao
  exact aq
  refine aa ?_ ao
  refine aA mZ ?_ ?_
  exact aq
  exact aq
  refine aC ?_ ?_
  refine aZ (i := 1) nd ?_
  refine aA bc (pdv 1) ?_
  refine cA ?_
  refine aa ?_ ?_
  refine aW ?_
  refine aa ?_ ?_
  exact aq
  refine aa ?_ ao
  exact aq
  refine aa ?_ ?_
  refine aW ?_
  refine aa ?_ ?_
  exact ie
  refine aa ?_ ao
  exact aq
  refine aa ?_ ?_
  refine aW ?_
  refine aa ?_ ?_
  exact aq
  refine aa ?_ ao
  exact ie
  refine aa ?_ ?_
  refine xu ?_ ?_
  exact aq
  exact aq
  refine aa ?_ ?_
  refine aW ?_
  refine aa ?_ ?_
  exact sS
  refine aa ?_ ao
  exact aq
  refine aa ?_ ?_
  refine aW ?_
  refine aa ?_ ?_
  exact su
  refine aa ?_ ao
  exact aq
  refine aa ?_ ?_
  refine aW ?_
  refine aa ?_ ?_
  exact aq
  refine aa ?_ ?_
  exact aq
  refine aa ?_ ao
  exact aq
  refine aa ?_ ?_
  refine cA ?_
  refine aa ?_ ao
  refine aW ?_
  refine aa ?_ ?_
  exact aq
  refine aa ?_ ao
  exact aq
  refine aa ?_ ?_
  refine aA mZ ?_ ?_
  exact aq
  exact aq
  refine aa ?_ ao
  refine aW ?_
  refine aa ?_ ?_
  exact aq
  refine aa ?_ ao
  exact aq
  refine aD ?_
  refine aN ?_
  refine gP (pdv 1) ?_
  refine aA bL (pdv 0) ?_
  refine dB T.b_len ?_
  exact aa (pdv 1) ao
abbrev wM : Stmt := top 22
theorem xq : aV ["_law_row", "_law_at", "_law_thing"] ["_law_row", "_law_at", "_law_thing"] (aJ wM) := ⟨rfl, rfl, rfl, by decide +kernel, rfl, by decide +kernel, by decide +kernel⟩
theorem Du (T : BI K mg) (F : fG K "_law_put" "_law_put" wM f fd Tb) (KB : K.In base) (hmg : mg "_law_put" = some (.ref f)) : FI P w K mg base tb "_law_put" 3 (0 + 1) (aG 3 (nG)) :=
 dG F KB hmg xq rfl (fun _ _ _ _ _ _ => us3 fun _ _ _ => rfl) fun c A outer s H E hcd hr => by
  have nd := xq.nd
  refine aD ?_
  refine aN ?_
  refine aA bc ?_ ?_
  refine aA bc ?_ ?_
  refine jJ (pdv 0) jV ?_
  exact jR (pdv 1)
  refine aW ?_
  exact aa (pdv 2) ao
  refine jJ (pdv 0) ?_ jV
  refine jR ?_
  refine aA bc (pdv 1) ?_
  exact aq
abbrev nj : Stmt := top 27
theorem pO : aV ["_law_numbers", "_law_number", "_law_at", "_law_rest", "_law_some", "_law_same"] ["_law_numbers", "_law_number"] (aJ nj) := ⟨rfl, rfl, rfl, by decide +kernel, rfl, by decide +kernel, by decide +kernel⟩
theorem wB {gm gW : FF} (T : BI K mg) (F : fG K "_law_things" "_law_things" nj f fd Tb) (KB : K.In base) (hmg : mg "_law_things" = some (.ref f)) (F_Lodd : FI P w K mg base tb "_law_odd" 1 1 gm) (F_Lput : FI P w K mg base tb "_law_put" 3 1 gW) : FI P w K mg base tb "_law_things" 2 (1 + 1) (aG 6 (jf gm gW)) :=
 dG F KB hmg pO rfl (fun _ _ _ _ _ _ => us2 fun _ _ => rfl) fun c A outer s H E hcd hr => by
  have nd := pO.nd
  refine aC ?_ ?_
  refine aZ (i := 2) nd ?_
  refine aA bL (pdv 1) ?_
  refine dB T.b_len ?_
  exact aa (pdv 0) ao
  refine aC ?_ ?_
  refine aZ (i := 3) nd ?_
  refine aA eU (pdv 1) ?_
  exact aq
  refine aC ?_ ?_
  refine aZ (i := 4) nd ?_
  refine jZ ?_
  refine mx ?_
  refine aa ?_ ?_
  refine aL F_Lput (hr.mono (by decide)) ?_ (aB (aB (aB (aM))))
  refine aa (pdv 0) ?_
  refine aa (pdv 2) ?_
  refine aa ?_ ao
  refine aL F_Lodd (hr.mono (by decide)) ?_ (aB (aM))
  exact aa (pdv 3) ao
  refine aa ?_ ?_
  refine aL F_Lodd (hr.mono (by decide)) ?_ (aB (aM))
  exact aa (pdv 3) ao
  refine aa ?_ ?_
  refine aA cz ?_ ?_
  refine aW ?_
  refine aa ?_ ao
  refine aL F_Lodd (hr.mono (by decide)) ?_ (aB (aM))
  exact aa (pdv 3) ao
  refine dB T.b_len ?_
  exact aa (pdv 0) ao
  refine aa ?_ ao
  refine fK ?_
  refine Br T.b_list ?_
  exact aa (pdv 0) ao
  refine aC ?_ ?_
  refine aZ (i := 4) nd ?_
  refine jZ ?_
  refine sW (pdv 4) ?_
  refine cA ?_
  refine aa (pdv 0) ?_
  refine aa ?_ ?_
  refine aW ?_
  exact aa (pdv 0) ao
  refine aa ?_ ?_
  refine iZ T.b_tuple ?_
  refine aa ?_ ao
  refine fK ?_
  refine ir (own := ["_law_one"]) (cap := []) (capI := []) (ts := [0]) rfl ⟨rfl, by decide +kernel, trivial, by decide +kernel, by decide +kernel⟩ (by decide +kernel) ?_ (fun cs C fp s2 H2 => aH (i := 0) (show (["_law_one"] : List Str).Nodup by decide +kernel)) ?_ ?_
  exact cM (pdv 0)
  intro cs C fp s2 H2
  exact di
  intro cs C fp s2 H2
  refine aA cz ?_ (pdv 0)
  refine aA mZ ?_ ?_
  exact aq
  exact aq
  refine aa ?_ ?_
  refine xu ?_ (pdv 0)
  exact aq
  refine aa ?_ ao
  exact aA bc (pdv 0) (pdv 0)
  refine aC ?_ ?_
  refine kJ (i := 5) nd (own := ["_law_one"]) (cap := []) (capI := []) (ts := [0]) rfl ⟨rfl, by decide +kernel, trivial, by decide +kernel, by decide +kernel⟩ (by decide +kernel) ?_ (fun cs C fp s2 H2 => aH (i := 0) (show (["_law_one"] : List Str).Nodup by decide +kernel)) ?_ ?_
  exact cM (pdv 0)
  intro cs C fp s2 H2
  refine lO ?_
  refine qg ?_
  refine xg ?_ ?_
  refine aY (lu hr) (pdv 0) ?_
  exact aq
  refine uo ?_
  refine aY (lu hr) (pdv 0) ?_
  exact aq
  intro cs C fp s2 H2
  exact pdv 0
  refine aC ?_ ?_
  refine dm ?_ ?_ bC
  refine aY (jj hr) (pdv 5) ?_
  exact cA ao
  refine aD ?_
  refine iy ?_
  refine gf (pdv 4) ?_
  refine aa ?_ ao
  refine iZ T.b_tuple ?_
  refine aa ?_ ao
  refine fK ?_
  refine ir (own := ["_law_one"]) (cap := []) (capI := []) (ts := [0]) rfl ⟨rfl, by decide +kernel, trivial, by decide +kernel, by decide +kernel⟩ (by decide +kernel) ?_ (fun cs C fp s2 H2 => aH (i := 0) (show (["_law_one"] : List Str).Nodup by decide +kernel)) ?_ ?_
  exact cM (pdv 0)
  intro cs C fp s2 H2
  exact di
  intro cs C fp s2 H2
  refine zE (jj hr) (pdv 0) ?_
  exact aq
  refine aD ?_
  refine aN ?_
  refine fK ?_
  refine sW (pdv 4) ?_
  refine cA ?_
  refine aa ?_ ?_
  refine iZ T.b_tuple ?_
  refine aa ?_ ao
  refine aA cz ?_ ?_
  refine cA ?_
  refine aa ?_ ao
  exact ie
  refine dB T.b_len ?_
  exact aa (pdv 0) ao
  refine aa ?_ ?_
  refine iZ T.b_tuple ?_
  refine aa ?_ ao
  refine aA cz ?_ ?_
  refine cA ?_
  refine aa ?_ ao
  exact sS
  refine dB T.b_len ?_
  exact aa (pdv 0) ao
  refine aa ?_ ?_
  refine aA cz ?_ ?_
  refine aW ?_
  refine aa ?_ ao
  refine aA mZ ?_ ?_
  exact aq
  exact aq
  refine dB T.b_len ?_
  exact aa (pdv 0) ao
  refine aa ?_ ao
  exact aW ao
abbrev oW : Stmt := top 19
theorem rO : aV ["_law_thing"] ["_law_thing"] (aJ oW) := ⟨rfl, rfl, rfl, by decide +kernel, rfl, by decide +kernel, by decide +kernel⟩
theorem yX (T : BI K mg) (F : fG K "_law_whole" "_law_whole" oW f fd Tb) (KB : K.In base) (hmg : mg "_law_whole" = some (.ref f)) : FI P w K mg base tb "_law_whole" 1 (0 + 1) (aG 1 (jE)) :=
 dG F KB hmg rO rfl (fun _ _ _ _ _ _ => us1 fun _ => rfl) fun c A outer s H E hcd hr => by
  have nd := rO.nd
  refine aD ?_
  refine aN ?_
  refine tQ ?_ ?_
  exact lG T.b_isinstance T.b_int PyProof.Rows.boot_int (by decide) (pdv 0)
  refine oU ?_
  refine wR ?_
  exact lG T.b_isinstance T.b_bool PyProof.Rows.boot_bool (by decide) (pdv 0)
abbrev nM : Stmt := top 24
theorem qp : aV ["_law_points", "_law_thing", "_law_bottom", "_law_point_here", "_law_i"] ["_law_points", "_law_thing"] (aJ nM) := ⟨rfl, rfl, rfl, by decide +kernel, rfl, by decide +kernel, by decide +kernel⟩
theorem vG {dz cZ : FF} (T : BI K mg) (F : fG K "_law_is_tie" "_law_is_tie" nM f fd Tb) (KB : K.In base) (hmg : mg "_law_is_tie" = some (.ref f)) (F_Lwhole : FI P w K mg base tb "_law_whole" 1 1 dz) (F_Lgcd : FI P w K mg base tb "_law_gcd" 2 1 cZ) : FI P w K mg base tb "_law_is_tie" 2 (1 + 1) (aG 5 (bA dz cZ)) :=
 dG F KB hmg qp rfl (fun _ _ _ _ _ _ => us2 fun _ _ => rfl) fun c A outer s H E hcd hr => by
  have nd := qp.nd
  refine aC ?_ ?_
  refine dm ?_ ?_ bC
  refine qg ?_
  refine qt ?_ ?_
  refine kE ?_
  refine km ?_
  exact lG T.b_isinstance T.b_tuple PyProof.Rows.boot_tuple (by decide) (pdv 1)
  refine qt ?_ ?_
  refine aY (lu hr) ?_ ?_
  refine dB T.b_len ?_
  exact aa (pdv 1) ao
  refine dB T.b_len ?_
  exact aa (pdv 0) ao
  refine tG ?_
  refine aY (Hf hr) ?_ ?_
  refine fK ?_
  refine ir (own := ["_law_one"]) (cap := []) (capI := []) (ts := [0]) rfl ⟨rfl, by decide +kernel, trivial, by decide +kernel, by decide +kernel⟩ (by decide +kernel) ?_ (fun cs C fp s2 H2 => aH (i := 0) (show (["_law_one"] : List Str).Nodup by decide +kernel)) ?_ ?_
  exact cM (pdv 1)
  intro cs C fp s2 H2
  refine lO ?_
  refine kE ?_
  refine km ?_
  refine aL F_Lwhole (hr.mono (by decide)) ?_ (aB (aM))
  exact aa (pdv 0) ao
  intro cs C fp s2 H2
  exact pdv 0
  exact cA ao
  refine aD ?_
  refine aN ?_
  exact ie
  refine aC ?_ ?_
  refine dm ?_ ?_ bC
  refine qg ?_
  refine qt ?_ ?_
  refine aY (jj hr) ?_ ?_
  refine fK ?_
  refine ir (own := ["_law_one"]) (cap := []) (capI := []) (ts := [0]) rfl ⟨rfl, by decide +kernel, trivial, by decide +kernel, by decide +kernel⟩ (by decide +kernel) ?_ (fun cs C fp s2 H2 => aH (i := 0) (show (["_law_one"] : List Str).Nodup by decide +kernel)) ?_ ?_
  exact cM (pdv 1)
  intro cs C fp s2 H2
  refine lO ?_
  refine aY (lu hr) (pdv 0) ?_
  exact aq
  intro cs C fp s2 H2
  exact pdv 0
  exact cA ao
  refine tG ?_
  refine aY (lu hr) ?_ ?_
  refine wk rfl T.b_sum ?_
  exact jY rfl (pdv 1)
  exact aq
  refine aD ?_
  refine aN ?_
  exact ie
  refine aC ?_ ?_
  refine aZ (i := 2) nd ?_
  exact aq
  refine aC ?_ ?_
  refine dF (ts := [3]) PassesOwn.never rfl ?_ (aH (i := 3) nd) ?_
  exact cM (pdv 0)
  refine aD ?_
  refine aZ (i := 2) nd ?_
  refine aA eU ?_ ?_
  refine aA cz (pdv 2) ?_
  refine gP (pdv 3) ?_
  refine iM ?_
  exact aq
  refine aL F_Lgcd (hr.mono (by decide)) ?_ (aB (aB (aM)))
  refine aa (pdv 2) ?_
  refine aa ?_ ao
  refine gP (pdv 3) ?_
  refine iM ?_
  exact aq
  refine aC ?_ ?_
  refine dF (ts := [4]) PassesOwn.never rfl ?_ (aH (i := 4) nd) ?_
  refine cR T.b_range ?_
  refine aa ?_ ao
  refine aA iV ?_ ?_
  refine dB T.b_len ?_
  refine aa ?_ ao
  refine gP (pdv 0) ?_
  exact aq
  exact aq
  refine aD ?_
  refine dm ?_ ?_ bC
  refine aY (lu hr) ?_ ?_
  refine wk rfl T.b_sum ?_
  refine jY rfl ?_
  refine fK ?_
  refine ir (own := ["_law_one", "_law_point_here"]) (cap := ["_law_i", "_law_bottom"]) (capI := [4, 2]) (ts := [0, 1]) rfl ⟨rfl, by decide +kernel, ⟨⟨rfl, by first | exact Or.inl rfl | exact Or.inr rfl⟩, ⟨⟨rfl, by first | exact Or.inl rfl | exact Or.inr rfl⟩, trivial⟩⟩, by decide +kernel, by decide +kernel⟩ (by decide +kernel) ?_ (fun cs C fp s2 H2 => iI rfl (bF (aH (i := 0) (show (["_law_one", "_law_point_here", "_law_i", "_law_bottom"] : List Str).Nodup by decide +kernel)) (bF (aH (i := 1) (show (["_law_one", "_law_point_here", "_law_i", "_law_bottom"] : List Str).Nodup by decide +kernel)) (gw)))) ?_ ?_
  refine tV T.b_zip ?_
  refine aa (pdv 1) ?_
  exact aa (pdv 0) ao
  intro cs C fp s2 H2
  exact di
  intro cs C fp s2 H2
  refine aA cz ?_ ?_
  refine aA cz (pdv 0) ?_
  exact gP (pdv 1) (pdv 2)
  refine aA eU (pdv 3) ?_
  refine gP (pdv 1) ?_
  refine iM ?_
  exact aq
  exact aq
  refine aD ?_
  refine aN ?_
  exact ie
  refine aD ?_
  refine aN ?_
  exact ie
abbrev jH : Stmt := top 1
theorem lX : aV ["thing"] ["thing"] (aJ jH) := ⟨rfl, rfl, rfl, by decide +kernel, rfl, by decide +kernel, by decide +kernel⟩
theorem sI (T : BI K mg) (F : fG K "is_number" "is_number" jH f fd Tb) (KB : K.In base) (hmg : mg "is_number" = some (.ref f)) : FI P w K mg base tb "is_number" 1 (0 + 1) (aG 1 (dI)) :=
 dG F KB hmg lX rfl (fun _ _ _ _ _ _ => us1 fun _ => rfl) fun c A outer s H E hcd hr => by
  have nd := lX.nd
  refine aD ?_
  refine aN ?_
  refine tQ ?_ ?_
  exact lG T.b_isinstance T.b_int PyProof.Rows.boot_int (by decide) (pdv 0)
  refine oU ?_
  refine wR ?_
  exact lG T.b_isinstance T.b_bool PyProof.Rows.boot_bool (by decide) (pdv 0)
abbrev jk : Stmt := top 2
theorem lr : aV ["thing"] ["thing"] (aJ jk) := ⟨rfl, rfl, rfl, by decide +kernel, rfl, by decide +kernel, by decide +kernel⟩
theorem qI {cP : FF} (T : BI K mg) (F : fG K "is_numbers" "is_numbers" jk f fd Tb) (KB : K.In base) (hmg : mg "is_numbers" = some (.ref f)) (F_is_number : FI P w K mg base tb "is_number" 1 1 cP) (hT : Tb ∈ tb) : FI P w K mg base tb "is_numbers" 1 (2 + 1) (aG 1 (cL cP)) :=
 dG F KB hmg lr rfl (fun _ _ _ _ _ _ => us1 fun _ => rfl) fun c A outer s H E hcd hr => by
  have nd := lr.nd
  refine aD ?_
  refine aN ?_
  refine tQ ?_ ?_
  exact lG T.b_isinstance T.b_tuple PyProof.Rows.boot_tuple (by decide) (pdv 0)
  refine oU ?_
  refine Hz rfl T.b_all ?_
  refine uB ?_
  refine qM (own := ["part"]) (cap := []) (capI := []) (ts := [0]) rfl hr ⟨rfl, by decide +kernel, trivial, by decide +kernel, by decide +kernel⟩ (by decide +kernel) (by decide +kernel) hT ⟨c, rfl, hcd⟩ ?_ (fun AG cs C code fp s2 H2 => aH (i := 0) (show (["part"] : List Str).Nodup by decide +kernel)) ?_
  exact cM (pdv 0)
  intro AG cs C code fp s2 H2 hm
  have hg1 := hm _ hr
  refine aL F_is_number (hg1.mono (by decide)) ?_ (aB (aM))
  exact aa (pdv 0) ao
abbrev gj : Stmt := top 3
theorem iK : aV ["one", "other"] ["one", "other"] (aJ gj) := ⟨rfl, rfl, rfl, by decide +kernel, rfl, by decide +kernel, by decide +kernel⟩
theorem lL (T : BI K mg) (F : fG K "divisor_of_two" "divisor_of_two" gj f fd Tb) (KB : K.In base) (hmg : mg "divisor_of_two" = some (.ref f)) : FI P w K mg base tb "divisor_of_two" 2 (0 + 1) (aG 2 (cG)) :=
 dG F KB hmg iK rfl (fun _ _ _ _ _ _ => us2 fun _ _ => rfl) fun c A outer s H E hcd hr => by
  have nd := iK.nd
  refine aC ?_ ?_
  refine tO (i := 0) (j := 1) rfl nd ?_
  refine aa ?_ ?_
  refine pA T.b_abs ?_
  exact aa (pdv 0) ao
  refine aa ?_ ao
  refine pA T.b_abs ?_
  exact aa (pdv 1) ao
  refine aC ?_ ?_
  refine nq PassesOwn.never ?_ ?_
  refine aY (lu hr) (pdv 1) ?_
  exact aq
  refine aD ?_
  refine tO (i := 0) (j := 1) rfl nd ?_
  refine aa (pdv 1) ?_
  refine aa ?_ ao
  exact aA bL (pdv 0) (pdv 1)
  refine aD ?_
  exact aN (pdv 0)
abbrev fJ : Stmt := top 4
theorem iw : aV ["numbers", "found", "number"] ["numbers"] (aJ fJ) := ⟨rfl, rfl, rfl, by decide +kernel, rfl, by decide +kernel, by decide +kernel⟩
theorem lH {bf : FF} (T : BI K mg) (F : fG K "common_multiple" "common_multiple" fJ f fd Tb) (KB : K.In base) (hmg : mg "common_multiple" = some (.ref f)) (F_divisor_of_two : FI P w K mg base tb "divisor_of_two" 2 1 bf) : FI P w K mg base tb "common_multiple" 1 (1 + 1) (aG 3 (bR bf)) :=
 dG F KB hmg iw rfl (fun _ _ _ _ _ _ => us1 fun _ => rfl) fun c A outer s H E hcd hr => by
  have nd := iw.nd
  refine aC ?_ ?_
  refine aZ (i := 1) nd ?_
  exact aq
  refine aC ?_ ?_
  refine dF (ts := [2]) PassesOwn.never rfl ?_ (aH (i := 2) nd) ?_
  exact cM (pdv 0)
  refine aD ?_
  refine wJ (i := 1) nd ?_
  refine aA eU (pdv 2) ?_
  refine aL F_divisor_of_two (hr.mono (by decide)) ?_ (aB (aB (aM)))
  refine aa (pdv 1) ?_
  exact aa (pdv 2) ao
  refine aD ?_
  exact aN (pdv 1)
abbrev il : Stmt := top 8
theorem jx : aV ["points", "numbers", "whole"] ["points", "numbers"] (aJ il) := ⟨rfl, rfl, rfl, by decide +kernel, rfl, by decide +kernel, by decide +kernel⟩
theorem oG {bw : FF} (T : BI K mg) (F : fG K "over_bottoms" "over_bottoms" il f fd Tb) (KB : K.In base) (hmg : mg "over_bottoms" = some (.ref f)) (F_common_multiple : FI P w K mg base tb "common_multiple" 1 2 bw) : FI P w K mg base tb "over_bottoms" 2 (2 + 1) (aG 3 (dh bw)) :=
 dG F KB hmg jx rfl (fun _ _ _ _ _ _ => us2 fun _ _ => rfl) fun c A outer s H E hcd hr => by
  have nd := jx.nd
  refine aC ?_ ?_
  refine aZ (i := 2) nd ?_
  refine aL F_common_multiple (hr.mono (by decide)) ?_ (aB (aM))
  refine aa ?_ ao
  refine fK ?_
  refine ir (own := ["point"]) (cap := []) (capI := []) (ts := [0]) rfl ⟨rfl, by decide +kernel, trivial, by decide +kernel, by decide +kernel⟩ (by decide +kernel) ?_ (fun cs C fp s2 H2 => aH (i := 0) (show (["point"] : List Str).Nodup by decide +kernel)) ?_ ?_
  exact cM (pdv 0)
  intro cs C fp s2 H2
  exact di
  intro cs C fp s2 H2
  refine gP (pdv 0) ?_
  refine iM ?_
  exact aq
  refine aD ?_
  refine aN ?_
  refine fK ?_
  refine ir (own := ["number", "point"]) (cap := ["whole"]) (capI := [2]) (ts := [0, 1]) rfl ⟨rfl, by decide +kernel, ⟨⟨rfl, by first | exact Or.inl rfl | exact Or.inr rfl⟩, trivial⟩, by decide +kernel, by decide +kernel⟩ (by decide +kernel) ?_ (fun cs C fp s2 H2 => iI rfl (bF (aH (i := 0) (show (["number", "point", "whole"] : List Str).Nodup by decide +kernel)) (bF (aH (i := 1) (show (["number", "point", "whole"] : List Str).Nodup by decide +kernel)) (gw)))) ?_ ?_
  refine tV T.b_zip ?_
  refine aa (pdv 1) ?_
  exact aa (pdv 0) ao
  intro cs C fp s2 H2
  exact di
  intro cs C fp s2 H2
  refine aA cz (pdv 0) ?_
  refine aA eU (pdv 2) ?_
  refine gP (pdv 1) ?_
  refine iM ?_
  exact aq
abbrev fO : Stmt := top 5
theorem iB : aV ["ones", "others"] ["ones", "others"] (aJ fO) := ⟨rfl, rfl, rfl, by decide +kernel, rfl, by decide +kernel, by decide +kernel⟩
theorem lz (T : BI K mg) (F : fG K "sum_of_products" "sum_of_products" fO f fd Tb) (KB : K.In base) (hmg : mg "sum_of_products" = some (.ref f)) (hT : Tb ∈ tb) : FI P w K mg base tb "sum_of_products" 2 (1 + 1) (aG 2 (bT)) :=
 dG F KB hmg iB rfl (fun _ _ _ _ _ _ => us2 fun _ _ => rfl) fun c A outer s H E hcd hr => by
  have nd := iB.nd
  refine aD ?_
  refine aN ?_
  refine wk rfl T.b_sum ?_
  refine uB ?_
  refine qM (own := ["one", "other"]) (cap := []) (capI := []) (ts := [0, 1]) rfl hr ⟨rfl, by decide +kernel, trivial, by decide +kernel, by decide +kernel⟩ (by decide +kernel) (by decide +kernel) hT ⟨c, rfl, hcd⟩ ?_ (fun AG cs C code fp s2 H2 => iI rfl (bF (aH (i := 0) (show (["one", "other"] : List Str).Nodup by decide +kernel)) (bF (aH (i := 1) (show (["one", "other"] : List Str).Nodup by decide +kernel)) (gw)))) ?_
  refine tV T.b_zip ?_
  refine aa (pdv 0) ?_
  exact aa (pdv 1) ao
  intro AG cs C code fp s2 H2 hm
  have hg1 := hm _ hr
  exact aA cz (pdv 0) (pdv 1)
abbrev mL : Stmt := top 6
theorem oX : aV ["rows", "weights"] ["rows", "weights"] (aJ mL) := ⟨rfl, rfl, rfl, by decide +kernel, rfl, by decide +kernel, by decide +kernel⟩
theorem wF {bx : FF} (T : BI K mg) (F : fG K "weighed" "weighed" mL f fd Tb) (KB : K.In base) (hmg : mg "weighed" = some (.ref f)) (F_sum_of_products : FI P w K mg base tb "sum_of_products" 2 2 bx) : FI P w K mg base tb "weighed" 2 (2 + 1) (aG 2 (gZ bx)) :=
 dG F KB hmg oX rfl (fun _ _ _ _ _ _ => us2 fun _ _ => rfl) fun c A outer s H E hcd hr => by
  have nd := oX.nd
  refine aD ?_
  refine aN ?_
  refine fK ?_
  refine ir (own := ["at"]) (cap := ["weights", "rows"]) (capI := [1, 0]) (ts := [0]) rfl ⟨rfl, by decide +kernel, ⟨⟨rfl, by first | exact Or.inl rfl | exact Or.inr rfl⟩, ⟨⟨rfl, by first | exact Or.inl rfl | exact Or.inr rfl⟩, trivial⟩⟩, by decide +kernel, by decide +kernel⟩ (by decide +kernel) ?_ (fun cs C fp s2 H2 => aH (i := 0) (show (["at", "weights", "rows"] : List Str).Nodup by decide +kernel)) ?_ ?_
  refine cR T.b_range ?_
  refine aa ?_ ao
  refine dB T.b_len ?_
  refine aa ?_ ao
  refine gP (pdv 0) ?_
  exact aq
  intro cs C fp s2 H2
  exact di
  intro cs C fp s2 H2
  refine aL F_sum_of_products (hr.mono (by decide)) ?_ (aB (aB (aM)))
  refine aa (pdv 1) ?_
  refine aa ?_ ao
  refine fK ?_
  refine ir (own := ["row"]) (cap := ["at"]) (capI := [0]) (ts := [0]) rfl ⟨rfl, by decide +kernel, ⟨⟨rfl, by first | exact Or.inl rfl | exact Or.inr rfl⟩, trivial⟩, by decide +kernel, by decide +kernel⟩ (by decide +kernel) ?_ (fun cs C fp s2 H2 => aH (i := 0) (show (["row", "at"] : List Str).Nodup by decide +kernel)) ?_ ?_
  exact cM (pdv 2)
  intro cs C fp s2 H2
  exact di
  intro cs C fp s2 H2
  exact gP (pdv 0) (pdv 1)
abbrev jP : Stmt := top 10
theorem lK : aV ["points", "thing"] ["points", "thing"] (aJ jP) := ⟨rfl, rfl, rfl, by decide +kernel, rfl, by decide +kernel, by decide +kernel⟩
theorem tB {cC cj eZ : FF} (T : BI K mg) (F : fG K "tie_holds" "tie_holds" jP f fd Tb) (KB : K.In base) (hmg : mg "tie_holds" = some (.ref f)) (F_is_numbers : FI P w K mg base tb "is_numbers" 1 3 cC) (F_over_bottoms : FI P w K mg base tb "over_bottoms" 2 3 cj) (F_weighed : FI P w K mg base tb "weighed" 2 3 eZ) : FI P w K mg base tb "tie_holds" 2 (3 + 1) (aG 2 (cF cC cj eZ)) :=
 dG F KB hmg lK rfl (fun _ _ _ _ _ _ => us2 fun _ _ => rfl) fun c A outer s H E hcd hr => by
  have nd := lK.nd
  refine aC ?_ ?_
  refine dm ?_ ?_ bC
  refine qg ?_
  refine qt ?_ ?_
  refine kE ?_
  refine km ?_
  refine aL F_is_numbers (hr.mono (by decide)) ?_ (aB (aM))
  exact aa (pdv 1) ao
  refine qt ?_ ?_
  refine aY (lu hr) ?_ ?_
  refine dB T.b_len ?_
  exact aa (pdv 1) ao
  refine dB T.b_len ?_
  exact aa (pdv 0) ao
  refine tG ?_
  refine kE ?_
  refine km ?_
  refine zx rfl T.b_any ?_
  exact jY rfl (pdv 1)
  refine aD ?_
  refine aN ?_
  exact ie
  refine aD ?_
  refine aN ?_
  refine wR ?_
  refine zx rfl T.b_any ?_
  refine jY rfl ?_
  refine aL F_weighed (hr.mono (by decide)) ?_ (aB (aB (aM)))
  refine aa (pdv 0) ?_
  refine aa ?_ ao
  refine aL F_over_bottoms (hr.mono (by decide)) ?_ (aB (aB (aM)))
  refine aa (pdv 0) ?_
  exact aa (pdv 1) ao
abbrev sX : Stmt := top 20
theorem vB : aV ["_law_found", "_law_due"] ["_law_found", "_law_due"] (aJ sX) := ⟨rfl, rfl, rfl, by decide +kernel, rfl, by decide +kernel, by decide +kernel⟩
theorem zq (T : BI K mg) (F : fG K "_law_says" "_law_says" sX f fd Tb) (KB : K.In base) (hmg : mg "_law_says" = some (.ref f)) : FI P w K mg base tb "_law_says" 2 (0 + 1) (aG 2 (kO)) :=
 dG F KB hmg vB rfl (fun _ _ _ _ _ _ => us2 fun _ _ => rfl) fun c A outer s H E hcd hr => by
  have nd := vB.nd
  refine aD ?_
  refine aN ?_
  refine tQ ?_ ?_
  exact lG T.b_isinstance T.b_bool PyProof.Rows.boot_bool (by decide) (pdv 0)
  refine oU ?_
  exact zE (jj hr) (pdv 0) (pdv 1)
abbrev rM : Stmt := top 28
theorem BJ : aV ["_law_script", "_law_drawn", "_law_turn", "_law_points", "_law_numbers", "_law_k", "_law_thing"] ["_law_script"] (aJ rM) := ⟨rfl, rfl, rfl, by decide +kernel, rfl, by decide +kernel, by decide +kernel⟩
theorem Iz {fD bJ dW dq dJ bO fM : FF} (T : BI K mg) (F : fG K "law" "law" rM f fd Tb) (KB : K.In base) (F_Ldraws : FI P w K mg base tb "_law_draws" 1 2 fD) (F_Lnext : FI P w K mg base tb "_law_next" 1 1 bJ) (F_Lknown : FI P w K mg base tb "_law_known" 2 8 dW) (F_Lthings : FI P w K mg base tb "_law_things" 2 2 dq) (F_Lis_tie : FI P w K mg base tb "_law_is_tie" 2 2 dJ) (F_tie_holds : FI P w K mg base tb "tie_holds" 2 4 bO) (F_Lsays : FI P w K mg base tb "_law_says" 2 1 fM) : lA P w K mg base CX0 (8 + 1) f fd ["_law_script"] (spD K tb 1 (aG 7 (mH fD bJ dW dq dJ bO fM))) :=
 Fj F KB BJ rfl fun c A outer s H E hcd hr => by
  have nd := BJ.nd
  refine aC ?_ ?_
  refine aZ (i := 1) nd ?_
  refine aL F_Ldraws (hr.mono (by decide)) ?_ (aB (aM))
  exact aa (pdv 0) ao
  refine aC ?_ ?_
  refine dF (ts := [2]) PassesOwn.never rfl ?_ (aH (i := 2) nd) ?_
  refine cR T.b_range ?_
  refine aa ?_ ao
  refine aA bc ?_ ?_
  exact aq
  refine xK rfl T.b_min ?_
  refine aa ?_ ?_
  exact aq
  refine aa ?_ ao
  refine dB T.b_len ?_
  exact aa (pdv 0) ao
  refine aC ?_ ?_
  refine xf (ts := [3, 4]) ?_ (iI rfl (bF (aH (i := 3) nd) (bF (aH (i := 4) nd) (gw))))
  refine aL F_Lknown (hr.mono (by decide)) ?_ (aB (aB (aM)))
  refine aa (pdv 1) ?_
  refine aa ?_ ao
  refine aA bc ?_ ?_
  exact aq
  refine aA bL ?_ ?_
  refine aL F_Lnext (hr.mono (by decide)) ?_ (aB (aM))
  exact aa (pdv 1) ao
  exact aq
  refine aC ?_ ?_
  refine dF (ts := [5]) PassesOwn.never rfl ?_ (aH (i := 5) nd) ?_
  refine cR T.b_range ?_
  refine aa ?_ ao
  exact aq
  refine aD ?_
  refine dF (ts := [6]) PassesOwn.never rfl ?_ (aH (i := 6) nd) ?_
  refine cM ?_
  refine aL F_Lthings (hr.mono (by decide)) ?_ (aB (aB (aM)))
  refine aa (pdv 4) ?_
  refine aa ?_ ao
  refine aL F_Lnext (hr.mono (by decide)) ?_ (aB (aM))
  exact aa (pdv 1) ao
  refine aD ?_
  refine dm ?_ ?_ bC
  refine kE ?_
  refine km ?_
  refine aL F_Lsays (hr.mono (by decide)) ?_ (aB (aB (aM)))
  refine aa ?_ ?_
  refine aL F_tie_holds (hr.mono (by decide)) ?_ (aB (aB (aM)))
  refine aa (pdv 3) ?_
  exact aa (pdv 6) ao
  refine aa ?_ ao
  refine aL F_Lis_tie (hr.mono (by decide)) ?_ (aB (aB (aM)))
  refine aa (pdv 3) ?_
  exact aa (pdv 6) ao
  refine aD ?_
  refine aN ?_
  exact ie
  refine aD ?_
  refine dF (ts := [6]) PassesOwn.never rfl ?_ (aH (i := 6) nd) ?_
  refine cM ?_
  refine cA ?_
  refine aa ?_ ?_
  exact aW ao
  refine aa ?_ ?_
  exact cA ao
  refine aa ?_ ?_
  exact sS
  refine aa ?_ ?_
  refine aW ?_
  refine aa ?_ ao
  exact aq
  refine aa ?_ ?_
  exact aq
  refine aa ?_ ?_
  exact xU
  refine aa ?_ ao
  exact ie
  refine aD ?_
  refine dm ?_ ?_ bC
  refine kE ?_
  refine km ?_
  refine aL F_Lsays (hr.mono (by decide)) ?_ (aB (aB (aM)))
  refine aa ?_ ?_
  refine aL F_tie_holds (hr.mono (by decide)) ?_ (aB (aB (aM)))
  refine aa ?_ ?_
  exact cA ao
  exact aa (pdv 6) ao
  refine aa ?_ ao
  exact ie
  refine aD ?_
  refine aN ?_
  exact ie
  refine aD ?_
  refine aN ?_
  exact ie
end Lk08
namespace Lk08
open PySem PySem.Spec PyProof.Rows L2 L3 LG
noncomputable def aR : FF := trunc (aG 3 (gB))
noncomputable def fD : FF := aG 5 (jT aR)
noncomputable def bJ : FF := trunc (aG 1 (jq))
noncomputable def gh : FF := trunc (aG 3 (eG))
noncomputable def cZ : FF := trunc (aG 2 (lC))
noncomputable def bu : FF := trunc (aG 4 (fZ cZ))
noncomputable def dg : FF := trunc (aG 9 (iY aR gh bu))
noncomputable def dj : FF := Hn 6 fun φ => trunc (aG 5 (iW φ))
noncomputable def bZ : FF := trunc (aG 5 (iT dj))
noncomputable def dW : FF := trunc (aG 12 (jU bJ dg aR bu bZ))
noncomputable def gm : FF := trunc (aG 2 (mG))
noncomputable def gW : FF := trunc (aG 3 (nG))
noncomputable def dq : FF := trunc (aG 6 (jf gm gW))
noncomputable def dz : FF := trunc (aG 1 (jE))
noncomputable def dJ : FF := trunc (aG 5 (bA dz cZ))
noncomputable def cP : FF := trunc (aG 1 (dI))
noncomputable def cC : FF := trunc (aG 1 (cL cP))
noncomputable def bf : FF := trunc (aG 2 (cG))
noncomputable def bw : FF := trunc (aG 3 (bR bf))
noncomputable def cj : FF := trunc (aG 3 (dh bw))
noncomputable def bx : FF := trunc (aG 2 (bT))
noncomputable def eZ : FF := trunc (aG 2 (gZ bx))
noncomputable def bO : FF := trunc (aG 2 (cF cC cj eZ))
noncomputable def fM : FF := trunc (aG 2 (kO))
noncomputable def vX : FF := aG 7 (mH fD bJ dW dq dJ bO fM)
end Lk08
namespace Lk08
open PySem PySem.Spec PyProof.Rows L2 L3 LG
theorem Ig {l : PySem.W.OpenLaw} {q : Program} {lo : List Str} {mean : ExcName → Option Value} {w : World} {K : PySem.W.Frag} {h : Heap} {mg mb : Str → Option Value} {fa : Addr}
  (X : K.In h) (G : Top q lo mean mg mb h) (hfa : mg "law" = some (.ref fa))
  (d0 : ∃ f c P fd, Got K "_law_mixed" qi f c P fd)
  (d1 : ∃ f c P fd, Got K "_law_draws" pY f c P fd)
  (d2 : ∃ f c P fd, Got K "_law_next" uf f c P fd)
  (d3 : ∃ f c P fd, Got K "_law_place" pL f c P fd)
  (d4 : ∃ f c P fd, Got K "_law_gcd" vV f c P fd)
  (d5 : ∃ f c P fd, Got K "_law_lowest" mO f c P fd)
  (d6 : ∃ f c P fd, Got K "_law_point" pP f c P fd)
  (d7 : ∃ f c P fd, Got K "_law_det" wg f c P fd)
  (d8 : ∃ f c P fd, Got K "_law_minors" mW f c P fd)
  (d9 : ∃ f c P fd, Got K "_law_known" pg f c P fd)
  (d10 : ∃ f c P fd, Got K "_law_odd" vW f c P fd)
  (d11 : ∃ f c P fd, Got K "_law_put" wM f c P fd)
  (d12 : ∃ f c P fd, Got K "_law_things" nj f c P fd)
  (d13 : ∃ f c P fd, Got K "_law_whole" oW f c P fd)
  (d14 : ∃ f c P fd, Got K "_law_is_tie" nM f c P fd)
  (d15 : ∃ f c P fd, Got K "is_number" jH f c P fd)
  (d16 : ∃ f c P fd, Got K "is_numbers" jk f c P fd)
  (d17 : ∃ f c P fd, Got K "divisor_of_two" gj f c P fd)
  (d18 : ∃ f c P fd, Got K "common_multiple" fJ f c P fd)
  (d19 : ∃ f c P fd, Got K "over_bottoms" il f c P fd)
  (d20 : ∃ f c P fd, Got K "sum_of_products" fO f c P fd)
  (d21 : ∃ f c P fd, Got K "weighed" mL f c P fd)
  (d22 : ∃ f c P fd, Got K "tie_holds" jP f c P fd)
  (d23 : ∃ f c P fd, Got K "_law_says" sX f c P fd)
  (d24 : ∃ f c P fd, Got K "law" rM f c P fd)
  (z_abs : PySem.W.nsIn K mainGlobals "abs" = some none)
  (z_all : PySem.W.nsIn K mainGlobals "all" = some none)
  (z_any : PySem.W.nsIn K mainGlobals "any" = some none)
  (z_bool : PySem.W.nsIn K mainGlobals "bool" = some none)
  (z_enumerate : PySem.W.nsIn K mainGlobals "enumerate" = some none)
  (z_int : PySem.W.nsIn K mainGlobals "int" = some none)
  (z_isinstance : PySem.W.nsIn K mainGlobals "isinstance" = some none)
  (z_len : PySem.W.nsIn K mainGlobals "len" = some none)
  (z_list : PySem.W.nsIn K mainGlobals "list" = some none)
  (z_min : PySem.W.nsIn K mainGlobals "min" = some none)
  (z_range : PySem.W.nsIn K mainGlobals "range" = some none)
  (z_sum : PySem.W.nsIn K mainGlobals "sum" = some none)
  (z_tuple : PySem.W.nsIn K mainGlobals "tuple" = some none)
  (z_zip : PySem.W.nsIn K mainGlobals "zip" = some none)
  (r_is_numbers : ((recsOf q).find? (fun e => e.name == ("is_numbers" : Str))).isSome = true)
  (r_sum_of_products : ((recsOf q).find? (fun e => e.name == ("sum_of_products" : Str))).isSome = true)
  (hnt : PySem.W.noTabs K = true) :
  ∃ (fd : FuncData) (tb : List Addr), (∀ (s : Shared) (u : Value), BindsTo s fd ⟨[u], []⟩ [("_law_script", u)]) ∧ (∀ P ∈ tb, ∃ c, PySem.W.CodeHd h c P ∧ h.get? P = some (PySem.W.tabObj #[])) ∧ PySem.W.noTabs K = true ∧
   ∀ base : Heap, K.In base → base.Ns mainGlobals mg → lA l.prog w K mg base CX0 9 fa fd ["_law_script"] (spD K tb 1 vX) := by
 have T : BI K mg := ⟨PySem.W.mg_none_of X G.g z_abs, PySem.W.mg_none_of X G.g z_all, PySem.W.mg_none_of X G.g z_any, PySem.W.mg_none_of X G.g z_bool, PySem.W.mg_none_of X G.g z_enumerate, PySem.W.mg_none_of X G.g z_int, PySem.W.mg_none_of X G.g z_isinstance, PySem.W.mg_none_of X G.g z_len, PySem.W.mg_none_of X G.g z_list, PySem.W.mg_none_of X G.g z_min, PySem.W.mg_none_of X G.g z_range, PySem.W.mg_none_of X G.g z_sum, PySem.W.mg_none_of X G.g z_tuple, PySem.W.mg_none_of X G.g z_zip⟩
 obtain ⟨f0, c0, P0, fd0, G0⟩ := d0
 have F_Lmixed := G0.F
 have m_Lmixed := PySem.W.mg_of X G.g G0.m
 obtain ⟨f1, c1, P1, fd1, G1⟩ := d1
 have F_Ldraws := G1.F
 have m_Ldraws := PySem.W.mg_of X G.g G1.m
 obtain ⟨f2, c2, P2, fd2, G2⟩ := d2
 have F_Lnext := G2.F
 have m_Lnext := PySem.W.mg_of X G.g G2.m
 obtain ⟨f3, c3, P3, fd3, G3⟩ := d3
 have F_Lplace := G3.F
 have m_Lplace := PySem.W.mg_of X G.g G3.m
 obtain ⟨f4, c4, P4, fd4, G4⟩ := d4
 have F_Lgcd := G4.F
 have m_Lgcd := PySem.W.mg_of X G.g G4.m
 obtain ⟨f5, c5, P5, fd5, G5⟩ := d5
 have F_Llowest := G5.F
 have m_Llowest := PySem.W.mg_of X G.g G5.m
 obtain ⟨f6, c6, P6, fd6, G6⟩ := d6
 have F_Lpoint := G6.F
 have m_Lpoint := PySem.W.mg_of X G.g G6.m
 obtain ⟨f7, c7, P7, fd7, G7⟩ := d7
 have F_Ldet := G7.F
 have m_Ldet := PySem.W.mg_of X G.g G7.m
 obtain ⟨f8, c8, P8, fd8, G8⟩ := d8
 have F_Lminors := G8.F
 have m_Lminors := PySem.W.mg_of X G.g G8.m
 obtain ⟨f9, c9, P9, fd9, G9⟩ := d9
 have F_Lknown := G9.F
 have m_Lknown := PySem.W.mg_of X G.g G9.m
 obtain ⟨f10, c10, P10, fd10, G10⟩ := d10
 have F_Lodd := G10.F
 have m_Lodd := PySem.W.mg_of X G.g G10.m
 obtain ⟨f11, c11, P11, fd11, G11⟩ := d11
 have F_Lput := G11.F
 have m_Lput := PySem.W.mg_of X G.g G11.m
 obtain ⟨f12, c12, P12, fd12, G12⟩ := d12
 have F_Lthings := G12.F
 have m_Lthings := PySem.W.mg_of X G.g G12.m
 obtain ⟨f13, c13, P13, fd13, G13⟩ := d13
 have F_Lwhole := G13.F
 have m_Lwhole := PySem.W.mg_of X G.g G13.m
 obtain ⟨f14, c14, P14, fd14, G14⟩ := d14
 have F_Lis_tie := G14.F
 have m_Lis_tie := PySem.W.mg_of X G.g G14.m
 obtain ⟨f15, c15, P15, fd15, G15⟩ := d15
 have F_is_number := G15.F
 have m_is_number := PySem.W.mg_of X G.g G15.m
 obtain ⟨f16, c16, P16, fd16, G16⟩ := d16
 have F_is_numbers := G16.F
 have m_is_numbers := PySem.W.mg_of X G.g G16.m
 obtain ⟨f17, c17, P17, fd17, G17⟩ := d17
 have F_divisor_of_two := G17.F
 have m_divisor_of_two := PySem.W.mg_of X G.g G17.m
 obtain ⟨f18, c18, P18, fd18, G18⟩ := d18
 have F_common_multiple := G18.F
 have m_common_multiple := PySem.W.mg_of X G.g G18.m
 obtain ⟨f19, c19, P19, fd19, G19⟩ := d19
 have F_over_bottoms := G19.F
 have m_over_bottoms := PySem.W.mg_of X G.g G19.m
 obtain ⟨f20, c20, P20, fd20, G20⟩ := d20
 have F_sum_of_products := G20.F
 have m_sum_of_products := PySem.W.mg_of X G.g G20.m
 obtain ⟨f21, c21, P21, fd21, G21⟩ := d21
 have F_weighed := G21.F
 have m_weighed := PySem.W.mg_of X G.g G21.m
 obtain ⟨f22, c22, P22, fd22, G22⟩ := d22
 have F_tie_holds := G22.F
 have m_tie_holds := PySem.W.mg_of X G.g G22.m
 obtain ⟨f23, c23, P23, fd23, G23⟩ := d23
 have F_Lsays := G23.F
 have m_Lsays := PySem.W.mg_of X G.g G23.m
 obtain ⟨f24, c24, P24, fd24, G24⟩ := d24
 have F_law := G24.F
 have m_law := PySem.W.mg_of X G.g G24.m
 have e := hfa.symm.trans m_law
 cases e
 obtain ⟨kV, dc, pm, an, ct, rfl⟩ := G24.e
 refine ⟨PySem.W.fnOf "law" "law" (iJ rM) (gk rM) (aJ rM) .none kV dc pm an (.ref c24) ct, [P16, P20], fun s u => .of_eq rfl, fun P hP => ?_, hnt, fun base kb nb => ?_⟩
 ·have hP : P = P16 ∨ P = P20 := by simpa using hP
  rcases hP with rfl | rfl
  ·exact ⟨c16, BV G X r_is_numbers G16.t⟩
  ·exact ⟨c20, BV G X r_sum_of_products G20.t⟩
 ·have gB : FI l.prog w K mg base [P16, P20] "_law_mixed" 2 1 aR := (yD (P := l.prog) (w := w) (tb := [P16, P20]) T F_Lmixed kb m_Lmixed).trunc
  have jT : FI l.prog w K mg base [P16, P20] "_law_draws" 1 2 fD := (yt (P := l.prog) (w := w) (tb := [P16, P20]) T F_Ldraws kb m_Ldraws gB)
  have jq : FI l.prog w K mg base [P16, P20] "_law_next" 1 1 bJ := (Bp (P := l.prog) (w := w) (tb := [P16, P20]) T F_Lnext kb m_Lnext).trunc
  have eG : FI l.prog w K mg base [P16, P20] "_law_place" 3 1 gh := (yu (P := l.prog) (w := w) (tb := [P16, P20]) T F_Lplace kb m_Lplace).trunc
  have lC : FI l.prog w K mg base [P16, P20] "_law_gcd" 2 1 cZ := (Eg (P := l.prog) (w := w) (tb := [P16, P20]) T F_Lgcd kb m_Lgcd).trunc
  have fZ : FI l.prog w K mg base [P16, P20] "_law_lowest" 2 2 bu := (vH (P := l.prog) (w := w) (tb := [P16, P20]) T F_Llowest kb m_Llowest lC).trunc
  have iY : FI l.prog w K mg base [P16, P20] "_law_point" 4 3 dg := (yR (P := l.prog) (w := w) (tb := [P16, P20]) T F_Lpoint kb m_Lpoint gB eG fZ).trunc
  have r0_Ldet : FI l.prog w K mg base [P16, P20] "_law_det" 1 0 (fun _ _ => none) := (Dn (ps := ["_law_rows"]) F_Ldet m_Ldet rfl (fun _ _ _ _ _ _ => us1 fun _ => rfl)).more (Nat.zero_le _)
  have r1_Ldet := (kI (P := l.prog) (w := w) (tb := [P16, P20]) T F_Ldet kb m_Ldet (by decide) r0_Ldet).trunc
  have r2_Ldet := (kI (P := l.prog) (w := w) (tb := [P16, P20]) T F_Ldet kb m_Ldet (by decide) r1_Ldet).trunc
  have r3_Ldet := (kI (P := l.prog) (w := w) (tb := [P16, P20]) T F_Ldet kb m_Ldet (by decide) r2_Ldet).trunc
  have r4_Ldet := (kI (P := l.prog) (w := w) (tb := [P16, P20]) T F_Ldet kb m_Ldet (by decide) r3_Ldet).trunc
  have r5_Ldet := (kI (P := l.prog) (w := w) (tb := [P16, P20]) T F_Ldet kb m_Ldet (by decide) r4_Ldet).trunc
  have r6_Ldet := (kI (P := l.prog) (w := w) (tb := [P16, P20]) T F_Ldet kb m_Ldet (by decide) r5_Ldet).trunc
  have iW : FI l.prog w K mg base [P16, P20] "_law_det" 1 6 dj := r6_Ldet
  have rK : FI l.prog w K mg base [P16, P20] "_law_minors" 1 7 bZ := (wV (P := l.prog) (w := w) (tb := [P16, P20]) T F_Lminors kb m_Lminors iW).trunc
  have jU : FI l.prog w K mg base [P16, P20] "_law_known" 2 8 dW := (zb (P := l.prog) (w := w) (tb := [P16, P20]) T F_Lknown kb m_Lknown jq iY gB fZ rK).trunc
  have mG : FI l.prog w K mg base [P16, P20] "_law_odd" 1 1 gm := (Ed (P := l.prog) (w := w) (tb := [P16, P20]) T F_Lodd kb m_Lodd).trunc
  have nG : FI l.prog w K mg base [P16, P20] "_law_put" 3 1 gW := (Du (P := l.prog) (w := w) (tb := [P16, P20]) T F_Lput kb m_Lput).trunc
  have jf : FI l.prog w K mg base [P16, P20] "_law_things" 2 2 dq := (wB (P := l.prog) (w := w) (tb := [P16, P20]) T F_Lthings kb m_Lthings mG nG).trunc
  have jE : FI l.prog w K mg base [P16, P20] "_law_whole" 1 1 dz := (yX (P := l.prog) (w := w) (tb := [P16, P20]) T F_Lwhole kb m_Lwhole).trunc
  have rD : FI l.prog w K mg base [P16, P20] "_law_is_tie" 2 2 dJ := (vG (P := l.prog) (w := w) (tb := [P16, P20]) T F_Lis_tie kb m_Lis_tie jE lC).trunc
  have dI : FI l.prog w K mg base [P16, P20] "is_number" 1 1 cP := (sI (P := l.prog) (w := w) (tb := [P16, P20]) T F_is_number kb m_is_number).trunc
  have cL : FI l.prog w K mg base [P16, P20] "is_numbers" 1 3 cC := (qI (P := l.prog) (w := w) (tb := [P16, P20]) T F_is_numbers kb m_is_numbers dI (by simp)).trunc
  have cG : FI l.prog w K mg base [P16, P20] "divisor_of_two" 2 1 bf := (lL (P := l.prog) (w := w) (tb := [P16, P20]) T F_divisor_of_two kb m_divisor_of_two).trunc
  have bR : FI l.prog w K mg base [P16, P20] "common_multiple" 1 2 bw := (lH (P := l.prog) (w := w) (tb := [P16, P20]) T F_common_multiple kb m_common_multiple cG).trunc
  have dh : FI l.prog w K mg base [P16, P20] "over_bottoms" 2 3 cj := (oG (P := l.prog) (w := w) (tb := [P16, P20]) T F_over_bottoms kb m_over_bottoms bR).trunc
  have bT : FI l.prog w K mg base [P16, P20] "sum_of_products" 2 2 bx := (lz (P := l.prog) (w := w) (tb := [P16, P20]) T F_sum_of_products kb m_sum_of_products (by simp)).trunc
  have gZ : FI l.prog w K mg base [P16, P20] "weighed" 2 3 eZ := (wF (P := l.prog) (w := w) (tb := [P16, P20]) T F_weighed kb m_weighed bT).trunc
  have cF : FI l.prog w K mg base [P16, P20] "tie_holds" 2 4 bO := (tB (P := l.prog) (w := w) (tb := [P16, P20]) T F_tie_holds kb m_tie_holds cL dh gZ).trunc
  have kO : FI l.prog w K mg base [P16, P20] "_law_says" 2 1 fM := (zq (P := l.prog) (w := w) (tb := [P16, P20]) T F_Lsays kb m_Lsays).trunc
  exact Iz (P := l.prog) (w := w) (tb := [P16, P20]) T F_law kb jT jq jU jf rD cF kO
end Lk08
namespace LG
open PySem PySem.Spec PyProof.Rows L2 L3
theorem BZ (a b : Int) : Int.gcd b (a.fmod b) = Int.gcd a b := by
 have h : a.fmod b = a - b * a.fdiv b := by have := Int.mul_fdiv_add_fmod a b; omega
 rw [h, Int.gcd_comm]
 have : a - b * a.fdiv b = a + b * (- a.fdiv b) := by rw [Int.mul_neg]; omega
 rw [this, Int.gcd_add_mul_left_left]
theorem Cu (a b : Int) (h : b ≠ 0) : (a.fmod b).natAbs < b.natAbs := by
 rw [Int.fmod_eq_emod]
 have h1 := Int.emod_nonneg a h
 have h2 := Int.emod_lt a h
 by_cases hd : 0 ≤ b ∨ b ∣ a
 ·rw [if_pos hd]; omega
 ·rw [if_neg hd]
  have h3 : a % b ≠ 0 := fun z => hd (.inr (Int.dvd_of_emod_eq_zero z))
  omega
abbrev eucC : TF := toB (M2 (ak 1) (mC (.int 0)) oNe)
abbrev eucB : SF := tX 0 1 (aj (ak 1) (aj (M2 (ak 0) (ak 1) oMod) (au)))
theorem ne_int (a b : Int) (μ : Mu) : oNe (.int a) (.int b) μ = some (.bl (!(a == b)), μ) := by
 unfold oNe rsv
 simp [cV, gM, eqD]
theorem euc : ∀ (n : Nat) (a b : Int) (μ : Mu), b.natAbs ≤ n → ∃ a', dC eucC eucB (n + 1) [some (.int a), some (.int b)] μ = some (.nx, [some (.int a'), some (.int 0)], μ) ∧ a'.natAbs = Int.gcd a b ∧ (0 ≤ a → 0 ≤ b → 0 ≤ a')
 | n, a, b, μ, h => by
  by_cases hb : b = 0
  ·subst hb
   refine ⟨a, ?_, by simp, fun h _ => h⟩
   unfold dC
   simp [toB, M2, ak, mC, ne_int]
  ·cases n with
   | zero => omega
   | succ n =>
    obtain ⟨a', e, hg, hs⟩ := euc n b (a.fmod b) μ (by have := Cu a b hb; omega)
    refine ⟨a', ?_, by rw [hg, BZ], fun h0 h1 => hs h1 (Int.fmod_nonneg_of_pos a (by omega))⟩
    unfold dC
    simp [toB, M2, ak, mC, ne_int, hb, tX, aj, au, oMod, e]
def nW (φ : FF) : Prop := ∀ (a b : Int) (μ : Mu), φ [.int a, .int b] μ = some (.int (Int.gcd a b), μ)
theorem Fo : nW (aG 2 cG) := fun a b μ => by
 obtain ⟨a', e, hg, hs⟩ := euc _ (if a < 0 then -a else a) (if b < 0 then -b else b) μ (Nat.le_refl _)
 have ea : (0 : Int) ≤ if a < 0 then -a else a := by split <;> omega
 have eb : (0 : Int) ≤ if b < 0 then -b else b := by split <;> omega
 have h0 := hs ea eb
 have hga : Int.gcd (if a < 0 then -a else a) (if b < 0 then -b else b) = Int.gcd a b := by split <;> split <;> simp
 rw [hga] at hg
 have hv : a' = (Int.gcd a b : Int) := by omega
 subst hv
 have ew := nA e
 unfold aG cG
 simp [aP, tX, aj, au, MC, ak, aO, lF, ew, bG]
theorem Do : nW (aG 2 lC) := fun a b μ => by
 obtain ⟨a', e, hg, hs⟩ := euc _ a b μ (Nat.le_refl _)
 have ew := nA e
 unfold aG lC
 have hv : (if a' < 0 then -a' else a') = (Int.gcd a b : Int) := by split <;> omega
 simp [aP, ew, bG, aj, au, MC, ak, aO, lF, hv]
def dX (g : Nat) (ns : List Int) : Nat := ns.foldl (fun g n => Int.gcd g n) g
theorem uy : ∀ ns : List Int, dX 1 ns = 1
 | [] => rfl
 | n :: ns => by
  show dX (Int.gcd (1 : Nat) n) ns = 1
  have : Int.gcd ((1 : Nat) : Int) n = 1 := by simp
  rw [this]; exact uy ns
theorem bI (items : List D) (μ : Mu) : Src.ok ⟨items, none⟩ μ := fun n e => by cases e
def zH (φ : FF) : Prop := ∀ (ns : List Int) (μ : Mu), φ [.lst (ns.map .int)] μ = some (.int (dX 0 ns : Nat), μ)
end LG
namespace LG
open PySem PySem.Spec PyProof.Rows L2 L3
theorem vd {th : D → eY} {f : D → D} {μ : Mu} : ∀ (items : List D), (∀ d ∈ items, th d μ = some (f d, μ)) → yq (items.map th) μ = some (items.map f, μ)
 | [], _ => rfl
 | d :: r, h => by
  have h1 := h d (by simp)
  have h2 := vd r fun x hx => h x (by simp [hx])
  rw [List.map_cons, List.map_cons]
  unfold yq
  simp [h1, h2]
theorem xJ {all : List D} {h : GF} {fe : EF} {δb : En} {f : D → D} {μ : Mu} : ∀ (items : List D), (∀ d ∈ items, ∃ δ1, h d δb μ = some δ1 ∧ fe δ1 μ = some (f d, μ)) → lcL ⟨all, none⟩ h cU fe δb items μ = some (items.map f, μ)
 | [], _ => by unfold lcL; simp [bI]
 | d :: r, hd => by
  obtain ⟨δ1, h1, h2⟩ := hd d (by simp)
  have h3 := xJ (all := all) r fun x hx => hd x (by simp [hx])
  unfold lcL
  simp [bI, h1, cU, h2, h3]
def Sm (b : Nat) (n : Int) : Prop := n.natAbs < 2 ^ b
theorem bits_le {b : Nat} {n : Int} (h : Sm b n) : Builtin.Int.intBits n ≤ b + 1 := by
 unfold Builtin.Int.intBits
 split
 ·exact Nat.zero_le _
 ·rename_i h'
  have hz : n ≠ 0 := by simpa using h'
  have hn : n.natAbs ≠ 0 := by omega
  have := (Nat.log2_lt hn).mpr h
  omega
theorem zr {b : Nat} {n : Int} (h : Sm b n) : n.natAbs.log2 < b + 1 := by
 by_cases h0 : n.natAbs = 0
 ·rw [h0]; simp
 ·have := (Nat.log2_lt h0).mpr h
  omega
theorem wN {a b : Nat} {x y : Int} (hx : Sm a x) (hy : Sm b y) (h : a + b + 2 ≤ 134217728) : gR x y ≤ 134217728 := by
 have := bits_le hx
 have := bits_le hy
 unfold gR
 omega
theorem cu {a b : Nat} {x y : Int} (μ : Mu) (hx : Sm a x) (hy : Sm b y) (h : a + b + 2 ≤ 134217728) : bH (.int x) (.int y) μ = some (.int (x * y), μ) := by
 unfold bH
 simp [wN hx hy h]
theorem gC {b : Nat} {x y : Int} (μ : Mu) (h0 : y ≠ 0) (hy : Sm b y) (h : b + 1 ≤ 9000) : oDiv (.int x) (.int y) μ = some (.int (x.fdiv y), μ) := by
 unfold oDiv
 have := zr hy
 simp [h0, show y.natAbs.log2 < 9000 by omega]
theorem jb {x y : Int} (μ : Mu) (h0 : y ≠ 0) : oMod (.int x) (.int y) μ = some (.int (x.fmod y), μ) := by
 unfold oMod
 simp [h0]
theorem lN : ∀ (ns : List Int) (g : Nat), (∀ n ∈ ns, ((dX g ns : Nat) : Int) ∣ n) ∧ dX g ns ∣ g
 | [], g => ⟨fun n h => by simp at h, Nat.dvd_refl _⟩
 | n :: ns, g => by
  obtain ⟨h1, h2⟩ := lN ns (Int.gcd g n)
  have e : dX g (n :: ns) = dX (Int.gcd g n) ns := rfl
  rw [e]
  refine ⟨fun m hm => ?_, ?_⟩
  ·rcases List.mem_cons.mp hm with z | z
   ·subst z
    exact Int.dvd_trans (Int.ofNat_dvd.mpr h2) (Int.gcd_dvd_right _ _)
   ·exact h1 m z
  ·refine Nat.dvd_trans h2 ?_
   have := Int.gcd_dvd_left (g : Int) n
   exact Int.ofNat_dvd.mp this
theorem uQ {ns : List Int} {g : Nat} (h : g ≠ 0 ∨ ∃ n ∈ ns, n ≠ 0) : dX g ns ≠ 0 := fun z => by
 obtain ⟨h1, h2⟩ := lN ns g
 rw [z] at h1 h2
 rcases h with h | ⟨n, hn, h⟩
 ·exact h (Nat.eq_zero_of_zero_dvd h2)
 ·have := h1 n hn
  exact h (by simpa using this)
def Jc (φ : FF) : Prop := ∀ (ns : List Int) (μ : Mu), dX 0 ns ≠ 0 → Sm 8000 (dX 0 ns : Nat) → ns.length ≤ 100 → φ [.lst (ns.map .int)] μ = some (.tup (ns.map fun n => .int (n.fdiv (dX 0 ns : Nat))), μ)
theorem Ly {φ : FF} (hφ : zH φ) : Jc (aG 2 (oY φ)) := fun ns μ h0 hs hl => by
 have e : yq ((ns.map D.int).map (thG (hName 0) (M2 (ak 0) (ak 1) oDiv) (cO ["number"] [some (.lst (ns.map .int)), some (.int (dX 0 ns : Nat))] [1]))) μ = some ((ns.map D.int).map (fun d => match d with | .int n => .int (n.fdiv (dX 0 ns : Nat)) | _ => .non), μ) := by
  refine vd _ fun d hd => ?_
  obtain ⟨n, _, rfl⟩ := List.mem_map.mp hd
  have := gC (x := n) μ (show ((dX 0 ns : Nat) : Int) ≠ 0 by omega) hs (by decide)
  simp [thG, hName, cO, M2, ak, this]
 unfold aG oY
 have hz : ns.length ≤ sizeLine := Nat.le_trans hl (by decide)
 rw [List.map_map, List.map_map] at e
 simp [aP, bz, MC, aj, au, ak, hφ ns μ, bG, Bh, pX, fQ, srcOf, hz, e]
def sgn (b : Int) : Int := if b > 0 then 1 else -1
theorem Jf {b : Nat} {n s : Int} (hs : s = 1 ∨ s = -1) (h : Sm b n) : Sm b (s * n) := by
 unfold Sm at *
 rw [Int.natAbs_mul]
 rcases hs with rfl | rfl <;> simpa using h
theorem HJ (b : Int) : sgn b = 1 ∨ sgn b = -1 := by unfold sgn; split <;> simp
theorem uJ {φ : FF} (hφ : nW φ) (x y : D) (all : List D) : ∀ (ns : List Int) (c : Int) (o : Option D) (μ : Mu), ∃ (c' : Int) (o' : Option D),
  forL ⟨all, none⟩ (hName 3) (bz 2 (MC (aj (ak 2) (aj (ak 3) (au))) φ)) (ns.map D.int) [some x, some y, some (.int c), o] μ = some (.nx, [some x, some y, some (.int c'), o'], μ) ∧ c'.natAbs = dX c.natAbs ns ∧ (0 ≤ c ∨ ns ≠ [] → 0 ≤ c')
 | [], c, o, μ => ⟨c, o, by unfold forL; simp [bI], rfl, fun h => h.elim id fun z => absurd rfl z⟩
 | n :: ns, c, o, μ => by
  obtain ⟨c', o', e, hc, hn0⟩ := uJ hφ x y all ns (Int.gcd c n) (some (.int n)) μ
  refine ⟨c', o', ?_, ?_, fun _ => hn0 (.inl (Int.natCast_nonneg _))⟩
  ·rw [List.map_cons]
   unfold forL
   simp [bI, hName, bz, MC, aj, au, ak, hφ c n, e]
  ·rw [hc]
   show _ = dX (Int.gcd (c.natAbs : Nat) n) ns
   congr 1
def xX (φ : FF) : Prop := ∀ (ns : List Int) (b : Int) (μ : Mu), b ≠ 0 → Sm 4000 b → ns.length ≤ 50 → ns ≠ [] →
 φ [.lst (ns.map .int), .int b] μ = some (.tup ((ns ++ [b]).map fun n => .int (n.fdiv (sgn b * (dX b.natAbs ns : Nat)))), μ)
theorem Jh {φ : FF} (hφ : nW φ) : xX (aG 4 (fZ φ)) := fun ns b μ hb hs hl hne => by
 obtain ⟨c', o', e, hc, hc0⟩ := uJ hφ (.lst (ns.map .int)) (.int b) (ns.map .int) ns b none μ
 have hsg := HJ b
 have hg0 : dX b.natAbs ns ≠ 0 := uQ (.inl (by omega))
 have hgle : dX b.natAbs ns ≤ b.natAbs := Nat.le_of_dvd (by omega) (lN ns b.natAbs).2
 have hdiv : ∀ δo, ∃ δ', sIf (toB (M2 (ak 1) (mC (.int 0)) oLt)) (bz 2 (M2 (mC (.int 0)) (MC (aj (ak 2) (au)) (aO lF)) gH)) bU [some (.lst (ns.map .int)), some (.int b), some (.int c'), δo] μ = some (.nx, δ', μ) ∧ (0 ≤ c' → δ' = [some (.lst (ns.map .int)), some (.int b), some (.int (sgn b * (dX b.natAbs ns : Nat))), δo]) := fun δo => by
  by_cases hn : b < 0
  ·refine ⟨[some (.lst (ns.map .int)), some (.int b), some (.int (0 - if c' < 0 then -c' else c')), δo], by simp [sIf, toB, M2, ak, mC, oLt, hn, bz, MC, aj, au, aO, lF, gH], fun hc0 => ?_⟩
   have h1 : sgn b = -1 := by unfold sgn; rw [if_neg (by omega)]
   rw [h1, if_neg (by omega)]
   have : c' = (dX b.natAbs ns : Nat) := by omega
   rw [this]
   simp
  ·refine ⟨[some (.lst (ns.map .int)), some (.int b), some (.int c'), δo], by simp [sIf, toB, M2, ak, mC, oLt, hn, bU], fun hc0 => ?_⟩
   have h1 : sgn b = 1 := by unfold sgn; rw [if_pos (by omega)]
   have : c' = (dX b.natAbs ns : Nat) := by omega
   rw [h1, this]
   simp
 obtain ⟨δ', e3, e4⟩ := hdiv o'
 have e5 := e4 (hc0 (.inr hne))
 subst e5
 have hd0 : sgn b * ((dX b.natAbs ns : Nat) : Int) ≠ 0 := by rcases hsg with h | h <;> rw [h] <;> omega
 have hds : Sm 4000 (sgn b * ((dX b.natAbs ns : Nat) : Int)) := Jf hsg (by unfold Sm at *; simp only [Int.natAbs_natCast]; omega)
 have eL : lcL ⟨ns.map D.int, none⟩ (hName 0) cU (M2 (ak 0) (ak 1) oDiv) (cO ["_law_number"] [some (.lst (ns.map .int)), some (.int b), some (.int (sgn b * (dX b.natAbs ns : Nat))), o'] [2]) (ns.map D.int) μ = some ((ns.map D.int).map (fun d => match d with | .int n => .int (n.fdiv (sgn b * (dX b.natAbs ns : Nat))) | _ => .non), μ) := by
  refine xJ _ fun d hd => ?_
  obtain ⟨n, _, rfl⟩ := List.mem_map.mp hd
  have := gC (x := n) μ hd0 hds (by decide)
  exact ⟨_, rfl, by simp [hName, cO, M2, ak, this]⟩
 rw [List.map_map] at eL
 have eL2 : lcL ⟨ns.map D.int, none⟩ (hName 0) cU (M2 (ak 0) (ak 1) oDiv) (cO ["_law_number"] [some (.lst (ns.map .int)), some (.int b), some (.int (sgn b * (dX b.natAbs ns : Nat))), o'] [2]) (ns.map D.int) μ = some (ns.map (fun n => D.int (n.fdiv (sgn b * (dX b.natAbs ns : Nat)))), μ) := eL
 have eD := gC (x := b) μ hd0 hds (by decide)
 have hz : ns.length ≤ sizeLine := Nat.le_trans hl (by decide)
 have hz2 : ns.length + 1 ≤ sizeLine := Nat.le_trans (by omega : ns.length + 1 ≤ 100) (by decide)
 have h1s : 1 ≤ sizeLine := by decide
 unfold aG fZ
 simp [aP, bz, ak, gb, fQ, srcOf, e, e3, bG, M2, MC, aj, au, mFz, lLC, hz, eL2, fV, bM, eD, oTup, h1s, aU, hz2]
end LG
namespace LG
open PySem PySem.Spec PyProof.Rows L2 L3
theorem gn {a b : Nat} {x : Int} (h : Sm a x) (hab : a ≤ b) : Sm b x := Nat.lt_of_lt_of_le h (Nat.pow_le_pow_right (by decide) hab)
theorem fW {a b : Nat} {x y : Int} (hx : Sm a x) (hy : Sm b y) : Sm (a + b) (x * y) := by
 unfold Sm at *
 rw [Int.natAbs_mul, Nat.pow_add]
 exact Nat.mul_lt_mul'' hx hy
def Dr (x : Int) : Prop := 0 ≤ x ∧ x < 2147483648
theorem jh : ∀ (L : List Int), dD (L.map D.int) = true
 | [] => by unfold dD; rfl
 | x :: L => by
  rw [List.map_cons]
  unfold dD
  rw [jh L]
  simp [cV]
theorem jN : ∀ (L : List Int), gO (L.map D.int) = 0
 | [] => by unfold gO; rfl
 | x :: L => by
  rw [List.map_cons]
  unfold gO
  rw [jN L]
  simp [gM]
theorem oN {ds : List D} {i : Int} (h0 : 0 ≤ i) (h1 : i < ds.length) : ∃ d, d ∈ ds ∧ atI ds i = some d := by
 have hi : i.toNat < ds.length := by omega
 refine ⟨ds[i.toNat], List.getElem_mem hi, ?_⟩
 unfold atI ixN
 rw [if_pos h0, if_pos h1]
 simp [hi]
theorem aX {x m : Int} (hm : 0 < m) : 0 ≤ x.fmod m ∧ x.fmod m < m := ⟨Int.fmod_nonneg_of_pos x hm, Int.fmod_lt_of_pos x hm⟩
end LG
namespace LG
open PySem PySem.Spec PyProof.Rows L2 L3
def qu (φ : FF) : Prop := ∀ (x k : Int) (μ : Mu), 0 ≤ k → k < 1000 → ∃ r, φ [.int x, .int k] μ = some (.int r, μ) ∧ Dr r
theorem HQ : qu (aG 3 gB) := fun x k μ h0 h1 => by
 obtain ⟨a0, a1⟩ := aX (x := x) (m := 2147483647) (by decide)
 have w1 := jb (x := x) (y := 2147483647) μ (by decide)
 have sa : Sm 31 (x.fmod 2147483647) := by unfold Sm; have e : (2 : Nat) ^ 31 = 2147483648 := by decide
                                           omega
 have m1 := cu (x := x.fmod 2147483647) (y := 48271) μ sa (show Sm 16 48271 by unfold Sm; decide) (by decide)
 have sk : Sm 10 k := by unfold Sm; have e : (2 : Nat) ^ 10 = 1024 := by decide
                         omega
 have m2 := cu (x := 7919) (y := k) μ (show Sm 13 7919 by unfold Sm; decide) sk (by decide)
 have m3 := cu (x := 7919 * k) (y := k) μ (fW (show Sm 13 7919 by unfold Sm; decide) sk) sk (by decide)
 have w2 := jb (x := x.fmod 2147483647 * 48271 + 7919 * k * k + 104729) (y := 2147483647) μ (by decide)
 obtain ⟨b0, b1⟩ := aX (x := x.fmod 2147483647 * 48271 + 7919 * k * k + 104729) (m := 2147483647) (by decide)
 generalize hn : (x.fmod 2147483647 * 48271 + 7919 * k * k + 104729).fmod 2147483647 = n at *
 have sn : Sm 31 n := by unfold Sm; have e : (2 : Nat) ^ 31 = 2147483648 := by decide
                         omega
 have m4 := cu (x := n) (y := n) μ sn sn (by decide)
 have w3 := jb (x := n * n) (y := 2147483629) μ (by decide)
 obtain ⟨c0, c1⟩ := aX (x := n * n) (m := 2147483629) (by decide)
 refine ⟨(n * n).fmod 2147483629, ?_, c0, by omega⟩
 unfold aG gB
 simp [aP, bz, M2, ak, mC, w1, m1, m2, m3, aU, w2, bG, m4, w3]
theorem tu {δ : En} {L : List Int} {y : Int} {fs : AF} (h1 : δ[1]? = some (some (.cell 0))) (h2 : fs δ [some (L.map .int)] = some ([.int y], [some (L.map .int)])) (hl : L.length < 10000) :
  gK (ak 1) fs δ [some (L.map .int)] = some (.non, [some ((L ++ [y]).map .int)]) := by
 have hz : L.length < sizeLine := Nat.lt_of_lt_of_le hl (by decide)
 unfold gK
 simp [ak, h1, h2, gJ, hz]
theorem Kd {φ : FF} (hφ : qu φ) (s : D) (k c : Int) (hk : 0 ≤ k ∧ k < 100) (all : List D) : ∀ (js : List Int), (∀ j ∈ js, 0 ≤ j ∧ j < 12) → ∀ (L : List Int) (o : Option D), (∀ x ∈ L, Dr x) → L.length + js.length < 10000 → ∃ (L' : List Int) (o' : Option D),
  forL ⟨all, none⟩ (hName 4) (eF (gK (ak 1) (aj (MC (aj (MC (aj (ak 3) (aj (M2 (M2 (mC (.int 3)) (ak 4) bH) (mC (.int 1)) aU) (au))) φ) (aj (M2 (M2 (ak 4) (ak 2) aU) (mC (.int 2)) aU) (au))) φ) (au)))) (js.map D.int)
   [some s, some (.cell 0), some (.int k), some (.int c), o] [some (L.map .int)] = some (.nx, [some s, some (.cell 0), some (.int k), some (.int c), o'], [some (L'.map .int)]) ∧ (∀ x ∈ L', Dr x) ∧ L'.length = L.length + js.length
 | [], _, L, o, hL, _ => ⟨L, o, by unfold forL; simp [bI], hL, rfl⟩
 | j :: js, hj, L, o, hL, hlen => by
  have hj0 := hj j (by simp)
  obtain ⟨r1, e1, d1⟩ := hφ c (3 * j + 1) [some (L.map .int)] (by omega) (by omega)
  obtain ⟨r2, e2, d2⟩ := hφ r1 (j + k + 2) [some (L.map .int)] (by omega) (by omega)
  have m1 := cu (x := 3) (y := j) [some (L.map D.int)] (show Sm 2 3 by unfold Sm; decide) (show Sm 4 j by unfold Sm; omega) (by decide)
  obtain ⟨L', o', e, hd, hl⟩ := Kd hφ s k c hk all js (fun x hx => hj x (by simp [hx])) (L ++ [r2]) (some (.int j)) (fun x hx => by
   rcases List.mem_append.mp hx with z | z
   ·exact hL x z
   ·simp at z; subst z; exact d2) (by simp at hlen ⊢; omega)
  refine ⟨L', o', ?_, hd, by rw [hl]; simp; omega⟩
  rw [List.map_cons]
  unfold forL
  have ea := tu (δ := [some s, some (.cell 0), some (.int k), some (.int c), some (.int j)]) (L := L) (y := r2) (fs := aj (MC (aj (MC (aj (ak 3) (aj (M2 (M2 (mC (.int 3)) (ak 4) bH) (mC (.int 1)) aU) (au))) φ) (aj (M2 (M2 (ak 4) (ak 2) aU) (mC (.int 2)) aU) (au))) φ) (au)) rfl
   (by simp [aj, au, MC, M2, ak, mC, m1, aU, e1, e2]) (by simp at hlen; omega)
  simp only [List.map_append, List.map_cons, List.map_nil] at ea e
  simp [bI, hName, eF, ea, e]
abbrev drC : TF := jF (toB (M2 (ak 3) (M2 (mC (.int 10)) (mC (.int 18)) jl) oGe)) (toB (M2 (MC (aj (ak 1) (au)) (aO bN)) (mC (.int 900)) oLt))
abbrev drB : SF := aP (eF (gK (ak 1) (aj (M2 (ak 3) (mC (.int 2147483629)) oMod) (au)))) (bz 3 (M2 (ak 3) (mC (.int 2147483629)) oDiv))
theorem uA (s k o : Option D) : ∀ (n : Nat) (c : Int) (L : List Int), 0 ≤ c → (∀ x ∈ L, Dr x) → 900 - L.length ≤ n → ∃ (c' : Int) (L' : List Int),
  dC drC drB (n + 1) [s, some (.cell 0), k, some (.int c), o] [some (L.map .int)] = some (.nx, [s, some (.cell 0), k, some (.int c'), o], [some (L'.map .int)]) ∧ 0 ≤ c' ∧ (∀ x ∈ L', Dr x) ∧ L'.length ≤ max L.length 900
 | n, c, L, hc, hL, hn => by
  have ep : jl (.int 10) (.int 18) [some (L.map D.int)] = some (.int 1000000000000000000, [some (L.map .int)]) := rfl
  by_cases ht : (1000000000000000000 : Int) ≤ c ∧ L.length < 900
  ·cases n with
   | zero => omega
   | succ n =>
    obtain ⟨m0, m1⟩ := aX (x := c) (m := 2147483629) (by decide)
    have w1 := jb (x := c) (y := 2147483629) [some (L.map D.int)] (by decide)
    have w2 := gC (x := c) (y := 2147483629) [some ((L ++ [c.fmod 2147483629]).map D.int)] (by decide) (show Sm 31 2147483629 by unfold Sm; decide) (by decide)
    have q0 : 0 ≤ c.fdiv 2147483629 := by rw [Int.fdiv_eq_ediv_of_nonneg c (by decide)]; exact Int.ediv_nonneg hc (by decide)
    obtain ⟨c', L', e, h1, h2, h3⟩ := uA s k o n (c.fdiv 2147483629) (L ++ [c.fmod 2147483629]) q0 (fun x hx => by
     rcases List.mem_append.mp hx with z | z
     ·exact hL x z
     ·simp at z; subst z; exact ⟨m0, by omega⟩) (by simp; omega)
    refine ⟨c', L', ?_, h1, h2, by simp at h3; omega⟩
    unfold dC
    have ea := tu (δ := [s, some (.cell 0), k, some (.int c), o]) (L := L) (y := c.fmod 2147483629) (fs := aj (M2 (ak 3) (mC (.int 2147483629)) oMod) (au)) rfl (by simp [aj, au, M2, ak, mC, w1]) (by omega)
    simp only [List.map_append, List.map_cons, List.map_nil] at ea e w2
    have hlen : ((L.length : Nat) : Int) < 900 := by omega
    have ht1 := ht.1
    simp [jF, toB, M2, ak, mC, ep, oGe, ht1, MC, aj, au, aO, bN, bM, oLt, hlen, aP, eF] at ea ⊢
    simp [ea, bz, M2, ak, mC, w2, e]
  ·refine ⟨c, L, ?_, hc, hL, by omega⟩
   unfold dC
   by_cases h1 : (1000000000000000000 : Int) ≤ c
   ·have h2 : ¬ ((L.length : Nat) : Int) < 900 := by omega
    simp [jF, toB, M2, ak, mC, ep, oGe, h1, MC, aj, au, aO, bN, bM, oLt, h2]
   ·simp [jF, toB, M2, ak, mC, ep, oGe, h1]
theorem ur (n : Nat) : dZ 0 n = ((List.range n).map fun (k : Nat) => (k : Int)).map D.int := by
 unfold dZ
 rw [List.map_map]
 apply List.map_congr_left
 intro k _
 simp
noncomputable abbrev rA (φ : FF) : SF := (aP (bz 3 (MC (aj (M2 (ak 0) (ak 2) oIx) (au)) (aO lF))) (aP (sIf (toB (M2 (ak 3) (M2 (mC (.int 10)) (mC (.int 18)) jl) oLt)) (gb (bQ (aj (mC (.int 12)) (au))) (hName 4) (eF (gK (ak 1) (aj (MC (aj (MC (aj (ak 3) (aj (M2 (M2 (mC (.int 3)) (ak 4) bH) (mC (.int 1)) aU) (au))) φ) (aj (M2 (M2 (ak 4) (ak 2) aU) (mC (.int 2)) aU) (au))) φ) (au))))) (bU)) (aP (jw drC drB) (sIf (toB (M2 (ak 3) (mC (.int 2147483629)) oGe)) (eF (gK (ak 1) (aj (M2 (ak 3) (mC (.int 2147483629)) oMod) (au)))) (bU)))))
theorem DG {φ : FF} (hφ : qu φ) (ns : List Int) (k : Nat) (hk : k < ns.length) (hk2 : k < 100) (L : List Int) (o3 o4 : Option D) (hL : ∀ x ∈ L, Dr x) (hlen : L.length < 9000) : ∃ (L' : List Int) (o3' o4' : Option D),
  rA φ [some (.ro (ns.map .int)), some (.cell 0), some (.int k), o3, o4] [some (L.map .int)] = some (.nx, [some (.ro (ns.map .int)), some (.cell 0), some (.int k), o3', o4'], [some (L'.map .int)]) ∧ (∀ x ∈ L', Dr x) ∧ L'.length ≤ max (L.length + 12) 900 + 1 := by
 have hat : atI (ns.map D.int) (k : Int) = some (.int ns[k]) := Cy (by simp [hk])
 generalize hc : (if ns[k] < 0 then -ns[k] else ns[k]) = c
 have hc0 : 0 ≤ c := by rw [← hc]; split <;> omega
 have ep : jl (.int 10) (.int 18) [some (L.map D.int)] = some (.int 1000000000000000000, [some (L.map .int)]) := rfl
 obtain ⟨L1, o1, e1, h1, l1⟩ : ∃ (L1 : List Int) (o1 : Option D), sIf (toB (M2 (ak 3) (M2 (mC (.int 10)) (mC (.int 18)) jl) oLt)) (gb (bQ (aj (mC (.int 12)) (au))) (hName 4) (eF (gK (ak 1) (aj (MC (aj (MC (aj (ak 3) (aj (M2 (M2 (mC (.int 3)) (ak 4) bH) (mC (.int 1)) aU) (au))) φ) (aj (M2 (M2 (ak 4) (ak 2) aU) (mC (.int 2)) aU) (au))) φ) (au))))) (bU)
   [some (.ro (ns.map .int)), some (.cell 0), some (.int k), some (.int c), o4] [some (L.map .int)] = some (.nx, [some (.ro (ns.map .int)), some (.cell 0), some (.int k), some (.int c), o1], [some (L1.map .int)]) ∧ (∀ x ∈ L1, Dr x) ∧ L1.length ≤ L.length + 12 := by
  by_cases hs : c < 1000000000000000000
  ·obtain ⟨L1, o1, e, h, l⟩ := Kd hφ (.ro (ns.map .int)) k c (by omega) (dZ 0 12) ((List.range 12).map fun (k : Nat) => (k : Int)) (fun j hj => by simp at hj; omega) L o4 hL (by simp; omega)
   refine ⟨L1, o1, ?_, h, by rw [l]; simp⟩
   rw [← ur] at e
   simp [sIf, toB, M2, ak, mC, ep, oLt, hs, gb, bQ, aj, au]
   exact e
  ·exact ⟨L, o4, by simp [sIf, toB, M2, ak, mC, ep, oLt, hs, bU], hL, by omega⟩
 obtain ⟨c', L2, e2, hc', h2, l2⟩ := uA (some (.ro (ns.map .int))) (some (.int k)) o1 _ c L1 hc0 h1 (Nat.le_refl _)
 have ew := nA e2
 have hab : lF (.int ns[k]) [some (L.map D.int)] = some (.int c, [some (L.map D.int)]) := by rw [← hc]; rfl
 by_cases hb : (2147483629 : Int) ≤ c'
 ·obtain ⟨m0, m1⟩ := aX (x := c') (m := 2147483629) (by decide)
  have w1 := jb (x := c') (y := 2147483629) [some (L2.map D.int)] (by decide)
  have ea := tu (δ := [some (.ro (ns.map .int)), some (.cell 0), some (.int k), some (.int c'), o1]) (L := L2) (y := c'.fmod 2147483629) (fs := aj (M2 (ak 3) (mC (.int 2147483629)) oMod) (au)) rfl (by simp [aj, au, M2, ak, mC, w1]) (by omega)
  refine ⟨L2 ++ [c'.fmod 2147483629], some (.int c'), o1, ?_, fun x hx => by
   rcases List.mem_append.mp hx with z | z
   ·exact h2 x z
   ·simp at z; subst z; exact ⟨m0, by omega⟩, by simp; omega⟩
  have e0 : bz 3 (MC (aj (M2 (ak 0) (ak 2) oIx) (au)) (aO lF)) [some (.ro (ns.map .int)), some (.cell 0), some (.int k), o3, o4] [some (L.map .int)] = some (.nx, [some (.ro (ns.map .int)), some (.cell 0), some (.int k), some (.int c), o4], [some (L.map .int)]) := by
   simp [bz, MC, aj, au, M2, ak, oIx, bM, hat, aO, hab]
  have e3 : sIf (toB (M2 (ak 3) (mC (.int 2147483629)) oGe)) (eF (gK (ak 1) (aj (M2 (ak 3) (mC (.int 2147483629)) oMod) (au)))) (bU) [some (.ro (ns.map .int)), some (.cell 0), some (.int k), some (.int c'), o1] [some (L2.map .int)] = some (.nx, [some (.ro (ns.map .int)), some (.cell 0), some (.int k), some (.int c'), o1], [some ((L2 ++ [c'.fmod 2147483629]).map .int)]) := by
   simp only [sIf, toB, M2, ak, mC, oGe, eF] at ea ⊢
   simp [hb] at ea ⊢
   simp [ea]
  unfold rA aP
  rw [e0]
  simp only [Option.bind_some]
  rw [e1]
  simp only [Option.bind_some]
  rw [ew]
  simp only [Option.bind_some]
  exact e3
 ·refine ⟨L2, some (.int c'), o1, ?_, h2, by omega⟩
  have e0 : bz 3 (MC (aj (M2 (ak 0) (ak 2) oIx) (au)) (aO lF)) [some (.ro (ns.map .int)), some (.cell 0), some (.int k), o3, o4] [some (L.map .int)] = some (.nx, [some (.ro (ns.map .int)), some (.cell 0), some (.int k), some (.int c), o4], [some (L.map .int)]) := by
   simp [bz, MC, aj, au, M2, ak, oIx, bM, hat, aO, hab]
  have e3 : sIf (toB (M2 (ak 3) (mC (.int 2147483629)) oGe)) (eF (gK (ak 1) (aj (M2 (ak 3) (mC (.int 2147483629)) oMod) (au)))) (bU) [some (.ro (ns.map .int)), some (.cell 0), some (.int k), some (.int c'), o1] [some (L2.map .int)] = some (.nx, [some (.ro (ns.map .int)), some (.cell 0), some (.int k), some (.int c'), o1], [some (L2.map .int)]) := by
   simp [sIf, toB, M2, ak, mC, oGe, hb, bU]
  unfold rA aP
  rw [e0]
  simp only [Option.bind_some]
  rw [e1]
  simp only [Option.bind_some]
  rw [ew]
  simp only [Option.bind_some]
  exact e3
theorem xZ {φ : FF} (hφ : qu φ) (ns : List Int) (all : List D) : ∀ (ks : List Nat), (∀ k ∈ ks, k < ns.length ∧ k < 100) → ∀ (L : List Int) (o2 o3 o4 : Option D), (∀ x ∈ L, Dr x) → max L.length 900 + 13 * ks.length ≤ 5000 → ∃ (L' : List Int) (o2' o3' o4' : Option D),
  forL ⟨all, none⟩ (hName 2) (rA φ) ((ks.map fun (k : Nat) => (k : Int)).map D.int) [some (.ro (ns.map .int)), some (.cell 0), o2, o3, o4] [some (L.map .int)] = some (.nx, [some (.ro (ns.map .int)), some (.cell 0), o2', o3', o4'], [some (L'.map .int)]) ∧ (∀ x ∈ L', Dr x)
 | [], _, L, o2, o3, o4, hL, _ => ⟨L, o2, o3, o4, by simp only [List.map_nil]; unfold forL; simp [bI], hL⟩
 | k :: ks, hk, L, o2, o3, o4, hL, hlen => by
  have hk0 := hk k (by simp)
  simp only [List.length_cons] at hlen
  obtain ⟨L1, a3, a4, e1, h1, l1⟩ := DG hφ ns k hk0.1 hk0.2 L o3 o4 hL (by omega)
  obtain ⟨L', b2, b3, b4, e, h⟩ := xZ hφ ns all ks (fun x hx => hk x (by simp [hx])) L1 (some (.int k)) a3 a4 h1 (by omega)
  refine ⟨L', b2, b3, b4, ?_, h⟩
  rw [List.map_cons, List.map_cons]
  unfold forL
  simp only [hName, List.set_cons_succ, List.set_cons_zero, Option.bind_some]
  rw [if_pos (bI _ _), e1]
  exact e
def ul (φ : FF) : Prop := ∀ (ns : List Int), ns.length ≤ 63 → ∃ L : List Int, φ [.ro (ns.map .int)] [] = some (.cell 0, [some (L.map .int)]) ∧ ∀ x ∈ L, Dr x
theorem Al {φ : FF} (hφ : qu φ) : ul (aG 5 (jT φ)) := fun ns hn => by
 obtain ⟨L, o2, o3, o4, e, h⟩ := xZ hφ ns (dZ 0 ns.length) (List.range ns.length) (fun k hk => by simp at hk; omega) [] none none none (fun x hx => by simp at hx) (by simp; omega)
 refine ⟨L, ?_, h⟩
 rw [← ur] at e
 have hmin : (if (63 : Int) < (ns.length : Int) then (63 : Int) else (ns.length : Int)) = (ns.length : Int) := by rw [if_neg (by omega)]
 have hr : (-(2 ^ 62) ≤ (ns.length : Int) ∧ (ns.length : Int) < 2 ^ 62) := by omega
 have hz : 0 ≤ sizeLine := Nat.zero_le _
 have eS : ∀ δ : En, δ[0]? = some (some (.ro (ns.map .int))) → ∀ μ, bQ (aj (MC (aj (MC (aj (ak 0) (au)) (aO bN)) (aj (mC (.int 63)) (au))) (lw nT)) (au)) δ μ = some (⟨dZ 0 ns.length, none⟩, μ) := fun δ h0 μ => by
  simp only [bQ, aj, MC, ak, h0, au, aO, bN, bM, mC, lw, nT, Option.bind_some, Option.map_some, List.length_map]
  rw [hmin]
  rw [if_pos hr]
  simp
 have e0 : bz 1 (mF (oE au)) [some (.ro (ns.map .int)), none, none, none, none] [] = some (.nx, [some (.ro (ns.map .int)), some (.cell 0), none, none, none], [some []]) := by
  simp [bz, mF, oE, au]
 have e1 : gb (bQ (aj (MC (aj (MC (aj (ak 0) (au)) (aO bN)) (aj (mC (.int 63)) (au))) (lw nT)) (au))) (hName 2) (rA φ) [some (.ro (ns.map .int)), some (.cell 0), none, none, none] [some []] = some (.nx, [some (.ro (ns.map .int)), some (.cell 0), o2, o3, o4], [some (L.map .int)]) := by
  unfold gb
  rw [eS _ rfl]
  exact e
 show (aP (bz 1 (mF (oE au))) (aP (gb (bQ (aj (MC (aj (MC (aj (ak 0) (au)) (aO bN)) (aj (mC (.int 63)) (au))) (lw nT)) (au))) (hName 2) (rA φ)) (bG (ak 1))) [some (.ro (ns.map .int)), none, none, none, none] []).bind _ = _
 unfold aP
 rw [e0]
 simp only [Option.bind_some]
 rw [e1]
 simp [bG, ak]
end LG
namespace LG
open PySem PySem.Spec PyProof.Rows L2 L3
end LG
namespace L3
open PySem PySem.Spec PyProof.Rows L2
class Post (α : Type) where
 run : α → Prop
@[simp] theorem vZ {α : Type} {f : α → Prop} {r : α} : @Post.run α ⟨f⟩ r = f r := rfl
def OkI {α : Type} (o : Option α) [Q : Post α] : Prop := ∃ r, o = some r ∧ Q.run r
abbrev Ok {α : Type} (o : Option α) (Q : α → Prop) : Prop := @OkI α o ⟨Q⟩
section
variable {α β : Type} {Q : Post α}
@[simp] theorem CP {r : α} : OkI (some r) (Q := Q) = Q.run r := by
 apply propext
 exact ⟨fun ⟨q, e, h⟩ => by cases e; exact h, fun h => ⟨r, rfl, h⟩⟩
@[simp] theorem LK : OkI (none : Option α) (Q := Q) = False := by
 apply propext
 exact ⟨fun ⟨q, e, h⟩ => (by cases e), fun h => h.elim⟩
@[simp] theorem dU {o : Option β} {k : β → Option α} : OkI (o.bind k) (Q := Q) = OkI o (Q := ⟨fun r => OkI (k r) (Q := Q)⟩) := by
 apply propext
 constructor
 ·rintro ⟨q, e, h⟩
  obtain ⟨r, e1, e2⟩ := Option.bind_eq_some_iff.mp e
  exact ⟨r, e1, q, e2, h⟩
 ·rintro ⟨r, e1, q, e2, h⟩
  exact ⟨q, by rw [e1]; exact e2, h⟩
@[simp] theorem Mw {o : Option β} {k : β → α} : OkI (o.map k) (Q := Q) = OkI o (Q := ⟨fun r => Q.run (k r)⟩) := by
 apply propext
 constructor
 ·rintro ⟨q, e, h⟩
  obtain ⟨r, e1, e2⟩ := Option.map_eq_some_iff.mp e
  exact ⟨r, e1, by subst e2; exact h⟩
 ·rintro ⟨r, e1, h⟩
  exact ⟨_, by rw [e1]; rfl, h⟩
theorem OkI.mono {o : Option α} {Q' : Post α} (h : OkI o (Q := Q)) (k : ∀ r, Q.run r → Q'.run r) : OkI o (Q := Q') := let ⟨r, e, q⟩ := h; ⟨r, e, k r q⟩
end
class Two where
 t : Prop
 f : Prop
def qF (b : Bool) [T : Two] : Prop := if b = true then T.t else T.f
@[simp] theorem Ju {P R : Prop} : qF true (T := ⟨P, R⟩) = P := rfl
@[simp] theorem Ho {P R : Prop} : qF false (T := ⟨P, R⟩) = R := rfl
def asB (r : D × Mu) : Option (Bool × Mu) := match r.1 with
 | .bl k => some (k, r.2)
 | _ => none
@[simp] theorem Mv {k : Bool} {μ : Mu} : asB (.bl k, μ) = some (k, μ) := rfl
def Gk (r : List D × Mu) : Option (Src × Mu) := match r.1 with
 | [.int j] => if -(2 ^ 62) ≤ j ∧ j < 2 ^ 62 then some (⟨dZ 0 j.toNat, none⟩, r.2) else none
 | _ => none
theorem vL {j : Int} {μ : Mu} (h0 : -(2 ^ 62) ≤ j) (h1 : j < 2 ^ 62) : Gk ([.int j], μ) = some (⟨dZ 0 j.toNat, none⟩, μ) := if_pos ⟨h0, h1⟩
def Kf (r : List D × Mu) : Option (Src × Mu) := match r.1 with
 | [x, y] => (cI x).bind fun xs => (cI y).map fun ys => (⟨jA xs ys, none⟩, r.2)
 | _ => none
@[simp] theorem Jy {x y : D} {μ : Mu} : Kf ([x, y], μ) = (cI x).bind fun xs => (cI y).map fun ys => (⟨jA xs ys, none⟩, μ) := rfl
@[simp] theorem Lk {ds : List D} : cI (.tup ds) = some ds := rfl
@[simp] theorem LR {ds : List D} : cI (.lst ds) = some ds := rfl
def Kh (th : D → eY) (r : Src × Mu) : Option (List eY × Mu) := match r.1.cel with
 | none => some (r.1.items.map th, r.2)
 | some _ => none
@[simp] theorem Jp {th : D → eY} {items : List D} {μ : Mu} : Kh th (⟨items, none⟩, μ) = some (items.map th, μ) := rfl
def Hw (r : D × Mu) : Option (List eY × Mu) := match r.1 with
 | .tup ds => some (ds.map thE, r.2)
 | .lst ds => some (ds.map thE, r.2)
 | _ => none
@[simp] theorem KY {ds : List D} {μ : Mu} : Hw (.tup ds, μ) = some (ds.map thE, μ) := rfl
@[simp] theorem Km {ds : List D} {μ : Mu} : Hw (.lst ds, μ) = some (ds.map thE, μ) := rfl
def KR (r : D × Mu) : Option (D × Mu) := match r.1 with
 | .cell n => (r.2.getD n none).map fun ds => (.lst ds, r.2.set n none)
 | d => some (d, r.2)
@[simp] theorem Jo {n : Nat} {μ : Mu} : KR (.cell n, μ) = (μ.getD n none).map fun ds => (.lst ds, μ.set n none) := rfl
section
variable {Q : Post (D × Mu)} {QT : Post (Bool × Mu)} {QS : Post (Fl × En × Mu)} {δ : En} {μ : Mu} {f fa fb fc : EF} {fs : AF} {t ta tc : TF} {g h : SF} {op op' : O2}
@[simp] theorem Ms {d : D} : ak 0 (some d :: δ) μ = some (d, μ) := rfl
@[simp] theorem MF {i : Nat} {o : Option D} : ak (i + 1) (o :: δ) μ = ak i δ μ := rfl
@[simp] theorem w_c {d : D} : mC d δ μ = some (d, μ) := rfl
@[simp] theorem w_m1 {op : O1'} : M1 fa op δ μ = (fa δ μ).bind fun r => op r.1 r.2 := rfl
@[simp] theorem Cd : M2 fa fb op δ μ = (fa δ μ).bind fun r => (fb δ r.2).bind fun q => op r.1 q.1 q.2 := rfl
@[simp] theorem rQ : au δ μ = some ([], μ) := rfl
@[simp] theorem nO : aj f fs δ μ = (f δ μ).bind fun r => (fs δ r.2).bind fun q => some (r.1 :: q.1, q.2) := rfl
@[simp] theorem Bx {op : ON} : MC fs op δ μ = (fs δ μ).bind fun r => op r.1 r.2 := rfl
@[simp] theorem Mr : oA f δ μ = (f δ μ).bind fun r => (uN r.1 r.2).map fun k => (k, r.2) := rfl
@[simp] theorem w_toB : toB f δ μ = (f δ μ).bind asB := rfl
@[simp] theorem w_ch : OkI (MCh fa fb fc op op' δ μ) (Q := Q) = OkI (fa δ μ) (Q := ⟨fun r => OkI (fb δ r.2) (Q := ⟨fun q => OkI ((op r.1 q.1 q.2).bind asB) (Q := ⟨fun z => qF z.1 (T := ⟨OkI ((fc δ z.2).bind fun t => op' q.1 t.1 t.2) (Q := Q), Q.run (.bl false, z.2)⟩)⟩)⟩)⟩) := by
 unfold MCh; rw [dU]; congr 2; funext r; rw [dU]; congr 2; funext q; rw [dU, dU]; congr 2; funext z; obtain ⟨d, μ'⟩ := z
 cases d <;> simp [asB]
 rename_i b
 cases b <;> simp
@[simp] theorem w_and : OkI (jF ta tc δ μ) (Q := QT) = OkI (ta δ μ) (Q := ⟨fun r => qF r.1 (T := ⟨OkI (tc δ r.2) (Q := QT), QT.run (false, r.2)⟩)⟩) := by
 unfold jF; rw [dU]; congr 2; funext r; unfold qF; split <;> simp [*]
@[simp] theorem w_or : OkI (oF ta tc δ μ) (Q := QT) = OkI (ta δ μ) (Q := ⟨fun r => qF r.1 (T := ⟨QT.run (true, r.2), OkI (tc δ r.2) (Q := QT)⟩)⟩) := by
 unfold oF; rw [dU]; congr 2; funext r; unfold qF; split <;> simp [*]
@[simp] theorem w_not : jy ta δ μ = (ta δ μ).bind fun r => some (!r.1, r.2) := rfl
@[simp] theorem Nj : OkI (nU fa fb δ μ) (Q := Q) = OkI ((fa δ μ).bind asB) (Q := ⟨fun k => qF k.1 (T := ⟨OkI (fb δ k.2) (Q := Q), Q.run (.bl false, k.2)⟩)⟩) := by
 unfold nU; rw [dU, dU]; congr 2; funext r; obtain ⟨d, μ'⟩ := r
 cases d <;> simp [asB]
 rename_i b
 cases b <;> simp
@[simp] theorem Nf : qd fa δ μ = ((fa δ μ).bind asB).bind fun r => some (.bl !r.1, r.2) := by
 unfold qd
 cases fa δ μ with
 | none => rfl
 | some r => obtain ⟨d, μ'⟩ := r; cases d <;> rfl
@[simp] theorem w_next : bU δ μ = some (.nx, δ, μ) := rfl
@[simp] theorem w_ret : bG f δ μ = (f δ μ).bind fun r => some (.rt r.1, δ, r.2) := rfl
@[simp] theorem Mm : eF f δ μ = (f δ μ).bind fun r => some (.nx, δ, r.2) := rfl
@[simp] theorem w_set {i : Nat} : bz i f δ μ = (f δ μ).bind fun r => some (.nx, δ.set i (some r.1), r.2) := rfl
@[simp] theorem w_if : OkI (sIf t g h δ μ) (Q := QS) = OkI (t δ μ) (Q := ⟨fun r => qF r.1 (T := ⟨OkI (g δ r.2) (Q := QS), OkI (h δ r.2) (Q := QS)⟩)⟩) := by
 unfold sIf; rw [dU]; congr 2; funext r; unfold qF; split <;> simp [*]
def rR (h : SF) (QS : Post (Fl × En × Mu)) (r : Fl × En × Mu) : Prop := match r.1 with
 | .nx => OkI (h r.2.1 r.2.2) (Q := QS)
 | _ => QS.run r
@[simp] theorem Gb : OkI (aP g h δ μ) (Q := QS) = OkI (g δ μ) (Q := ⟨rR h QS⟩) := by
 unfold aP
 rw [dU]
 congr 2
 funext r
 obtain ⟨fl, δ', μ'⟩ := r
 cases fl <;> simp [rR]
@[simp] theorem Fe {δ' : En} {μ' : Mu} : rR h QS (.nx, δ', μ') = OkI (h δ' μ') (Q := QS) := rfl
@[simp] theorem Lf {d : D} {δ' : En} {μ' : Mu} : rR h QS (.rt d, δ', μ') = QS.run (.rt d, δ', μ') := rfl
@[simp] theorem Ln {δ' : En} {μ' : Mu} : rR h QS (.bk, δ', μ') = QS.run (.bk, δ', μ') := rfl
@[simp] theorem Lb {δ' : En} {μ' : Mu} : rR h QS (.ct, δ', μ') = QS.run (.ct, δ', μ') := rfl
@[simp] theorem w_asg {hh : GF} : Ae f hh δ μ = (f δ μ).bind fun r => (hh r.1 δ r.2).bind fun δ' => some (.nx, δ', r.2) := rfl
@[simp] theorem w_par {i j : Nat} : tX i j fs δ μ = (fs δ μ).bind fun r => match r.1 with
 | [x, y] => some (.nx, (δ.set i (some x)).set j (some y), r.2)
 | _ => none := rfl
@[simp] theorem Mj {i j k : Nat} : xF i j k fs δ μ = (fs δ μ).bind fun r => match r.1 with
 | [x, y, z] => some (.nx, ((δ.set i (some x)).set j (some y)).set k (some z), r.2)
 | _ => none := rfl
@[simp] theorem Jw {fi : IF} {hh : GF} : gb fi hh g δ μ = (fi δ μ).bind fun r => forL r.1 hh g r.1.items δ r.2 := rfl
@[simp] theorem w_fz {lf : LF} : mFz lf δ μ = (lf δ μ).bind fun r => some (.lst r.1, r.2) := rfl
@[simp] theorem w_new {lf : LF} : mF lf δ μ = (lf δ μ).bind fun r => some (.cell r.2.length, r.2 ++ [some r.1]) := rfl
@[simp] theorem Mp : oE fs δ μ = (fs δ μ).bind fun r => if r.1.length ≤ sizeLine then some r else none := rfl
@[simp] theorem MN {i : Nat} {d : D} : hName i d δ μ = some (δ.set i (some d)) := rfl
@[simp] theorem w_tup {n : Nat} {hs : GsF} {ds : List D} : jD n hs (.tup ds) δ μ = if ds.length = n then hs ds δ μ else none := rfl
@[simp] theorem MP : jB [] δ μ = some δ := rfl
@[simp] theorem Li {hh : GF} {hs : GsF} {d : D} {ds : List D} : bW hh hs (d :: ds) δ μ = (hh d δ μ).bind fun δ1 => hs ds δ1 μ := rfl
@[simp] theorem Mz : fQ f δ μ = (f δ μ).bind fun r => (srcOf r.1 r.2).map fun S => (S, r.2) := rfl
@[simp] theorem Ls {ds : List D} : srcOf (.tup ds) μ = some ⟨ds, none⟩ := rfl
@[simp] theorem Mi {ds : List D} : srcOf (.lst ds) μ = some ⟨ds, none⟩ := rfl
@[simp] theorem Ld {fl fh : PF} : mSl f fl fh δ μ = (f δ μ).bind fun r => (fl δ r.2).bind fun l => (fh δ l.2).bind fun u => oSl r.1 l.1 u.1 u.2 := rfl
@[simp] theorem HR : sG fa fb δ μ = (fa δ μ).bind fun r => (fb δ r.2).bind fun q => (lW r.1 q.2).bind fun xs => (lW q.1 q.2).bind fun ys => if xs.length + ys.length ≤ sizeLine then some (xs ++ ys, q.2) else none := rfl
@[simp] theorem Jr {ds : List D} : lW (.lst ds) μ = some ds := rfl
@[simp] theorem w_fno : fNo δ μ = some (none, μ) := rfl
@[simp] theorem w_fat : fAt f δ μ = (f δ μ).bind fun r => match r.1 with
 | .int i => some (some i, r.2)
 | _ => none := rfl
@[simp] theorem FJ {op : O1'} {x : D} : aO op [x] μ = op x μ := rfl
@[simp] theorem w_two {x y : D} : lw op [x, y] μ = op x y μ := rfl
variable {i j : Int} {ds es : List D} {k : Bool}
@[simp] theorem a_add : aU (.int i) (.int j) μ = some (.int (i + j), μ) := rfl
@[simp] theorem MT : aU (.tup ds) (.tup es) μ = if ds.length + es.length ≤ sizeLine then some (.tup (ds ++ es), μ) else none := rfl
@[simp] theorem Nh : aU (.lst ds) (.lst es) μ = if ds.length + es.length ≤ sizeLine then some (.lst (ds ++ es), μ) else none := rfl
@[simp] theorem Jz : gH (.int i) (.int j) μ = some (.int (i - j), μ) := rfl
theorem JD (h : gR i j ≤ 134217728) : bH (.int i) (.int j) μ = some (.int (i * j), μ) := if_pos h
@[simp] theorem a_mod (h : j ≠ 0) : oMod (.int i) (.int j) μ = some (.int (i.fmod j), μ) := if_pos h
theorem qj (h : j ≠ 0) (h2 : j.natAbs.log2 < 9000) : oDiv (.int i) (.int j) μ = some (.int (i.fdiv j), μ) := if_pos ⟨h, h2⟩
@[simp] theorem a_lt : oLt (.int i) (.int j) μ = some (.bl (decide (i < j)), μ) := rfl
@[simp] theorem a_ge : oGe (.int i) (.int j) μ = some (.bl (decide (j ≤ i)), μ) := rfl
@[simp] theorem Kc : ik (.int i) μ = some (.int (-i), μ) := rfl
@[simp] theorem a_abs : lF (.int i) μ = some (.int (i.natAbs), μ) := by
 show some (D.int (if i < 0 then -i else i), μ) = _
 congr 3
 split <;> omega
@[simp] theorem a_min : nT (.int i) (.int j) μ = some (.int (min i j), μ) := by
 show some (D.int (if j < i then j else i), μ) = _
 congr 3
 split <;> omega
@[simp] theorem a_eq : oEq (.int i) (.int j) μ = some (.bl (i == j), μ) := by unfold oEq rsv; simp [cV, gM, eqD]
@[simp] theorem a_ne : oNe (.int i) (.int j) μ = some (.bl (!(i == j)), μ) := by unfold oNe rsv; simp [cV, gM, eqD]
@[simp] theorem a_neE : vM (.lst ds) (.lst []) μ = some (.bl (!ds.isEmpty), μ) := rfl
@[simp] theorem a_eqB {k l : Bool} : oEq (.bl k) (.bl l) μ = some (.bl (k == l), μ) := by unfold oEq rsv; simp [cV, gM, eqD]
@[simp] theorem a_neB {k l : Bool} : oNe (.bl k) (.bl l) μ = some (.bl (!(k == l)), μ) := by unfold oNe rsv; simp [cV, gM, eqD]
@[simp] theorem a_tup : oTup ds μ = if ds.length ≤ sizeLine then some (.tup ds, μ) else none := rfl
@[simp] theorem a_lst : oLst ds μ = if ds.length ≤ sizeLine then some (.lst ds, μ) else none := rfl
@[simp] theorem a_ix {d : D} : oIx d (.int i) μ = (bM d μ).bind fun ds => (atI ds i).map fun d => (d, μ) := rfl
@[simp] theorem i_tup : bM (.tup ds) μ = some ds := rfl
@[simp] theorem i_lst : bM (.lst ds) μ = some ds := rfl
@[simp] theorem i_ro : bM (.ro ds) μ = some ds := rfl
@[simp] theorem Mt : bN (.tup ds) μ = some (.int ds.length, μ) := rfl
@[simp] theorem Hc : bN (.lst ds) μ = some (.int ds.length, μ) := rfl
@[simp] theorem Mx : bN (.ro ds) μ = some (.int ds.length, μ) := rfl
@[simp] theorem LC {d : D} : fV [d] μ = (bM d μ).map fun ds => (.tup ds, μ) := rfl
@[simp] theorem w_lOf : lOf fs δ μ = (fs δ μ).bind fun r => match r.1 with
 | [x] => (bM x r.2).map fun ds => (ds, r.2)
 | _ => none := rfl
@[simp] theorem t_bl : uN (.bl k) μ = some k := rfl
@[simp] theorem t_int : uN (.int i) μ = some (i != 0) := rfl
@[simp] theorem t_tup : uN (.tup ds) μ = some !ds.isEmpty := rfl
@[simp] theorem t_lst : uN (.lst ds) μ = some !ds.isEmpty := rfl
@[simp] theorem t_non : uN .non μ = some false := rfl
@[simp] theorem Lz {T : String} : jt T (.int i) μ = some (.bl (T == "int"), μ) := rfl
@[simp] theorem Ni {T : String} : jt T (.bl k) μ = some (.bl (T == "bool" || T == "int"), μ) := rfl
@[simp] theorem Lx {T : String} : jt T (.tup ds) μ = some (.bl (T == "tuple"), μ) := rfl
@[simp] theorem Ma {T : String} : jt T (.lst ds) μ = some (.bl (T == "list"), μ) := rfl
@[simp] theorem Lj {T : String} {x : Str} : jt T (.str x) μ = some (.bl (T == "str"), μ) := rfl
@[simp] theorem Lg {T : String} : jt T .non μ = some (.bl false, μ) := rfl
@[simp] theorem Lw {T : String} {x} : jt T (.dic x) μ = some (.bl (T == "dict"), μ) := rfl
@[simp] theorem GQ : bQ fs δ μ = (fs δ μ).bind Gk := rfl
@[simp] theorem w_zip : qD fs δ μ = (fs δ μ).bind Kf := rfl
def Gj (r : List D × Mu) : Option (Src × Mu) := match r.1 with
 | [x] => (cI x).map fun xs => (⟨dO 0 xs, none⟩, r.2)
 | _ => none
@[simp] theorem Jq {x : D} : Gj ([x], μ) = (cI x).map fun xs => (⟨dO 0 xs, none⟩, μ) := rfl
@[simp] theorem My : jL fs δ μ = (fs δ μ).bind Gj := rfl
@[simp] theorem w_lc {own : List Str} {capI : List Nat} {fi : IF} {hh : GF} : lLC own capI fi hh t f δ μ = (fi δ μ).bind fun r => if r.1.items.length ≤ sizeLine then lcL r.1 hh t f (cO own δ capI) r.1.items r.2 else none := rfl
@[simp] theorem w_all {st : StF} : Ep st δ μ = (st δ μ).bind fun r => (wj r.1 r.2).bind fun q => some (.bl q.1, q.2) := rfl
@[simp] theorem w_any {st : StF} : zW st δ μ = (st δ μ).bind fun r => (tM r.1 r.2).bind fun q => some (.bl q.1, q.2) := rfl
@[simp] theorem Ml {st : StF} : Bh st δ μ = (st δ μ).bind fun r => if r.1.length ≤ sizeLine then (yq r.1 r.2).bind fun q => some (.tup q.1, q.2) else none := rfl
@[simp] theorem w_sum {st : StF} : uq st δ μ = (st δ μ).bind fun r => (oK 0 r.1 r.2).bind fun q => some (.int q.1, q.2) := rfl
@[simp] theorem w_gen {own : List Str} {capI : List Nat} {fi : IF} {hh : GF} : pX own capI fi hh f δ μ = (fi δ μ).bind fun r => Kh (thG hh f (cO own δ capI)) r := rfl
@[simp] theorem MJ : lM f δ μ = (f δ μ).bind Hw := rfl
@[simp] theorem Ng {x : D} : yZ 0 f op (some x :: δ) μ = (f (some x :: δ) μ).bind fun r => (op x r.1 r.2).map fun z => (.nx, (some x :: δ).set 0 (some z.1), z.2) := rfl
@[simp] theorem Nb : JZ (.int i) (.int j) μ = some (.int (i + j), μ) := rfl
theorem HB (h : gR i j ≤ 134217728) : xj (.int i) (.int j) μ = some (.int (i * j), μ) := if_pos h
@[simp] theorem MK : xV δ μ = some (.dic [], μ) := rfl
@[simp] theorem w_frz : yz f δ μ = (f δ μ).bind KR := rfl
end
theorem Fx {items : List D} {μ : Mu} : Src.ok ⟨items, none⟩ μ := fun n e => by cases e
def vf (I : En → Mu → Prop) (QS : Post (Fl × En × Mu)) (r : Fl × En × Mu) : Prop := match r.1 with
 | .nx => I r.2.1 r.2.2
 | .ct => I r.2.1 r.2.2
 | .bk => QS.run (.nx, r.2)
 | .rt d => QS.run (.rt d, r.2)
section
variable {I : En → Mu → Prop} {QS : Post (Fl × En × Mu)} {δ : En} {μ : Mu}
@[simp] theorem LQ : vf I QS (.nx, δ, μ) = I δ μ := rfl
@[simp] theorem Lh : vf I QS (.ct, δ, μ) = I δ μ := rfl
@[simp] theorem Mg : vf I QS (.bk, δ, μ) = QS.run (.nx, δ, μ) := rfl
@[simp] theorem Lp {d : D} : vf I QS (.rt d, δ, μ) = QS.run (.rt d, δ, μ) := rfl
end
theorem dR {all : List D} {h : GF} {b : SF} {QS : Post (Fl × En × Mu)} (I : List D → En → Mu → Prop)
  (turn : ∀ d r δ μ, I (d :: r) δ μ → OkI (h d δ μ) (Q := ⟨fun δ1 => OkI (b δ1 μ) (Q := ⟨vf (I r) QS⟩)⟩)) (fin : ∀ δ μ, I [] δ μ → QS.run (.nx, δ, μ)) :
  ∀ (its : List D) (δ : En) (μ : Mu), I its δ μ → OkI (forL ⟨all, none⟩ h b its δ μ) (Q := QS)
 | [], δ, μ, hI => by unfold forL; rw [if_pos Fx, CP]; exact fin δ μ hI
 | d :: r, δ, μ, hI => by
  unfold forL
  rw [if_pos Fx, dU]
  refine (turn d r δ μ hI).mono fun δ1 h1 => ?_
  rw [vZ] at h1 ⊢
  rw [dU]
  refine h1.mono fun q h2 => ?_
  rw [vZ] at h2 ⊢
  obtain ⟨fl, δ', μ'⟩ := q
  cases fl with
  | nx => exact dR (all := all) I turn fin r δ' μ' h2
  | ct => exact dR (all := all) I turn fin r δ' μ' h2
  | bk => exact ⟨_, rfl, h2⟩
  | rt d => exact ⟨_, rfl, h2⟩
def retS (R : Post (D × Mu)) (r : Fl × En × Mu) : Prop := match r.1 with
 | .rt d => R.run (d, r.2.2)
 | .nx => R.run (.non, r.2.2)
 | _ => False
@[simp] theorem Nk {R : Post (D × Mu)} {d : D} {δ : En} {μ : Mu} : retS R (.rt d, δ, μ) = R.run (d, μ) := rfl
@[simp] theorem Mq {R : Post (D × Mu)} {δ : En} {μ : Mu} : retS R (.nx, δ, μ) = R.run (.non, μ) := rfl
theorem lE {m : Nat} {g : SF} {ds : List D} {μ : Mu} {R : Post (D × Mu)} (h : OkI (g (ds.map some ++ List.replicate (m - ds.length) none) μ) (Q := ⟨retS R⟩)) : OkI (aG m g ds μ) (Q := R) := by
 unfold aG
 rw [dU]
 refine h.mono fun r hr => ?_
 obtain ⟨fl, δ, μ'⟩ := r
 cases fl with
 | rt d => exact ⟨_, rfl, hr⟩
 | nx => exact ⟨_, rfl, hr⟩
 | bk => exact hr.elim
 | ct => exact hr.elim
end L3
namespace LG
open PySem PySem.Spec PyProof.Rows L2 L3
theorem FT {α : Type} {o : Option α} {x : α} (h : Ok o (fun r => r = x)) : o = some x := by
 obtain ⟨r, e, h⟩ := h
 have h : r = x := h
 rw [e, h]
theorem cJ {m : Nat} {g : SF} {ds : List D} {μ : Mu} {d : D} (h : OkI (g (ds.map some ++ List.replicate (m - ds.length) none) μ) (Q := ⟨retS ⟨fun r => r = (d, μ)⟩⟩)) : trunc (aG m g) ds μ = some (d, μ) :=
 fX (FT (lE h))
@[simp] theorem sz {n : Nat} (h : n ≤ 1000) : (n ≤ sizeLine) = True := eq_true (Nat.le_trans h (by decide))
abbrev nc (d : D) : Prop := cLt 0 d = true
theorem kj : ∀ {ds : List D}, iU 0 ds = true ↔ ∀ d ∈ ds, nc d
 | [] => by unfold iU; simp
 | d :: ds => by unfold iU; simp [kj (ds := ds)]
theorem lB {ds : List D} : nc (.tup ds) ↔ ∀ d ∈ ds, nc d := by
 have e : cLt 0 (.tup ds) = iU 0 ds := by rw [cLt]
 unfold nc
 rw [e]
 exact kj
theorem pB {ds : List D} : nc (.lst ds) ↔ ∀ d ∈ ds, nc d := by
 have e : cLt 0 (.lst ds) = iU 0 ds := by rw [cLt]
 unfold nc
 rw [e]
 exact kj
theorem zP {i : Int} : nc (.int i) := by unfold nc cLt; rfl
theorem iD {ns : List Int} : ∀ d ∈ ns.map D.int, nc d := fun d h => by
 obtain ⟨n, _, rfl⟩ := List.mem_map.mp h
 exact zP
def isInt : D → Bool
 | .int _ => true
 | _ => false
def intOf : D → Int
 | .int i => i
 | _ => 0
@[simp] theorem Js {i : Int} : isInt (.int i) = true := rfl
@[simp] theorem Jm {i : Int} : intOf (.int i) = i := rfl
theorem ints_of : ∀ {ds : List D}, ds.all isInt = true → ds = (ds.map intOf).map D.int
 | [], _ => rfl
 | d :: ds, h => by
  rw [List.all_cons, Bool.and_eq_true] at h
  cases d with
  | int i => rw [List.map_cons, List.map_cons, ← ints_of h.2]; rfl
  | _ => exact absurd h.1 (by simp [isInt])
theorem ints_map (ns : List Int) : (ns.map D.int).map intOf = ns := by simp [Function.comp_def]
theorem BX (ns : List Int) : (ns.map D.int).all isInt = true := by simp
theorem Bc (d : D) (μ : Mu) (h : nc d) : trunc (aG 1 dI) [d] μ = some (.bl (isInt d), μ) := by
 apply cJ
 cases d with
 | cell n => simp [nc, cLt] at h
 | ro ds => simp [dI, isInt, jt, Di]
 | _ => simp [dI, isInt]
theorem Ce (d : D) (μ : Mu) (h : nc d) : trunc (aG 1 jE) [d] μ = some (.bl (isInt d), μ) := Bc d μ h
theorem vo {th : D → eY} {p : D → Bool} {μ : Mu} : ∀ (ds : List D), (∀ d ∈ ds, th d μ = some (.bl (p d), μ)) → wj (ds.map th) μ = some (ds.all p, μ)
 | [], _ => rfl
 | d :: ds, h => by
  rw [List.map_cons]
  unfold wj
  rw [h d (by simp)]
  have ih := vo ds fun x hx => h x (by simp [hx])
  cases hp : p d <;> simp [hp, wI, ih]
theorem iz {all : List D} {h : GF} {tt : TF} {fe : EF} {δb : En} {p : D → Bool} {f : D → D} {μ : Mu} : ∀ (items : List D), (∀ d ∈ items, ∃ δ1, h d δb μ = some δ1 ∧ tt δ1 μ = some (p d, μ) ∧ (p d = true → fe δ1 μ = some (f d, μ))) → lcL ⟨all, none⟩ h tt fe δb items μ = some ((items.filter p).map f, μ)
 | [], _ => by unfold lcL; simp [bI]
 | d :: r, hd => by
  obtain ⟨δ1, h1, h2, h3⟩ := hd d (by simp)
  have ih := iz (all := all) r fun x hx => hd x (by simp [hx])
  unfold lcL
  cases hp : p d with
  | false => simp [bI, h1, h2, hp, ih]
  | true => simp [bI, h1, h2, hp, h3 hp, ih]
def qb : D → Bool
 | .tup ds => ds.all isInt
 | _ => false
def xT (φ : FF) : Prop := ∀ d μ, nc d → φ [d] μ = some (.bl (isInt d), μ)
theorem wG {φ : FF} (hφ : xT φ) (d : D) (μ : Mu) (h : nc d) : trunc (aG 1 (cL φ)) [d] μ = some (.bl (qb d), μ) := by
 apply cJ
 cases d with
 | cell n => simp [nc, cLt] at h
 | ro ds => simp [cL, qb, jt, Di]
 | tup ds =>
  have e := vo (th := thG (hName 0) (MC (aj (ak 0) au) φ) (cO ["part"] [some (D.tup ds)] [])) (p := isInt) (μ := μ) ds fun x hx => by
   simp [thG, cO, hφ x μ (lB.mp h x hx)]
  simp [cL, qb, e]
 | _ => simp [cL, qb]
theorem vA {ds : List D} (h : ds ≠ []) : atI ds (-1) = some (ds.getLast h) := by
 have hl : 0 < ds.length := List.length_pos_iff.mpr h
 unfold atI ixN
 rw [if_neg (by omega), if_pos (by omega)]
 have : ((-1 : Int) + ds.length).toNat = ds.length - 1 := by omega
 simp only [Option.bind_some, this]
 rw [List.getLast_eq_getElem]
 simp [hl]
theorem zm {ns : List Int} (h : ns ≠ []) : atI (ns.map D.int) (-1) = some (.int (ns.getLastD 0)) := by
 rw [vA (by simpa using h)]
 simp [List.getLastD_eq_getLast?, List.getLast?_eq_some_getLast h]
def zF (φ : FF) : Prop := ∀ d μ, nc d → φ [d] μ = some (.bl (qb d), μ)
theorem Ei (k l : Bool) (μ : Mu) : trunc (aG 2 kO) [.bl k, .bl l] μ = some (.bl (k == l), μ) := by
 apply cJ
 simp [kO]
noncomputable def sZ : List D := [.non, .bl true, .bl false, .int 0, .int 1, .int (-1), .int 7, .str "", .str "1", .str "spot", .tup [], .lst [], .dic [], .tup [.int 1], .lst [.int 1], .tup [.int 0, .int 1], .lst [.int 0, .int 1], .tup [.tup [.int 0, .int 1]], .int (10 ^ 30),
 .tup [.int 1, .int 1], .tup [.bl true, .int 1], .tup [.int 0, .bl true], .dic [(.inl 0, .int 1)], .tup [.non, .int 1], .tup [.str "0", .int 1], .tup [.int 0, .int 0, .int 1], .lst [.tup [.int 0, .int 1]], .int (10 ^ 64), .tup [.int 2, .int 2]]
theorem DR : ∀ d ∈ sZ, nc d := by
 have h : iU 0 sZ = true := by unfold sZ; simp [iU, cLt, nJ]
 exact kj.mp h
theorem Dl (x : Int) (μ : Mu) : ∃ d, trunc (aG 2 mG) [.int x] μ = some (d, μ) ∧ d ∈ sZ := by
 obtain ⟨i0, i1⟩ := aX (x := x) (m := 29) (by decide)
 obtain ⟨d, hd, ed⟩ := oN (ds := sZ) i0 i1
 refine ⟨d, ?_, hd⟩
 apply cJ
 have e30 : jl (.int 10) (.int 30) μ = some (.int (10 ^ 30), μ) := by unfold jl; rfl
 have e64 : jl (.int 10) (.int 64) μ = some (.int (10 ^ 64), μ) := by unfold jl; rfl
 generalize hO : sZ = O at *
 unfold mG
 simp [e30, e64, pU, Az, -Int.reducePow]
 rw [show ([D.non, .bl true, .bl false, .int 0, .int 1, .int (-1), .int 7, .str "", .str "1", .str "spot", .tup [], .lst [], .dic [], .tup [.int 1], .lst [.int 1], .tup [.int 0, .int 1], .lst [.int 0, .int 1], .tup [.tup [.int 0, .int 1]], .int (10 ^ 30),
 .tup [.int 1, .int 1], .tup [.bl true, .int 1], .tup [.int 0, .bl true], .dic [(.inl 0, .int 1)], .tup [.non, .int 1], .tup [.str "0", .int 1], .tup [.int 0, .int 0, .int 1], .lst [.tup [.int 0, .int 1]], .int (10 ^ 64), .tup [.int 2, .int 2]] : List D) = O from hO]
 rw [ed]
 simp
theorem tW {n d : Nat} {i : Int} (h : 0 ≤ i) : HT.sIx n d (some i) = min i.toNat n := if_neg (by omega)
theorem Fz {ds : List D} {i : Int} {μ : Mu} (h0 : 0 ≤ i) (h1 : i < ds.length) : oSl (.tup ds) none (some i) μ = some (.tup (ds.take i.toNat), μ) := by
 have h0' : 0 ≤ i := by omega
 have e : HT.sIx ds.length ds.length (some i) = i.toNat := by rw [tW h0']; omega
 have e0 : HT.sIx ds.length 0 none = 0 := rfl
 unfold oSl L3.cutD
 simp only [e, e0]
 simp
theorem xN {ds : List D} {i : Int} {μ : Mu} (h0 : 0 < i) (h1 : i ≤ ds.length) : oSl (.tup ds) (some i) none μ = some (.tup (ds.drop i.toNat), μ) := by
 have h0' : 0 ≤ i := by omega
 have e : HT.sIx ds.length 0 (some i) = i.toNat := by rw [tW h0']; omega
 have e0 : HT.sIx ds.length ds.length none = ds.length := rfl
 unfold oSl L3.cutD
 simp only [e, e0]
 simp [List.take_of_length_le]
theorem Bg {ds : List D} {i : Int} {μ : Mu} (h0 : 0 ≤ i) : oSl (.lst ds) (some i) none μ = some (.lst (ds.drop i.toNat), μ) := by
 have h0' : 0 ≤ i := by omega
 have e : HT.sIx ds.length 0 (some i) = min i.toNat ds.length := by rw [tW h0']
 have e0 : HT.sIx ds.length ds.length none = ds.length := rfl
 unfold oSl L3.cutD
 simp only [e, e0]
 congr 3
 by_cases h : i.toNat ≤ ds.length
 ·rw [Nat.min_eq_left h]; simp [List.take_of_length_le]
 ·rw [Nat.min_eq_right (by omega)]; simp; omega
def Ft (φ : FF) : Prop := ∀ (ds : List D) (i : Int) (x : D) (μ : Mu), 0 ≤ i → i < ds.length → ds.length ≤ 500 → φ [.tup ds, .int i, x] μ = some (.tup (ds.take i.toNat ++ x :: ds.drop (i.toNat + 1)), μ)
theorem Ji : Ft (trunc (aG 3 nG)) := fun ds i x μ h0 h1 hl => by
 apply cJ
 have e1 := Fz (μ := μ) h0 h1
 have e2 := xN (ds := ds) (i := i + 1) (μ := μ) (by omega) (by omega)
 have e3 : (i + 1).toNat = i.toNat + 1 := by omega
 rw [e3] at e2
 have l1 : (ds.take i.toNat).length ≤ 500 := by simp; omega
 have l2 : (ds.drop (i.toNat + 1)).length ≤ 500 := by simp; omega
 have s1 : (ds.take i.toNat).length + 1 ≤ sizeLine := Nat.le_trans (by omega : _ ≤ 1000) (by decide)
 have s2 : (ds.take i.toNat).length + (ds.drop (i.toNat + 1)).length + 1 ≤ sizeLine := Nat.le_trans (by simp; omega : _ ≤ 1000) (by decide)
 generalize ds.take i.toNat = A at *
 generalize ds.drop (i.toNat + 1) = B at *
 have s3 : A.length + 1 + B.length ≤ sizeLine := by omega
 simp [nG, e1, e2, s1, s3]
def muD (L : List Int) : Mu := [some (L.map .int)]
def DlD (L : List Int) : Prop := ∀ x ∈ L, Dr x
theorem pZ {a : Nat} {x y : Int} (hx : Sm a x) (hy : 0 < y) : Sm a (x.fdiv y) := by
 rw [Int.fdiv_eq_ediv_of_nonneg x (by omega)]
 unfold Sm at *
 have := Int.natAbs_ediv_le_natAbs x y
 omega
theorem mulL {ds : List D} {k : Int} {μ : Mu} (h0 : 0 ≤ k) (h1 : k ≤ 1000) (hl : ds.length * k.toNat ≤ 1000) : bH (.lst ds) (.int k) μ = some (.lst (List.replicate k.toNat ds).flatten, μ) := if_pos ⟨by omega, by omega, Nat.le_trans hl (by decide)⟩
theorem gU {a : Int} {n : Nat} : (dZ a n).length = n := by unfold dZ; simp
theorem zR {φ : FF} (h : ul φ) (ns : List Int) (hn : ns.length ≤ 63) : ∃ L, φ [.ro (ns.map .int)] [] = some (.cell 0, muD L) ∧ DlD L := h ns hn
theorem Ek {φ : FF} {ns : List Int} (h : Ok (φ [.ro (ns.map .int)] []) (fun r => r.1 = .bl true)) : ∃ μ', φ [.ro (ns.map .int)] [] = some (.bl true, μ') := by
 obtain ⟨⟨d, μ'⟩, e, h⟩ := h
 have h : d = .bl true := h
 subst h
 exact ⟨μ', e⟩
end LG
namespace LG
open PySem PySem.Spec PyProof.Rows L2 L3
@[simp] theorem Kq {α : Type} {l : List α} {x y : α} : (l ++ [x]).set l.length y = l ++ [y] := by simp [List.set_append]
mutual
theorem oZ {m : Nat} : ∀ {d : D}, cLt 0 d = true → cLt m d = true
 | .non, _ => by simp [cLt]
 | .bl _, _ => by simp [cLt]
 | .int _, _ => by simp [cLt]
 | .str _, _ => by simp [cLt]
 | .tup ds, h => by rw [cLt] at h ⊢; exact je h
 | .lst ds, h => by rw [cLt] at h ⊢; exact je h
 | .ro ds, h => by rw [cLt] at h ⊢; exact je h
 | .dic ds, h => by rw [cLt] at h ⊢; exact rC h
 | .cell n, h => by rw [cLt] at h; simp at h
theorem je {m : Nat} : ∀ {ds : List D}, iU 0 ds = true → iU m ds = true
 | [], _ => by rw [iU]
 | d :: ds, h => by
  rw [iU, Bool.and_eq_true] at h ⊢
  exact ⟨oZ h.1, je h.2⟩
theorem rC {m : Nat} : ∀ {ds : List (Key × D)}, nJ 0 ds = true → nJ m ds = true
 | [], _ => by rw [nJ]
 | d :: ds, h => by
  rw [nJ, Bool.and_eq_true] at h ⊢
  exact ⟨oZ h.1, rC h.2⟩
end
def fH (μ : Mu) : Prop := ∀ ds, some ds ∈ μ → ∀ d ∈ ds, nc d
theorem fH.c {μ : Mu} (h : fH μ) (m : Nat) : cOk m μ = true := by
 unfold cOk
 rw [List.all_eq_true]
 intro o ho
 cases o with
 | none => rfl
 | some ds => exact je (kj.mpr (h ds ho))
theorem fH.nil : fH [] := fun ds h => by simp at h
theorem fH.cons {ds : List D} {μ : Mu} (h1 : ∀ d ∈ ds, nc d) (h2 : fH μ) : fH (some ds :: μ) := fun es h => by
 rcases List.mem_cons.mp h with z | z
 ·cases z; exact h1
 ·exact h2 es z
theorem fH.dr {L : List Int} {μ : Mu} (h : fH μ) : fH (some (L.map .int) :: μ) := fH.cons iD h
theorem ut {φ : FF} {ds : List D} {μ μ' junk : Mu} {d : D} (h : φ ds μ = some (d, μ' ++ junk)) (hl : μ'.length = μ.length) (hd : nc d) (hm : fH μ') : trunc φ ds μ = some (d, μ') := by
 unfold trunc
 rw [h]
 simp only [Option.bind_some]
 have e : (μ' ++ junk).take μ.length = μ' := by rw [← hl]; simp
 rw [e, oZ hd, hm.c]
 rfl
theorem GX {φ : FF} {ds : List D} {μ : Mu} {P : D → Mu → Prop} (h : Ok (φ ds μ) (fun r => ∃ μ' junk, r.2 = μ' ++ junk ∧ μ'.length = μ.length ∧ fH μ' ∧ nc r.1 ∧ P r.1 μ')) : ∃ d μ', trunc φ ds μ = some (d, μ') ∧ P d μ' := by
 obtain ⟨⟨d, μ1⟩, e, μ', junk, h1, h2, h3, h4, h5⟩ := h
 have h1 : μ1 = μ' ++ junk := h1
 subst h1
 exact ⟨d, μ', ut e h2 h4 h3, h5⟩
theorem tY {φ : FF} {ds : List D} {μ : Mu} {P : D → Prop} (hm : fH μ) (h : Ok (φ ds μ) (fun r => ∃ junk, r.2 = μ ++ junk ∧ nc r.1 ∧ P r.1)) : ∃ d, trunc φ ds μ = some (d, μ) ∧ P d := by
 obtain ⟨⟨d, μ1⟩, e, junk, h1, h4, h5⟩ := h
 have h1 : μ1 = μ ++ junk := h1
 subst h1
 exact ⟨d, ut e rfl h4 hm, h5⟩
def sy (φ : FF) : Prop := ∀ (L : List Int) (rest : Mu), φ [.cell 0] (some (L.map .int) :: rest) = some (.int (L.headD 0), some (L.tail.map .int) :: rest)
theorem Ay : sy (trunc (aG 1 jq)) := fun L rest => by
 have h1 : oEq (.cell 0) (.lst []) (some (L.map D.int) :: rest) = some (.bl L.isEmpty, some (L.map D.int) :: rest) := by
  unfold oEq rsv
  simp [cV, jh, gM, jN, eqD, dD]
  cases L <;> simp [jW]
 refine rn ?_ (by simp)
 unfold aG jq
 have hz : 0 ≤ sizeLine := Nat.zero_le _
 cases L with
 | nil =>
  simp at h1
  simp [aP, sIf, toB, M2, ak, MC, au, oLst, hz, h1, bG, mC]
 | cons x t =>
  simp at h1
  simp [aP, sIf, toB, M2, ak, MC, au, oLst, hz, h1, bG, mC, bU, xr]
theorem mq {φ : FF} (h : sy φ) {L : List Int} (hL : DlD L) (rest : Mu) : ∃ x L', φ [.cell 0] (some (L.map .int) :: rest) = some (.int x, some (L'.map .int) :: rest) ∧ Dr x ∧ DlD L' := by
 refine ⟨L.headD 0, L.tail, h L rest, ?_, fun x hx => hL x (List.mem_of_mem_tail hx)⟩
 cases L with
 | nil => exact ⟨by decide, by decide⟩
 | cons a b => exact hL a (by simp)
def PtL (d : Nat) (ns : List Int) (b : Int) : Prop := ns.length = d ∧ (∀ n ∈ ns, n.natAbs ≤ 10000) ∧ 1 ≤ b ∧ b ≤ 60
def Dz (d : Nat) (p : D) : Prop := ∃ ns b, p = .tup ((ns ++ [b]).map .int) ∧ PtL d ns b
theorem Dz.nc {d : Nat} {p : D} (h : Dz d p) : nc p := by
 obtain ⟨ns, b, rfl, _⟩ := h
 exact lB.mpr iD
theorem nR {x y : Int} (hy : 0 < y) : (x.fdiv y).natAbs ≤ x.natAbs := by
 rw [Int.fdiv_eq_ediv_of_nonneg x (by omega)]
 exact Int.natAbs_ediv_le_natAbs x y
theorem Gp {φ : FF} (h : xX φ) {d : Nat} {ns : List Int} {b : Int} (μ : Mu) (hd : 1 ≤ d) (hd3 : d ≤ 3) (hp : PtL d ns b) : ∃ p, φ [.lst (ns.map .int), .int b] μ = some (p, μ) ∧ Dz d p := by
 obtain ⟨hl, hn, b0, b1⟩ := hp
 have e := h ns b μ (by omega) (by unfold Sm; have : (2 : Nat) ^ 4000 ≥ 2 ^ 7 := Nat.pow_le_pow_right (by decide) (by decide); omega) (by omega) (fun z => by rw [z] at hl; simp at hl; omega)
 have e1 : sgn b = 1 := if_pos (by omega)
 rw [e1, Int.one_mul] at e
 have g0 : dX b.natAbs ns ≠ 0 := uQ (.inl (by omega))
 have gd := (lN ns b.natAbs).2
 have gle := Nat.le_of_dvd (by omega) gd
 refine ⟨_, e, ns.map (fun n => n.fdiv (dX b.natAbs ns : Nat)), b.fdiv (dX b.natAbs ns : Nat), by simp [List.map_append], by simp [hl], fun m hm => ?_, ?_, ?_⟩
 ·obtain ⟨n, hn', rfl⟩ := List.mem_map.mp hm
  have := nR (x := n) (y := (dX b.natAbs ns : Nat)) (by omega)
  have := hn n hn'
  omega
 ·rw [Int.fdiv_eq_ediv_of_nonneg b (by omega)]
  exact (Int.le_ediv_iff_mul_le (by omega)).mpr (by omega)
 ·have := nR (x := b) (y := (dX b.natAbs ns : Nat)) (by omega)
  omega
def isPlace (φ : FF) : Prop := ∀ (x k b : Int) (μ : Mu), Dr x → 0 ≤ k → k ≤ 4 → 0 ≤ b → b ≤ 500 → ∃ t u : Int, φ [.int x, .int k, .int b] μ = some (.tup [.int t, .int u], μ) ∧ t.natAbs ≤ 10000 ∧ 1 ≤ u ∧ u ≤ 60
theorem zG : isPlace (trunc (aG 3 eG)) := fun x k b μ hx k0 k4 b0 b5 => by
 have q1 := aX (x := x) (m := 20001) (by decide)
 have q2 := aX (x := x.fdiv 20001) (m := 60) (by decide)
 have q3 := aX (x := x) (m := 5) (by decide)
 have q4 := aX (x := x) (m := 11) (by decide)
 have q5 := aX (x := x.fdiv 11) (m := 3) (by decide)
 have q6 := aX (x := x) (m := 4) (by decide)
 have q7 := aX (x := x) (m := 2) (by decide)
 have q8 := aX (x := b) (m := 7) (by decide)
 have d1 := qj (i := x) (j := 20001) (μ := μ) (by decide) (by decide)
 have d2 := qj (i := x) (j := 11) (μ := μ) (by decide) (by decide)
 have hk : k = 0 ∨ k = 1 ∨ k = 2 ∨ k = 3 ∨ k = 4 := by omega
 rcases hk with rfl | rfl | rfl | rfl | rfl
 ·refine ⟨x.fmod 20001 - 10000, 1 + (x.fdiv 20001).fmod 60, cJ ?_, by omega, by omega, by omega⟩
  simp [eG, d1]
 ·refine ⟨x.fmod 5 - 2, 1, cJ ?_, by omega, by omega, by omega⟩
  simp [eG]
 ·refine ⟨x.fmod 11 - 5, 1 + (x.fdiv 11).fmod 3, cJ ?_, by omega, by omega, by omega⟩
  simp [eG, d2]
 ·obtain ⟨y, hy, e⟩ := oN (ds := [D.int 0, .int 0, .int 1, .int 40]) q6.1 q6.2
  have hy : ∃ z : Int, y = .int z ∧ 0 ≤ z ∧ z ≤ 40 := by
   simp only [List.mem_cons, List.not_mem_nil, or_false] at hy
   rcases hy with rfl | rfl | rfl | rfl <;> exact ⟨_, rfl, by decide, by decide⟩
  obtain ⟨z, rfl, z0, z1⟩ := hy
  refine ⟨b + z, 1, cJ ?_, by omega, by omega, by omega⟩
  simp [eG, e]
 ·have s1 : Sm 10 (x.fmod 2) := by
   unfold Sm
   have : (2 : Nat) ^ 10 = 1024 := by decide
   omega
  have s2 : Sm 10 (1 + b.fmod 7) := by
   unfold Sm
   have : (2 : Nat) ^ 10 = 1024 := by decide
   omega
  have m := JD (μ := μ) (wN s1 s2 (by decide))
  have hb : (x.fmod 2 * (1 + b.fmod 7)).natAbs ≤ 10000 := by
   have h2 : x.fmod 2 = 0 ∨ x.fmod 2 = 1 := by omega
   rcases h2 with h2 | h2 <;> rw [h2] <;> omega
  refine ⟨x.fmod 2 * (1 + b.fmod 7), 1, cJ ?_, hb, by omega, by omega⟩
  simp [eG, m]
theorem yp {a : Int} {n : Nat} {d : D} (h : d ∈ dZ a n) : ∃ k : Int, d = .int k ∧ a ≤ k ∧ k < a + n := by
 unfold dZ at h
 obtain ⟨k, hk, rfl⟩ := List.mem_map.mp h
 have := List.mem_range.mp hk
 exact ⟨_, rfl, by omega, by omega⟩
def xR (φ : FF) : Prop := ∀ (x d k b : Int) (μ : Mu), fH μ → Dr x → 1 ≤ d → d ≤ 3 → 0 ≤ k → k ≤ 4 → 0 ≤ b → b ≤ 400 → ∃ p, φ [.int x, .int d, .int k, .int b] μ = some (p, μ) ∧ Dz d.toNat p
theorem Aj {φ1 φ2 φ3 : FF} (h1 : qu φ1) (h2 : isPlace φ2) (h3 : xX φ3) : xR (trunc (aG 9 (iY φ1 φ2 φ3))) := fun x d k b μ hm hx d1 d3 k0 k4 b0 b4 => by
 apply tY hm
 apply lE
 unfold iY
 simp [vL (j := d) (by omega) (by omega)]
 refine dR (fun its δ μ' => ∃ (acc : List Int) (bot : Int) (o6 o7 o8 : Option D), μ' = μ ++ [some (acc.map .int)] ∧ acc.length + its.length = d.toNat ∧ (∀ n ∈ acc, n.natAbs ≤ 10000) ∧ (1 ≤ bot ∧ bot ≤ 60) ∧ (∀ i ∈ its, ∃ k : Int, i = .int k ∧ 0 ≤ k ∧ k < 3) ∧
  δ = [some (.int x), some (.int d), some (.int k), some (.int b), some (.cell μ.length), some (.int bot), o6, o7, o8]) ?_ ?_ _ _ _ ⟨[], 1, none, none, none, rfl, by simp [gU], by simp, by omega, fun i hi => by
   obtain ⟨k, rfl, h0, h1⟩ := yp hi
   exact ⟨k, rfl, by omega, by omega⟩, rfl⟩
 ·rintro i rest δ μ' ⟨acc, bot, o6, o7, o8, rfl, hl, ha, hb, hi, rfl⟩
  obtain ⟨j, rfl, j0, j1⟩ := hi i (by simp)
  obtain ⟨y, ey, hy⟩ := h1 x (j + 1) (μ ++ [some (acc.map .int)]) (by omega) (by omega)
  obtain ⟨t, u, et, ht, u0, u1⟩ := h2 y k (b + j) (μ ++ [some (acc.map .int)]) hy k0 k4 (by omega) (by omega)
  have hz : acc.length < sizeLine := Nat.lt_of_lt_of_le (by omega : acc.length < 1000) (by decide)
  have fin : ∀ bot', 1 ≤ bot' → bot' ≤ 60 → ∃ (acc' : List Int) (bot : Int) (o6 o7 o8 : Option D), μ ++ [some (acc.map D.int ++ [.int t])] = μ ++ [some (acc'.map .int)] ∧ acc'.length + rest.length = d.toNat ∧ (∀ n ∈ acc', n.natAbs ≤ 10000) ∧ (1 ≤ bot ∧ bot ≤ 60) ∧ (∀ i ∈ rest, ∃ k : Int, i = .int k ∧ 0 ≤ k ∧ k < 3) ∧
    ([some (.int x), some (.int d), some (.int k), some (.int b), some (.cell μ.length), some (.int bot'), some (.int j), some (.int t), some (.int u)] : En) = [some (.int x), some (.int d), some (.int k), some (.int b), some (.cell μ.length), some (.int bot), o6, o7, o8] := fun bot' q1 q2 =>
   ⟨acc ++ [t], bot', _, _, _, by simp, by simp at hl ⊢; omega, fun n hn => by
    rcases List.mem_append.mp hn with z | z
    ·exact ha n z
    ·rw [List.mem_singleton.mp z]; exact ht, ⟨q1, q2⟩, fun i h => hi i (by simp [h]), rfl⟩
  by_cases hj : j = 0
  ·subst hj
   rw [show (0 : Int) + 1 = 1 from rfl] at ey
   rw [show b + (0 : Int) = b by omega] at et
   simp [ey, et, gK, gJ, hz]
   simpa using fin u u0 u1
  ·have hjb : (j == 0) = false := by simpa using hj
   simp [ey, et, hjb, gK, gJ, hz]
   simpa using fin bot hb.1 hb.2
 ·rintro δ μ' ⟨acc, bot, o6, o7, o8, rfl, hl, ha, hb, hi, rfl⟩
  obtain ⟨p, ep, hp⟩ := Gp h3 (d := d.toNat) (ns := acc) (b := bot) (μ ++ [none]) (by omega) (by omega) ⟨by simpa using hl, ha, hb⟩
  simp [ep]
  exact ⟨hp.nc, hp⟩
end LG
namespace LG
open PySem PySem.Spec PyProof.Rows L2 L3
section
variable {α : Type} {r j : List α} {x y z : α}
@[simp] theorem Lq : (r ++ x :: j)[r.length]? = some x := by simp
@[simp] theorem Lr : (r ++ x :: j).set r.length y = r ++ y :: j := by simp [List.set_append]
@[simp] theorem Mh : (r ++ x :: (j ++ [y]))[r.length + (j.length + 1)]? = some y := by
 rw [List.getElem?_append_right (by omega)]
 have : r.length + (j.length + 1) - r.length = j.length + 1 := by omega
 rw [this]
 simp
@[simp] theorem Mf : (r ++ x :: (j ++ [y])).set (r.length + (j.length + 1)) z = r ++ x :: (j ++ [z]) := by
 rw [List.set_append_right _ _ (by omega)]
 have : r.length + (j.length + 1) - r.length = j.length + 1 := by omega
 rw [this]
 simp
end
theorem xY {ys : List Int} {k : Int} (h0 : 0 ≤ k) (h1 : k < ys.length) : atI (ys.map D.int) k = some (.int (ys.getD k.toNat 0)) ∧ ys.getD k.toNat 0 ∈ ys := by
 have hk : k.toNat < ys.length := by omega
 have e : ys.getD k.toNat 0 = ys[k.toNat] := by simp [List.getD, hk]
 refine ⟨?_, by rw [e]; exact List.getElem_mem hk⟩
 unfold atI ixN
 rw [if_pos h0, if_pos (by simpa using h1), e]
 simp [hk]
end LG
namespace LG
open PySem PySem.Spec PyProof.Rows L2 L3
theorem sE {ps : List D} {μ : Mu} (h1 : dD ps = true) (h2 : gO ps < 90) : oEq (.lst ps) (.lst []) μ = some (.bl ps.isEmpty, μ) := by
 unfold oEq
 have e1 : rsv (.lst ps) μ = .lst ps := rfl
 have e2 : rsv (.lst []) μ = .lst [] := rfl
 rw [e1, e2]
 have e3 : cV (.lst ps) = true := by rw [cV]; exact h1
 have e4 : cV (.lst []) = true := by rw [cV, dD]
 have e5 : gM (.lst ps) < 100 := by rw [gM]; omega
 have e6 : eqD (.lst ps) (.lst []) = ps.isEmpty := by cases ps <;> rw [eqD] <;> simp [jW]
 rw [e3, e4, e6, if_pos ⟨rfl, e5⟩]
theorem lD {α : Type} {p q : α → Bool} : ∀ (l : List α), (∀ x ∈ l, q x = !p x) → (l.filter q).isEmpty = l.all p
 | [], _ => rfl
 | x :: l, h => by
  have hx := h x (by simp)
  have ih := lD l fun y hy => h y (by simp [hy])
  rw [List.filter_cons, List.all_cons]
  cases hp : p x with
  | true => rw [hp] at hx; rw [hx]; simpa using ih
  | false => rw [hp] at hx; rw [hx]; rfl
end LG
namespace LG
open PySem PySem.Spec PyProof.Rows L2 L3
theorem jz {b : Nat} {x : Int} (n : Nat) (h : x.natAbs < n) (hn : n ≤ 2 ^ b) : Sm b x := Nat.lt_of_lt_of_le h hn
def aF (r : List Int) : D := .tup (r.map .int)
@[simp] theorem Jt {r : List Int} {μ : Mu} : bM (aF r) μ = some (r.map .int) := rfl
@[simp] theorem yc {r : List Int} {μ : Mu} : bN (aF r) μ = some (.int r.length, μ) := by simp [aF]
theorem xH {α : Type} {F : α → D} {l : List α} {k : Int} {z : α} (h0 : 0 ≤ k) (h1 : k < l.length) : atI (l.map F) k = some (F (l.getD k.toNat z)) ∧ l.getD k.toNat z ∈ l := by
 have hk : k.toNat < l.length := by omega
 have e : l.getD k.toNat z = l[k.toNat] := by simp [List.getD, hk]
 refine ⟨?_, by rw [e]; exact List.getElem_mem hk⟩
 unfold atI ixN
 rw [if_pos h0, if_pos (by simpa using h1), e]
 simp [hk]
theorem mj {α β : Type} {F : α → D} {G : β → D} : ∀ (a : List α) (b : List β), jA (a.map F) (b.map G) = (a.zip b).map fun p => .tup [F p.1, G p.2]
 | [], _ => by simp [jA]
 | a :: as, [] => by simp [jA]
 | a :: as, b :: bs => by simp [jA, mj as bs]
theorem ux {α : Type} {th : D → eY} {F : α → D} {g : α → Int} {μ : Mu} : ∀ (l : List α) (a : Int), (∀ x ∈ l, th (F x) μ = some (.int (g x), μ)) → oK a ((l.map F).map th) μ = some (a + (l.map g).sum, μ)
 | [], a, _ => by simp [oK]
 | x :: l, a, h => by
  have h1 := h x (by simp)
  have ih := ux l (a + g x) fun y hy => h y (by simp [hy])
  rw [List.map_cons, List.map_cons]
  unfold oK
  rw [h1]
  simp only [Option.bind_some]
  rw [ih]
  simp
  omega
theorem eO {α : Type} {all : List D} {h : GF} {fe : EF} {δb : En} {F : α → D} {f : α → D} {μ : Mu} : ∀ (l : List α), (∀ x ∈ l, ∃ δ1, h (F x) δb μ = some δ1 ∧ fe δ1 μ = some (f x, μ)) → lcL ⟨all, none⟩ h cU fe δb (l.map F) μ = some (l.map f, μ)
 | [], _ => by simp only [List.map_nil]; unfold lcL; simp [bI]
 | d :: r, hd => by
  obtain ⟨δ1, h1, h2⟩ := hd d (by simp)
  have h3 := eO (all := all) r fun x hx => hd x (by simp [hx])
  rw [List.map_cons]
  unfold lcL
  simp [bI, h1, cU, h2, h3]
def lJ : Int → List Int → Int
 | m, [] => m
 | m, b :: bs => lJ (m * b.fdiv (Int.gcd m b)) bs
theorem tU {m b : Int} (hm : 1 ≤ m) (hb : 1 ≤ b) : 1 ≤ (Int.gcd m b : Int) ∧ ((Int.gcd m b : Int) ∣ b) ∧ ((Int.gcd m b : Int) ∣ m) ∧ (Int.gcd m b : Int) ≤ b := by
 have h0 : Int.gcd m b ≠ 0 := by
  intro z
  rw [Int.gcd_eq_zero_iff] at z
  omega
 refine ⟨by omega, Int.gcd_dvd_right _ _, Int.gcd_dvd_left _ _, Int.le_of_dvd (by omega) (Int.gcd_dvd_right _ _)⟩
theorem pD {m b : Int} (hm : 1 ≤ m) (hb : 1 ≤ b) : 1 ≤ b.fdiv (Int.gcd m b) ∧ b.fdiv (Int.gcd m b) ≤ b ∧ (m * b).fdiv (Int.gcd m b) = m * b.fdiv (Int.gcd m b) ∧ b ∣ m * b.fdiv (Int.gcd m b) := by
 obtain ⟨g1, g2, g3, g4⟩ := tU hm hb
 generalize (Int.gcd m b : Int) = g at *
 rw [Int.fdiv_eq_ediv_of_nonneg b (by omega), Int.fdiv_eq_ediv_of_nonneg (m * b) (by omega)]
 refine ⟨(Int.le_ediv_iff_mul_le (by omega)).mpr (by omega), Int.ediv_le_self _ (by omega), Int.mul_ediv_assoc m g2, ?_⟩
 obtain ⟨c, hc⟩ := g3
 obtain ⟨e, he⟩ := g2
 have : b / g = e := by rw [he]; exact Int.mul_ediv_cancel_left e (by omega)
 rw [this, hc, he]
 exact ⟨c, by rw [Int.mul_assoc, Int.mul_comm c e, ← Int.mul_assoc]⟩
theorem Ax : ∀ (bs : List Int) (m : Int), 1 ≤ m → (∀ b ∈ bs, 1 ≤ b ∧ b < 64) → 1 ≤ lJ m bs ∧ (m ∣ lJ m bs) ∧ (∀ b ∈ bs, b ∣ lJ m bs) ∧ ∀ k, Sm k m → Sm (k + 6 * bs.length) (lJ m bs)
 | [], m, hm, _ => ⟨hm, Int.dvd_refl _, by simp, fun k h => h⟩
 | b :: bs, m, hm, hb => by
  obtain ⟨b1, b2⟩ := hb b (by simp)
  obtain ⟨f1, f2, f3, f4⟩ := pD hm b1
  have hm' : 1 ≤ m * b.fdiv (Int.gcd m b) := by
   have := Int.mul_le_mul hm f1 (by decide) (by omega)
   omega
  obtain ⟨h1, h2, h3, h4⟩ := Ax bs (m * b.fdiv (Int.gcd m b)) hm' fun c hc => hb c (by simp [hc])
  show 1 ≤ lJ (m * b.fdiv (Int.gcd m b)) bs ∧ _
  refine ⟨h1, Int.dvd_trans (Int.dvd_mul_right _ _) h2, fun c hc => ?_, fun k hk => ?_⟩
  ·rcases List.mem_cons.mp hc with z | z
   ·rw [z]; exact Int.dvd_trans f4 h2
   ·exact h3 c z
  ·have := h4 (k + 6) (fW hk (jz 64 (by omega) (by decide)))
   refine gn this ?_
   simp only [List.length_cons]
   omega
def Bm (φ : FF) : Prop := ∀ (bs : List Int) (μ : Mu), (∀ b ∈ bs, 1 ≤ b ∧ b < 64) → bs.length ≤ 100 → φ [.lst (bs.map .int)] μ = some (.int (lJ 1 bs), μ)
theorem Dy {φ : FF} (hφ : nW φ) : Bm (trunc (aG 3 (bR φ))) := fun bs μ hb hl => by
 apply cJ
 unfold bR
 simp
 refine dR (fun its δ μ' => ∃ (ms : List Int) (m : Int) (o : Option D) (k : Nat), its = ms.map .int ∧ μ' = μ ∧ lJ m ms = lJ 1 bs ∧ 1 ≤ m ∧ Sm k m ∧ k + 6 * ms.length ≤ 700 ∧ (∀ b ∈ ms, 1 ≤ b ∧ b < 64) ∧ δ = [some (.lst (bs.map .int)), some (.int m), o]) ?_ ?_ _ _ _ ⟨bs, 1, none, 1, rfl, rfl, rfl, by decide, by unfold Sm; decide, by omega, hb, rfl⟩
 ·rintro d rest δ μ' ⟨ms, m, o, k, hi, rfl, hm, m1, hk, hkl, hb, rfl⟩
  cases ms with
  | nil => cases hi
  | cons b ms =>
   cases hi
   obtain ⟨b1, b2⟩ := hb b (by simp)
   obtain ⟨g1, g2, g3, g4⟩ := tU m1 b1
   obtain ⟨f1, f2, f3, f4⟩ := pD m1 b1
   have sb : Sm 6 (b.fdiv (Int.gcd m b)) := jz 64 (by omega) (by decide)
   have eg := hφ m b μ'
   have ed := gC (x := b) (y := (Int.gcd m b : Int)) (b := 6) μ' (by omega) (jz 64 (by omega) (by decide)) (by decide)
   have em := HB (i := m) (j := b.fdiv (Int.gcd m b)) (μ := μ') (wN hk sb (by simp at hkl; omega))
   simp only [List.length_cons] at hkl
   simp [yZ, eg, ed, em]
   refine ⟨ms, rfl, _, hm, ?_, _, k + 6, fW hk sb, by omega, fun c hc => hb c (List.mem_cons_of_mem _ hc), rfl, rfl⟩
   have := Int.mul_le_mul m1 f1 (by decide) (by omega)
   omega
 ·rintro δ μ' ⟨ms, m, o, k, hi, rfl, hm, m1, hk, hkl, hb, rfl⟩
  cases ms with
  | nil =>
   have hm : m = lJ 1 bs := hm
   subst hm
   simp
  | cons b ms => cases hi
def dot (ws cs : List Int) : Int := ((ws.zip cs).map fun p => p.1 * p.2).sum
def zY (φ : FF) : Prop := ∀ (ws cs : List Int) (μ : Mu), (∀ w ∈ ws, Sm 9000 w) → (∀ c ∈ cs, Sm 9000 c) → φ [.lst (ws.map .int), .lst (cs.map .int)] μ = some (.int (dot ws cs), μ)
theorem Hy : zY (trunc (aG 2 bT)) := fun ws cs μ hw hc => by
 apply cJ
 have e := ux (th := thG (jD 2 (bW (hName 0) (bW (hName 1) jB))) (M2 (ak 0) (ak 1) bH) (cO ["one", "other"] [some (.lst (ws.map .int)), some (.lst (cs.map .int))] [])) (F := fun p : Int × Int => .tup [D.int p.1, .int p.2]) (g := fun p => p.1 * p.2) (μ := μ) (ws.zip cs) 0 fun p hp => by
  obtain ⟨p1, p2⟩ := p
  have hm := List.of_mem_zip hp
  have := cu (x := p1) (y := p2) μ (hw _ hm.1) (hc _ hm.2) (by decide)
  simp [thG, cO, this]
 have ez := mj (F := D.int) (G := D.int) ws cs
 unfold dot
 simp [bT, ez]
 rw [List.map_map] at e
 rw [e]
 simp
def bj (r : List Int) : Int := r.getLastD 0
def wts (M : Int) (rs : List (List Int)) (ss : List Int) : List Int := (ss.zip rs).map fun p => p.1 * M.fdiv (bj p.2)
def col (rs : List (List Int)) (i : Nat) : List Int := rs.map fun r => r.getD i 0
def fu (rs : List (List Int)) : Int := lJ 1 (rs.map bj)
structure fB (d1 : Nat) (r : List Int) : Prop where
 len : r.length = d1
 sm : ∀ n ∈ r, n.natAbs ≤ 10000
 b1 : 1 ≤ bj r
 b2 : bj r < 64
theorem PtL.row {d : Nat} {ns : List Int} {b : Int} (h : PtL d ns b) : fB (d + 1) (ns ++ [b]) := ⟨by simp [h.1], fun n hn => by
 rcases List.mem_append.mp hn with z | z
 ·exact h.2.1 n z
 ·rw [List.mem_singleton.mp z]; have := h.2.2; omega, by unfold bj; simp; exact h.2.2.1, by unfold bj; simp; have := h.2.2.2; omega⟩
theorem jM {d1 : Nat} {r : List Int} (h : fB d1 r) (hd : 1 ≤ d1) : atI (r.map D.int) (-1) = some (.int (bj r)) := zm (fun z => by have := h.len; rw [z] at this; simp at this; omega)
theorem oV {d1 : Nat} {rs : List (List Int)} (h : ∀ r ∈ rs, fB d1 r) : 1 ≤ fu rs ∧ (∀ r ∈ rs, bj r ∣ fu rs) ∧ Sm (1 + 6 * rs.length) (fu rs) := by
 obtain ⟨h1, _, h3, h4⟩ := Ax (rs.map bj) 1 (by decide) fun b hb => by
  obtain ⟨r, hr, rfl⟩ := List.mem_map.mp hb
  exact ⟨(h r hr).b1, (h r hr).b2⟩
 refine ⟨h1, fun r hr => h3 _ (List.mem_map.mpr ⟨r, hr, rfl⟩), ?_⟩
 have := h4 1 (by unfold Sm; decide)
 rw [List.length_map] at this
 exact this
theorem Cr {d1 : Nat} {rs : List (List Int)} {i : Nat} (h : ∀ r ∈ rs, fB d1 r) (hi : i < d1) : ∀ c ∈ col rs i, c.natAbs ≤ 10000 := fun c hc => by
 obtain ⟨r, hr, rfl⟩ := List.mem_map.mp hc
 have hl := (h r hr).len
 have hk : i < r.length := by omega
 have : r.getD i 0 = r[i] := by simp [List.getD, hk]
 rw [this]
 exact (h r hr).sm _ (List.getElem_mem hk)
def rm (φ : FF) : Prop := ∀ (d1 : Nat) (rs : List (List Int)) (ws : List Int) (μ : Mu), 1 ≤ d1 → d1 ≤ 100 → rs ≠ [] → (∀ r ∈ rs, fB d1 r) → rs.length ≤ 60 → (∀ w ∈ ws, Sm 9000 w) → φ [.lst (rs.map aF), .lst (ws.map .int)] μ = some (.lst (((List.range d1).map fun i => dot ws (col rs i)).map .int), μ)
theorem uh {φ : FF} (hφ : zY φ) {d1 : Nat} {rs : List (List Int)} {ws : List Int} {μ : Mu} (hr : ∀ r ∈ rs, fB d1 r) (hz1 : rs.length ≤ 1000) (hw : ∀ w ∈ ws, Sm 9000 w) (i : Nat) (hi : i < d1) :
  MC (aj (ak 1) (aj (mFz (lLC ["row"] [0] (fQ (ak 2)) (hName 0) (cU) (M2 (ak 0) (ak 1) oIx))) (au))) φ [some (.int (0 + (i : Int))), some (.lst (ws.map .int)), some (.lst (rs.map aF))] μ = some (.int (dot ws (col rs i)), μ) := by
 have e1 := eO (all := rs.map aF) (h := hName 0) (fe := M2 (ak 0) (ak 1) oIx) (δb := [none, some (.int (0 + (i : Int)))]) (F := aF) (f := fun r => .int (r.getD i 0)) (μ := μ) rs fun r h => ⟨_, rfl, by
  have hk : ((0 : Int) + i) < r.length := by have := (hr r h).len; omega
  obtain ⟨a1, _⟩ := xY (ys := r) (k := 0 + (i : Int)) (by omega) hk
  have : (0 + (i : Int)).toNat = i := by omega
  rw [this] at a1
  generalize r.getD i 0 = z at *
  generalize (0 + (i : Int)) = j at *
  simp [a1]⟩
 have e1' : rs.map (fun r => D.int (r.getD i 0)) = (col rs i).map D.int := by unfold col; simp
 rw [e1'] at e1
 have e2 := hφ ws (col rs i) μ hw fun c hc => gn (jz (b := 14) 10001 (by have := Cr hr hi c hc; omega) (by decide)) (by decide)
 generalize (col rs i).map D.int = cD at *
 generalize dot ws (col rs i) = z at *
 generalize (0 + (i : Int)) = j at *
 simp [hz1, cO, e1, e2]
theorem Ah {F : EF} {δ : En} {μ : Mu} {k : Int} (h0 : 0 ≤ k) (h1 : k ≤ 100000) (a : F δ μ = some (.int k, μ)) : bQ (aj F au) δ μ = some (⟨dZ 0 k.toNat, none⟩, μ) := by
 have rr := vL (j := k) (μ := μ) (by omega) (by omega)
 rw [GQ, nO, a]
 simp only [Option.bind_some, rQ]
 exact rr
theorem Ar {F : EF} {δ : En} {μ : Mu} {r : List Int} {d1 : Nat} (hl : r.length = d1) (a : F δ μ = some (aF r, μ)) : MC (aj F au) (aO bN) δ μ = some (.int d1, μ) := by
 rw [Bx, nO, a]
 simp only [Option.bind_some, rQ, FJ, yc, hl]
theorem vU {φ : FF} (hφ : zY φ) : rm (trunc (aG 2 (gZ φ))) := fun d1 rs ws μ hd hd2 hne hr hl hw => by
 apply cJ
 have hz1 : rs.length ≤ 1000 := by omega
 have e3 := eO (all := dZ 0 d1) (h := hName 0) (fe := MC (aj (ak 1) (aj (mFz (lLC ["row"] [0] (fQ (ak 2)) (hName 0) (cU) (M2 (ak 0) (ak 1) oIx))) (au))) φ) (δb := cO ["at"] [some (.lst (rs.map aF)), some (.lst (ws.map .int))] [1, 0]) (F := fun i : Nat => D.int (0 + (i : Int))) (f := fun i => .int (dot ws (col rs i))) (μ := μ) (List.range d1) fun i hi =>
  ⟨[some (.int (0 + (i : Int))), some (.lst (ws.map .int)), some (.lst (rs.map aF))], by simp [cO], uh hφ hr hz1 hw i (List.mem_range.mp hi)⟩
 have e3' : (List.range d1).map (fun i => D.int (dot ws (col rs i))) = ((List.range d1).map fun i => dot ws (col rs i)).map D.int := by simp
 rw [e3'] at e3
 have er : (List.range d1).map (fun i : Nat => D.int (0 + (i : Int))) = dZ 0 d1 := rfl
 rw [er] at e3
 have h0 : ∃ r0, atI (rs.map aF) 0 = some (aF r0) ∧ r0 ∈ rs := by
  obtain ⟨a, b⟩ := xH (F := aF) (l := rs) (k := 0) (z := []) (by decide) (by have := List.length_pos_iff.mpr hne; omega)
  exact ⟨_, a, b⟩
 obtain ⟨r0, a0, hr0⟩ := h0
 have hlen0 := (hr r0 hr0).len
 generalize ((List.range d1).map fun i => dot ws (col rs i)).map D.int = wD at *
 have it : bQ (aj (MC (aj (M2 (ak 0) (mC (.int 0)) oIx) (au)) (aO bN)) (au)) [some (.lst (rs.map aF)), some (.lst (ws.map .int))] μ = some (⟨dZ 0 d1, none⟩, μ) := by
  have := Ah (k := (d1 : Int)) (by omega) (by omega) (Ar (F := M2 (ak 0) (mC (.int 0)) oIx) (δ := [some (.lst (rs.map aF)), some (.lst (ws.map .int))]) (μ := μ) hlen0 (by simp [a0]))
  rwa [show ((d1 : Int)).toNat = d1 by omega] at this
 have hz2 : (dZ 0 d1).length ≤ sizeLine := by rw [gU]; exact Nat.le_trans (by omega : _ ≤ 1000) (by decide)
 unfold gZ
 generalize bQ (aj (MC (aj (M2 (ak 0) (mC (.int 0)) oIx) (au)) (aO bN)) (au)) = IT at it ⊢
 simp [it, hz2, e3]
theorem uE {w c : Int} {ws cs : List Int} : dot (w :: ws) (c :: cs) = w * c + dot ws cs := by unfold dot; simp
theorem uI (M : Int) : ∀ (rs : List (List Int)) (ss : List Int), rs.length = ss.length → (∀ r ∈ rs, 1 ≤ bj r ∧ bj r ∣ M) → dot (wts M rs ss) (rs.map bj) = M * ss.sum
 | [], ss, h, _ => by
  have : ss = [] := List.eq_nil_of_length_eq_zero (by simpa using h.symm)
  subst this
  simp [dot, wts]
 | r :: rs, [], h, _ => by simp at h
 | r :: rs, s :: ss, h, hr => by
  have ih := uI M rs ss (by simpa using h) fun x hx => hr x (by simp [hx])
  obtain ⟨b1, b2⟩ := hr r (by simp)
  have e1 : wts M (r :: rs) (s :: ss) = s * M.fdiv (bj r) :: wts M rs ss := by simp [wts]
  rw [e1, List.map_cons, uE, ih, List.sum_cons, Int.mul_add]
  congr 1
  rw [Int.fdiv_eq_ediv_of_nonneg M (by omega), Int.mul_assoc, Int.ediv_mul_cancel b2, Int.mul_comm]
theorem Ab {d1 : Nat} {rs : List (List Int)} (hd : 1 ≤ d1) (h : ∀ r ∈ rs, fB d1 r) : col rs (d1 - 1) = rs.map bj := by
 unfold col
 apply List.map_congr_left
 intro r hr
 have hl := (h r hr).len
 have hne : r ≠ [] := fun z => by rw [z] at hl; simp at hl; omega
 unfold bj
 rw [List.getLastD_eq_getLast?, List.getLast?_eq_getElem?, hl]
 rfl
end LG
namespace LG
open PySem PySem.Spec PyProof.Rows L2 L3
@[simp] theorem Jk {μ : Mu} {ds : List D} : bM (.cell μ.length) (μ ++ [some ds]) = some ds := by unfold bM; simp
theorem uZ {d j : Nat} (h : j < d) : (dZ 0 d).drop j = D.int (0 + (j : Int)) :: (dZ 0 d).drop (j + 1) := by
 unfold dZ
 rw [← List.map_drop, ← List.map_drop, List.drop_eq_getElem_cons (by simpa using h)]
 simp
theorem Df {d j : Nat} (h : d ≤ j) : (dZ 0 d).drop j = [] := List.drop_of_length_le (by rw [gU]; exact h)
theorem yx {m b : Int} {bs : List Int} : lJ m (b :: bs) = lJ (m * b.fdiv (Int.gcd m b)) bs := rfl
end LG
namespace LG
open PySem PySem.Spec PyProof.Rows L2 L3
end LG
namespace LG
open PySem PySem.Spec PyProof.Rows L2 L3
structure Geo (d : Nat) (ps : List (List Int)) : Prop where
 d1 : 1 ≤ d
 d2 : d ≤ 3
 rows : ∀ p ∈ ps, fB (d + 1) p
 len : ps.length ≤ 60
 ne : ps ≠ []
def kY (ps : List (List Int)) : D := .lst (ps.map aF)
end LG
namespace LG
open PySem PySem.Spec PyProof.Rows L2 L3
end LG
namespace LG
open PySem PySem.Spec PyProof.Rows L2 L3
def xW (φ : FF) : Prop := ∀ (d1 : Nat) (rs : List (List Int)) (ss : List Int) (μ : Mu), 1 ≤ d1 → (∀ r ∈ rs, fB d1 r) → rs.length ≤ 60 → ss.length ≤ 60 → (∀ s ∈ ss, Sm 3000 s) → φ [.lst (rs.map aF), .tup (ss.map .int)] μ = some (.lst ((wts (fu rs) rs ss).map .int), μ)
theorem BW {φ : FF} (hφ : Bm φ) : xW (trunc (aG 3 (dh φ))) := fun d1 rs ss μ hd hr hl hl2 hs => by
 apply cJ
 have e1 := eO (all := rs.map aF) (h := hName 0) (fe := M2 (ak 0) (M1 (mC (.int 1)) ik) oIx) (δb := cO ["point"] [some (.lst (rs.map aF)), some (.tup (ss.map .int)), none] []) (F := aF) (f := fun r => .int (bj r)) (μ := μ) rs fun r h => ⟨_, rfl, by simp [cO, jM (hr r h) hd]⟩
 have e1' : rs.map (fun r => D.int (bj r)) = (rs.map bj).map D.int := by simp
 rw [e1'] at e1
 have e2 := hφ (rs.map bj) μ (fun b hb => by
  obtain ⟨r, h, rfl⟩ := List.mem_map.mp hb
  exact ⟨(hr r h).b1, (hr r h).b2⟩) (by simp; omega)
 obtain ⟨hM1, hM2, hM3⟩ := oV hr
 have e3 := eO (all := (ss.zip rs).map fun p => D.tup [.int p.1, aF p.2]) (h := jD 2 (bW (hName 0) (bW (hName 1) jB))) (fe := M2 (ak 0) (M2 (ak 2) (M2 (ak 1) (M1 (mC (.int 1)) ik) oIx) oDiv) bH) (δb := cO ["number", "point"] [some (.lst (rs.map aF)), some (.tup (ss.map .int)), some (.int (fu rs))] [2]) (F := fun p : Int × List Int => D.tup [.int p.1, aF p.2]) (f := fun p => .int (p.1 * (fu rs).fdiv (bj p.2))) (μ := μ) (ss.zip rs) fun p hp => by
  obtain ⟨s, r⟩ := p
  have hm := List.of_mem_zip hp
  have hrr := hr r hm.2
  have ed := gC (x := fu rs) (y := bj r) (b := 6) μ (by have := hrr.b1; omega) (jz 64 (by have := hrr.b1; have := hrr.b2; omega) (by decide)) (by decide)
  have em := cu (x := s) (y := (fu rs).fdiv (bj r)) (a := 3000) (b := 1 + 6 * rs.length) μ (hs s hm.1) (pZ hM3 (by have := hrr.b1; omega)) (by omega)
  refine ⟨[some (.int s), some (aF r), some (.int (fu rs))], by simp [cO], ?_⟩
  simp [jM hrr hd, ed, em]
 have ez := mj (F := D.int) (G := aF) ss rs
 have e3' : (ss.zip rs).map (fun p => D.int (p.1 * (fu rs).fdiv (bj p.2))) = (wts (fu rs) rs ss).map D.int := by unfold wts; simp
 rw [e3'] at e3
 have hz1 : rs.length ≤ 1000 := by omega
 have hz2 : (ss.zip rs).length ≤ 1000 := by simp; omega
 have e2' : φ [.lst ((rs.map bj).map D.int)] μ = some (.int (fu rs), μ) := e2
 generalize (rs.map bj).map D.int = bD at *
 generalize (wts (fu rs) rs ss).map D.int = wD at *
 unfold dh
 simp only [List.length_zip] at hz2
 simp [hz1, hz2, e1, e2', ez, e3]
theorem any_ints (μ : Mu) : ∀ ns : List Int, tM ((ns.map D.int).map thE) μ = some (ns.any (fun n => n != 0), μ)
 | [] => rfl
 | n :: ns => by
  have ih := any_ints μ ns
  rw [List.map_cons, List.map_cons]
  unfold tM
  show ((wI (D.int n)).bind fun k => if k = true then some (true, μ) else tM ((ns.map D.int).map thE) μ) = _
  cases h : (n != 0) with
  | true => simp [wI, h]
  | false =>
   rw [List.map_map] at ih
   simp [wI, h, ih]
theorem sum_ints (μ : Mu) : ∀ (ns : List Int) (a : Int), oK a ((ns.map D.int).map thE) μ = some (a + ns.sum, μ)
 | [], a => by simp [oK]
 | n :: ns, a => by
  have ih := sum_ints μ ns (a + n)
  rw [List.map_cons, List.map_cons]
  unfold oK
  show oK (a + n) ((ns.map D.int).map thE) μ = _
  rw [ih, List.sum_cons, Int.add_assoc]
def uR (d1 : Nat) (ps : List (List Int)) (ns : List Int) : List Int := (List.range d1).map fun i => dot (wts (fu ps) ps ns) (col ps i)
def qJ (d1 : Nat) (ps : List (List Int)) (ns : List Int) : Bool := ns.length == ps.length && (ns.any (fun n => n != 0) && !(uR d1 ps ns).any (fun n => n != 0))
def wK (d1 : Nat) (ps : List (List Int)) : D → Bool
 | .tup ds => ds.all isInt && qJ d1 ps (ds.map intOf)
 | _ => false
theorem my {d1 : Nat} {ps : List (List Int)} {ds : List D} : wK d1 ps (.tup ds) = (ds.all isInt && qJ d1 ps (ds.map intOf)) := rfl
theorem rF {d1 : Nat} {ps : List (List Int)} {ns : List Int} : wK d1 ps (.tup (ns.map .int)) = qJ d1 ps ns := by
 rw [my, ints_map, BX]
 rfl
def smT : D → Prop
 | .tup ds => ∀ i, D.int i ∈ ds → Sm 2000 i
 | _ => True
def ye (φ : FF) : Prop := ∀ (d : Nat) (ps : List (List Int)) (t : D) (μ : Mu), Geo d ps → nc t → smT t → φ [kY ps, t] μ = some (.bl (wK (d + 1) ps t), μ)
theorem Hk {φ1 φ2 φ3 : FF} (h1 : zF φ1) (h2 : xW φ2) (h3 : rm φ3) : ye (trunc (aG 2 (cF φ1 φ2 φ3))) := fun d ps t μ G hn hs => by
 apply cJ
 have e1 := h1 t μ hn
 have hd2 := G.d2
 cases hb : qb t with
 | false =>
  rw [hb] at e1
  have eV : wK (d + 1) ps t = false := by
   cases t with
   | tup ds =>
    have hb : ds.all isInt = false := hb
    rw [my, hb]; rfl
   | _ => rfl
  rw [eV]
  simp [cF, e1]
 | true =>
  rw [hb] at e1
  cases t with
  | tup ds =>
   have hd := ints_of hb
   generalize ds.map intOf = ns at hd
   subst hd
   rw [rF]
   have elen : bN (kY ps) μ = some (.int ps.length, μ) := by simp [kY]
   have hsn : ∀ n ∈ ns, Sm 2000 n := fun n hn' => hs n (List.mem_map.mpr ⟨n, hn', rfl⟩)
   by_cases hl : ns.length = ps.length
   ·have hlb : ((ns.length : Int) == (ps.length : Int)) = true := by simp [hl]
    have ea := any_ints μ ns
    have hl60 := G.len
    obtain ⟨M1', M2', M3'⟩ := oV G.rows
    have e2 := h2 (d + 1) ps ns μ (by omega) G.rows (by omega) (by omega) (fun s h => gn (hsn s h) (by decide))
    have hw : ∀ w ∈ wts (fu ps) ps ns, Sm 9000 w := fun w hw => by
     obtain ⟨⟨s, r⟩, hx, rfl⟩ := List.mem_map.mp hw
     have hm := List.of_mem_zip hx
     exact gn (fW (hsn s hm.1) (pZ M3' (show 0 < bj r by have := (G.rows r hm.2).b1; omega))) (by omega)
    have e3 := h3 (d + 1) ps (wts (fu ps) ps ns) μ (by omega) (by omega) G.ne G.rows hl60 hw
    have e3' : φ3 [.lst (ps.map aF), .lst ((wts (fu ps) ps ns).map .int)] μ = some (.lst ((uR (d + 1) ps ns).map .int), μ) := e3
    have eb := any_ints μ (uR (d + 1) ps ns)
    have eV : qJ (d + 1) ps ns = (ns.any (fun n => n != 0) && !(uR (d + 1) ps ns).any (fun n => n != 0)) := by unfold qJ; simp [hl]
    rw [eV]
    generalize hVV : (uR (d + 1) ps ns).any (fun n => n != 0) = VV at *
    generalize (uR (d + 1) ps ns).map D.int = vD at *
    generalize (wts (fu ps) ps ns).map D.int = wD at *
    generalize hAA : ns.any (fun n => n != 0) = AA at *
    have hnl : (ns.map D.int).length = ns.length := by simp
    generalize ns.map D.int = nD at *
    cases AA with
    | false => simp [cF, e1, hnl, elen, hlb, ea]
    | true => simp [cF, e1, hnl, elen, hlb, ea, kY, e2, e3', eb]
   ·have hlb : ((ns.length : Int) == (ps.length : Int)) = false := by
     have : (ns.length : Int) ≠ ps.length := by omega
     simpa using this
    have eV : qJ (d + 1) ps ns = false := by
     have : (ns.length == ps.length) = false := by simpa using hl
     unfold qJ; rw [this]; rfl
    rw [eV]
    simp [cF, e1, elen, hlb]
  | _ => cases hb
theorem Ba {d : Nat} {ps : List (List Int)} {ns : List Int} (hr : ∀ r ∈ ps, fB (d + 1) r) (hl : ns.length = ps.length) :
  (!(uR (d + 1) ps ns).any (fun n => n != 0)) = (decide (ns.sum = 0) && (List.range d).all fun i => dot (wts (fu ps) ps ns) (col ps i) == 0) := by
 obtain ⟨M1', M2', M3'⟩ := oV hr
 have el := uI (fu ps) ps ns hl.symm fun r h => ⟨(hr r h).b1, M2' r h⟩
 have ec := Ab (d1 := d + 1) (by omega) hr
 rw [show d + 1 - 1 = d by omega] at ec
 unfold uR
 rw [List.range_succ, List.map_append, List.any_append]
 simp only [List.map_cons, List.map_nil, List.any_cons, List.any_nil, Bool.or_false]
 rw [ec, el]
 have hz : (fu ps * ns.sum != 0) = !decide (ns.sum = 0) := by
  by_cases h : ns.sum = 0
  ·simp [h]
  ·have : fu ps * ns.sum ≠ 0 := Int.mul_ne_zero (by omega) h
   simp [h, this]
 rw [hz, List.any_map]
 have ha : ((List.range d).any ((fun n => n != 0) ∘ fun i => dot (wts (fu ps) ps ns) (col ps i))) = !((List.range d).all fun i => dot (wts (fu ps) ps ns) (col ps i) == 0) := by
  rw [List.any_eq_not_all_not]
  congr 1
  apply List.all_congr rfl
  intro i
  simp [bne]
 rw [ha]
 cases decide (ns.sum = 0) <;> cases ((List.range d).all fun i => dot (wts (fu ps) ps ns) (col ps i) == 0) <;> rfl
theorem xy {M : Int} {i : Nat} : ∀ (ps : List (List Int)) (ns : List Int), ((ns.zip ps).map fun p => p.1 * p.2.getD i 0 * M.fdiv (bj p.2)).sum = dot (wts M ps ns) (col ps i)
 | [], ns => by simp [dot, wts, col]
 | p :: ps, [] => by simp [dot, wts, col]
 | p :: ps, n :: ns => by
  have ih := xy (M := M) (i := i) ps ns
  have e2 : wts M (p :: ps) (n :: ns) = n * M.fdiv (bj p) :: wts M ps ns := by simp [wts]
  have e3 : col (p :: ps) i = p.getD i 0 :: col ps i := by simp [col]
  rw [e2, e3, uE, List.zip_cons_cons, List.map_cons, List.sum_cons, ih]
  congr 1
  simp only
  rw [Int.mul_assoc, Int.mul_assoc, Int.mul_comm (M.fdiv _)]
theorem vK {φ1 φ2 : FF} (h1 : xT φ1) (h2 : nW φ2) : ye (trunc (aG 5 (bA φ1 φ2))) := fun d ps t μ G hn hs => by
 apply cJ
 have hd1 := G.d1
 have hd2 := G.d2
 have hl60 := G.len
 have elen : bN (kY ps) μ = some (.int ps.length, μ) := by simp [kY]
 cases t with
 | cell n => simp [nc, cLt] at hn
 | ro ds => simp [bA, wK, jt, Di]
 | tup ds =>
  have hnd := lB.mp hn
  by_cases hl : ds.length = ps.length
  ·have hlb : ((ds.length : Int) == (ps.length : Int)) = true := by simp [hl]
   have hz : ds.length ≤ 1000 := by omega
   have ef := iz (all := ds) (h := hName 0) (tt := jy (oA (MC (aj (ak 0) au) φ1))) (fe := ak 0) (δb := [none]) (p := fun d => !isInt d) (f := id) (μ := μ) ds fun x hx => by
    refine ⟨_, rfl, ?_, fun _ => ?_⟩ <;> simp [h1 x μ (hnd x hx)]
   rw [List.map_id] at ef
   have hem := lD (p := isInt) (q := fun d => !isInt d) ds (fun _ _ => rfl)
   cases hi : ds.all isInt with
   | false =>
    rw [hi] at hem
    rw [my, hi, Bool.false_and]
    simp [bA, elen, hlb, hz, cO, ef, hem]
   | true =>
    rw [hi] at hem
    have hd := ints_of hi
    generalize ds.map intOf = ns at hd
    subst hd
    rw [rF]
    have hl' : ns.length = ps.length := by simpa using hl
    simp only [List.length_map] at hlb hz
    have hsn : ∀ n ∈ ns, Sm 2000 n := fun n hn' => hs n (List.mem_map.mpr ⟨n, hn', rfl⟩)
    have eg := iz (all := ns.map D.int) (h := hName 0) (tt := toB (M2 (ak 0) (mC (.int 0)) oNe)) (fe := ak 0) (δb := [none]) (p := fun d => intOf d != 0) (f := id) (μ := μ) (ns.map D.int) fun x hx => by
     obtain ⟨n, _, rfl⟩ := List.mem_map.mp hx
     refine ⟨_, rfl, ?_, fun _ => ?_⟩ <;> simp [bne]
    rw [List.map_id] at eg
    have hfe : ((ns.map D.int).filter (fun d => intOf d != 0)).isEmpty = !ns.any (fun n => n != 0) := by
     have := lD (p := fun d => intOf d == 0) (q := fun d => intOf d != 0) (ns.map D.int) (fun _ _ => rfl)
     rw [this, List.all_map, List.all_eq_not_any_not]
     rfl
    have hpu : dD ((ns.map D.int).filter (fun d => intOf d != 0)) = true ∧ gO ((ns.map D.int).filter (fun d => intOf d != 0)) < 90 := by
     have : (ns.map D.int).filter (fun d => intOf d != 0) = (((ns.map D.int).filter (fun d => intOf d != 0)).map intOf).map D.int := ints_of (by
      rw [List.all_eq_true]
      intro x hx
      obtain ⟨n, _, rfl⟩ := List.mem_map.mp (List.mem_filter.mp hx).1
      rfl)
     rw [this]
     exact ⟨jh _, by rw [jN]; decide⟩
    have eqn := sE (μ := μ) hpu.1 hpu.2
    rw [hfe] at eqn
    have esum := sum_ints μ ns 0
    rw [Int.zero_add] at esum
    have eV : qJ (d + 1) ps ns = (ns.any (fun n => n != 0) && (decide (ns.sum = 0) && (List.range d).all fun i => dot (wts (fu ps) ps ns) (col ps i) == 0)) := by
     unfold qJ
     rw [Ba G.rows hl']
     simp [hl']
    rw [eV]
    generalize (ns.map D.int).filter (fun d => !isInt d) = f1 at *
    generalize (ns.map D.int).filter (fun d => intOf d != 0) = f2 at *
    cases hA : ns.any (fun n => n != 0) with
    | false =>
     rw [hA] at eqn
     have eqn' : oEq (.lst f2) (.lst []) μ = some (.bl true, μ) := eqn
     have hnl : (ns.map D.int).length = ns.length := by simp
     generalize ns.map D.int = nD at *
     simp [bA, elen, hnl, hlb, hz, cO, ef, hem, eg, eqn']
    | true =>
     rw [hA] at eqn
     have eqn' : oEq (.lst f2) (.lst []) μ = some (.bl false, μ) := eqn
     have hnl : (ns.map D.int).length = ns.length := by simp
     by_cases hs0 : ns.sum = 0
     ·rw [decide_eq_true hs0, Bool.true_and, Bool.true_and]
      rw [hs0] at esum
      generalize hVV : ((List.range d).all fun i => dot (wts (fu ps) ps ns) (col ps i) == 0) = VV
      have ez := mj (F := D.int) (G := aF) ns ps
      have hterm : ∀ (M : Int) (i : Nat), 1 ≤ M → Sm 400 M → i < d → ∀ (μ : Mu), lcL ⟨(ns.zip ps).map (fun p => D.tup [.int p.1, aF p.2]), none⟩ (jD 2 (bW (hName 0) (bW (hName 1) jB))) cU (M2 (M2 (ak 0) (M2 (ak 1) (ak 2) oIx) bH) (M2 (ak 3) (M2 (ak 1) (M1 (mC (.int 1)) ik) oIx) oDiv) bH) [none, none, some (.int (0 + (i : Int))), some (.int M)] ((ns.zip ps).map (fun p => D.tup [.int p.1, aF p.2])) μ = some (((ns.zip ps).map fun p => p.1 * p.2.getD i 0 * M.fdiv (bj p.2)).map .int, μ) := fun M i hM hMs hi μ => by
       have e := eO (all := (ns.zip ps).map (fun p => D.tup [.int p.1, aF p.2])) (h := jD 2 (bW (hName 0) (bW (hName 1) jB))) (fe := M2 (M2 (ak 0) (M2 (ak 1) (ak 2) oIx) bH) (M2 (ak 3) (M2 (ak 1) (M1 (mC (.int 1)) ik) oIx) oDiv) bH) (δb := [none, none, some (.int (0 + (i : Int))), some (.int M)]) (F := fun p : Int × List Int => D.tup [.int p.1, aF p.2]) (f := fun p => .int (p.1 * p.2.getD i 0 * M.fdiv (bj p.2))) (μ := μ) (ns.zip ps) fun p hp => by
        obtain ⟨v, r⟩ := p
        have hm := List.of_mem_zip hp
        have hr := G.rows r hm.2
        have hlast := jM hr (by omega)
        have hir : ((0 : Int) + (i : Int)) < r.length := by have := hr.len; omega
        obtain ⟨ai, him⟩ := xY (ys := r) (k := 0 + (i : Int)) (by omega) hir
        rw [show (0 + (i : Int)).toNat = i by omega] at ai him
        have hsj := hr.sm _ him
        have b1 := hr.b1
        have b2 := hr.b2
        refine ⟨[some (.int v), some (aF r), some (.int (0 + (i : Int))), some (.int M)], by simp, ?_⟩
        simp only
        generalize r.getD i 0 = rj at *
        have em1 := cu (x := v) (y := rj) μ (hsn v hm.1) (jz (b := 14) 10001 (by omega) (by decide)) (by decide)
        have ed := gC (x := M) (y := bj r) (b := 6) μ (by omega) (jz 64 (by omega) (by decide)) (by decide)
        have em2 := cu (x := v * rj) (y := M.fdiv (bj r)) μ (fW (hsn v hm.1) (jz (b := 14) 10001 (by omega) (by decide))) (pZ hMs (by omega)) (by decide)
        generalize (0 + (i : Int)) = ij at *
        simp [ai, em1, hlast, ed, em2]
       rw [e, List.map_map]
       rfl
      obtain ⟨M1', M2', M3'⟩ := oV G.rows
      have hMs : Sm 400 (fu ps) := gn M3' (by omega)
      have eM : lJ 1 (ps.map bj) = fu ps := rfl
      have hdot := fun i => xy (M := fu ps) (i := i) ps ns
      generalize hLM : fu ps = M at *
      have hzl : (ns.zip ps).length ≤ 1000 := by simp; omega
      have hnz : cI (.tup (ns.map D.int)) = some (ns.map D.int) := rfl
      have r0 : ∃ r0, atI (ps.map aF) 0 = some (aF r0) ∧ r0 ∈ ps := by
       obtain ⟨x, y⟩ := xH (F := aF) (l := ps) (k := 0) (z := []) (by decide) (by have := List.length_pos_iff.mpr G.ne; omega)
       exact ⟨_, x, y⟩
      obtain ⟨r0, a0, hr0⟩ := r0
      have hr0l := (G.rows r0 hr0).len
      generalize ns.map D.int = nD at *
      unfold bA
      rw [Gb]
      have esrc : ∀ μ, srcOf (kY ps) μ = some ⟨ps.map aF, none⟩ := fun _ => rfl
      have efz : cI (kY ps) = some (ps.map aF) := rfl
      have eits : ∀ μ, bM (kY ps) μ = some (ps.map aF) := fun _ => rfl
      simp [elen, hnl, hlb, hz, cO, ef, hem, eg, eqn', esum, esrc]
      refine dR (fun its δ μ' => ∃ (xs : List (List Int)) (m : Int) (o3 : Option D) (k : Nat), its = xs.map aF ∧ μ' = μ ∧ lJ m (xs.map bj) = M ∧ 1 ≤ m ∧ Sm k m ∧ k + 6 * xs.length ≤ 700 ∧ (∀ x ∈ xs, x ∈ ps) ∧ δ = [some (kY ps), some (.tup nD), some (.int m), o3, none]) ?_ ?_ _ _ _ ⟨ps, 1, none, 1, rfl, rfl, eM, by decide, by unfold Sm; decide, by omega, fun x h => h, rfl⟩
      ·rintro dd rest δ μ' ⟨xs, m, o3, k, hi, rfl, hlm, m1, hk, hkl, hsub, rfl⟩
       cases xs with
       | nil => cases hi
       | cons r xs =>
        cases hi
        have hrow := G.rows r (hsub r (List.mem_cons_self ..))
        rw [List.map_cons, yx] at hlm
        have hlast := jM hrow (by omega)
        have b1 := hrow.b1
        have b2 := hrow.b2
        generalize bj r = b at *
        obtain ⟨g1, g2, g3, g4⟩ := tU m1 b1
        obtain ⟨f1', f2', f3, f4⟩ := pD m1 b1
        have eg' := h2 m b μ'
        simp only [List.length_cons] at hkl
        have em := cu (x := m) (y := b) μ' hk (jz (b := 6) 64 (by omega) (by decide)) (by omega)
        have ed := gC (x := m * b) (y := (Int.gcd m b : Int)) (b := 6) μ' (by omega) (jz 64 (by omega) (by decide)) (by decide)
        rw [f3] at ed
        have sb : Sm 6 (b.fdiv (Int.gcd m b)) := jz 64 (by omega) (by decide)
        generalize hm' : m * b.fdiv (Int.gcd m b) = m' at *
        simp [hlast, em, eg', ed]
        refine ⟨xs, rfl, m', hlm, ?_, _, k + 6, by rw [← hm']; exact fW hk sb, by omega, fun x h => hsub _ (List.mem_cons_of_mem _ h), rfl, rfl⟩
        have := Int.mul_le_mul m1 f1' (by decide) (by omega)
        omega
      ·rintro δ μ' ⟨xs, m, o3, k, hi, rfl, hlm, m1, hk, hkl, hsub, rfl⟩
       cases xs with
       | cons b ms => cases hi
       | nil =>
       have hlm : m = M := hlm
       subst hlm
       have it : bQ (aj (M2 (MC (aj (M2 (ak 0) (mC (.int 0)) oIx) (au)) (aO bN)) (mC (.int 1)) gH) (au)) [some (kY ps), some (.tup nD), some (.int m), o3, none] μ' = some (⟨dZ 0 d, none⟩, μ') := by
        have e1 : M2 (MC (aj (M2 (ak 0) (mC (.int 0)) oIx) (au)) (aO bN)) (mC (.int 1)) gH [some (kY ps), some (.tup nD), some (.int m), o3, none] μ' = some (.int d, μ') := by
         have e2 : MC (aj (M2 (ak 0) (mC (.int 0)) oIx) (au)) (aO bN) [some (kY ps), some (.tup nD), some (.int m), o3, none] μ' = some (.int (d + 1 : Nat), μ') := Ar hr0l (by simp [eits, a0])
         generalize MC (aj (M2 (ak 0) (mC (.int 0)) oIx) (au)) (aO bN) = F at e2 ⊢
         rw [Cd, e2]
         simp
        have := Ah (k := (d : Int)) (by omega) (by omega) e1
        rwa [show ((d : Int)).toNat = d by omega] at this
       generalize bQ (aj (M2 (MC (aj (M2 (ak 0) (mC (.int 0)) oIx) (au)) (aO bN)) (mC (.int 1)) gH) (au)) = IT at it ⊢
       simp only [vZ, Fe, Gb, Jw, it, Option.bind_some]
       refine dR (fun its δ μ1 => ∃ (j : Nat) (o4 : Option D), its = (dZ 0 d).drop j ∧ μ1 = μ' ∧ (∀ i < j, i < d → (dot (wts m ps ns) (col ps i) == 0) = true) ∧ δ = [some (kY ps), some (.tup nD), some (.int m), o3, o4]) ?_ ?_ _ _ _ ⟨0, none, rfl, rfl, fun i h => by omega, rfl⟩
       ·rintro it' rest δ μ1 ⟨j, o4, hi, rfl, hg, rfl⟩
        have hj : j < d := by
         by_cases h : j < d
         ·exact h
         ·rw [Df (by omega)] at hi; cases hi
        rw [uZ hj] at hi
        cases hi
        have et := hterm m j m1 hMs hj μ1
        have es := sum_ints μ1 ((ns.zip ps).map fun p => p.1 * p.2.getD j 0 * m.fdiv (bj p.2)) 0
        rw [hdot, Int.zero_add] at es
        generalize ((ns.zip ps).map fun p => p.1 * p.2.getD j 0 * m.fdiv (bj p.2)).map D.int = tD at *
        have hzl' : ((ns.zip ps).map fun p => D.tup [.int p.1, aF p.2]).length ≤ 1000 := by rw [List.length_map]; exact hzl
        generalize ((ns.zip ps).map fun p => D.tup [.int p.1, aF p.2]) = zD at *
        generalize hij : (0 + (j : Int)) = ij at *
        by_cases hd0 : dot (wts m ps ns) (col ps j) = 0
        ·rw [hd0] at es
         simp [efz, ez, hzl', cO, et, es]
         refine ⟨j + 1, rfl, fun i h1 h2 => ?_⟩
         by_cases e : i = j
         ·rw [e]; exact hd0
         ·simpa using hg i (by omega) h2
        ·have hVf : VV = false := by
          rw [← hVV, List.all_eq_false]
          exact ⟨j, List.mem_range.mpr hj, by simpa using hd0⟩
         subst hVf
         have hdb : (dot (wts m ps ns) (col ps j) == 0) = false := by simpa using hd0
         generalize dot (wts m ps ns) (col ps j) = S at *
         simp [efz, ez, hzl', cO, et, es, hdb]
       ·rintro δ μ1 ⟨j, o4, hi, rfl, hg, rfl⟩
        have hj : d ≤ j := by
         by_cases h : j < d
         ·rw [uZ h] at hi; cases hi
         ·omega
        have hVt : VV = true := by
         rw [← hVV, List.all_eq_true]
         intro i hi'
         exact hg i (by have := List.mem_range.mp hi'; omega) (List.mem_range.mp hi')
        subst hVt
        simp
     ·rw [decide_eq_false hs0]
      have hsb : (ns.sum == 0) = false := by simpa using hs0
      generalize ns.map D.int = nD at *
      generalize ns.sum = S at *
      simp [bA, elen, hnl, hlb, hz, cO, ef, hem, eg, eqn', esum, hsb]
  ·have hlb : ((ds.length : Int) == (ps.length : Int)) = false := by
    have : (ds.length : Int) ≠ ps.length := by omega
    simpa using this
   have eV : wK (d + 1) ps (.tup ds) = false := by
    rw [my]
    unfold qJ
    have : ((ds.map intOf).length == ps.length) = false := by simpa using hl
    rw [this]
    simp
   rw [eV]
   simp [bA, elen, hlb]
 | _ => simp [bA, wK]
end LG
namespace Lk08
open PySem PySem.Spec PyProof.Rows L2 L3 LG
theorem Ka : nW cZ := fun a b μ => fX (Do a b μ)
theorem gcd2 : nW bf := fun a b μ => fX (Fo a b μ)
theorem Ir : qu aR := fun x k μ h0 h1 => by
 obtain ⟨r, e, h⟩ := HQ x k μ h0 h1
 exact ⟨r, fX e, h⟩
theorem yh : sy bJ := Ay
theorem JR : xX bu := fun ns b μ h1 h2 h3 h4 => fX (Jh Ka ns b μ h1 h2 h3 h4)
theorem Hv : ul fD := Al Ir
theorem num' : xT cP := Bc
theorem Io : xT dz := Ce
theorem Gf : zF cC := wG num'
theorem Fv (k l : Bool) (μ : Mu) : fM [.bl k, .bl l] μ = some (.bl (k == l), μ) := Ei k l μ
theorem yj : xR dg := Aj Ir zG JR
theorem put' : Ft gW := Ji
theorem tie' : ye bO := Hk Gf (BW (Dy gcd2)) (vU Hy)
theorem Kw : ye dJ := vK Io Ka
def uv (n : Nat) (φ : FF) : Prop := ∀ (rs : List (List Int)) (μ : Mu), rs.length = n → (∀ r ∈ rs, r.length = n ∧ ∀ x ∈ r, Sm 14 x) → ∃ v, φ [.lst (rs.map aF)] μ = some (.int v, μ) ∧ Sm (20 * n + 2) v
theorem qW : ∀ qs : List (List Int), dD (qs.map aF) = true ∧ gO (qs.map aF) ≤ 1
 | [] => ⟨by simp [dD], by simp [gO]⟩
 | q :: qs => by
  obtain ⟨a, b⟩ := qW qs
  refine ⟨?_, ?_⟩
  ·rw [List.map_cons, dD, a]; unfold aF; rw [cV, jh]; rfl
  ·rw [List.map_cons, gO]; unfold aF at *; rw [gM, jN]; omega
theorem det0 (φ : FF) : uv 0 (trunc (aG 5 (iW φ))) := fun rs μ hl _ => by
 have : rs = [] := List.eq_nil_of_length_eq_zero hl
 subst this
 refine ⟨1, cJ ?_, by unfold Sm; decide⟩
 have e := sE (ps := []) (μ := μ) (by rw [dD]) (by rw [gO]; decide)
 simp [iW, e]
theorem qX {r : List Int} {k : Nat} (h : k < r.length) : dO k ((r.drop k).map D.int) = .tup [.int (k : Int), .int (r.getD k 0)] :: dO (k + 1) ((r.drop (k + 1)).map D.int) := by
 rw [List.drop_eq_getElem_cons h, List.map_cons]
 have : r.getD k 0 = r[k] := by simp [List.getD, h]
 rw [this]
 rfl
theorem CG {r : List Int} {k : Int} {μ : Mu} (h0 : 0 ≤ k) (h1 : k < r.length) : oSl (aF r) none (some k) μ = some (aF (r.take k.toNat), μ) ∧ oSl (aF r) (some (k + 1)) none μ = some (aF (r.drop (k.toNat + 1)), μ) := by
 have e1 := Fz (ds := r.map D.int) (i := k) (μ := μ) h0 (by simpa using h1)
 have e2 := xN (ds := r.map D.int) (i := k + 1) (μ := μ) (by omega) (by simp; omega)
 rw [show (k + 1).toNat = k.toNat + 1 by omega] at e2
 rw [← List.map_take] at e1
 rw [← List.map_drop] at e2
 exact ⟨e1, e2⟩
theorem Af {n : Nat} {φ : FF} (hn : n ≤ 4) (hφ : uv n φ) : uv (n + 1) (trunc (aG 5 (iW φ))) := fun rs μ hl hr => by
 suffices h : Ok (aG 5 (iW φ) [.lst (rs.map aF)] μ) (fun q => ∃ v, q = (.int v, μ) ∧ Sm (20 * (n + 1) + 2) v) by
  obtain ⟨q, e, v, h1, h2⟩ := h
  have h1 : q = (.int v, μ) := h1
  rw [h1] at e
  exact ⟨v, fX e, h2⟩
 apply lE
 cases rs with
 | nil => simp at hl
 | cons r0 rest =>
  have hrl : rest.length = n := by simpa using hl
  obtain ⟨h0l, h0s⟩ := hr r0 (by simp)
  obtain ⟨pu, pd⟩ := qW (r0 :: rest)
  have e0 := sE (μ := μ) pu (by omega)
  have e0' : oEq (.lst ((r0 :: rest).map aF)) (.lst []) μ = some (.bl false, μ) := e0
  have a0 : atI ((r0 :: rest).map aF) 0 = some (aF r0) := by unfold atI ixN; simp
  have s1 := Bg (ds := (r0 :: rest).map aF) (i := 1) (μ := μ) (by decide)
  have s1' : oSl (.lst ((r0 :: rest).map aF)) (some 1) none μ = some (.lst (rest.map aF), μ) := s1
  have efz : cI (aF r0) = some (r0.map .int) := rfl
  generalize (r0 :: rest).map aF = RS at *
  unfold iW
  simp [e0', a0, efz]
  refine dR (fun its δ μ' => ∃ (k : Nat) (f : Int) (o2 o3 o4 : Option D), its = dO k ((r0.drop k).map D.int) ∧ μ' = μ ∧ k ≤ r0.length ∧ f.natAbs ≤ k * 2 ^ (20 * n + 17) ∧ δ = [some (.lst RS), some (.int f), o2, o3, o4]) ?_ ?_ _ _ _ ⟨0, 0, none, none, none, rfl, rfl, by omega, by simp, rfl⟩
  ·rintro it its δ μ' ⟨k, f, o2, o3, o4, hi, rfl, hkl, hf, rfl⟩
   have hk : k < r0.length := by
    by_cases h : k < r0.length
    ·exact h
    ·rw [List.drop_of_length_le (by omega)] at hi; cases hi
   rw [qX hk] at hi
   cases hi
   have hx : Sm 14 (r0.getD k 0) := by
    have : r0.getD k 0 = r0[k] := by simp [List.getD, hk]
    rw [this]; exact h0s _ (List.getElem_mem hk)
   obtain ⟨j0, j1⟩ := aX (x := (k : Int)) (m := 2) (by decide)
   obtain ⟨sg, hsg, esg⟩ := oN (ds := [D.int 1, .int (-1)]) j0 j1
   have hsg : ∃ z : Int, sg = .int z ∧ z.natAbs ≤ 1 := by
    simp only [List.mem_cons, List.not_mem_nil, or_false] at hsg
    rcases hsg with rfl | rfl <;> exact ⟨_, rfl, by decide⟩
   obtain ⟨sg, rfl, sg1⟩ := hsg
   have el := eO (all := rest.map aF) (h := hName 0) (fe := M2 (mSl (ak 0) (fNo) (fAt (ak 1))) (mSl (ak 0) (fAt (M2 (ak 1) (mC (.int 1)) aU)) (fNo)) aU) (δb := [none, some (.int (k : Int))]) (F := aF) (f := fun r => aF (r.take k ++ r.drop (k + 1))) (μ := μ') rest fun r hrm => by
    have hrl' := (hr r (by simp [hrm])).1
    obtain ⟨c1, c2⟩ := CG (r := r) (k := (k : Int)) (μ := μ') (by omega) (by omega)
    rw [show ((k : Int)).toNat = k by omega] at c1 c2
    refine ⟨_, rfl, ?_⟩
    have ea : aU (aF (r.take k)) (aF (r.drop (k + 1))) μ' = some (aF (r.take k ++ r.drop (k + 1)), μ') := by
     show (if ((r.take k).map D.int).length + ((r.drop (k + 1)).map D.int).length ≤ sizeLine then some (D.tup ((r.take k).map D.int ++ (r.drop (k + 1)).map D.int), μ') else none) = _
     rw [if_pos (Nat.le_trans (by simp; omega : _ ≤ 1000) (by decide)), ← List.map_append]
     rfl
    generalize aF (r.take k) = A at *
    generalize aF (r.drop (k + 1)) = B at *
    generalize (k : Int) = kk at *
    simp [c1, c2, ea]
   have el' : rest.map (fun r => aF (r.take k ++ r.drop (k + 1))) = (rest.map fun r => r.take k ++ r.drop (k + 1)).map aF := by simp
   rw [el'] at el
   obtain ⟨v, ev, hv⟩ := hφ (rest.map fun r => r.take k ++ r.drop (k + 1)) μ' (by simp [hrl]) fun r hr' => by
    obtain ⟨q, hq, rfl⟩ := List.mem_map.mp hr'
    obtain ⟨ql, qs⟩ := hr q (by simp [hq])
    refine ⟨by simp; omega, fun x hx' => ?_⟩
    rcases List.mem_append.mp hx' with z | z
    ·exact qs x (List.mem_of_mem_take z)
    ·exact qs x (List.mem_of_mem_drop z)
   generalize (rest.map fun r => r.take k ++ r.drop (k + 1)).map aF = QS at *
   have hrz : (rest.map aF).length ≤ 1000 := by simp; omega
   generalize rest.map aF = RT at *
   generalize r0.getD k 0 = x at *
   have m1 := cu (x := sg) (y := x) μ' (show Sm 1 sg by unfold Sm; omega) hx (by decide)
   have m2 := cu (x := sg * x) (y := v) μ' (fW (show Sm 1 sg by unfold Sm; omega) hx) hv (by omega)
   have hb : (sg * x * v).natAbs ≤ 2 ^ (20 * n + 17) := by
    have := fW (fW (show Sm 1 sg by unfold Sm; omega) hx) hv
    unfold Sm at this
    rw [show 1 + 14 + (20 * n + 2) = 20 * n + 17 by omega] at this
    omega
   have hfin : (f + sg * x * v).natAbs ≤ (k + 1) * 2 ^ (20 * n + 17) := by
    rw [Nat.succ_mul]
    have := Int.natAbs_add_le f (sg * x * v)
    omega
   generalize hkk : (k : Int) = kk at *
   simp [s1', hrz, cO, el, esg, m1, ev, m2]
   exact ⟨k + 1, rfl, by omega, by simpa using hfin⟩
  ·rintro δ μ' ⟨k, f, o2, o3, o4, hi, rfl, hkl, hf, rfl⟩
   have hk : ¬ k < r0.length := fun h => by rw [qX h] at hi; cases hi
   simp
   have hb : f.natAbs < 2 ^ (20 * (n + 1) + 2) := by
    have h1 : k * 2 ^ (20 * n + 17) ≤ 5 * 2 ^ (20 * n + 17) := Nat.mul_le_mul_right _ (by omega)
    have h2 : 5 * 2 ^ (20 * n + 17) < 2 ^ 5 * 2 ^ (20 * n + 17) := Nat.mul_lt_mul_of_pos_right (by decide) (Nat.two_pow_pos _)
    rw [← Nat.pow_add, show 5 + (20 * n + 17) = 20 * (n + 1) + 2 by omega] at h2
    omega
   exact hb
theorem ym : ∀ (k n : Nat), n < k → n ≤ 5 → uv n (Hn k fun φ => trunc (aG 5 (iW φ)))
 | 0, n, h, _ => by omega
 | k + 1, 0, _, _ => det0 _
 | k + 1, n + 1, h, h5 => Af (by omega) (ym k n (by omega) (by omega))
theorem det' (n : Nat) (hn : n ≤ 5) : uv n dj := ym 6 n (by omega) hn
def Ij : D → D
 | .tup [_, x] => x
 | _ => .non
def vR : D → Int
 | .tup [.int j, _] => j
 | _ => 0
theorem uU (k : Nat) : ∀ (ps : List (List Int)) (s : Nat), ∃ qs : List (List Int), ((dO s (ps.map aF)).filter (fun d => vR d != (k : Int))).map Ij = qs.map aF ∧ (∀ q ∈ qs, q ∈ ps) ∧ qs.length = ps.length - (if s ≤ k ∧ k < s + ps.length then 1 else 0)
 | [], s => ⟨[], rfl, by simp, by simp⟩
 | p :: ps, s => by
  obtain ⟨qs, e, hq, hl⟩ := uU k ps (s + 1)
  have e1 : dO s ((p :: ps).map aF) = .tup [.int (s : Int), aF p] :: dO (s + 1) (ps.map aF) := rfl
  rw [e1, List.filter_cons]
  by_cases h : s = k
  ·have hb : (vR (.tup [.int (s : Int), aF p]) != (k : Int)) = false := by simp [vR, h]
   rw [hb]
   refine ⟨qs, by simpa using e, fun q hq' => List.mem_cons_of_mem _ (hq q hq'), ?_⟩
   rw [hl, if_neg (by omega), if_pos (by simp; omega)]
   simp
  ·have hb : (vR (.tup [.int (s : Int), aF p]) != (k : Int)) = true := by simp [vR]; omega
   rw [hb]
   refine ⟨p :: qs, ?_, fun q hq' => ?_, ?_⟩
   ·simp only [if_true, List.map_cons, e]
    rfl
   ·rcases List.mem_cons.mp hq' with z | z
    ·rw [z]; simp
    ·exact List.mem_cons_of_mem _ (hq q z)
   ·simp only [List.length_cons, hl]
    by_cases c : s + 1 ≤ k ∧ k < s + 1 + ps.length
    ·rw [if_pos c, if_pos (by omega)]; omega
    ·rw [if_neg c, if_neg (by omega)]; omega
theorem pJ {ps : List (List Int)} {k : Nat} (h : k < ps.length) : dO k ((ps.drop k).map aF) = .tup [.int (k : Int), aF (ps.getD k [])] :: dO (k + 1) ((ps.drop (k + 1)).map aF) := by
 rw [List.drop_eq_getElem_cons h, List.map_cons]
 have : ps.getD k [] = ps[k] := by simp [List.getD, h]
 rw [this]
 rfl
theorem DW (d : Nat) (ps : List (List Int)) (μ : Mu) (hm : fH μ) (d1 : 1 ≤ d) (d3 : d ≤ 3) (hl : ps.length = d + 2) (hp : ∀ p ∈ ps, fB (d + 1) p) : ∃ ns : List Int, bZ [.lst (ps.map aF)] μ = some (aF ns, μ) ∧ ns.length = d + 2 ∧ ∀ n ∈ ns, Sm 200 n := by
 have key : ∃ t, bZ [.lst (ps.map aF)] μ = some (t, μ) ∧ ∃ ns : List Int, t = aF ns ∧ ns.length = d + 2 ∧ ∀ n ∈ ns, Sm 200 n := by
  apply tY hm
  apply lE
  unfold iT
  simp
  refine dR (fun its δ μ' => ∃ (k : Nat) (acc : List Int) (o2 o3 o4 : Option D), its = dO k ((ps.drop k).map aF) ∧ μ' = μ ++ [some (acc.map .int)] ∧ k ≤ ps.length ∧ acc.length = k ∧ (∀ n ∈ acc, Sm 200 n) ∧ δ = [some (.lst (ps.map aF)), some (.cell μ.length), o2, o3, o4]) ?_ ?_ _ _ _ ⟨0, [], none, none, none, rfl, rfl, by omega, rfl, by simp, rfl⟩
  ·rintro it its δ μ' ⟨k, acc, o2, o3, o4, hi, rfl, hkl, hal, hac, rfl⟩
   have hk : k < ps.length := by
    by_cases h : k < ps.length
    ·exact h
    ·rw [List.drop_of_length_le (by omega)] at hi; cases hi
   rw [pJ hk] at hi
   cases hi
   have hr : fB (d + 1) (ps.getD k []) := by
    have : ps.getD k [] = ps[k] := by simp [List.getD, hk]
    rw [this]; exact hp _ (List.getElem_mem hk)
   have hlast := jM hr (by omega)
   have b1 := hr.b1
   have b2 := hr.b2
   obtain ⟨qs, eq, hqm, hql⟩ := uU k ps 0
   rw [if_pos (by omega)] at hql
   have ef := iz (all := dO 0 (ps.map aF)) (h := jD 2 (bW (hName 0) (bW (hName 1) jB))) (tt := toB (M2 (ak 0) (ak 2) oNe)) (fe := ak 1) (δb := [none, none, some (.int (k : Int))]) (p := fun d => vR d != (k : Int)) (f := Ij) (μ := μ ++ [some (acc.map .int)]) (dO 0 (ps.map aF)) fun x hx => by
    obtain ⟨i, hi', e⟩ := List.getElem_of_mem hx
    obtain ⟨y, ey, _⟩ := mR (List.getElem?_eq_some_iff.mpr ⟨hi', e⟩)
    subst ey
    generalize (k : Int) = kk
    refine ⟨[some (.int ((0 + i : Nat) : Int)), some y, some (.int kk)], by simp, ?_, fun _ => by simp [Ij]⟩
    simp [vR, bne]
   rw [eq] at ef
   obtain ⟨v, ev, hv⟩ := det' (d + 1) (by omega) qs (μ ++ [some (acc.map .int)]) (by omega) fun r hr' => by
    have := hp r (hqm r hr')
    exact ⟨this.len, fun x hx => jz 10001 (by have := this.sm x hx; omega) (by decide)⟩
   obtain ⟨j0, j1⟩ := aX (x := (k : Int)) (m := 2) (by decide)
   obtain ⟨sg, hsg, esg⟩ := oN (ds := [D.int 1, .int (-1)]) j0 j1
   have hsg : ∃ z : Int, sg = .int z ∧ z.natAbs ≤ 1 := by
    simp only [List.mem_cons, List.not_mem_nil, or_false] at hsg
    rcases hsg with rfl | rfl <;> exact ⟨_, rfl, by decide⟩
   obtain ⟨sg, rfl, sg1⟩ := hsg
   have m1 := cu (x := sg) (y := v) (μ ++ [some (acc.map .int)]) (show Sm 1 sg by unfold Sm; omega) hv (by omega)
   have m2 := cu (x := sg * v) (y := bj (ps.getD k [])) (μ ++ [some (acc.map .int)]) (fW (show Sm 1 sg by unfold Sm; omega) hv) (jz (b := 6) 64 (by omega) (by decide)) (by omega)
   have hb : Sm 200 (sg * v * bj (ps.getD k [])) := gn (fW (fW (show Sm 1 sg by unfold Sm; omega) hv) (jz (b := 6) 64 (by omega) (by decide))) (by omega)
   have hz : acc.length < sizeLine := Nat.lt_of_lt_of_le (by omega : acc.length < 1000) (by decide)
   have hez : (dO 0 (ps.map aF)).length ≤ 1000 := by rw [mU]; simp; omega
   generalize qs.map aF = QD at *
   generalize bj (ps.getD k []) = lb at *
   generalize hkk : (k : Int) = kk at *
   generalize ps.getD k [] = pk at *
   simp [hez, cO, ef, esg, ev, m1, hlast, m2, gK, gJ, hz]
   refine ⟨k + 1, rfl, acc ++ [sg * v * lb], by simp, by omega, by simp [hal], fun n hn => ?_⟩
   rcases List.mem_append.mp hn with z | z
   ·exact hac n z
   ·rw [List.mem_singleton.mp z]; exact hb
  ·rintro δ μ' ⟨k, acc, o2, o3, o4, hi, rfl, hkl, hal, hac, rfl⟩
   have hk : ¬ k < ps.length := fun h => by rw [pJ h] at hi; cases hi
   simp
   exact ⟨lB.mpr iD, acc, rfl, by omega, hac⟩
 obtain ⟨t, e, ns, rfl, h⟩ := key
 exact ⟨ns, e, h⟩
theorem ww (kind : Int) (k0 : 0 ≤ kind) (k4 : kind ≤ 4) (d : Int) (d1 : 1 ≤ d) (d3 : d ≤ 3) (all : List D) (rest : Mu) (hm : fH rest) : ∀ (its : List D) (L : List Int), DlD L → ∃ (qs : List (List Int)) (L' : List Int),
  lcL ⟨all, none⟩ (hName 0) cU (MC (aj (MC (aj (ak 1) (au)) bJ) (aj (ak 2) (aj (mC (.int kind)) (aj (mC (.int 0)) (au))))) dg) [none, some (.cell 0), some (.int d)] its (some (L.map .int) :: rest) = some (qs.map aF, some (L'.map .int) :: rest) ∧ DlD L' ∧ qs.length = its.length ∧ ∀ q ∈ qs, fB (d.toNat + 1) q
 | [], L, hL => ⟨[], L, by unfold lcL; simp [bI], hL, rfl, by simp⟩
 | i :: its, L, hL => by
  obtain ⟨x, L1, e1, hx, hL1⟩ := mq yh hL rest
  obtain ⟨p, e2, ns, b, hp, hpt⟩ := yj x d kind 0 (some (L1.map .int) :: rest) hm.dr hx d1 d3 k0 k4 (by decide) (by decide)
  have hp' : p = aF (ns ++ [b]) := hp
  subst hp'
  obtain ⟨qs, L', e, hL', hl, hq⟩ := ww kind k0 k4 d d1 d3 all rest hm its L1 hL1
  refine ⟨(ns ++ [b]) :: qs, L', ?_, hL', by simp [hl], fun q hq' => ?_⟩
  ·unfold lcL
   simp [bI, cU, e1, e2, e]
  ·rcases List.mem_cons.mp hq' with z | z
   ·rw [z]; exact PtL.row hpt
   ·exact hq q z
def zT (d : Int) (ps : List (List Int)) (ns : List Int) : Prop := (∀ p ∈ ps, fB (d.toNat + 1) p) ∧ ps ≠ [] ∧ ps.length ≤ 20 ∧ 1 ≤ ns.length ∧ ns.length ≤ 20 ∧ ∀ n ∈ ns, Sm 200 n
theorem zB (x : Int) (all : List D) (μ : Mu) : ∀ (its : List D), (∀ i ∈ its, ∃ k : Int, i = .int k ∧ 0 ≤ k ∧ k < 100) → ∃ zs : List Int,
  lcL ⟨all, none⟩ (hName 0) cU (M2 (M2 (MC (aj (ak 1) (aj (M2 (ak 0) (mC (.int 2)) aU) (au))) aR) (mC (.int 9)) oMod) (mC (.int 4)) gH) [none, some (.int x)] its μ = some (zs.map .int, μ) ∧ zs.length = its.length ∧ ∀ z ∈ zs, z.natAbs ≤ 4
 | [], _ => ⟨[], by unfold lcL; simp [bI], rfl, by simp⟩
 | i :: its, hi => by
  obtain ⟨k, rfl, k0, k1⟩ := hi i (by simp)
  obtain ⟨r, er, hr⟩ := Ir x (k + 2) μ (by omega) (by omega)
  obtain ⟨zs, e, hl, hz⟩ := zB x all μ its fun j hj => hi j (by simp [hj])
  obtain ⟨q0, q1⟩ := aX (x := r) (m := 9) (by decide)
  refine ⟨(r.fmod 9 - 4) :: zs, ?_, by simp [hl], fun z hz' => ?_⟩
  ·unfold lcL
   simp [bI, cU, er, e]
  ·rcases List.mem_cons.mp hz' with h | h
   ·rw [h]; omega
   ·exact hz z h
theorem Dj (ns : List Int) (μ : Mu) (hl : ns.length ≤ 50) (hne : ns ≠ []) : bu [.lst (ns.map .int), .int 1] μ = some (aF (ns ++ [1]), μ) := by
 have e := JR ns 1 μ (by decide) (by unfold Sm; decide) hl hne
 have e1 : sgn 1 = 1 := if_pos (by decide)
 have e2 : dX (1 : Int).natAbs ns = 1 := uy ns
 rw [e1, e2] at e
 rw [e]
 have : (fun n : Int => D.int (n.fdiv (1 * ((1 : Nat) : Int)))) = D.int := by
  funext n
  show D.int (n.fdiv 1) = D.int n
  rw [Int.fdiv_one]
 rw [this]
 rfl
theorem GJ {k : Int} {μ : Mu} (h0 : 0 ≤ k) (h1 : k ≤ 500) : bH (.tup [.int 0]) (.int k) μ = some (aF (List.replicate k.toNat 0), μ) := by
 have : bH (.tup [.int 0]) (.int k) μ = some (.tup (List.replicate k.toNat [D.int 0]).flatten, μ) := if_pos ⟨by omega, by omega, by
  simp only [List.length_cons, List.length_nil]
  exact Nat.le_trans (by omega : _ ≤ 1000) (by decide)⟩
 rw [this]
 unfold aF
 simp
theorem jQ (a b : List Int) (μ : Mu) (h : a.length + b.length ≤ 1000) : aU (aF a) (aF b) μ = some (aF (a ++ b), μ) := by
 show (if (a.map D.int).length + (b.map D.int).length ≤ sizeLine then some (D.tup (a.map D.int ++ b.map D.int), μ) else none) = _
 rw [if_pos (Nat.le_trans (by simpa using h) (by decide : 1000 ≤ sizeLine)), ← List.map_append]
 rfl
theorem row1 {n : Nat} {g : List Int} (hl : g.length = n) (h : ∀ x ∈ g, x.natAbs ≤ 10000) : fB (n + 1) (g ++ [1]) := ⟨by simp [hl], fun x hx => by
 rcases List.mem_append.mp hx with z | z
 ·exact h x z
 ·rw [List.mem_singleton.mp z]; decide, by unfold bj; simp, by unfold bj; simp⟩
theorem HN (i : Nat) (ds : List D) (δ : En) (μ : Mu) (h : ak i δ μ = some (.lst ds, μ)) (hl : ds.length ≤ 400) : M2 (MC (aj (mC (.int 0)) (au)) oTup) (MC (aj (ak i) (au)) (aO bN)) bH δ μ = some (aF (List.replicate ds.length 0), μ) := by
 have e1 : MC (aj (mC (.int 0)) (au)) oTup δ μ = some (.tup [.int 0], μ) := by simp
 have e2 : MC (aj (ak i) (au)) (aO bN) δ μ = some (.int ds.length, μ) := by
  rw [Bx, nO, h]
  simp only [Option.bind_some, rQ, FJ, Hc]
 obtain ⟨k, hk⟩ : ∃ k : Int, k = ds.length := ⟨_, rfl⟩
 rw [← hk] at e2
 have e3 := GJ (k := k) (μ := μ) (by omega) (by omega)
 rw [show k.toNat = ds.length by omega] at e3
 generalize MC (aj (mC (.int 0)) (au)) oTup = F at *
 generalize MC (aj (ak i) (au)) (aO bN) = G at *
 rw [Cd, e1]
 simp only [Option.bind_some]
 rw [e2]
 simp only [Option.bind_some]
 exact e3
theorem sz3 {n : Nat} (h : n ≤ 1000) : n ≤ sizeLine := Nat.le_trans h (by decide)
theorem ni (r : List Int) : nc (aF r) := lB.mpr iD
theorem Ey (qs : List (List Int)) : nc (.lst (qs.map aF)) := pB.mpr fun d h => by
 obtain ⟨q, _, rfl⟩ := List.mem_map.mp h
 exact ni q
theorem Eu (qs : List (List Int)) (ns : List Int) : nc (.tup [.lst (qs.map aF), aF ns]) := lB.mpr fun d h => by
 simp only [List.mem_cons, List.not_mem_nil, or_false] at h
 rcases h with rfl | rfl
 ·exact Ey qs
 ·exact ni ns
def KnP (d : Int) (t : D) (μ' : Mu) : Prop := ∃ (ps : List (List Int)) (ns L' : List Int), t = .tup [.lst (ps.map aF), aF ns] ∧ μ' = [some (L'.map .int)] ∧ DlD L' ∧ zT d ps ns
theorem KnP.fin {d : Int} {ps : List (List Int)} {ns L' : List Int} {t : D} {junk : Mu} (ht : t = .tup [.lst (ps.map aF), aF ns]) (hL : DlD L') (h : zT d ps ns) : ∃ μ', (∃ x, (some (L'.map D.int) :: junk : Mu) = μ' ++ x) ∧ μ'.length = 1 ∧ fH μ' ∧ nc t ∧ KnP d t μ' :=
 ⟨[some (L'.map .int)], ⟨junk, rfl⟩, rfl, fH.dr fH.nil, by rw [ht]; exact Eu ps ns, ps, ns, L', ht, rfl, hL, h⟩
theorem xP {n : Nat} : ∀ x ∈ List.replicate n (0 : Int), Sm 200 x := fun x hx => by
 rw [(List.mem_replicate.mp hx).2]; unfold Sm; decide
theorem zN {x : Int} (h : x.natAbs < 1000) : Sm 200 x := gn (jz (b := 10) 1000 h (by decide)) (by decide)
theorem Im {d : Int} {L1 : List Int} {p0 : List Int} {qs : List (List Int)} {M : List D} (hM : qs.map aF = M) (hl : qs.length ≤ 3) (hp : fB (d.toNat + 1) p0) (hq : ∀ q ∈ qs, fB (d.toNat + 1) q) :
  zT d (p0 :: qs ++ [p0]) (1 :: List.replicate M.length 0 ++ [-1]) ∧ D.lst (aF p0 :: (M ++ [aF p0])) = .lst ((p0 :: qs ++ [p0]).map aF) := by
 subst hM
 refine ⟨⟨fun p h => ?_, by simp, by simp; omega, by simp, by simp; omega, fun n hn => ?_⟩, by simp⟩
 ·simp only [List.cons_append, List.mem_cons, List.mem_append, List.not_mem_nil, or_false] at h
  rcases h with rfl | h | rfl
  ·exact hp
  ·exact hq p h
  ·exact hp
 ·simp only [List.cons_append, List.mem_cons, List.mem_append, List.not_mem_nil, or_false] at hn
  rcases hn with rfl | h | rfl
  ·exact zN (by decide)
  ·exact xP _ h
  ·exact zN (by decide)
theorem zZ {d : Int} {qs rs : List (List Int)} {ns : List Int} (hl : qs.length ≤ 3) (hr : rs.length ≤ 5) (hr1 : rs ≠ []) (hq : ∀ q ∈ qs, fB (d.toNat + 1) q) (hrr : ∀ q ∈ rs, fB (d.toNat + 1) q) (hn1 : 1 ≤ ns.length) (hn : ns.length ≤ 5) (hs : ∀ n ∈ ns, Sm 200 n) :
  zT d (rs ++ qs) (ns ++ List.replicate qs.length 0) := by
 refine ⟨fun p h => ?_, by simp [hr1], by simp; omega, by simp; omega, by simp; omega, fun n h => ?_⟩
 ·rcases List.mem_append.mp h with z | z
  ·exact hrr p z
  ·exact hq p z
 ·rcases List.mem_append.mp h with z | z
  ·exact hs n z
  ·exact xP _ z
theorem DX (p : D) (μ : Mu) : oLst [p] μ = some (.lst [p], μ) := if_pos (sz3 (by simp))
theorem Ew (p : D) (μ : Mu) : oTup [p] μ = some (.tup [p], μ) := if_pos (sz3 (by simp))
theorem tE (p q : D) (μ : Mu) : oTup [p, q] μ = some (.tup [p, q], μ) := if_pos (sz3 (by simp))
theorem yJ (p q r : D) (μ : Mu) : oTup [p, q, r] μ = some (.tup [p, q, r], μ) := if_pos (sz3 (by simp))
theorem pI (a b : List D) (μ : Mu) (h : a.length + b.length ≤ 1000) : aU (.lst a) (.lst b) μ = some (.lst (a ++ b), μ) := if_pos (sz3 h)
noncomputable def E1 (ZM : EF) : EF := MC (aj (M2 (M2 (MC (aj (ak 3) (au)) oLst) (ak 4) aU) (MC (aj (ak 3) (au)) oLst) aU) (aj (M2 (M2 (MC (aj (mC (.int 1)) (au)) oTup) ZM aU) (MC (aj (M1 (mC (.int 1)) ik) (au)) oTup) aU) (au))) oTup
theorem ret1 {δ : En} {μ : Mu} {p : D} {M : List D} {Z : List Int} {ZM : EF} (h3 : ak 3 δ μ = some (p, μ)) (h4 : ak 4 δ μ = some (.lst M, μ)) (hz : ZM δ μ = some (aF Z, μ)) (hM : M.length ≤ 10) (hZ : Z.length ≤ 10) :
  E1 ZM δ μ = some (.tup [.lst ([p] ++ M ++ [p]), aF ([1] ++ Z ++ [-1])], μ) := by
 have a2 := pI [p] M μ (by simp; omega)
 have a3 := pI ([p] ++ M) [p] μ (by simp; omega)
 have r2 : aU (.tup [.int 1]) (aF Z) μ = _ := jQ [1] Z μ (by simp; omega)
 have r3 : aU (aF ([1] ++ Z)) (.tup [.int (-1)]) μ = _ := jQ ([1] ++ Z) [-1] μ (by simp; omega)
 unfold E1
 simp only [Bx, nO, rQ, Cd, w_m1, w_c, Kc, h3, h4, hz, Option.bind_some, DX, Ew, tE, a2, a3, r2, r3]
noncomputable def E2 (ZM : EF) : EF := MC (aj (mFz (sG (ak 9) (ak 4))) (aj (M2 (MC (aj (M2 (ak 7) (ak 8) gH) (aj (M2 (ak 8) (ak 6) gH) (aj (M2 (ak 6) (ak 7) gH) (au)))) oTup) ZM aU) (au))) oTup
theorem ret2 {δ : En} {μ : Mu} {a b c : Int} {M A : List D} {Z : List Int} {ZM : EF} (h6 : ak 6 δ μ = some (.int a, μ)) (h7 : ak 7 δ μ = some (.int b, μ)) (h8 : ak 8 δ μ = some (.int c, μ)) (h9 : ak 9 δ μ = some (.cell 1, μ)) (hc : (μ[1]?).join = some A) (h4 : ak 4 δ μ = some (.lst M, μ)) (hz : ZM δ μ = some (aF Z, μ)) (hM : M.length ≤ 10) (hA : A.length ≤ 10) (hZ : Z.length ≤ 10) :
  E2 ZM δ μ = some (.tup [.lst (A ++ M), aF ([b - c, c - a, a - b] ++ Z)], μ) := by
 have l1 : lW (.cell 1) μ = some A := hc
 have l2 : lW (.lst M) μ = some M := rfl
 have e1 : mFz (sG (ak 9) (ak 4)) δ μ = some (.lst (A ++ M), μ) := by
  simp only [w_fz, HR, h9, h4, Option.bind_some, l1, l2]
  rw [if_pos (sz3 (by omega))]
  rfl
 have r2 : aU (.tup [.int (b - c), .int (c - a), .int (a - b)]) (aF Z) μ = _ := jQ [b - c, c - a, a - b] Z μ (by simp; omega)
 unfold E2
 simp only [Bx, nO, rQ, Cd, w_c, e1, h6, h7, h8, hz, Option.bind_some, Jz, yJ, tE, r2]
noncomputable def E3 (ZM : EF) : EF := MC (aj (M2 (ak 11) (ak 4) aU) (aj (M2 (MC (aj (ak 11) (au)) bZ) ZM aU) (au))) oTup
theorem ret3 {δ : En} {μ : Mu} {M A : List D} {N Z : List Int} {ZM : EF} (h11 : ak 11 δ μ = some (.lst A, μ)) (hm : bZ [.lst A] μ = some (aF N, μ)) (h4 : ak 4 δ μ = some (.lst M, μ)) (hz : ZM δ μ = some (aF Z, μ)) (hM : M.length ≤ 10) (hA : A.length ≤ 10) (hN : N.length ≤ 10) (hZ : Z.length ≤ 10) :
  E3 ZM δ μ = some (.tup [.lst (A ++ M), aF (N ++ Z)], μ) := by
 have a2 := pI A M μ (by omega)
 have r2 := jQ N Z μ (by omega)
 unfold E3
 simp only [Bx, nO, rQ, Cd, h11, h4, hm, hz, Option.bind_some, a2, r2, tE]
theorem HW (L : List Int) (hL : DlD L) (d : Int) (d1 : 1 ≤ d) (d3 : d ≤ 3) : ∃ (ps : List (List Int)) (ns L' : List Int), dW [.cell 0, .int d] [some (L.map .int)] = some (.tup [.lst (ps.map aF), aF ns], [some (L'.map .int)]) ∧ DlD L' ∧ zT d ps ns := by
 suffices key : ∃ t μ', dW [.cell 0, .int d] [some (L.map .int)] = some (t, μ') ∧ KnP d t μ' by
  obtain ⟨t, μ', e, ps, ns, L', rfl, rfl, h1, h2⟩ := key
  exact ⟨ps, ns, L', e, h1, h2⟩
 apply GX
 apply lE
 obtain ⟨x, L1, e1, hx, hL1⟩ := mq yh hL []
 obtain ⟨p, e2, n0, b0, hp, hpt⟩ := yj x d 2 0 [some (L1.map .int)] fH.nil.dr hx d1 d3 (by decide) (by decide) (by decide) (by decide)
 have hp : p = aF (n0 ++ [b0]) := hp
 subst hp
 have hpr := PtL.row hpt
 generalize n0 ++ [b0] = p0 at *
 obtain ⟨j0, j1⟩ := aX (x := x) (m := 4) (by decide)
 obtain ⟨qs, L2, e3, hL2, hql, hq⟩ := ww 1 (by decide) (by decide) d d1 d3 (dZ 0 (x.fmod 4).toNat) [] fH.nil (dZ 0 (x.fmod 4).toNat) L1 hL1
 rw [gU] at hql
 have rj := vL (j := x.fmod 4) (μ := [some (L1.map .int)]) (by omega) (by omega)
 have zj : (x.fmod 4).toNat ≤ sizeLine := sz3 (by omega)
 have v4 := fun μ => qj (i := x) (j := 4) (μ := μ) (by decide) (by decide)
 have hq3 : qs.length ≤ 3 := by omega
 generalize hM : qs.map aF = M at *
 have hMl : M.length = qs.length := by rw [← hM]; simp
 have zl := fun (δ : En) (μ : Mu) (h : ak 4 δ μ = some (.lst M, μ)) => HN 4 M δ μ h (by omega)
 unfold jU
 generalize hc : (x.fdiv 4).fmod 3 = c at *
 have f1 : MC (aj (M2 (M2 (MC (aj (ak 3) (au)) oLst) (ak 4) aU) (MC (aj (ak 3) (au)) oLst) aU) (aj (M2 (M2 (MC (aj (mC (.int 1)) (au)) oTup) (M2 (MC (aj (mC (.int 0)) (au)) oTup) (MC (aj (ak 4) (au)) (aO bN)) bH) aU) (MC (aj (M1 (mC (.int 1)) ik) (au)) oTup) aU) (au))) oTup = E1 (M2 (MC (aj (mC (.int 0)) (au)) oTup) (MC (aj (ak 4) (au)) (aO bN)) bH) := rfl
 have f2 : MC (aj (mFz (sG (ak 9) (ak 4))) (aj (M2 (MC (aj (M2 (ak 7) (ak 8) gH) (aj (M2 (ak 8) (ak 6) gH) (aj (M2 (ak 6) (ak 7) gH) (au)))) oTup) (M2 (MC (aj (mC (.int 0)) (au)) oTup) (MC (aj (ak 4) (au)) (aO bN)) bH) aU) (au))) oTup = E2 (M2 (MC (aj (mC (.int 0)) (au)) oTup) (MC (aj (ak 4) (au)) (aO bN)) bH) := rfl
 have f3 : MC (aj (M2 (ak 11) (ak 4) aU) (aj (M2 (MC (aj (ak 11) (au)) bZ) (M2 (MC (aj (mC (.int 0)) (au)) oTup) (MC (aj (ak 4) (au)) (aO bN)) bH) aU) (au))) oTup = E3 (M2 (MC (aj (mC (.int 0)) (au)) oTup) (MC (aj (ak 4) (au)) (aO bN)) bH) := rfl
 rw [f1, f2, f3]
 clear f1 f2 f3
 generalize M2 (MC (aj (mC (.int 0)) (au)) oTup) (MC (aj (ak 4) (au)) (aO bN)) bH = ZM at *
 by_cases h0 : c = 0
 ·subst h0
  obtain ⟨k1, k2⟩ := Im (d := d) (L1 := L1) (p0 := p0) hM hq3 hpr hq
  have er := ret1 (p := aF p0) (ZM := ZM) (δ := [some (.cell 0), some (.int d), some (.int x), some (aF p0), some (.lst M), none, none, none, none, none, none, none]) (μ := [some (L2.map .int)]) rfl rfl (zl _ _ rfl) (by omega) (by simp; omega)
  generalize E1 ZM = F1 at *
  generalize E2 ZM = F2 at *
  generalize E3 ZM = F3 at *
  simp [e1, e2, rj, gU, zj, cO, e3, v4, hc, er, -List.cons_append, -List.append_assoc, -List.singleton_append]
  refine KnP.fin ?_ hL2 k1
  rw [← k2]
  rfl
 ·have h0b : (c == 0) = false := by simpa using h0
  obtain ⟨zs, e5, zsl, hz⟩ := zB x (dZ 0 d.toNat) [some (L2.map .int)] (dZ 0 d.toNat) (fun i hi => by
   obtain ⟨k, rfl, k0, k1⟩ := yp hi
   exact ⟨k, rfl, by omega, by omega⟩)
  rw [gU] at zsl
  have rd := vL (j := d) (μ := [some (L2.map .int)]) (by omega) (by omega)
  have zd : d.toNat ≤ sizeLine := sz3 (by omega)
  have v12 := fun μ => qj (i := x) (j := 12) (μ := μ) (by decide) (by decide)
  have v84 := fun μ => qj (i := x) (j := 84) (μ := μ) (by decide) (by decide)
  have v900 := fun μ => qj (i := x) (j := 900) (μ := μ) (by decide) (by decide)
  obtain ⟨a0, a1⟩ := aX (x := x.fdiv 12) (m := 7) (by decide)
  obtain ⟨b0', b1'⟩ := aX (x := x.fdiv 84) (m := 11) (by decide)
  obtain ⟨c0, c1⟩ := aX (x := x.fdiv 900) (m := 9) (by decide)
  generalize hav : (x.fdiv 12).fmod 7 = av at *
  generalize hbv : (x.fdiv 84).fmod 11 = bv at *
  generalize hcv : (x.fdiv 900).fmod 9 = cv at *
  simp [e1, e2, rj, gU, zj, cO, e3, v4, hc, h0b, rd, zd, e5, v12, v84, v900, hav, hbv, hcv]
  refine dR (fun its δ μ' => ∃ (ts : List Int) (acc : List (List Int)) (o : Option D), its = ts.map .int ∧ (∀ t ∈ ts, t.natAbs ≤ 11) ∧ acc.length + ts.length = 3 ∧ (∀ q ∈ acc, fB (d.toNat + 1) q) ∧ μ' = [some (L2.map .int), some (acc.map aF)] ∧ δ = [some (.cell 0), some (.int d), some (.int x), some (aF p0), some (.lst M), some (.lst (zs.map .int)), some (.int av), some (.int (bv - 9)), some (.int (cv + 3)), some (.cell 1), o, none]) ?_ ?_ _ _ _ ⟨[av, bv - 9, cv + 3], [], none, rfl, fun t ht => ?_, rfl, by simp, rfl, rfl⟩
  ·rintro it its δ μ' ⟨ts, acc, o, hi, ht, hl, ha, rfl, rfl⟩
   cases ts with
   | nil => cases hi
   | cons t ts =>
    cases hi
    have htb := ht t (by simp)
    have el := eO (all := zs.map .int) (h := hName 0) (fe := M2 (mC (.int 5)) (M2 (ak 1) (ak 0) bH) aU) (δb := [none, some (.int t)]) (F := D.int) (f := fun z => .int (5 + t * z)) (μ := [some (L2.map .int), some (acc.map aF)]) zs fun z hz' => by
     have hzb := hz z hz'
     have em := cu (x := t) (y := z) [some (L2.map .int), some (acc.map aF)] (jz (b := 4) 12 (by omega) (by decide)) (jz (b := 4) 12 (by omega) (by decide)) (by decide)
     exact ⟨[some (.int z), some (.int t)], by simp, by simp [em]⟩
    have el' : zs.map (fun z => D.int (5 + t * z)) = (zs.map fun z => 5 + t * z).map D.int := by simp
    rw [el'] at el
    have hrl : (zs.map fun z => 5 + t * z).length = d.toNat := by simp [zsl]
    have hrb : ∀ n ∈ zs.map (fun z => 5 + t * z), n.natAbs ≤ 10000 := fun n hn => by
     obtain ⟨z, hz', rfl⟩ := List.mem_map.mp hn
     have h1 := hz z hz'
     have h2 : (t * z).natAbs ≤ 11 * 4 := by rw [Int.natAbs_mul]; exact Nat.mul_le_mul htb h1
     have := Int.natAbs_add_le 5 (t * z)
     have h5 : (5 : Int).natAbs = 5 := rfl
     omega
    have eo := Dj (zs.map fun z => 5 + t * z) [some (L2.map .int), some (acc.map aF)] (by omega) (fun z => by rw [z] at hrl; simp at hrl; omega)
    have hro := row1 (n := d.toNat) hrl hrb
    generalize (zs.map fun z => 5 + t * z) = ws at *
    have hzz : (zs.map D.int).length ≤ sizeLine := sz3 (by simp; omega)
    generalize zs.map D.int = zD at *
    generalize ws.map D.int = wD at *
    have hac : (acc.map aF).length < sizeLine := Nat.lt_of_lt_of_le (by simp at hl ⊢; omega : _ < 1000) (by decide)
    generalize hAA : acc.map aF = AA at *
    simp [hzz, cO, el, eo, gK, gJ, hac]
    refine ⟨ts, rfl, fun t' h' => ht t' (by simp [h']), acc ++ [ws ++ [1]], by simp at hl ⊢; omega, fun q hq' => ?_, by simp [hAA]⟩
    rcases List.mem_append.mp hq' with z | z
    ·exact ha q z
    ·rw [List.mem_singleton.mp z]; exact hro
  ·rintro δ μ' ⟨ts, acc, o, hi, ht, hl, ha, rfl, rfl⟩
   cases ts with
   | cons t ts => cases hi
   | nil =>
   have hal : acc.length = 3 := by simpa using hl
   by_cases h1 : c = 1
   ·subst h1
    have hk := zZ (d := d) (qs := qs) (rs := acc) (ns := [bv - 9 - (cv + 3), cv + 3 - av, av - (bv - 9)]) hq3 (by omega) (fun z => by rw [z] at hal; cases hal) hq ha (by simp) (by simp) (fun n hn => by
     simp only [List.mem_cons, List.not_mem_nil, or_false] at hn
     rcases hn with rfl | rfl | rfl <;> exact zN (by omega))
    have hcat : acc.map aF ++ M = (acc ++ qs).map aF := by rw [← hM]; simp
    have er := ret2 (ZM := ZM) (δ := [some (.cell 0), some (.int d), some (.int x), some (aF p0), some (.lst M), some (.lst (zs.map .int)), some (.int av), some (.int (bv - 9)), some (.int (cv + 3)), some (.cell 1), o, none]) (μ := [some (L2.map .int), some (acc.map aF)]) rfl rfl rfl rfl rfl rfl (zl _ _ rfl) (by omega) (by simp; omega) (by simp; omega)
    rw [hMl] at er
    generalize [bv - 9 - (cv + 3), cv + 3 - av, av - (bv - 9)] ++ List.replicate qs.length 0 = NN at *
    generalize E2 ZM = F2 at *
    generalize E3 ZM = F3 at *
    generalize hAA : acc.map aF = AA at *
    simp [v4, hc, er]
    refine KnP.fin (ps := acc ++ qs) ?_ hL2 hk
    rw [hcat]
   ·have h1b : (c == 1) = false := by simpa using h1
    obtain ⟨ps, L3', e7, hL3, hpl, hpp⟩ := ww 2 (by decide) (by decide) d d1 d3 (dZ 0 (d + 2).toNat) [some (acc.map aF)] (fH.cons (fun x hx => by obtain ⟨q, _, rfl⟩ := List.mem_map.mp hx; exact ni q) fH.nil) (dZ 0 (d + 2).toNat) L2 hL2
    rw [gU] at hpl
    obtain ⟨ms, em, hml, hms⟩ := DW d.toNat ps [some (L3'.map .int), some (acc.map aF)] (fH.dr (fH.cons (fun x hx => by obtain ⟨q, _, rfl⟩ := List.mem_map.mp hx; exact ni q) fH.nil)) (by omega) (by omega) (by omega) hpp
    have rd2 := vL (j := d + 2) (μ := [some (L2.map .int), some (acc.map aF)]) (by omega) (by omega)
    have zd2 : (d + 2).toNat ≤ sizeLine := sz3 (by omega)
    have hk := zZ (d := d) (qs := qs) (rs := ps) (ns := ms) hq3 (by omega) (fun z => by rw [z] at hpl; simp at hpl; omega) hq hpp (by omega) (by omega) hms
    have hcat : ps.map aF ++ M = (ps ++ qs).map aF := by rw [← hM]; simp
    have er := ret3 (ZM := ZM) (δ := [some (.cell 0), some (.int d), some (.int x), some (aF p0), some (.lst M), some (.lst (zs.map .int)), some (.int av), some (.int (bv - 9)), some (.int (cv + 3)), some (.cell 1), o, some (.lst (ps.map aF))]) (μ := [some (L3'.map .int), some (acc.map aF)]) rfl em rfl (zl _ _ rfl) (by omega) (by simp; omega) (by omega) (by simp; omega)
    rw [hMl] at er
    generalize ms ++ List.replicate qs.length 0 = NN at *
    generalize E2 ZM = F2 at *
    generalize E3 ZM = F3 at *
    generalize hAA : acc.map aF = AA at *
    generalize hPP : ps.map aF = PP at *
    simp [v4, hc, h1b, rd2, gU, zd2, cO, e7, er]
    refine KnP.fin (ps := ps ++ qs) ?_ hL3 hk
    rw [hcat]
  ·simp only [List.mem_cons, List.not_mem_nil, or_false] at ht
   rcases ht with rfl | rfl | rfl <;> omega
def Tq (t : D) : Prop := nc t ∧ smT t
theorem mK {ds : List D} (h1 : ∀ d ∈ ds, nc d) (h2 : ∀ i, D.int i ∈ ds → Sm 2000 i) : Tq (.tup ds) := ⟨lB.mpr h1, h2⟩
theorem vP {r : List Int} (h : ∀ i ∈ r, Sm 2000 i) : Tq (aF r) := mK iD fun i hi => by
 obtain ⟨n, hn, e⟩ := List.mem_map.mp hi
 have e : n = i := by simpa using e
 rw [← e]
 exact h n hn
def smI : D → Bool
 | .int i => decide (i.natAbs < 2 ^ 300)
 | _ => true
def smA : D → Bool
 | .tup ds => ds.all smI
 | d => smI d
theorem Cj {i : Int} (h : smI (.int i) = true) : Sm 2000 i := Nat.lt_of_lt_of_le (of_decide_eq_true h) (Nat.pow_le_pow_right (by decide) (by decide))
theorem zX : sZ.all smA = true := by
 unfold sZ
 simp only [List.all_cons, List.all_nil, smA, smI, Bool.and_true, Bool.and_eq_true, decide_eq_true_eq]
 decide
theorem El : ∀ d ∈ sZ, smT d ∧ ∀ i, d = .int i → Sm 2000 i := fun d h => by
 have h2 := List.all_eq_true.mp zX d h
 refine ⟨?_, fun i e => by subst e; exact Cj h2⟩
 cases d with
 | tup ds => exact fun i hi => Cj (List.all_eq_true.mp h2 _ hi)
 | _ => trivial
theorem xQ {n : Nat} {o d : D} (h : d ∈ (List.replicate n [o]).flatten) : d = o := by
 obtain ⟨l, hl, hd⟩ := List.mem_flatten.mp h
 rw [(List.mem_replicate.mp hl).2] at hd
 exact List.mem_singleton.mp hd
theorem tR {n : Nat} {o : D} (h1 : nc o) (h2 : ∀ i, o = .int i → Sm 2000 i) : Tq (.tup (List.replicate n [o]).flatten) := mK (fun d h => by rw [xQ h]; exact h1) fun i h => h2 i (xQ h).symm
theorem BR {d : D} (h1 : nc d) (h : ∀ ds, d ≠ .tup ds) : Tq d := ⟨h1, by cases d <;> first | trivial | exact absurd rfl (h _)⟩
theorem mulT {o : D} {k : Int} {μ : Mu} (h0 : 0 ≤ k) (h1 : k ≤ 100) : bH (.tup [o]) (.int k) μ = some (.tup (List.replicate k.toNat [o]).flatten, μ) := if_pos ⟨by omega, by omega, sz3 (by simp; omega)⟩
theorem Ex (ns : List Int) (x : Int) (μ : Mu) (hm : fH μ) (h1 : 1 ≤ ns.length) (h2 : ns.length ≤ 20) (hs : ∀ n ∈ ns, Sm 200 n) : ∃ ts, dq [aF ns, .int x] μ = some (.lst ts, μ) ∧ ∀ t ∈ ts, Tq t := by
 suffices key : ∃ t, dq [aF ns, .int x] μ = some (t, μ) ∧ ∃ ts, t = .lst ts ∧ ∀ t ∈ ts, Tq t by
  obtain ⟨t, e, ts, rfl, h⟩ := key
  exact ⟨ts, e, h⟩
 apply tY hm
 apply lE
 obtain ⟨k, hk⟩ : ∃ k : Int, k = ns.length := ⟨_, rfl⟩
 have eL : ∀ μ, bN (aF ns) μ = some (.int k, μ) := fun μ => by rw [hk]; exact yc
 obtain ⟨i0, i1⟩ := aX (x := x) (m := k) (by omega)
 have wm := jb (x := x) (y := k) μ (by omega)
 have v41 := qj (i := x) (j := 41) (μ := μ) (by decide) (by decide)
 obtain ⟨o, eo, ho⟩ := Dl (x.fdiv 41) μ
 have eo : gm [.int (x.fdiv 41)] μ = some (o, μ) := eo
 have hon := DR o ho
 obtain ⟨hos, hoi⟩ := El o ho
 have ep := put' (ns.map .int) (x.fmod k) o μ i0 (by simp; omega) (by simp; omega)
 have hsn : ∀ n ∈ ns, Sm 2000 n := fun n h => gn (hs n h) (by decide)
 have t0 : Tq (.tup ((ns.map D.int).take (x.fmod k).toNat ++ o :: (ns.map D.int).drop ((x.fmod k).toNat + 1))) := mK (fun d hd => by
   rcases List.mem_append.mp hd with z | z
   ·exact iD d (List.mem_of_mem_take z)
   ·rcases List.mem_cons.mp z with z | z
    ·rw [z]; exact hon
    ·exact iD d (List.mem_of_mem_drop z)) fun i hd => by
   have fin : D.int i ∈ ns.map D.int → Sm 2000 i := fun h => by
    obtain ⟨n, hn, e⟩ := List.mem_map.mp h
    have e : n = i := by simpa using e
    rw [← e]; exact hsn n hn
   rcases List.mem_append.mp hd with z | z
   ·exact fin (List.mem_of_mem_take z)
   ·rcases List.mem_cons.mp z with z | z
    ·exact hoi i z.symm
    ·exact fin (List.mem_of_mem_drop z)
 have ep' : gW [aF ns, .int (x.fmod k), o] μ = _ := ep
 generalize D.tup ((ns.map D.int).take (x.fmod k).toNat ++ o :: (ns.map D.int).drop ((x.fmod k).toNat + 1)) = T0 at *
 have m1 := fun (o : D) (μ : Mu) => mulT (o := o) (k := k) (μ := μ) (by omega) (by omega)
 have m2 := fun (o : D) (μ : Mu) => mulL (ds := [o]) (k := k) (μ := μ) (by omega) (by omega) (by simp; omega)
 have m1o := fun μ => m1 o μ
 have m1b := fun μ => m1 (.int (10 ^ 60)) μ
 have m2f := fun μ => m2 (.bl false) μ
 have m2n := fun μ => m2 .non μ
 clear m1 m2
 have t2 : Tq (.tup (List.replicate k.toNat [o]).flatten) := tR hon hoi
 have tf : Tq (.tup (List.replicate k.toNat [D.bl false]).flatten) := tR (by unfold nc cLt; rfl) (fun i e => by cases e)
 have tn : Tq (.tup (List.replicate k.toNat [D.non]).flatten) := tR (by unfold nc cLt; rfl) (fun i e => by cases e)
 have tb : Tq (.tup (List.replicate k.toNat [D.int (10 ^ 60)]).flatten) := tR zP (fun i e => by cases e; exact gn (jz (b := 300) (2 ^ 300) (by decide) (by decide)) (by decide))
 have e60 : ∀ μ, jl (.int 10) (.int 60) μ = some (.int (10 ^ 60), μ) := fun μ => by unfold jl; rfl
 have s60 : Sm 300 (10 ^ 60 : Int) := by unfold Sm; decide
 have el1 := fun μ => eO (all := ns.map .int) (h := hName 0) (fe := M2 (M2 (mC (.int 10)) (mC (.int 60)) jl) (ak 0) bH) (δb := [none]) (F := D.int) (f := fun n => .int (10 ^ 60 * n)) (μ := μ) ns fun n hn => by
  have em := cu (x := (10 ^ 60 : Int)) (y := n) μ s60 (hs n hn) (by decide)
  exact ⟨[some (.int n)], by simp, by simp [e60, em, -Int.reducePow]⟩
 have el1' : ns.map (fun n => D.int (10 ^ 60 * n)) = (ns.map fun n => 10 ^ 60 * n).map D.int := by simp
 rw [el1'] at el1
 have t6 : Tq (.tup ((ns.map fun n => 10 ^ 60 * n).map D.int)) := vP (r := ns.map fun n => 10 ^ 60 * n) fun i hi => by
  obtain ⟨n, hn, rfl⟩ := List.mem_map.mp hi
  exact gn (fW s60 (hs n hn)) (by decide)
 generalize (ns.map fun n => 10 ^ 60 * n).map D.int = W6 at *
 have el2 := fun μ => iz (all := ns.map .int) (h := hName 0) (tt := jF (toB (M2 (ak 0) (mC (.int 1)) oNe)) (toB (M2 (ak 0) (mC (.int 0)) oNe))) (fe := ak 0) (δb := [none]) (p := fun d => intOf d != 1 && intOf d != 0) (f := id) (μ := μ) (ns.map .int) fun d hd => by
  obtain ⟨n, hn, rfl⟩ := List.mem_map.mp hd
  refine ⟨[some (.int n)], by simp, ?_, fun _ => by simp⟩
  apply FT
  by_cases h : n = 1
  ·subst h; simp
  ·have hb : (n == 1) = false := by simpa using h
   simp [hb, bne]
 have hpu : dD (((ns.map D.int).filter fun d => intOf d != 1 && intOf d != 0).map id) = true ∧ gO (((ns.map D.int).filter fun d => intOf d != 1 && intOf d != 0).map id) < 90 := by
  rw [List.map_id]
  have : (ns.map D.int).filter (fun d => intOf d != 1 && intOf d != 0) = (((ns.map D.int).filter (fun d => intOf d != 1 && intOf d != 0)).map intOf).map D.int := ints_of (by
   rw [List.all_eq_true]
   intro x hx
   obtain ⟨n, _, rfl⟩ := List.mem_map.mp (List.mem_filter.mp hx).1
   rfl)
  rw [this]
  exact ⟨jh _, by rw [jN]; decide⟩
 generalize ((ns.map D.int).filter fun d => intOf d != 1 && intOf d != 0).map id = FF0 at *
 have eqn := fun μ => sE (μ := μ) hpu.1 hpu.2
 have el3 := fun μ => eO (all := ns.map .int) (h := hName 0) (fe := M2 (ak 0) (mC (.int 1)) oEq) (δb := [none]) (F := D.int) (f := fun n => .bl (n == 1)) (μ := μ) ns fun n hn => ⟨[some (.int n)], by simp, by simp⟩
 have t9 : Tq (.tup (ns.map fun n => D.bl (n == 1))) := mK (fun d hd => by
  obtain ⟨n, _, rfl⟩ := List.mem_map.mp hd
  unfold nc cLt; rfl) fun i hi => by
  obtain ⟨n, _, e⟩ := List.mem_map.mp hi
  cases e
 generalize (ns.map fun n => D.bl (n == 1)) = W9 at *
 have t3 : Tq (.lst (ns.map D.int)) := BR (pB.mpr iD) fun ds e => by cases e
 have t4 : Tq (aF ns) := vP hsn
 have t5 : Tq (.tup [aF ns]) := mK (fun d h => by rw [List.mem_singleton.mp h]; exact ni ns) fun i h => by
  have := List.mem_singleton.mp h
  cases this
 have t7 : Tq (.dic [(.inl 0, aF ns)]) := BR (by
  have e : cLt 0 (.dic [(.inl 0, aF ns)]) = nJ 0 [(.inl 0, aF ns)] := by rw [cLt]
  unfold nc
  rw [e, nJ, nJ]
  simpa using ni ns) fun ds e => by cases e
 have ea := fun μ => jQ ns ns μ (by omega)
 have t8 : Tq (aF (ns ++ ns)) := vP fun i h => by
  rcases List.mem_append.mp h with z | z <;> exact hsn i z
 generalize aF (ns ++ ns) = R8 at *
 have ei : ∀ μ, bM (aF ns) μ = some (ns.map .int) := fun _ => rfl
 have es : ∀ μ, srcOf (aF ns) μ = some ⟨ns.map .int, none⟩ := fun _ => rfl
 have hnl : (ns.map D.int).length ≤ sizeLine := sz3 (by simp; omega)
 have t12 : Tq (.tup []) := mK (by simp) (by simp)
 have t1 : Tq o := ⟨hon, hos⟩
 generalize aF ns = R at *
 generalize ns.map D.int = W at *
 generalize (List.replicate k.toNat [o]).flatten = W2 at *
 generalize (List.replicate k.toNat [D.bl false]).flatten = WF at *
 generalize (List.replicate k.toNat [D.non]).flatten = WN at *
 generalize (10 : Int) ^ 60 = B at *
 generalize (List.replicate k.toNat [D.int B]).flatten = WB at *
 unfold jf
 have g1 : ∀ A : List D, ((μ ++ [some A])[μ.length]?) = some (some A) := fun A => by simp
 have g2 : ∀ A B : List D, ((μ ++ [some A, some B])[μ.length + 1]?) = some (some B) := fun A B => by simp
 have g3 : ∀ A B C : List D, (μ ++ [some A, some B]).set (μ.length + 1) (some C) = μ ++ [some A, some C] := fun A B C => by simp [List.set_append]
 have lc : ∀ (n : Nat) (μ : Mu), lW (.cell n) μ = (μ[n]?).join := fun _ _ => rfl
 have fin : ∀ (ts : List D) (j : Mu), (∀ t ∈ ts, Tq t) → ∃ junk, ((.lst ts, μ ++ j) : D × Mu).2 = μ ++ junk ∧ nc (.lst ts) ∧ ∃ ts', D.lst ts = .lst ts' ∧ ∀ t ∈ ts', Tq t := fun ts j h => ⟨j, rfl, pB.mpr fun d hd => (h d hd).1, ts, rfl, h⟩
 have z9 : 9 < sizeLine := by decide
 cases hF : FF0.isEmpty with
 | true =>
  simp only [hF] at eqn
  simp [eL, wm, v41, eo, ep', m1o, m1b, m2f, m2n, ei, es, hnl, cO, el1, e60, ea, pU, Az, lc, g1, el2, eqn, el3, gK, gJ, g2, g3, z9]
  refine ⟨pB.mpr fun d hd => ?_, ?_⟩
  ·simp only [List.mem_cons, List.not_mem_nil, or_false] at hd
   rcases hd with rfl | rfl | rfl | rfl | rfl | rfl | rfl | rfl | rfl | rfl | rfl | rfl | rfl | rfl <;> first | exact t0.1 | exact t1.1 | exact t2.1 | exact t3.1 | exact t4.1 | exact t5.1 | exact t6.1 | exact t7.1 | exact t8.1 | exact t9.1 | exact tf.1 | exact tn.1 | exact tb.1 | exact t12.1
  ·exact ⟨t0, t1, t2, t3, t4, t5, t6, t7, t8, t9, tf, tn, tb, t12⟩
 | false =>
  simp only [hF] at eqn
  simp [eL, wm, v41, eo, ep', m1o, m1b, m2f, m2n, ei, es, hnl, cO, el1, e60, ea, pU, Az, lc, g1, el2, eqn, el3, gK, gJ, g2, g3, z9]
  refine ⟨pB.mpr fun d hd => ?_, ?_⟩
  ·simp only [List.mem_cons, List.not_mem_nil, or_false] at hd
   rcases hd with rfl | rfl | rfl | rfl | rfl | rfl | rfl | rfl | rfl | rfl | rfl | rfl | rfl <;> first | exact t0.1 | exact t1.1 | exact t2.1 | exact t3.1 | exact t4.1 | exact t5.1 | exact t6.1 | exact t7.1 | exact t8.1 | exact t9.1 | exact tf.1 | exact tn.1 | exact tb.1 | exact t12.1
  ·exact ⟨t0, t1, t2, t3, t4, t5, t6, t7, t8, tf, tn, tb, t12⟩
theorem tie0 (t : D) (μ : Mu) (h : t ∈ [D.tup [], .lst [], .non, .tup [.int 0], .int 0, .dic [], .bl true]) : bO [.lst [], t] μ = some (.bl false, μ) := by
 have hnc : nc t := by
  have h2 : iU 0 [D.tup [], .lst [], .non, .tup [.int 0], .int 0, .dic [], .bl true] = true := by simp [iU, cLt, nJ]
  exact kj.mp h2 t h
 have e1 := Gf t μ hnc
 apply cJ
 simp only [List.mem_cons, List.not_mem_nil, or_false] at h
 rcases h with rfl | rfl | rfl | rfl | rfl | rfl | rfl <;> simp [cF, e1, qb, tM]
theorem Cq (ns : List Int) (h : ns.length ≤ 63) : ∃ μ', vX [.ro (ns.map .int)] [] = some (.bl true, μ') := by
 apply Ek
 obtain ⟨L, eD, hL⟩ := zR Hv ns h
 apply lE
 unfold mH
 have hk : ∃ k : Int, (2 + min 10 (ns.length : Int)) = k ∧ 0 ≤ k ∧ k < 20 := ⟨_, rfl, by omega, by omega⟩
 obtain ⟨k, ek, k0, k1⟩ := hk
 simp [eD, ek, vL (j := k) (by omega) (by omega)]
 refine dR (fun its δ μ => ∃ L o2 o3 o4 o5 o6, DlD L ∧ μ = [some (L.map .int)] ∧ δ = [some (.ro (ns.map .int)), some (.cell 0), o2, o3, o4, o5, o6]) ?_ ?_ _ _ _ ⟨L, none, none, none, none, none, hL, rfl, rfl⟩
 ·rintro d rest δ μ ⟨L, o2, o3, o4, o5, o6, hL, rfl, rfl⟩
  obtain ⟨x, L1, e1, hx, hL1⟩ := mq yh hL []
  obtain ⟨m0, m1⟩ := aX (x := x) (m := 3) (by decide)
  generalize hdd : 1 + x.fmod 3 = dd
  obtain ⟨ps, nn, L2, e2, hL2, hrow, hne, hpl, hn1, hn2, hns⟩ := HW L1 hL1 dd (by omega) (by omega)
  have G : Geo dd.toNat ps := ⟨by omega, by omega, hrow, by omega, hne⟩
  have ptq : D.lst (ps.map aF) = kY ps := rfl
  rw [ptq] at e2
  have q1 := fun t μ (h : Tq t) => tie' dd.toNat ps t μ G h.1 h.2
  have q2 := fun t μ (h : Tq t) => Kw dd.toNat ps t μ G h.1 h.2
  have hth := fun x μ (hm : fH μ) => Ex nn x μ hm hn1 hn2 hns
  generalize kY ps = P at *
  generalize aF nn = R at *
  simp [e1, hdd, e2, vL (j := 3) (by decide) (by decide)]
  refine dR (fun its δ μ => ∃ L o5 o6, DlD L ∧ μ = [some (L.map .int)] ∧ δ = [some (.ro (ns.map .int)), some (.cell 0), some d, some P, some R, o5, o6]) ?_ ?_ _ _ _ ⟨L2, _, _, hL2, rfl, rfl⟩
  ·rintro d5 rest5 δ μ ⟨L, o5, o6, hL, rfl, rfl⟩
   obtain ⟨y, L3', e3, hy, hL3⟩ := mq yh hL []
   obtain ⟨ts, e4, hts⟩ := hth y [some (L3'.map .int)] fH.nil.dr
   simp [e3, e4]
   refine dR (fun its δ μ => ∃ o6, (∀ t ∈ its, Tq t) ∧ μ = [some (L3'.map .int)] ∧ δ = [some (.ro (ns.map .int)), some (.cell 0), some d, some P, some R, some d5, o6]) ?_ ?_ _ _ _ ⟨_, hts, rfl, rfl⟩
   ·rintro d6 rest6 δ μ ⟨o6, ht, rfl, rfl⟩
    have h6 := ht d6 (by simp)
    have p1 := q1 d6 [some (L3'.map .int)] h6
    have p2 := q2 d6 [some (L3'.map .int)] h6
    simp [p1, p2, Fv]
    exact fun t h => ht t (by simp [h])
   ·rintro δ μ ⟨o6, _, rfl, rfl⟩
    simp
    exact ⟨L3', hL3, rfl⟩
  ·rintro δ μ ⟨L, o5, o6, hL, rfl, rfl⟩
   simp
   refine dR (fun its δ μ => ∃ o6, (∀ t ∈ its, t ∈ [D.tup [], .lst [], .non, .tup [.int 0], .int 0, .dic [], .bl true]) ∧ μ = [some (L.map .int)] ∧ δ = [some (.ro (ns.map .int)), some (.cell 0), some d, some P, some R, o5, o6]) ?_ ?_ _ _ _ ⟨_, fun t h => h, rfl, rfl⟩
   ·rintro d6 rest6 δ μ ⟨o6, ht, rfl, rfl⟩
    have p1 := tie0 d6 [some (L.map .int)] (ht d6 (by simp))
    have ht' : ∀ t ∈ rest6, t ∈ [D.tup [], .lst [], .non, .tup [.int 0], .int 0, .dic [], .bl true] := fun t h => ht t (by simp [h])
    generalize [D.tup [], .lst [], .non, .tup [.int 0], .int 0, .dic [], .bl true] = QQ at *
    simp [p1, Fv]
    exact ht'
   ·rintro δ μ ⟨o6, _, rfl, rfl⟩
    simp
    exact ⟨L, hL, rfl⟩
 ·rintro δ μ ⟨L, o2, o3, o4, o5, o6, hL, rfl, rfl⟩
  simp
end Lk08
open PySem PySem.W PyProof.Rows
set_option maxRecDepth 100000 in
set_option maxHeartbeats 0 in
theorem PySem.Challenge.cw_heapsmeet_k08_ties_of_anything_holds : PySem.Challenge.rw_heapsmeet_k08_ties_of_anything.Holds := by
 w_on; o_law; k_head; (case hw => w_witness2)
 k_fill
 refine L3.zM (l := PySem.Challenge.rw_heapsmeet_k08_ties_of_anything) (n := 63) (k := 9) (x := "_law_script") (φ := Lk08.vX) rfl (by decide) rfl ⟨rfl, by decide, by decide⟩ (fun w h Y => PySem.W.kIn_of Y) ?F ?S
 case F =>
  intro w mg mb mean lo fa h KX G hmg
  refine' Lk08.Ig KX G hmg ?d0 ?d1 ?d2 ?d3 ?d4 ?d5 ?d6 ?d7 ?d8 ?d9 ?d10 ?d11 ?d12 ?d13 ?d14 ?d15 ?d16 ?d17 ?d18 ?d19 ?d20 ?d21 ?d22 ?d23 ?d24 ?z_abs ?z_all ?z_any ?z_bool ?z_enumerate ?z_int ?z_isinstance ?z_len ?z_list ?z_min ?z_range ?z_sum ?z_tuple ?z_zip ?r_is_numbers ?r_sum_of_products ?hnt
  (case d0 => refine' L3.cg ?ga0 ?gl0 ?gh0 ?gk0 ?gc0 ?gp0 ?gq0 ?gn0; (case ga0 => k_is); (case gl0 => k_is); (case gh0 => k_is); (case gk0 => k_is); (case gc0 => k_is); (case gp0 => rfl); (case gq0 => rfl); (case gn0 => rfl))
  (case d1 => refine' L3.cg ?ga1 ?gl1 ?gh1 ?gk1 ?gc1 ?gp1 ?gq1 ?gn1; (case ga1 => k_is); (case gl1 => k_is); (case gh1 => k_is); (case gk1 => k_is); (case gc1 => k_is); (case gp1 => rfl); (case gq1 => rfl); (case gn1 => rfl))
  (case d2 => refine' L3.cg ?ga2 ?gl2 ?gh2 ?gk2 ?gc2 ?gp2 ?gq2 ?gn2; (case ga2 => k_is); (case gl2 => k_is); (case gh2 => k_is); (case gk2 => k_is); (case gc2 => k_is); (case gp2 => rfl); (case gq2 => rfl); (case gn2 => rfl))
  (case d3 => refine' L3.cg ?ga3 ?gl3 ?gh3 ?gk3 ?gc3 ?gp3 ?gq3 ?gn3; (case ga3 => k_is); (case gl3 => k_is); (case gh3 => k_is); (case gk3 => k_is); (case gc3 => k_is); (case gp3 => rfl); (case gq3 => rfl); (case gn3 => rfl))
  (case d4 => refine' L3.cg ?ga4 ?gl4 ?gh4 ?gk4 ?gc4 ?gp4 ?gq4 ?gn4; (case ga4 => k_is); (case gl4 => k_is); (case gh4 => k_is); (case gk4 => k_is); (case gc4 => k_is); (case gp4 => rfl); (case gq4 => rfl); (case gn4 => rfl))
  (case d5 => refine' L3.cg ?ga5 ?gl5 ?gh5 ?gk5 ?gc5 ?gp5 ?gq5 ?gn5; (case ga5 => k_is); (case gl5 => k_is); (case gh5 => k_is); (case gk5 => k_is); (case gc5 => k_is); (case gp5 => rfl); (case gq5 => rfl); (case gn5 => rfl))
  (case d6 => refine' L3.cg ?ga6 ?gl6 ?gh6 ?gk6 ?gc6 ?gp6 ?gq6 ?gn6; (case ga6 => k_is); (case gl6 => k_is); (case gh6 => k_is); (case gk6 => k_is); (case gc6 => k_is); (case gp6 => rfl); (case gq6 => rfl); (case gn6 => rfl))
  (case d7 => refine' L3.cg ?ga7 ?gl7 ?gh7 ?gk7 ?gc7 ?gp7 ?gq7 ?gn7; (case ga7 => k_is); (case gl7 => k_is); (case gh7 => k_is); (case gk7 => k_is); (case gc7 => k_is); (case gp7 => rfl); (case gq7 => rfl); (case gn7 => rfl))
  (case d8 => refine' L3.cg ?ga8 ?gl8 ?gh8 ?gk8 ?gc8 ?gp8 ?gq8 ?gn8; (case ga8 => k_is); (case gl8 => k_is); (case gh8 => k_is); (case gk8 => k_is); (case gc8 => k_is); (case gp8 => rfl); (case gq8 => rfl); (case gn8 => rfl))
  (case d9 => refine' L3.cg ?ga9 ?gl9 ?gh9 ?gk9 ?gc9 ?gp9 ?gq9 ?gn9; (case ga9 => k_is); (case gl9 => k_is); (case gh9 => k_is); (case gk9 => k_is); (case gc9 => k_is); (case gp9 => rfl); (case gq9 => rfl); (case gn9 => rfl))
  (case d10 => refine' L3.cg ?ga10 ?gl10 ?gh10 ?gk10 ?gc10 ?gp10 ?gq10 ?gn10; (case ga10 => k_is); (case gl10 => k_is); (case gh10 => k_is); (case gk10 => k_is); (case gc10 => k_is); (case gp10 => rfl); (case gq10 => rfl); (case gn10 => rfl))
  (case d11 => refine' L3.cg ?ga11 ?gl11 ?gh11 ?gk11 ?gc11 ?gp11 ?gq11 ?gn11; (case ga11 => k_is); (case gl11 => k_is); (case gh11 => k_is); (case gk11 => k_is); (case gc11 => k_is); (case gp11 => rfl); (case gq11 => rfl); (case gn11 => rfl))
  (case d12 => refine' L3.cg ?ga12 ?gl12 ?gh12 ?gk12 ?gc12 ?gp12 ?gq12 ?gn12; (case ga12 => k_is); (case gl12 => k_is); (case gh12 => k_is); (case gk12 => k_is); (case gc12 => k_is); (case gp12 => rfl); (case gq12 => rfl); (case gn12 => rfl))
  (case d13 => refine' L3.cg ?ga13 ?gl13 ?gh13 ?gk13 ?gc13 ?gp13 ?gq13 ?gn13; (case ga13 => k_is); (case gl13 => k_is); (case gh13 => k_is); (case gk13 => k_is); (case gc13 => k_is); (case gp13 => rfl); (case gq13 => rfl); (case gn13 => rfl))
  (case d14 => refine' L3.cg ?ga14 ?gl14 ?gh14 ?gk14 ?gc14 ?gp14 ?gq14 ?gn14; (case ga14 => k_is); (case gl14 => k_is); (case gh14 => k_is); (case gk14 => k_is); (case gc14 => k_is); (case gp14 => rfl); (case gq14 => rfl); (case gn14 => rfl))
  (case d15 => refine' L3.cg ?ga15 ?gl15 ?gh15 ?gk15 ?gc15 ?gp15 ?gq15 ?gn15; (case ga15 => k_is); (case gl15 => k_is); (case gh15 => k_is); (case gk15 => k_is); (case gc15 => k_is); (case gp15 => rfl); (case gq15 => rfl); (case gn15 => rfl))
  (case d16 => refine' L3.cg ?ga16 ?gl16 ?gh16 ?gk16 ?gc16 ?gp16 ?gq16 ?gn16; (case ga16 => k_is); (case gl16 => k_is); (case gh16 => k_is); (case gk16 => k_is); (case gc16 => k_is); (case gp16 => rfl); (case gq16 => rfl); (case gn16 => rfl))
  (case d17 => refine' L3.cg ?ga17 ?gl17 ?gh17 ?gk17 ?gc17 ?gp17 ?gq17 ?gn17; (case ga17 => k_is); (case gl17 => k_is); (case gh17 => k_is); (case gk17 => k_is); (case gc17 => k_is); (case gp17 => rfl); (case gq17 => rfl); (case gn17 => rfl))
  (case d18 => refine' L3.cg ?ga18 ?gl18 ?gh18 ?gk18 ?gc18 ?gp18 ?gq18 ?gn18; (case ga18 => k_is); (case gl18 => k_is); (case gh18 => k_is); (case gk18 => k_is); (case gc18 => k_is); (case gp18 => rfl); (case gq18 => rfl); (case gn18 => rfl))
  (case d19 => refine' L3.cg ?ga19 ?gl19 ?gh19 ?gk19 ?gc19 ?gp19 ?gq19 ?gn19; (case ga19 => k_is); (case gl19 => k_is); (case gh19 => k_is); (case gk19 => k_is); (case gc19 => k_is); (case gp19 => rfl); (case gq19 => rfl); (case gn19 => rfl))
  (case d20 => refine' L3.cg ?ga20 ?gl20 ?gh20 ?gk20 ?gc20 ?gp20 ?gq20 ?gn20; (case ga20 => k_is); (case gl20 => k_is); (case gh20 => k_is); (case gk20 => k_is); (case gc20 => k_is); (case gp20 => rfl); (case gq20 => rfl); (case gn20 => rfl))
  (case d21 => refine' L3.cg ?ga21 ?gl21 ?gh21 ?gk21 ?gc21 ?gp21 ?gq21 ?gn21; (case ga21 => k_is); (case gl21 => k_is); (case gh21 => k_is); (case gk21 => k_is); (case gc21 => k_is); (case gp21 => rfl); (case gq21 => rfl); (case gn21 => rfl))
  (case d22 => refine' L3.cg ?ga22 ?gl22 ?gh22 ?gk22 ?gc22 ?gp22 ?gq22 ?gn22; (case ga22 => k_is); (case gl22 => k_is); (case gh22 => k_is); (case gk22 => k_is); (case gc22 => k_is); (case gp22 => rfl); (case gq22 => rfl); (case gn22 => rfl))
  (case d23 => refine' L3.cg ?ga23 ?gl23 ?gh23 ?gk23 ?gc23 ?gp23 ?gq23 ?gn23; (case ga23 => k_is); (case gl23 => k_is); (case gh23 => k_is); (case gk23 => k_is); (case gc23 => k_is); (case gp23 => rfl); (case gq23 => rfl); (case gn23 => rfl))
  (case d24 => refine' L3.cg ?ga24 ?gl24 ?gh24 ?gk24 ?gc24 ?gp24 ?gq24 ?gn24; (case ga24 => k_is); (case gl24 => k_is); (case gh24 => k_is); (case gk24 => k_is); (case gc24 => k_is); (case gp24 => rfl); (case gq24 => rfl); (case gn24 => rfl))
  (case z_abs => k_is)
  (case z_all => k_is)
  (case z_any => k_is)
  (case z_bool => k_is)
  (case z_enumerate => k_is)
  (case z_int => k_is)
  (case z_isinstance => k_is)
  (case z_len => k_is)
  (case z_list => k_is)
  (case z_min => k_is)
  (case z_range => k_is)
  (case z_sum => k_is)
  (case z_tuple => k_is)
  (case z_zip => k_is)
  (case r_is_numbers => rfl)
  (case r_sum_of_products => rfl)
  (case hnt => rfl)
 case S => exact fun ns hl => Lk08.Cq ns hl
