import PyProof.Rows.All
import Wide.All
import OpenK.AllK
import Wide.FinOn
import Lean
import PyProof.EqAt
import PyProof.EqKinds
import PyProof.TupleCall
import PySem.Challenge.RW_heapsmeet_k24_without_by_clauses
set_option Elab.async false
set_option linter.all false
set_option maxRecDepth 100000
namespace L2
open PySem PySem.Spec PyProof.Rows
abbrev Key := Sum Int Str
def La : Key -> Value -> Bool
 | .inl k, v => Value.isInt k v
 | .inr x, v => Value.isStrOf x v
def keyH (w : World) : Key -> Int
 | .inl k => hashInt k
 | .inr x => hashStr w x
theorem di : ∀ {k : Key} {v : Value}, La k v = true -> (∃ i t, k = Sum.inl i /\ v = Value.int i t) ∨ (∃ x t, k = Sum.inr x /\ v = Value.str x t)
 | .inl i, v, h => by
  obtain ⟨t, e⟩ := Value.isInt_shape (k := i) (v := v) h
  exact .inl ⟨i, t, rfl, e⟩
 | .inr x, v, h => by
  obtain ⟨t, e⟩ := Value.isStrOf_shape (x := x) (v := v) h
  exact .inr ⟨x, t, rfl, e⟩
theorem Nj (a b : Int) : decide ((Sum.inl a : Key) = Sum.inl b) = (a == b) := by
 by_cases e : a = b
 .subst e; simp
 .have h : ¬ (Sum.inl a : Key) = Sum.inl b := λ q => e (Sum.inl.inj q)
  rw [decide_eq_false h]
  exact (beq_eq_false_iff_ne.mpr e).symm
theorem Nz (a b : Str) : decide ((Sum.inr a : Key) = Sum.inr b) = decide (a = b) := by
 by_cases e : a = b
 .subst e; simp
 .have h : ¬ (Sum.inr a : Key) = Sum.inr b := λ q => e (Sum.inr.inj q)
  rw [decide_eq_false h, decide_eq_false e]
theorem LC (a : Int) (b : Str) : decide ((Sum.inl a : Key) = Sum.inr b) = false := decide_eq_false (λ q => nomatch q)
theorem Ol (a : Str) (b : Int) : decide ((Sum.inr a : Key) = Sum.inl b) = false := decide_eq_false (λ q => nomatch q)
def wz (prog : Program) (w : World) : PySem.KeyKind prog w Key where
 is := La
 hash := keyH w
 inj := λ v a b ha hb => by
  rcases di ha with ⟨i, t, rfl, rfl⟩ | ⟨x, t, rfl, rfl⟩
  .rcases di hb with ⟨j, u, rfl, e⟩ | ⟨y, u, rfl, e⟩
   .injection e with e1 _; rw [e1]
   .exact nomatch e
  .rcases di hb with ⟨j, u, rfl, e⟩ | ⟨y, u, rfl, e⟩
   .exact nomatch e
   .injection e with e1 _; rw [e1]
 byValue := λ k v h => by
  rcases di h with ⟨i, t, rfl, rfl⟩ | ⟨x, t, rfl, rfl⟩ <;> rfl
 pyHash := λ hv h => by
  rcases di hv with ⟨i, t, rfl, rfl⟩ | ⟨x, t, rfl, rfl⟩
  .exact wpAny_pyHash_int h
  .exact wpAny_pyHash_str h
 eqBool := λ hu hv h => by
  rcases di hu with ⟨i, t, rfl, rfl⟩ | ⟨x, t, rfl, rfl⟩
  .rcases di hv with ⟨j, u, rfl, rfl⟩ | ⟨y, u, rfl, rfl⟩
   .rw [Nj] at h; exact wpAny_eqBool_int h
   .rw [LC] at h; exact SeqAt.EqAt.int_str i t y u _ _ _ _ h
  .rcases di hv with ⟨j, u, rfl, rfl⟩ | ⟨y, u, rfl, rfl⟩
   .rw [Ol] at h; exact SeqAt.EqAt.str_int x t j u _ _ _ _ h
   .rw [Nz] at h; exact wpAny_eqBool_str h
 «strs» := λ k x t v h => by
  rcases di h with ⟨i, u, rfl, e⟩ | ⟨y, u, rfl, e⟩
  .exact nomatch e
  .injection e with e1 _
   subst e1
   cases v <;> rfl
inductive V where
 | non | bl (b : Bool) | int (i : Int) | str (x : Str) | byt (b : Array UInt8) | flt (b : UInt64) | ref (a : Addr) | ty (n : String)
 deriving DecidableEq
def RelV : V -> Value -> Prop
 | .non, u => u = Value.none
 | .bl b, u => u = Value.bool b
 | .int i, u => ∃ t, u = Value.int i t
 | .str x, u => ∃ t, u = Value.str x t
 | .byt b, u => ∃ t, u = Value.bytes b t
 | .flt b, u => ∃ t, u = Value.float b t
 | .ref a, u => u = Value.ref a
 | .ty n, u => u = Value.type n
abbrev Vals : List V -> List Value -> Prop := Paired RelV
theorem Vals.length {xs : List V} {us : List Value} (r : Vals xs us) : xs.length = us.length := Paired.length r
theorem Vals.get : ∀ {xs : List V} {us : List Value} {i : Nat} {x : V}, Vals xs us -> xs[i]? = some x -> ∃ u, us[i]? = some u /\ RelV x u
 | _, _, _, _, .nil, e => by simp at e
 | _, _, 0, _, .cons r _, e => by simp at e; subst e; exact ⟨_, rfl, r⟩
 | _, _, i + 1, x, .cons _ t, e => by
  obtain ⟨u, h1, h2⟩ := Vals.get (i := i) (x := x) t (by simpa using e)
  exact ⟨u, by simpa using h1, h2⟩
theorem Vals.set {x : V} {u : Value} (r : RelV x u) : ∀ {xs : List V} {us : List Value} (i : Nat), Vals xs us -> Vals (xs.set i x) (us.set i u)
 | _, _, _, .nil => .nil
 | _, _, 0, .cons _ t => .cons r t
 | _, _, i + 1, .cons q t => .cons q (Vals.set r i t)
theorem Vals.append : ∀ {xs ys : List V} {us ws : List Value}, Vals xs us -> Vals ys ws -> Vals (xs ++ ys) (us ++ ws)
 | _, _, _, _, .nil, s => s
 | _, _, _, _, .cons r t, s => .cons r (Vals.append t s)
theorem Vals.take : ∀ {xs : List V} {us : List Value} (n : Nat), Vals xs us -> Vals (xs.take n) (us.take n)
 | _, _, 0, _ => .nil
 | _, _, _ + 1, .nil => .nil
 | _, _, n + 1, .cons r t => .cons r (Vals.take n t)
theorem Vals.drop : ∀ {xs : List V} {us : List Value} (n : Nat), Vals xs us -> Vals (xs.drop n) (us.drop n)
 | _, _, 0, r => r
 | _, _, _ + 1, .nil => .nil
 | _, _, n + 1, .cons _ t => Vals.drop n t
theorem Vals.none_of : ∀ {xs : List V} {us : List Value} {i : Nat}, Vals xs us -> xs[i]? = none -> us[i]? = none := λ {xs us i} r e => by
 have h1 := r.length
 have h2 : xs.length <= i := List.getElem?_eq_none_iff.mp e
 exact List.getElem?_eq_none_iff.mpr (by omega)
def Rt : Option V -> Option Value -> Prop
 | some v, some u => RelV v u
 | none, none => True
 | _, _ => False
def KV {κ : Type} : List (κ × V) -> List (κ × Value) -> Prop := Paired λ (p : κ × V) (q : κ × Value) => p.1 = q.1 /\ RelV p.2 q.2
def kV : Key -> V
 | .inl i => .int i
 | .inr x => .str x
inductive HO where
 | lst (xs : List V)
 | tup (xs : List V)
 | dK (kvs : List (Key × V)) | dT (kvs : List (List Key × V))
 | set (S : Int -> Bool) (n : Nat)
 | ins (C dx : Addr) (fs : List (Str × V))
 | own (x : Addr)
 | xd (fs : List (Str × V))
 | met (f x : Addr)
 | rng (lo hi : Int)
 | frz (o : Obj) (u : HO)
 | tbl (ps : Array Value)
 | ext (φ : Heap -> Prop)
abbrev Hp := Addr -> Option HO
def upd (H : Hp) (a : Addr) (o : HO) : Hp := λ b => if b = a then some o else H b
theorem dw {H : Hp} {a : Addr} {o : HO} : upd H a o a = some o := by unfold upd; rw [if_pos rfl]
theorem aU {H : Hp} {a b : Addr} {o : HO} (h : b ≠ a) : upd H a o b = H b := by unfold upd; rw [if_neg h]
theorem yD {H : Hp} {a b : Addr} {o u : HO} (h : H a = some o) (h' : H b = some u) (d : o ≠ u) : a ≠ b := by
 intro e; subst e; rw [h] at h'; exact d (Option.some.inj h')
theorem cB {H : Hp} {a b : Addr} {o : HO} (h : H a = some o) (h' : H b = none) : a ≠ b := by
 intro e; subst e; rw [h] at h'; cases h'
section
variable (P : Program) (w : World)
def gV (H : Hp) (h : Heap) (a : Addr) : HO -> Prop
 | .lst xs => xs.length <= sizeLine /\ ∃ (its : List Value) (n : Nat), Vals xs its /\ h.get? a = some { cls := .type "list", data := .seq its.toArray n }
 | .tup xs => xs.length <= sizeLine /\ ∃ its : List Value, Vals xs its /\ IsTup h a its.toArray
 | .dK kvs => kvs.length <= sizeLine /\ (a == sysModules) = false /\ ∃ vs, KV kvs vs /\ h.DictOf (wz P w) a vs
 | .dT kvs => kvs.length <= sizeLine /\ (a == sysModules) = false /\ ∃ xs : List (List Key × Addr × Value),
   Paired (λ (p : List Key × V) (q : List Key × Addr × Value) => p.1 = q.1 /\ H q.2.1 = some (.tup (p.1.map kV)) /\ RelV p.2 q.2.2) kvs xs /\
   ∃ o es ep, h.get? a = some o /\ o.ExactDict /\ o.data = .dict es ep /\ es.toList = xs.map (entryOfKey (tupleKind (wz P w))) /\ (xs.map (·.1)).Nodup
 | .set S n => h.SetOf (intKind P w) a S n
 | .ins C dx fs => H dx = some (.own a) /\ fs.length <= 1000 /\ dx ≠ a /\ h.get? a = some (PySem.W.instObj C dx) /\
   ∃ mA, h.Ns1 dx mA /\ (∀ f, Rt (fs.lookup f) (mA f)) /\ PySem.Within mA (fs.map (·.1))
 | .own _ => ∃ o, h.get? a = some o
 | .xd fs => ∃ mA, h.Ns1 a mA /\ ∀ f, Rt (fs.lookup f) (mA f)
 | .rng lo hi => ∃ t u v, h.get? a = some { cls := .type "range", data := .fields #[.int lo t, .int hi u, .int 1 v] }
 | .frz o u => h.get? a = some o /\ gV H h a u
 | .tbl ps => h.get? a = some { cls := .none, data := .fields ps }
 | .met f x => h.get? a = some (PySem.W.methodObj (.ref f) (.ref x))
 | .ext φ => φ h /\ (∃ o, h.get? a = some o) /\ ∀ h1 h2 : Heap, φ h1 -> (∀ o, h1.get? a = some o -> h2.get? a = some o) -> φ h2
def HOk (H : Hp) (h : Heap) : Prop := ∀ a o, H a = some o -> gV P w H h a o
end
section
variable {P : Program} {w : World} {H H' : Hp} {h h' : Heap} {a : Addr} {o : HO}
theorem gV.lt (x : gV P w H h a o) : a < h.objs.size := by
 cases o with
 | lst xs => obtain ⟨_, _, _, _, e⟩ := x; exact Heap.lt_size e
 | tup xs => obtain ⟨_, _, _, p⟩ := x; exact p.lt
 | dK kvs => obtain ⟨_, _, _, _, o, _, _, e, _⟩ := x; exact Heap.lt_size e
 | dT kvs => obtain ⟨_, _, _, _, o, _, _, e, _⟩ := x; exact Heap.lt_size e
 | set S n => obtain ⟨o, _, _, _, e, _⟩ := x; exact Heap.lt_size e
 | ins C dx fs => obtain ⟨_, _, _, e, _⟩ := x; exact Heap.lt_size e
 | own y => obtain ⟨_, e⟩ := x; exact Heap.lt_size e
 | xd fs => obtain ⟨_, ⟨_, _, _, e, _⟩, _⟩ := x; exact Heap.lt_size e
 | rng lo hi => obtain ⟨_, _, _, e⟩ := x; exact Heap.lt_size e
 | frz ob u => obtain ⟨e, _⟩ := x; exact Heap.lt_size e
 | tbl ps => exact Heap.lt_size (show h.get? a = some _ from x)
 | met f y => exact Heap.lt_size (show h.get? a = some _ from x)
 | ext φ => obtain ⟨_, ⟨_, e⟩, _⟩ := x; exact Heap.lt_size e
theorem Paired.mapP {α β : Type} {F G : α -> β -> Prop} : ∀ {l₁ : List α} {l₂ : List β}, Paired F l₁ l₂ -> (∀ a b, F a b -> G a b) -> Paired G l₁ l₂
 | _, _, .nil, _ => .nil
 | _, _, .cons r t, f => .cons (f _ _ r) (Paired.mapP t f)
theorem gV.stay (x : gV P w H h a o) (k : ∀ b u, (b = a ∨ H b = some (.own a)) -> h.get? b = some u -> h'.get? b = some u)
  (ho : ∀ b, H b = some (.own a) -> H' b = some (.own a)) (ht : ∀ b xs, H b = some (.tup xs) -> H' b = some (.tup xs)) : gV P w H' h' a o := by
 induction o with
 | lst xs => obtain ⟨z, its, n, r, e⟩ := x; exact ⟨z, its, n, r, k _ _ (.inl rfl) e⟩
 | tup xs => obtain ⟨z, its, r, ob, e, c⟩ := x; exact ⟨z, its, r, ob, k _ _ (.inl rfl) e, c⟩
 | dK kvs => obtain ⟨z, y, vs, r, ob, es, ep, e, c⟩ := x; exact ⟨z, y, vs, r, ob, es, ep, k _ _ (.inl rfl) e, c⟩
 | dT kvs =>
  obtain ⟨z, y, xs, r, ob, es, ep, e, c⟩ := x
  exact ⟨z, y, xs, Paired.mapP r λ p q z => ⟨z.1, ht _ _ z.2.1, z.2.2⟩, ob, es, ep, k _ _ (.inl rfl) e, c⟩
 | set S n => obtain ⟨ob, es, ep, t, e, c⟩ := x; exact ⟨ob, es, ep, t, k _ _ (.inl rfl) e, c⟩
 | ins C dx fs =>
  obtain ⟨d, z, ne, e, mA, ⟨od, es, ep, e2, c⟩, r⟩ := x
  exact ⟨ho _ d, z, ne, k _ _ (.inl rfl) e, mA, ⟨od, es, ep, k _ _ (.inr d) e2, c⟩, r⟩
 | own y => obtain ⟨ob, e⟩ := x; exact ⟨ob, k _ _ (.inl rfl) e⟩
 | xd fs => obtain ⟨mA, ⟨od, es, ep, e, c⟩, r⟩ := x; exact ⟨mA, ⟨od, es, ep, k _ _ (.inl rfl) e, c⟩, r⟩
 | rng lo hi => obtain ⟨t, u, v, e⟩ := x; exact ⟨t, u, v, k _ _ (.inl rfl) e⟩
 | frz ob u ih => obtain ⟨e, q⟩ := x; exact ⟨k _ _ (.inl rfl) e, ih q⟩
 | tbl ps =>
  have e : h.get? a = some { cls := .none, data := .fields ps } := x
  show h'.get? a = some { cls := .none, data := .fields ps }
  exact k a _ (.inl rfl) e
 | met f y =>
  have e : h.get? a = some (PySem.W.methodObj (.ref f) (.ref y)) := x
  show h'.get? a = some (PySem.W.methodObj (.ref f) (.ref y))
  exact k a _ (.inl rfl) e
 | ext φ => obtain ⟨p, ⟨o, e⟩, st⟩ := x; exact ⟨st _ _ p λ o q => k _ _ (.inl rfl) q, ⟨o, k _ _ (.inl rfl) e⟩, st⟩
theorem HOk.lt (x : HOk P w H h) (e : H a = some o) : a < h.objs.size := (x a o e).lt
theorem HOk.fresh (x : HOk P w H h) (e : h.objs.size <= a) : H a = none := by
 cases q : H a with
 | none => rfl
 | some u => exact absurd (Nat.lt_of_lt_of_le (x.lt q) e) (Nat.lt_irrefl _)
theorem HOk.kept (x : HOk P w H h) (k : ∀ b u, h.get? b = some u -> h'.get? b = some u) : HOk P w H h' := λ a o e =>
 (x a o e).stay (λ b u _ q => k b u q) (λ _ q => q) λ _ _ q => q
theorem HOk.laid (x : HOk P w H h) (k : ∀ b u, h.get? b = some u -> h'.get? b = some u) (hp : h.objs.size <= a) (new : gV P w (upd H a o) h' a o) : HOk P w (upd H a o) h' := λ b u e => by
 have hn := x.fresh hp
 by_cases hb : b = a
 .subst hb; rw [dw] at e; cases e; exact new
 .rw [aU hb] at e
  exact (x b u e).stay (λ c v _ q => k c v q) (λ c q => by rw [aU (cB q hn)]; exact q) λ c xs q => by rw [aU (cB q hn)]; exact q
end
def Rd (H : Hp) (a : Addr) (u : HO) : Prop := H a = some u ∨ ∃ o, H a = some (.frz o u)
theorem Rd.ok {P : Program} {w : World} {H : Hp} {h : Heap} {a : Addr} {u : HO} (r : Rd H a u) (x : HOk P w H h) : gV P w H h a u := by
 rcases r with r | ⟨o, r⟩
 .exact x a u r
 .obtain ⟨_, q⟩ := x a _ r
  exact q
def Mut : Option HO -> Prop
 | some (.lst _) => True
 | some (.dK _) => True
 | some (.dT _) => True
 | some (.set _ _) => True
 | some (.ins _ _ _) => True
 | some (.ext _) => True
 | _ => False
section
variable {P : Program} {w : World} {H : Hp} {h h' : Heap} {x e : Addr} {o' : HO}
theorem HOk.write (ok : HOk P w H h) (mu : Mut (H x)) (he : e = x ∨ H e = some (.own x)) (k : ∀ b u, b ≠ e -> h.get? b = some u -> h'.get? b = some u) (heo : ∃ u, h'.get? e = some u)
  (new : gV P w (upd H x o') h' x o') : HOk P w (upd H x o') h' := λ b u q => by
 have nown : ∀ c y, H c = some (.own y) -> c ≠ x := λ c y r z => by subst z; rw [r] at mu; exact mu
 have ntup : ∀ c xs, H c = some (.tup xs) -> c ≠ x := λ c xs r z => by subst z; rw [r] at mu; exact mu
 by_cases hb : b = x
 .subst hb; rw [dw] at q; cases q; exact new
 .rw [aU hb] at q
  by_cases hbe : b = e
  .have q' : H b = some (.own x) := by
    rcases he with z | z
    .exact absurd (hbe.trans z) hb
    .rw [hbe]; exact z
   rw [q] at q'; cases q'
   obtain ⟨v, hv⟩ := heo
   exact ⟨v, by rw [hbe]; exact hv⟩
  .refine (ok b u q).stay (λ c v hc r => k c v ?_ r) (λ c r => by rw [aU (nown c b r)]; exact r) λ c xs r => by rw [aU (ntup c xs r)]; exact r
   rcases hc with rfl | hc
   .exact hbe
   .rintro rfl
    rcases he with z | z
    .exact nown c b hc z
    .rw [hc] at z; cases z; exact hb rfl
end
structure Un (fs ex : List Addr) (H H' : Hp) (h h' : Heap) : Prop where
 keep : ∀ b o, h.get? b = some o -> H b = none -> b ∉ fs -> b ∉ ex -> h'.get? b = some o
 slot : ∀ b o, h.get? b = some o -> H b = none -> b ∈ fs -> b ∉ ex -> ∃ sl, h'.get? b = some { o with slots := sl }
 free : ∀ b o, h.get? b = some o -> H b = none -> b ∉ ex -> H' b = none
 there : ∀ b o, h.get? b = some o -> b ∉ ex -> ∃ o', h'.get? b = some o'
 tups : ∀ b xs, H b = some (.tup xs) -> H' b = some (.tup xs)
 frzs : ∀ b o u, H b = some (.frz o u) -> H' b = some (.frz o u)
 tbls : ∀ b ps, H b = some (.tbl ps) -> ∃ more, H' b = some (.tbl (ps ++ more))
section
variable {fs fs' ex ex' : List Addr} {H H1 H2 : Hp} {h h1 h2 h' : Heap} {a x e : Addr} {o : HO}
theorem Un.any (u : Un fs ex H H1 h h1) {b : Addr} {ob : Obj} (q : h.get? b = some ob) (n : H b = none) (hx : b ∉ ex) : ∃ sl, h1.get? b = some { ob with slots := sl } := by
 by_cases hb : b ∈ fs
 .exact u.slot b ob q n hb hx
 .exact ⟨ob.slots, u.keep b ob q n hb hx⟩
theorem Un.kept (k : ∀ b u, h.get? b = some u -> h'.get? b = some u) : Un fs ex H H h h' :=
 ⟨λ b ob q _ _ _ => k b ob q, λ b ob q _ _ _ => ⟨ob.slots, k b ob q⟩, λ _ _ _ n _ => n, λ b ob q _ => ⟨ob, k b ob q⟩, λ _ _ q => q, λ _ _ _ q => q, λ _ ps q => ⟨#[], by rw [q]; simp⟩⟩
theorem Un.refl : Un fs ex H H h h := Un.kept λ _ _ q => q
theorem Un.laid (k : ∀ b u, h.get? b = some u -> h'.get? b = some u) (hp : h.objs.size <= a) (hn : H a = none) : Un fs ex H (upd H a o) h h' where
 keep := λ b u q _ _ _ => k b u q
 slot := λ b u q _ _ _ => ⟨u.slots, k b u q⟩
 free := λ b u q n _ => by rw [aU (Nat.ne_of_lt (Nat.lt_of_lt_of_le (Heap.lt_size q) hp))]; exact n
 there := λ b u q _ => ⟨u, k b u q⟩
 tups := λ b xs q => by rw [aU (cB q hn)]; exact q
 frzs := λ b u xs q => by rw [aU (cB q hn)]; exact q
 tbls := λ b ps q => ⟨#[], by rw [aU (cB q hn), q]; simp⟩
theorem Un.write (mu : Mut (H x)) (he : e = x ∨ H e = some (.own x)) (k : ∀ b u, b ≠ e -> h.get? b = some u -> h'.get? b = some u) (heo : ∃ u, h'.get? e = some u) : Un fs ex H (upd H x o) h h' := by
 have hx : ∀ b, H b = none -> b ≠ x := λ b n z => by subst z; rw [n] at mu; exact mu
 have hb : ∀ b, H b = none -> b ≠ e := λ b n z => by
  subst z
  rcases he with r | r
  .exact hx b n r
  .rw [n] at r; cases r
 have hm : ∀ b u, H b = some u -> ¬ Mut (some u) -> b ≠ x := λ b u q nm z => by subst z; rw [q] at mu; exact nm mu
 refine ⟨λ b u q n _ _ => k b u (hb b n) q, λ b u q n _ _ => ⟨u.slots, k b u (hb b n) q⟩, λ b u q n _ => by rw [aU (hx b n)]; exact n, λ b u q _ => ?_,
  λ b xs q => by rw [aU (hm b _ q λ z => z)]; exact q, λ b u xs q => by rw [aU (hm b _ q λ z => z)]; exact q, λ b ps q => ⟨#[], by rw [aU (hm b _ q λ z => z), q]; simp⟩⟩
 by_cases hbe : b = e
 .subst hbe; exact heo
 .exact ⟨u, k b u hbe q⟩
end
def trk (h : Heap) (H : Hp) : List Addr := (List.range h.objs.size).filter λ a => (H a).isSome
def vN (h : Heap) (H : Hp) : Heap := PySem.W.hideAll h (trk h H)
theorem CQ (h : Heap) (H : Hp) : (vN h H).objs.size = h.objs.size := PySem.W.hideAll_size _ _
theorem Hn {h : Heap} {H : Hp} {b : Addr} {o : Obj} (e : h.get? b = some o) (n : H b = none) : (vN h H).get? b = some o :=
 PySem.W.hideAll_get _ e λ hm => by
  have q : (H b).isSome = true := (List.mem_filter.mp hm).2
  rw [n] at q; simp at q
theorem Jz {h : Heap} {H : Hp} {b : Addr} {o : Obj} (e : (vN h H).get? b = some o) : h.get? b = some o /\ H b = none := by
 have e' : h.get? b = some o := PySem.W.of_hideAll (trk h H) e
 refine ⟨e', ?_⟩
 cases q : H b with
 | none => rfl
 | some x =>
  have hm : b ∈ trk h H := List.mem_filter.mpr ⟨List.mem_range.mpr (Heap.lt_size e'), by simp [q]⟩
  have z : (vN h H).get? b = none := PySem.W.hideAll_none (trk h H) hm
  rw [z] at e; cases e
def Ja (g h : Heap) (L : Addr) : List (Addr × Obj) := (List.range h.objs.size).filterMap λ a => if a = L ∨ (g.get? a).isSome = true then none else (h.get? a).map λ o => (a, o)
def rest (g h : Heap) (L d : Addr) : List (Addr × Obj) := (Ja g h L).filter λ p => decide (p.1 ≠ d)
structure Mod (K : PySem.W.Frag) (mg : Str -> Option Value) (base : Heap) : Prop where
 kin : K.In base
 glob : base.Ns mainGlobals mg
 blt : ∃ mb, base.Ns builtinsNs mb /\ ∀ x : Str, x ≠ "__name__" -> mb x = bootBuiltins x
 nolimit : base.NoLimit
 bmain : ∃ bm ob, mg "__builtins__" = some (.ref bm) /\ bm ≠ builtinsNs /\ base.get? bm = some ob /\ ob.cls = .type "module" /\ ob.dict = some builtinsNs /\ ob.data = .plain
structure Cx where
 prog : Program
 w : World
 K : PySem.W.Frag
 mg : Str -> Option Value
 base : Heap
 A : Around
 N : List Str
 s₀ : Shared
 H₀ : Hp
 env : Env
 outer : List Env
 stack : List Env
 ex : List Addr
 fn : Str -> Bool
 calm : Bool
 pn : List (Addr × Obj)
 xe : Value -> Shared -> Prop
def frs (l : List Env) : List Addr := l.filterMap (·.frame)
abbrev Cx.fs (X : Cx) : List Addr := frs X.outer
def Vis (sc : Scope) (x : Str) : Prop := sc.names.lookup x = some .local ∨ sc.names.lookup x = some .cell ∨ sc.names.lookup x = some .free
def Loc (sc : Scope) (x : Str) : Prop := sc.names.lookup x = some .local ∨ sc.names.lookup x = some .cell
def Look (env : Env) (h : Heap) (m : Str -> Option Value) (x : Str) (u : Value) : Prop :=
 (env.kindOf x = some .local /\ m x = some u) ∨ ((env.kindOf x = some .cell ∨ env.kindOf x = some .free) /\ ∃ c, env.cells.lookup x = some c /\ h.IsCell c (some u))
structure Cx.Ok (X : Cx) : Prop where
 mod : Mod X.K X.mg X.base
 kind : X.env.scope.kind = .function
 glob : X.env.globals = mainGlobals
 blt : X.env.builtins = builtinsNs
 above : X.s₀.heap.objs.size <= X.env.locals
 inj : ∀ x y c, X.env.cells.lookup x = some c -> X.env.cells.lookup y = some c -> x = y
 has : ∀ x, (X.env.kindOf x = some .cell ∨ X.env.kindOf x = some .free) -> ∃ c, X.env.cells.lookup x = some c
 cab : ∀ x c, X.fn x = true -> X.env.cells.lookup x = some c -> X.s₀.heap.objs.size <= c
 hd : X.calm = true -> X.A.handled = none
 frames : X.A.frames = some X.stack
 stk : X.stack = X.outer ∨ (X.stack = X.env :: X.outer /\ X.env.frame = some X.env.locals)
 exf : ∀ b ∈ X.ex, b ≠ X.env.locals /\ ∀ x c, X.env.cells.lookup x = some c -> c ≠ b
 bs : ∀ b o, X.base.get? b = some o -> X.s₀.heap.get? b = some o /\ X.H₀ b = none
 bsz : X.base.objs.size <= X.s₀.heap.objs.size
 noex : ∀ b o, X.base.get? b = some o -> b ∉ X.ex
 exfs : ∀ b ∈ X.ex, b ∉ X.fs
 funs : X.s₀.heap.FunFrames X.base X.outer
 frf : ∀ b ∈ X.fs, X.H₀ b = none
structure GK (a b : Array GenState) : Prop where
 bare : AllBare b
 kept : ∀ (k : Nat) (g : GenState), a[k]? = some g -> b[k]? = some g
theorem GK.refl {a : Array GenState} (h : AllBare a) : GK a a := ⟨h, λ _ _ e => e⟩
theorem GK.trans {a b c : Array GenState} (x : GK a b) (y : GK b c) : GK a c := ⟨y.bare, λ k g e => y.kept k g (x.kept k g e)⟩
theorem GK.again {a b : Array GenState} (x : GK a b) : GK b b := GK.refl x.bare
structure Inv (X : Cx) (pins : List (Addr × Obj)) (σ : List (Option V)) (H : Hp) (s : Shared) : Prop where
 ok : X.Ok
 os : s.os = X.s₀.os
 bare : GK X.s₀.gens s.gens
 base : Un X.fs X.ex X.H₀ H X.s₀.heap s.heap
 loc : ∃ m, s.heap.Ns X.env.locals m /\ ∀ (i : Nat) (x : Str) (v : V), X.N[i]? = some x -> σ[i]? = some (some v) -> Vis X.env.scope x -> ∃ u, RelV v u /\ Look X.env s.heap m x u
 cell : ∀ x c, X.env.cells.lookup x = some c -> ∃ v, s.heap.IsCell c v
 free : H X.env.locals = none
 freeC : ∀ x c, X.env.cells.lookup x = some c -> H c = none
 pin : ∀ p ∈ X.pn ++ pins, s.heap.get? p.1 = some p.2 /\ H p.1 = none /\ p.1 ≠ X.env.locals /\ p.1 ∉ X.fs /\ ∀ v, p.2.data ≠ .cell v
 hok : HOk X.prog X.w H s.heap
 len : σ.length = X.N.length
section
variable {X : Cx} {pins : List (Addr × Obj)} {σ : List (Option V)} {H H' : Hp} {s : Shared} {h' : Heap}
theorem Cx.Ok.nofr (ok : X.Ok) {b : Addr} {o : Obj} (e : X.base.get? b = some o) : b ∉ X.fs := λ hb => by
 have := (ok.funs.mem hb).1
 rw [e] at this; cases this
theorem Inv.bs (I : Inv X pins σ H s) : ∀ b o, X.base.get? b = some o -> s.heap.get? b = some o /\ H b = none := λ b o e =>
 ⟨I.base.keep b o (I.ok.bs b o e).1 (I.ok.bs b o e).2 (I.ok.nofr e) (I.ok.noex b o e), I.base.free b o (I.ok.bs b o e).1 (I.ok.bs b o e).2 (I.ok.noex b o e)⟩
theorem Inv.bk (I : Inv X pins σ H s) : ∀ b o, X.base.get? b = some o -> s.heap.get? b = some o := λ b o e => (I.bs b o e).1
theorem Inv.mod (I : Inv X pins σ H s) : Mod X.K X.mg X.base := I.ok.mod
theorem Inv.kIn (I : Inv X pins σ H s) : X.K.In s.heap := I.ok.mod.kin.keeps I.bk
theorem Inv.nolimit (I : Inv X pins σ H s) : s.heap.NoLimit := I.ok.mod.nolimit.keeps I.bk
theorem Inv.fr (I : Inv X pins σ H s) : ∃ m, Fr X.base X.env.locals s.heap m :=
 let ⟨m, hn, _⟩ := I.loc
 ⟨m, hn, I.bk, Nat.le_trans I.ok.bsz I.ok.above⟩
theorem Inv.lt (I : Inv X pins σ H s) : X.env.locals < s.heap.objs.size := let ⟨_, hn, _⟩ := I.loc; hn.lt
theorem Inv.sz (I : Inv X pins σ H s) : X.s₀.heap.objs.size <= s.heap.objs.size := Nat.le_trans I.ok.above (Nat.le_of_lt I.lt)
theorem Inv.nofs (I : Inv X pins σ H s) {a : Addr} (h : s.heap.objs.size <= a) : a ∉ X.fs := λ hb => by
 obtain ⟨_, o, ho, _⟩ := I.ok.funs.mem hb
 exact absurd (Nat.lt_of_lt_of_le (Heap.lt_size ho) (Nat.le_trans I.sz h)) (Nat.lt_irrefl _)
theorem Inv.cne (I : Inv X pins σ H s) : ∀ x c, X.env.cells.lookup x = some c -> c ≠ X.env.locals := λ x c e z => by
 obtain ⟨v, o, ho, hd⟩ := I.cell x c e
 obtain ⟨m, ⟨o', es, ep, ho', hd', _⟩, _⟩ := I.loc
 rw [z, ho'] at ho; cases ho; rw [hd'] at hd; cases hd
theorem Inv.funs (I : Inv X pins σ H s) : s.heap.FunFrames X.base X.outer := by
 have all : ∀ (l : List Env), (∀ b ∈ frs l, b ∈ X.fs) -> X.s₀.heap.FunFrames X.base l -> s.heap.FunFrames X.base l := by
  intro l
  induction l with
  | nil => intro _ _; trivial
  | cons env r ih =>
   intro hs hl
   obtain ⟨hk, ⟨L, o, hf, hn, ho, hd⟩, hr⟩ := hl
   have hL : L ∈ X.fs := hs L (by unfold frs; rw [List.filterMap_cons, hf]; exact List.mem_cons_self)
   obtain ⟨sl, e⟩ := I.base.slot L o ho (I.ok.frf L hL) hL λ z => I.ok.exfs L z hL
   exact ⟨hk, ⟨L, _, hf, hn, e, hd⟩, ih (λ b hb => hs b (by unfold frs; rw [List.filterMap_cons, hf]; exact List.mem_cons_of_mem _ hb)) hr⟩
 exact all X.outer (λ _ hb => hb) I.ok.funs
theorem Inv.stack (I : Inv X pins σ H s) : s.heap.FunFrames X.base X.stack := by
 rcases I.ok.stk with e | ⟨e, hf⟩
 .rw [e]; exact I.funs
 .rw [e]
  obtain ⟨m, hn, _⟩ := I.loc
  refine .cons (by rw [I.ok.kind]; decide) hf hn ?_ I.funs
  exact Heap.get?_none_of_le (Nat.le_trans I.ok.bsz I.ok.above)
theorem Inv.stkSub (I : Inv X pins σ H s) : ∀ b ∈ frs X.stack, b ∈ X.env.locals :: X.fs := λ b hb => by
 rcases I.ok.stk with e | ⟨e, hf⟩
 .rw [e] at hb; exact List.mem_cons_of_mem _ hb
 .rw [e] at hb
  unfold frs at hb
  rw [List.filterMap_cons, hf] at hb
  exact hb
theorem Inv.stkFree (I : Inv X pins σ H s) : ∀ b ∈ frs X.stack, H b = none := λ b hb => by
 rcases List.mem_cons.mp (I.stkSub b hb) with e | hb
 .rw [e]; exact I.free
 .obtain ⟨_, o, ho, _⟩ := I.ok.funs.mem hb
  exact I.base.free b o ho (I.ok.frf b hb) λ z => I.ok.exfs b z hb
theorem Inv.step {g' : Array GenState} {t' : Nat} {d' : Drawn} {ch : List Addr} (I : Inv X pins σ H s)
  (hch : ∀ b ∈ ch, (b ∈ X.ex ∨ X.s₀.heap.objs.size <= b) /\ b ≠ X.env.locals /\ (∀ x c, X.env.cells.lookup x = some c -> c ≠ b) /\ ∀ p ∈ X.pn ++ pins, p.1 ≠ b)
  (keep : ∀ b o, b ≠ X.env.locals -> b ∉ X.fs -> b ∉ ch -> s.heap.get? b = some o -> H b = none -> h'.get? b = some o)
  (slot : ∀ b o, b ≠ X.env.locals -> b ∈ X.fs -> b ∉ ch -> s.heap.get? b = some o -> H b = none -> ∃ sl, h'.get? b = some { o with slots := sl }) (free : ∀ b o, b ∉ ch -> s.heap.get? b = some o -> H b = none -> H' b = none)
  (there : ∀ b o, b ∉ ch -> s.heap.get? b = some o -> ∃ o', h'.get? b = some o')
  (tups : ∀ b xs, H b = some (.tup xs) -> H' b = some (.tup xs)) (frzs : ∀ b o u, H b = some (.frz o u) -> H' b = some (.frz o u)) (tbls : ∀ b ps, H b = some (.tbl ps) -> ∃ more, H' b = some (.tbl (ps ++ more)))
  (ns : ∀ m, s.heap.Ns X.env.locals m -> h'.Ns X.env.locals m) (hok : HOk X.prog X.w H' h') (hg : GK s.gens g') :
  Inv X pins σ H' { s with heap := h', gens := g', drawn := d', toks := t' } := by
 have neL : ∀ b o, X.s₀.heap.get? b = some o -> b ≠ X.env.locals := λ b o e => Nat.ne_of_lt (Nat.lt_of_lt_of_le (Heap.lt_size e) I.ok.above)
 have neC : ∀ b o, X.s₀.heap.get? b = some o -> b ∉ X.ex -> b ∉ ch := λ b o e hx hb => by
  rcases (hch b hb).1 with z | z
  .exact hx z
  .exact absurd (Nat.lt_of_lt_of_le (Heap.lt_size e) z) (Nat.lt_irrefl _)
 have cellK : ∀ x c, X.env.cells.lookup x = some c -> ∀ v, s.heap.IsCell c v -> h'.IsCell c v := λ x c e v zq1 => by
  obtain ⟨o, ho, hd⟩ := zq1
  have nch : c ∉ ch := λ z => (hch c z).2.2.1 x c e rfl
  by_cases hc : c ∈ X.fs
  .obtain ⟨sl, q⟩ := slot c o (I.cne x c e) hc nch ho (I.freeC x c e)
   exact ⟨_, q, hd⟩
  .exact ⟨o, keep c o (I.cne x c e) hc nch ho (I.freeC x c e), hd⟩
 refine ⟨I.ok, I.os, I.bare.trans hg, ⟨λ b o e n hb hx => ?_, λ b o e n hb hx => ?_, λ b o e n hx => ?_, λ b o e hx => ?_, λ b xs e => tups b xs (I.base.tups b xs e), λ b o xs e => frzs b o xs (I.base.frzs b o xs e), λ b ps e => ?_⟩, ?_, λ x c e => ?_, ?_, λ x c e => ?_, λ p hp => ?_, hok, I.len⟩
 .exact keep b o (neL b o e) hb (neC b o e hx) (I.base.keep b o e n hb hx) (I.base.free b o e n hx)
 .obtain ⟨sl, e1⟩ := I.base.slot b o e n hb hx
  obtain ⟨sl', e2⟩ := slot b _ (neL b o e) hb (neC b o e hx) e1 (I.base.free b o e n hx)
  exact ⟨sl', e2⟩
 .obtain ⟨o', e1⟩ := I.base.there b o e hx
  exact free b o' (neC b o e hx) e1 (I.base.free b o e n hx)
 .obtain ⟨o', e1⟩ := I.base.there b o e hx
  exact there b o' (neC b o e hx) e1
 .obtain ⟨m1, e1⟩ := I.base.tbls b ps e
  obtain ⟨m2, e2⟩ := tbls b _ e1
  exact ⟨m1 ++ m2, by rw [e2, Array.append_assoc]⟩
 .obtain ⟨m, hn, hl⟩ := I.loc
  refine ⟨m, ns m hn, λ i x v e1 e2 e3 => ?_⟩
  obtain ⟨u, r, l⟩ := hl i x v e1 e2 e3
  refine ⟨u, r, ?_⟩
  rcases l with l | ⟨k, c, e, z⟩
  .exact .inl l
  .exact .inr ⟨k, c, e, cellK x c e _ z⟩
 .obtain ⟨v, z⟩ := I.cell x c e
  exact ⟨v, cellK x c e v z⟩
 .obtain ⟨m, ⟨o, _, _, ho, _⟩, _⟩ := I.loc
  exact free _ o (λ z => (hch _ z).2.1 rfl) ho I.free
 .obtain ⟨v, o, ho, hd⟩ := I.cell x c e
  exact free c o (λ z => (hch c z).2.2.1 x c e rfl) ho (I.freeC x c e)
 .obtain ⟨e, n, ne, nf, d⟩ := I.pin p hp
  have nch : p.1 ∉ ch := λ z => (hch p.1 z).2.2.2 p hp rfl
  exact ⟨keep p.1 p.2 ne nf nch e n, free p.1 p.2 nch e n, ne, nf, d⟩
theorem Inv.un {t' : Nat} (I : Inv X pins σ H s) (u : Un X.fs [] H H' s.heap h') (hok : HOk X.prog X.w H' h') : Inv X pins σ H' { s with heap := h', toks := t' } := by
 obtain ⟨m, ⟨o, es, ep, ho, r⟩, _⟩ := id I.loc
 obtain ⟨sl, hL⟩ := u.any ho I.free (by simp)
 exact I.step (g' := s.gens) (d' := s.drawn) (ch := []) (λ _ z => nomatch z) (λ b o _ hb _ e n => u.keep b o e n hb (by simp)) (λ b o _ hb _ e n => u.slot b o e n hb (by simp)) (λ b o _ e n => u.free b o e n (by simp)) (λ b o _ e => u.there b o e (by simp)) u.tups u.frzs u.tbls (λ m' hm => by
  obtain ⟨o', es', ep', ho', r'⟩ := hm
  rw [ho] at ho'; cases ho'
  exact ⟨_, es', ep', hL, r'⟩) hok I.bare.again
theorem Inv.call {g' : Array GenState} {t' : Nat} {d' : Drawn} {ch : List Addr} (I : Inv X pins σ H s) (u : Un (frs X.stack) ch H H' s.heap h') (hok : HOk X.prog X.w H' h') (hg : GK s.gens g')
  (hch : ∀ b ∈ ch, (b ∈ X.ex ∨ X.s₀.heap.objs.size <= b) /\ b ≠ X.env.locals /\ (∀ x c, X.env.cells.lookup x = some c -> c ≠ b) /\ ∀ p ∈ X.pn ++ pins, p.1 ≠ b) :
  Inv X pins σ H' { s with heap := h', gens := g', drawn := d', toks := t' } := by
 obtain ⟨m, ⟨o, es, ep, ho, r⟩, _⟩ := id I.loc
 obtain ⟨sl, hL⟩ := u.any ho I.free λ z => (hch _ z).2.1 rfl
 exact I.step (ch := ch) hch (λ b o hL hb hc e n => u.keep b o e n (λ z => (List.mem_cons.mp (I.stkSub b z)).elim hL hb) hc) (λ b o _ _ hc e n => u.any e n hc) (λ b o hc e n => u.free b o e n hc) (λ b o hc e => u.there b o e hc) u.tups u.frzs u.tbls (λ m' hm => by
  obtain ⟨o', es', ep', ho', r'⟩ := hm
  rw [ho] at ho'; cases ho'
  exact ⟨_, es', ep', hL, r'⟩) hok hg
theorem Inv.turned {t' : Nat} {it : Addr} (I : Inv X pins σ H s) (k : ∀ b o, b ≠ it -> s.heap.get? b = some o -> h'.get? b = some o) (hn : H it = none) (hL : it ≠ X.env.locals)
  (h1 : it ∈ X.ex ∨ X.s₀.heap.objs.size <= it) (h2 : ∀ x c, X.env.cells.lookup x = some c -> c ≠ it) (h3 : ∀ p ∈ X.pn ++ pins, p.1 ≠ it) : Inv X pins σ H { s with heap := h', toks := t' } := by
 have nit : ∀ b u, H b = some u -> b ≠ it := λ b u e z => by rw [z, hn] at e; cases e
 refine I.step (g' := s.gens) (d' := s.drawn) (ch := [it]) (λ b hb => ?_) (λ b o _ _ hc e _ => k b o (λ z => hc (by simp [z])) e) (λ b o _ _ hc e _ => ⟨o.slots, k b o (λ z => hc (by simp [z])) e⟩) (λ _ _ _ _ n => n)
  (λ b o hc e => ⟨o, k b o (λ z => hc (by simp [z])) e⟩) (λ _ _ e => e) (λ _ _ _ e => e) (λ b ps e => ⟨#[], by rw [e]; simp⟩) (λ m hm => ?_) (λ b u e => ?_) I.bare.again
 .have e : b = it := by simpa using hb
  subst e
  exact ⟨h1, hL, h2, h3⟩
 .obtain ⟨o, es, ep, ho, r⟩ := hm
  exact ⟨o, es, ep, k _ o (Ne.symm hL) ho, r⟩
 .refine (I.hok b u e).stay (λ c v hc q => k c v ?_ q) (λ _ q => q) λ _ _ q => q
  rcases hc with z | z
  .rw [z]; exact nit b u e
  .exact nit c _ z
theorem Inv.tok (I : Inv X pins σ H s) (t : Nat) : Inv X pins σ H { s with toks := t } := I.un (h' := s.heap) (t' := t) Un.refl I.hok
theorem Inv.kept {t' : Nat} (I : Inv X pins σ H s) (k : ∀ b u, s.heap.get? b = some u -> h'.get? b = some u) : Inv X pins σ H { s with heap := h', toks := t' } := I.un (Un.kept k) (I.hok.kept k)
theorem Inv.laid {a : Addr} {o : HO} {t' : Nat} (I : Inv X pins σ H s) (k : ∀ b u, s.heap.get? b = some u -> h'.get? b = some u) (hp : s.heap.objs.size <= a) (new : gV X.prog X.w (upd H a o) h' a o) :
  Inv X pins σ (upd H a o) { s with heap := h', toks := t' } := I.un (Un.laid k hp (I.hok.fresh hp)) (I.hok.laid k hp new)
theorem Inv.write {x e : Addr} {o : HO} {t' : Nat} (I : Inv X pins σ H s) (mu : Mut (H x)) (he : e = x ∨ H e = some (.own x)) (k : ∀ b u, b ≠ e -> s.heap.get? b = some u -> h'.get? b = some u) (heo : ∃ u, h'.get? e = some u)
  (new : gV X.prog X.w (upd H x o) h' x o) : Inv X pins σ (upd H x o) { s with heap := h', toks := t' } := I.un (Un.write mu he k heo) (I.hok.write mu he k heo new)
theorem Inv.weak {σ' : List (Option V)} (I : Inv X pins σ H s) (hl : σ'.length = σ.length) (w : ∀ (i : Nat) v, σ'[i]? = some (some v) -> σ[i]? = some (some v)) : Inv X pins σ' H s :=
 ⟨I.ok, I.os, I.bare, I.base, let ⟨m, hn, hl'⟩ := I.loc; ⟨m, hn, λ i x v e1 e2 e3 => hl' i x v e1 (w i v e2) e3⟩, I.cell, I.free, I.freeC, I.pin, I.hok, hl.trans I.len⟩
theorem Inv.pins_of {pins' : List (Addr × Obj)} (I : Inv X pins σ H s) (h : ∀ p ∈ pins', s.heap.get? p.1 = some p.2 /\ H p.1 = none /\ p.1 ≠ X.env.locals /\ p.1 ∉ X.fs /\ ∀ v, p.2.data ≠ .cell v) : Inv X pins' σ H s :=
 ⟨I.ok, I.os, I.bare, I.base, I.loc, I.cell, I.free, I.freeC, λ p hp => (List.mem_append.mp hp).elim (λ z => I.pin p (List.mem_append_left _ z)) (h p), I.hok, I.len⟩
theorem yo {N : List Str} (hN : N.Nodup) {i j : Nat} {x : Str} (a : N[i]? = some x) (b : N[j]? = some x) : i = j := by
 obtain ⟨h1, e1⟩ := List.getElem?_eq_some_iff.mp a
 obtain ⟨h2, e2⟩ := List.getElem?_eq_some_iff.mp b
 exact (List.getElem_inj hN).mp (e1.trans e2.symm)
theorem uF {M : Model} {A : Around} {E : Value -> Shared -> Prop} {i : Nat} {x : Str} {v : V} {u : Value} {Q : Unit -> Shared -> Prop} (I : Inv X pins σ H s) (hN : X.N.Nodup) (hi : X.N[i]? = some x) (hx : Loc X.env.scope x) (r : RelV v u)
  (h : ∀ s', Inv X pins (σ.set i (some v)) H s' -> (∃ a, Heap.SameBut a s.heap s'.heap /\ (a = X.env.locals ∨ X.env.cells.lookup x = some a)) -> Q () s') (hf : X.fn x = true ∨ X.env.scope.names.lookup x = some .local := by first | exact .inl rfl | exact .inr rfl | assumption) : wpAny M A (storeName X.env x u) Q E s := by
 obtain ⟨m, hn, hl⟩ := id I.loc
 have hcls : (X.env.scope.kind == .class || (X.env.scope.kind == .module && X.env.locals != X.env.globals)) = false := by rw [I.ok.kind]; rfl
 have hiσ : i < σ.length := by rw [I.len]; exact (List.getElem?_eq_some_iff.mp hi).1
 have cne := I.cne
 have tracked : ∀ {a : Addr} {h' : Heap}, (∃ o, s.heap.get? a = some o /\ H a = none) -> Heap.SameBut a s.heap h' -> HOk X.prog X.w H h' := λ {a h'} ha hs b ob e => by
  obtain ⟨_, _, hfree⟩ := ha
  refine (I.hok b ob e).stay (λ c w' hc q => (hs.2 c ?_).trans q) (λ _ q => q) λ _ _ q => q
  rintro rfl
  rcases hc with rfl | hc
  .rw [hfree] at e; cases e
  .rw [hfree] at hc; cases hc
 rcases hx with hk | hk
 .refine wpAny_storeName_local hk hn (λ h' hn' hs => ?_) hcls
  obtain ⟨oL, _, _, hoL, _⟩ := id hn
  refine h _ ⟨I.ok, I.os, I.bare, ⟨λ b o e n hb hx => ?_, λ b o e n hb hx => ?_, I.base.free, λ b o e hx => ?_, I.base.tups, I.base.frzs, I.base.tbls⟩, ⟨_, hn', λ j y v' e1 e2 e3 => ?_⟩, λ y c e => ?_, I.free, I.freeC, λ p hp => ?_, tracked ⟨oL, hoL, I.free⟩ hs, by simpa using I.len⟩ ⟨_, hs, .inl rfl⟩
  .exact (hs.2 b (Nat.ne_of_lt (Nat.lt_of_lt_of_le (Heap.lt_size e) I.ok.above))).trans (I.base.keep b o e n hb hx)
  .obtain ⟨sl, e1⟩ := I.base.slot b o e n hb hx
   exact ⟨sl, (hs.2 b (Nat.ne_of_lt (Nat.lt_of_lt_of_le (Heap.lt_size e) I.ok.above))).trans e1⟩
  .obtain ⟨o', e1⟩ := I.base.there b o e hx
   exact ⟨o', (hs.2 b (Nat.ne_of_lt (Nat.lt_of_lt_of_le (Heap.lt_size e) I.ok.above))).trans e1⟩
  .by_cases hj : j = i
   .subst hj
    rw [hi] at e1; cases e1
    rw [List.getElem?_set_self hiσ] at e2
    cases e2
    exact ⟨u, r, .inl ⟨hk, by simp⟩⟩
   .rw [List.getElem?_set_ne (Ne.symm hj)] at e2
    obtain ⟨u', r', q⟩ := hl j y v' e1 e2 e3
    refine ⟨u', r', ?_⟩
    rcases q with ⟨k, e⟩ | ⟨k, c, e, z⟩
    .refine .inl ⟨k, ?_⟩
     have : y ≠ x := λ e => hj (yo hN e1 (e ▸ hi))
     simp [this, e]
    .exact .inr ⟨k, c, e, z.sameBut hs (cne y c e)⟩
  .obtain ⟨w', z⟩ := I.cell y c e
   exact ⟨w', z.sameBut hs (cne y c e)⟩
  .obtain ⟨e, n, ne, nf, d⟩ := I.pin p hp
   exact ⟨(hs.2 p.1 ne).trans e, n, ne, nf, d⟩
 .have hfn : X.fn x = true := by
   rcases hf with z | z
   .exact z
   .rw [z] at hk; cases hk
  obtain ⟨c, hc⟩ := I.ok.has x (.inl hk)
  obtain ⟨w', z⟩ := I.cell x c hc
  refine wpAny_storeName_cell I.ok.kind hk hc z (λ h' hc' hs => ?_)
  obtain ⟨oc, hoc, hocd⟩ := id z
  refine h { s with heap := h' } ⟨I.ok, I.os, I.bare, ⟨λ b o e n hb hx => ?_, λ b o e n hb hx => ?_, I.base.free, λ b o e hx => ?_, I.base.tups, I.base.frzs, I.base.tbls⟩, ⟨m, hn.sameBut hs (Ne.symm (cne x c hc)), λ j y v' e1 e2 e3 => ?_⟩, λ y c' e => ?_, I.free, I.freeC, λ p hp => ?_, tracked ⟨oc, hoc, I.freeC x c hc⟩ hs, by simpa using I.len⟩ ⟨c, hs, .inr hc⟩
  .exact (hs.2 b (Nat.ne_of_lt (Nat.lt_of_lt_of_le (Heap.lt_size e) (I.ok.cab x c hfn hc)))).trans (I.base.keep b o e n hb hx)
  .obtain ⟨sl, e1⟩ := I.base.slot b o e n hb hx
   exact ⟨sl, (hs.2 b (Nat.ne_of_lt (Nat.lt_of_lt_of_le (Heap.lt_size e) (I.ok.cab x c hfn hc)))).trans e1⟩
  .obtain ⟨o', e1⟩ := I.base.there b o e hx
   exact ⟨o', (hs.2 b (Nat.ne_of_lt (Nat.lt_of_lt_of_le (Heap.lt_size e) (I.ok.cab x c hfn hc)))).trans e1⟩
  .by_cases hj : j = i
   .subst hj
    rw [hi] at e1; cases e1
    rw [List.getElem?_set_self hiσ] at e2
    cases e2
    exact ⟨u, r, .inr ⟨.inl hk, c, hc, hc'⟩⟩
   .rw [List.getElem?_set_ne (Ne.symm hj)] at e2
    obtain ⟨u', r', q⟩ := hl j y v' e1 e2 e3
    refine ⟨u', r', ?_⟩
    rcases q with q | ⟨k, c', e, z'⟩
    .exact .inl q
    .refine .inr ⟨k, c', e, z'.sameBut hs ?_⟩
     rintro rfl
     exact hj (yo hN e1 (I.ok.inj _ _ _ e hc ▸ hi))
  .by_cases hcc : c' = c
   .subst hcc; exact ⟨_, hc'⟩
   .obtain ⟨w2, z2⟩ := I.cell y c' e
    exact ⟨w2, z2.sameBut hs hcc⟩
  .obtain ⟨e, n, ne, nf, d⟩ := I.pin p hp
   refine ⟨(hs.2 p.1 ?_).trans e, n, ne, nf, d⟩
   intro q
   rw [q, hoc] at e
   have q' : oc = p.2 := Option.some.inj e
   exact d w' (by rw [<- q']; exact hocd)
theorem oY {M : Model} {A : Around} {E : Value -> Shared -> Prop} {i : Nat} {x : Str} {v : V} {u : Value} {Q : Unit -> Shared -> Prop} (I : Inv X pins σ H s) (hN : X.N.Nodup) (hi : X.N[i]? = some x) (hx : Loc X.env.scope x) (r : RelV v u)
  (h : ∀ s', Inv X pins (σ.set i (some v)) H s' -> Q () s') (hf : X.fn x = true ∨ X.env.scope.names.lookup x = some .local := by first | exact .inl rfl | exact .inr rfl | assumption) : wpAny M A (storeName X.env x u) Q E s :=
 uF I hN hi hx r (λ s' I' _ => h s' I') hf
theorem Inv.call' {s' : Shared} {ch : List Addr} (I : Inv X pins σ H s) (ho : s'.os = s.os) (u : Un (frs X.stack) ch H H' s.heap s'.heap) (hok : HOk X.prog X.w H' s'.heap) (hg : GK s.gens s'.gens)
  (hch : ∀ b ∈ ch, (b ∈ X.ex ∨ X.s₀.heap.objs.size <= b) /\ b ≠ X.env.locals /\ (∀ x c, X.env.cells.lookup x = some c -> c ≠ b) /\ ∀ p ∈ X.pn ++ pins, p.1 ≠ b) : Inv X pins σ H' s' := by
 obtain ⟨h', g', d', t', o'⟩ := s'
 have e : o' = s.os := ho
 subst e
 exact I.call (g' := g') (t' := t') (d' := d') u hok hg hch
end
abbrev XK := Value -> Option Addr -> Hp -> Prop
abbrev St := List (Option V)
abbrev VK := V -> Hp -> Prop
abbrev TE := St -> Hp -> VK -> Prop
abbrev TT := St -> Hp -> (Bool -> Hp -> Prop) -> Prop
abbrev TA := St -> Hp -> (List V -> Hp -> Prop) -> Prop
structure Ends where
 nx : St -> Hp -> Prop
 rt : VK
 bk : St -> Hp -> Prop := λ _ _ => False
 ct : St -> Hp -> Prop := λ _ _ => False
abbrev TS := Ends -> St -> Hp -> Prop
def EP (X : Cx) (pins : List (Addr × Obj)) (σ : St) (Q : VK) (u : Value) (s' : Shared) : Prop := ∃ v H', Inv X pins σ H' s' /\ RelV v u /\ Q v H'
def TP (X : Cx) (pins : List (Addr × Obj)) (σ : St) (Q : Bool -> Hp -> Prop) (b : Bool) (s' : Shared) : Prop := ∃ H', Inv X pins σ H' s' /\ Q b H'
def AP (X : Cx) (pins : List (Addr × Obj)) (σ : St) (Q : List V -> Hp -> Prop) (us : List Value) (s' : Shared) : Prop := ∃ vs H', Inv X pins σ H' s' /\ Vals vs us /\ Q vs H'
def SP (X : Cx) (pins : List (Addr × Obj)) (D : Ends) (f : Flow) (s' : Shared) : Prop :=
 match f with
 | .next => ∃ σ' H', Inv X pins σ' H' s' /\ D.nx σ' H'
 | .brk => ∃ σ' H', Inv X pins σ' H' s' /\ D.bk σ' H'
 | .cont => ∃ σ' H', Inv X pins σ' H' s' /\ D.ct σ' H'
 | .ret u => ∃ v σ' H', Inv X pins σ' H' s' /\ RelV v u /\ D.rt v H'
def PE (X : Cx) (e : Expr) (t : TE) : Prop :=
 ∀ (pins : List (Addr × Obj)) (s : Shared) (σ : St) (H : Hp) (Q : VK), Inv X pins σ H s -> t σ H Q -> wpAny (model X.prog X.w) X.A (eval e X.env) (EP X pins σ Q) X.xe s
def PT (X : Cx) (e : Expr) (t : TT) : Prop :=
 ∀ (pins : List (Addr × Obj)) (s : Shared) (σ : St) (H : Hp) (Q : Bool -> Hp -> Prop), Inv X pins σ H s -> t σ H Q -> wpAny (model X.prog X.w) X.A (isTrue e X.env (eval e X.env)) (TP X pins σ Q) X.xe s
def PW (X : Cx) (e : Expr) (t : TT) : Prop :=
 ∀ (whole : Sem Value) (pins : List (Addr × Obj)) (s : Shared) (σ : St) (H : Hp) (Q : Bool -> Hp -> Prop), Inv X pins σ H s -> t σ H Q -> wpAny (model X.prog X.w) X.A (isTrue e X.env whole) (TP X pins σ Q) X.xe s
theorem PW.pt {X : Cx} {e : Expr} {t : TT} (h : PW X e t) : PT X e t := h _
def PA (X : Cx) (es : List Expr) (t : TA) : Prop :=
 ∀ (pos : Pos) (pins : List (Addr × Obj)) (s : Shared) (σ : St) (H : Hp) (Q : List V -> Hp -> Prop), Inv X pins σ H s -> t σ H Q -> wpAny (model X.prog X.w) X.A (spliced (backTo pos (starEach es X.env))) (AP X pins σ Q) X.xe s
def PS (X : Cx) (st : Stmt) (t : TS) : Prop :=
 ∀ (pins : List (Addr × Obj)) (s : Shared) (σ : St) (H : Hp) (D : Ends), Inv X pins σ H s -> t D σ H -> wpAny (model X.prog X.w) X.A (exec st X.env) (SP X pins D) X.xe s
def PSs (X : Cx) (st : List Stmt) (t : TS) : Prop :=
 ∀ (pins : List (Addr × Obj)) (s : Shared) (σ : St) (H : Hp) (D : Ends), Inv X pins σ H s -> t D σ H -> wpAny (model X.prog X.w) X.A (execs st X.env) (SP X pins D) X.xe s
theorem thn {α : Type} {t : Sem α} {Q Q' : α -> Shared -> Prop} {M : Model} {A : Around} {E : Value -> Shared -> Prop} {s : Shared} (h : wpAny M A t Q E s) (hQ : ∀ a s, Q a s -> Q' a s) : wpAny M A t Q' E s := wpAny_mono h hQ λ _ _ x => x
section
variable {X : Cx}
def tVar (i : Nat) : TE := λ σ H Q => ∃ v, σ[i]? = some (some v) /\ Q v H
def tC (v : V) : TE := λ _ H Q => Q v H
theorem Mp {i : Nat} {x : Str} {pos : Pos} (hN : X.N[i]? = some x) (hv : Vis X.env.scope x) (hd : (x == ("__debug__" : Str)) = false := by decide) (hcd : (x == ("__classdict__" : Str)) = false := by decide) : PE X (.Name x pos) (tVar i) := by
 intro pins s σ H Q I h
 obtain ⟨v, e, h⟩ := h
 obtain ⟨m, hn, hl⟩ := I.loc
 obtain ⟨u, r, l⟩ := hl i x v hN e hv
 have fin : EP X pins σ Q u s := ⟨v, H, I, r, h⟩
 rcases l with ⟨hk, hm⟩ | ⟨hk, c, hc, hcell⟩
 .exact wpAny_Name (wpAny_loadName_local I.ok.kind hk hn hm fin) hd
 .rcases hk with hk | hk
  .exact wpAny_Name (wpAny_loadName_cell I.ok.kind hk hc hcell fin) hd
  .exact wpAny_Name (wpAny_loadName_free I.ok.kind hk hc hcell fin hcd) hd
theorem Hu {i j pos} : PE X (.Constant (.int i) j pos) (tC (.int i)) := λ _ _ _ H _ I h => wpAny_Constant_int ⟨.int i, H, I.tok _, ⟨_, rfl⟩, h⟩
theorem Qe {b j pos} : PE X (.Constant (.bool b) j pos) (tC (.bl b)) := λ _ _ _ H _ I h => Constant_bool ⟨.bl b, H, I, rfl, h⟩
def Gl (X : Cx) (x : Str) : Prop := X.env.kindOf x = some .globalImplicit
theorem Jv {E : Value -> Shared -> Prop} {pins : List (Addr × Obj)} {s : Shared} {σ : St} {H : Hp} {x : Str} {u : Value} {pos : Pos} {Q : Value -> Shared -> Prop} (I : Inv X pins σ H s) (hg : Gl X x) (hm : X.mg x = some u) (h : Q u s)
  (hd : (x == ("__debug__" : Str)) = false := by decide) : wpAny (model X.prog X.w) X.A (eval (.Name x pos) X.env) Q E s :=
 Calls.Name_function_global I.ok.kind hg (Calls.loadGlobal_global (by rw [I.ok.glob]; exact I.mod.glob.keeps I.bk) hm h) hd
theorem lz {E : Value -> Shared -> Prop} {pins : List (Addr × Obj)} {s : Shared} {σ : St} {H : Hp} {x : Str} {u : Value} {pos : Pos} {Q : Value -> Shared -> Prop} (I : Inv X pins σ H s) (hg : Gl X x) (hm : X.mg x = none) (hv : bootBuiltins x = some u) (h : Q u s)
  (hn : x ≠ "__name__" := by decide) (hd : (x == ("__debug__" : Str)) = false := by decide) : wpAny (model X.prog X.w) X.A (eval (.Name x pos) X.env) Q E s := by
 obtain ⟨mb, h1, h2⟩ := I.mod.blt
 exact Calls.Name_function_global I.ok.kind hg (Calls.loadGlobal_builtin (by rw [I.ok.glob]; exact I.mod.glob.keeps I.bk) hm (by rw [I.ok.blt]; exact h1.keeps I.bk) ((h2 x hn).trans hv) h) hd
theorem JT {x : Str} {v : V} {u : Value} {pos : Pos} (hg : Gl X x) (hm : X.mg x = none) (hv : bootBuiltins x = some u) (r : RelV v u) (hn : x ≠ "__name__" := by decide) (hd : (x == ("__debug__" : Str)) = false := by decide) : PE X (.Name x pos) (tC v) :=
 λ _ _ _ H _ I h => lz I hg hm hv ⟨v, H, I, r, h⟩ hn hd
variable {a b : Expr} {ta tb : TE} {pos : Pos}
theorem yu (b : Expr) {op : CmpOp} (h : op ≠ .In) (h2 : op ≠ .NotIn) : behindInMarks op b = false := by
 have e1 : (op == CmpOp.In) = false := by cases op <;> first | rfl | exact absurd rfl h
 have e2 : (op == CmpOp.NotIn) = false := by cases op <;> first | rfl | exact absurd rfl h2
 cases b <;> simp [behindInMarks, e1, e2]
variable {tA tB' : TT} {rest : List Expr}
def tAnd (t u : TT) : TT := λ σ H Q => t σ H λ c H1 => if c = true then u σ H1 Q else Q false H1
def tOr (t u : TT) : TT := λ σ H Q => t σ H λ c H1 => if c = true then Q true H1 else u σ H1 Q
def tNot (t : TT) : TT := λ σ H Q => t σ H λ c H1 => Q (!c) H1
theorem JV (ha : PT X a tA) : PW X (.BoolOp .And [a] pos) tA := by
 intro wh pins s σ H Q I h
 refine isTrue_and (thn (ha pins s σ H Q I h) λ c s1 e => ?_)
 cases c with
 | true => exact isTrue_and_nil e
 | false => exact e
theorem Og (ha : PT X a tA) : PW X (.BoolOp .Or [a] pos) tA := by
 intro wh pins s σ H Q I h
 refine isTrue_or (thn (ha pins s σ H Q I h) λ c s1 e => ?_)
 cases c with
 | false => exact isTrue_or_nil e
 | true => exact e
theorem Mz (ha : PT X a tA) (hb : PW X (.BoolOp .And (b :: rest) pos) tB') : PW X (.BoolOp .And (a :: b :: rest) pos) (tAnd tA tB') := by
 intro wh pins s σ H Q I h
 refine isTrue_and (thn (ha pins s σ H _ I h) λ c s1 zq7 => ?_)
 obtain ⟨H1, I1, q1⟩ := zq7
 cases c with
 | true => exact hb wh pins s1 σ H1 Q I1 q1
 | false => exact ⟨H1, I1, q1⟩
theorem Ry (ha : PT X a tA) (hb : PW X (.BoolOp .Or (b :: rest) pos) tB') : PW X (.BoolOp .Or (a :: b :: rest) pos) (tOr tA tB') := by
 intro wh pins s σ H Q I h
 refine isTrue_or (thn (ha pins s σ H _ I h) λ c s1 zq8 => ?_)
 obtain ⟨H1, I1, q1⟩ := zq8
 cases c with
 | true => exact ⟨H1, I1, q1⟩
 | false => exact hb wh pins s1 σ H1 Q I1 q1
theorem Mh (ha : PT X a tA) : PT X (.UnaryOp .Not a pos) (tNot tA) := by
 intro pins s σ H Q I h
 exact isTrue_not (ha pins s σ H (λ c H1 => Q (!c) H1) I h)
def Ri (ta tb : TE) : TE := λ σ H Q => ta σ H λ x H1 => ∃ c, x = .bl c /\ if c = true then tb σ H1 Q else Q (.bl false) H1
def Qz (ta : TE) : TE := λ σ H Q => ta σ H λ x H1 => ∃ c, x = .bl c /\ Q (.bl (!c)) H1
theorem Ow {op} {t : TE} (h : PE X a t) : PE X (.BoolOp op [a] pos) t := λ pins s σ H Q I hw => BoolOp_one (h pins s σ H Q I hw)
theorem Lw (ha : PE X a ta) (hb : PE X (.BoolOp .And (b :: rest) pos) tb) : PE X (.BoolOp .And (a :: b :: rest) pos) (Ri ta tb) := by
 intro pins s σ H Q I h
 refine BoolOp_and (thn (ha pins s σ H _ I h) λ v s1 zq9 => ?_)
 obtain ⟨x, H1, I1, r1, q1⟩ := zq9
 obtain ⟨c, rfl, q1⟩ := q1
 cases r1
 refine wpAny_truthy_bool ?_
 cases c with
 | true => exact hb pins s1 σ H1 Q I1 q1
 | false => exact ⟨.bl false, H1, I1, rfl, q1⟩
theorem Pa (ha : PE X a ta) : PE X (.UnaryOp .Not a pos) (Qz ta) := by
 intro pins s σ H Q I h
 refine UnaryOp_ (thn (ha pins s σ H _ I h) λ v s1 zq11 => ?_)
 obtain ⟨x, H1, I1, r1, q1⟩ := zq11
 obtain ⟨c, rfl, q1⟩ := q1
 cases r1
 exact not_of (wpAny_truthy_bool ⟨.bl (!c), H1, I1, rfl, q1⟩)
end
def SqL (K : PySem.W.Frag) (H : Hp) (a : Addr) (xs : List V) : Prop :=
 Rd H a (.lst xs) ∨
  ∃ (o : Obj) (its : Array Value) (n : Nat), K.lookup a = some o /\ o.cls = .type "list" /\ o.dict = none /\ o.data = .seq its n /\ its.size <= sizeLine /\ Vals xs its.toList
def SqT (K : PySem.W.Frag) (H : Hp) (a : Addr) (xs : List V) : Prop :=
 Rd H a (.tup xs) ∨
  ∃ (o : Obj) (its : Array Value) (n : Nat), K.lookup a = some o /\ o.cls = .type "tuple" /\ o.data = .seq its n /\ its.size <= sizeLine /\ Vals xs its.toList
def absV : Value -> Option V
 | .none => some .non
 | .bool b => some (.bl b)
 | .int i _ => some (.int i)
 | .str x _ => some (.str x)
 | .bytes b _ => some (.byt b)
 | .float b _ => some (.flt b)
 | .ref a => some (.ref a)
 | .type n => some (.ty n)
 | _ => none
theorem RelV.abs {x : V} {u : Value} (r : RelV x u) : absV u = some x := by
 cases x with
 | non => cases r; rfl
 | bl _ => cases r; rfl
 | int _ => obtain ⟨t, rfl⟩ := r; rfl
 | str _ => obtain ⟨t, rfl⟩ := r; rfl
 | byt _ => obtain ⟨t, rfl⟩ := r; rfl
 | flt _ => obtain ⟨t, rfl⟩ := r; rfl
 | ref _ => cases r; rfl
 | ty _ => cases r; rfl
theorem RelV.inj {x y : V} {u : Value} (r : RelV x u) (q : RelV y u) : x = y := Option.some.inj (r.abs.symm.trans q.abs)
theorem Vals.inj : ∀ {xs ys : List V} {us : List Value}, Vals xs us -> Vals ys us -> xs = ys
 | _, _, _, .nil, .nil => rfl
 | _, _, _, .cons r t, .cons r' t' => by rw [r.inj r', Vals.inj t t']
section
variable {X : Cx} {pins : List (Addr × Obj)} {σ : St} {H : Hp} {s : Shared} {a : Addr} {xs ys : List V}
theorem SqL.of {K : PySem.W.Frag} (h : H a = some (.lst xs)) : SqL K H a xs := .inl (.inl h)
theorem Inv.list (I : Inv X pins σ H s) (h : SqL X.K H a xs) : ∃ its : List Value, Vals xs its /\ PlainL s.heap a its.toArray /\ xs.length <= sizeLine := by
 rcases h with h | ⟨o, its, n, hk, hc, hd, hs, hz, r⟩
 .obtain ⟨z, its, n, r, e⟩ := h.ok I.hok
  exact ⟨its, r, ⟨_, n, e, rfl, rfl, rfl⟩, z⟩
 .refine ⟨its.toList, r, ⟨o, n, I.kIn a o hk, hc, hd, by simpa using hs⟩, ?_⟩
  have e := r.length
  simp only [Array.length_toList] at e
  omega
theorem Inv.tuple (I : Inv X pins σ H s) (h : SqT X.K H a xs) : ∃ its : List Value, Vals xs its /\ IsTup s.heap a its.toArray /\ xs.length <= sizeLine := by
 rcases h with h | ⟨o, its, n, hk, hc, hs, hz, r⟩
 .obtain ⟨z, its, r, p⟩ := h.ok I.hok
  exact ⟨its, r, p, z⟩
 .refine ⟨its.toList, r, ⟨o, I.kIn a o hk, hc, n, by simpa using hs⟩, ?_⟩
  have e := r.length
  simp only [Array.length_toList] at e
  omega
theorem Inv.list_inj (I : Inv X pins σ H s) (h : SqL X.K H a xs) (h' : SqL X.K H a ys) : xs = ys := by
 obtain ⟨its, r, ⟨o, n, e, _, _, d⟩, _⟩ := I.list h
 obtain ⟨its', r', ⟨o', n', e', _, _, d'⟩, _⟩ := I.list h'
 rw [e] at e'; cases e'
 rw [d] at d'
 injection d' with d1 _
 have : its = its' := by simpa using congrArg Array.toList d1
 subst this
 exact r.inj r'
theorem Inv.tuple_inj (I : Inv X pins σ H s) (h : SqT X.K H a xs) (h' : SqT X.K H a ys) : xs = ys := by
 obtain ⟨its, r, ⟨o, e, _, n, d⟩, _⟩ := I.tuple h
 obtain ⟨its', r', ⟨o', e', _, n', d'⟩, _⟩ := I.tuple h'
 rw [e] at e'; cases e'
 rw [d] at d'
 injection d' with d1 _
 have : its = its' := by simpa using congrArg Array.toList d1
 subst this
 exact r.inj r'
end
abbrev Cx.wish (X : Cx) (E : Value -> Shared -> Prop) : Cx := { X with xe := E }
abbrev Cx.nox (X : Cx) : Cx := X.wish λ _ _ => False
theorem Cx.Ok.wish {X : Cx} (ok : X.Ok) (E : Value -> Shared -> Prop) : (X.wish E).Ok :=
 ⟨ok.mod, ok.kind, ok.glob, ok.blt, ok.above, ok.inj, ok.has, ok.cab, ok.hd, ok.frames, ok.stk, ok.exf, ok.bs, ok.bsz, ok.noex, ok.exfs, ok.funs, ok.frf⟩
theorem Cx.Ok.unwish {X : Cx} {E : Value -> Shared -> Prop} (ok : (X.wish E).Ok) : X.Ok :=
 ⟨ok.mod, ok.kind, ok.glob, ok.blt, ok.above, ok.inj, ok.has, ok.cab, ok.hd, ok.frames, ok.stk, ok.exf, ok.bs, ok.bsz, ok.noex, ok.exfs, ok.funs, ok.frf⟩
section
variable {X : Cx} {pins : List (Addr × Obj)} {σ : St} {H : Hp} {s : Shared} {E : Value -> Shared -> Prop}
theorem Inv.wish (I : Inv X pins σ H s) (E : Value -> Shared -> Prop) : Inv (X.wish E) pins σ H s := ⟨I.ok.wish E, I.os, I.bare, I.base, I.loc, I.cell, I.free, I.freeC, I.pin, I.hok, I.len⟩
theorem Inv.unwish (I : Inv (X.wish E) pins σ H s) : Inv X pins σ H s := ⟨I.ok.unwish, I.os, I.bare, I.base, I.loc, I.cell, I.free, I.freeC, I.pin, I.hok, I.len⟩
theorem SP.unwish {D : Ends} {f : Flow} {s' : Shared} (h : SP (X.wish E) pins D f s') : SP X pins D f s' := by
 cases f with
 | next => obtain ⟨σ', H', I, q⟩ := h; exact ⟨σ', H', I.unwish, q⟩
 | brk => obtain ⟨σ', H', I, q⟩ := h; exact ⟨σ', H', I.unwish, q⟩
 | cont => obtain ⟨σ', H', I, q⟩ := h; exact ⟨σ', H', I.unwish, q⟩
 | ret u => obtain ⟨v, σ', H', I, r, q⟩ := h; exact ⟨v, σ', H', I.unwish, r, q⟩
theorem PSs.nox {st : List Stmt} {t : TS} (h : PSs X.nox st t) : PSs X st t := λ pins s σ H D I hw =>
 wpAny_mono (h pins s σ H D (I.wish _) hw) (λ _ _ q => q.unwish) λ _ _ z => False.elim z
end
section
variable {X : Cx} {st : Stmt} {rest : List Stmt} {t u : TS} {e : Expr} {te : TE} {pos : Pos}
def QW : TS := λ D σ H => D.nx σ H
def tSeq (t u : TS) : TS := λ D σ H => t { D with nx := u D } σ H
theorem Kp : PSs X [] QW := λ _ _ σ H _ I h => wpAny_execs_nil ⟨σ, H, I, h⟩
theorem Ht (h1 : PS X st t) (h2 : PSs X rest u) : PSs X (st :: rest) (tSeq t u) := by
 intro pins s σ H D I h
 refine wpAny_execs_cons (thn (h1 pins s σ H { D with nx := u D } I h) λ f s1 q => ?_)
 cases f with
 | next =>
  obtain ⟨σ', H', I', q⟩ := q
  exact h2 pins s1 σ' H' D I' q
 | ret v => exact q
 | brk => exact q
 | cont => exact q
theorem Ih (h1 : PS X st t) : PSs X [st] t := by
 intro pins s σ H D I h
 refine wpAny_execs_cons (thn (h1 pins s σ H D I h) λ f s1 q => ?_)
 cases f with
 | next => exact wpAny_execs_nil q
 | ret v => exact q
 | brk => exact q
 | cont => exact q
theorem Inv.quiet {pins : List (Addr × Obj)} {σ : St} {H : Hp} {s : Shared} (I : Inv X pins σ H s) : interactive X.env = false := by simp [interactive, I.ok.kind]
def Ro (te : TE) : TS := λ D σ H => te σ H λ _ H1 => D.nx σ H1
theorem JZ (he : PE X e te) (hs : swapsWith e none pos.line X.env = pure false := by rfl) : PS X (.Expr e pos) (Ro te) := by
 intro pins s σ H D I h
 exact wpAny_Expr_any (thn (he pins s σ H _ I h) λ v s1 ⟨x, H1, I1, r1, q1⟩ => ⟨σ, H1, I1, q1⟩) I.quiet hs
def tRet (te : TE) : TS := λ D σ H => te σ H D.rt
theorem Nk (he : PE X e te) : PS X (.Return (some e) pos) (tRet te) := by
 intro pins s σ H D I h
 exact wpAny_Return_some (thn (he pins s σ H _ I h) λ v s1 ⟨x, H1, I1, r1, q1⟩ => ⟨x, σ, H1, I1, r1, q1⟩)
def tIfS (c : TT) (t u : TS) : TS := λ D σ H => c σ H λ b H1 => if b = true then t D σ H1 else u D σ H1
theorem Rn {c : Expr} {a b : List Stmt} {tc : TT} (hc : PT X c tc) (ha : PSs X a t) (hb : PSs X b u) : PS X (.If c a b pos) (tIfS tc t u) := by
 intro pins s σ H D I h
 refine wpAny_If (thn (hc pins s σ H _ I h) λ d s1 zq13 => ?_)
 obtain ⟨H1, I1, q1⟩ := zq13
 cases d with
 | true => exact ha pins s1 σ H1 D I1 q1
 | false => exact hb pins s1 σ H1 D I1 q1
end
abbrev TG := V -> St -> Hp -> (St -> Hp -> Prop) -> Prop
abbrev TGs := List V -> St -> Hp -> (St -> Hp -> Prop) -> Prop
def PG (X : Cx) (target : Expr) (t : TG) : Prop :=
 ∀ (pins : List (Addr × Obj)) (s : Shared) (σ : St) (H : Hp) (v : V) (u : Value) (Q : St -> Hp -> Prop), Inv X pins σ H s -> RelV v u -> t v σ H Q ->
  wpAny (model X.prog X.w) X.A (assign target X.env u) (λ _ s' => ∃ σ' H', Inv X pins σ' H' s' /\ Q σ' H') X.xe s
def PGs (X : Cx) (ts : List Expr) (t : TGs) : Prop :=
 ∀ (pins : List (Addr × Obj)) (s : Shared) (σ : St) (H : Hp) (vs : List V) (us : List Value) (Q : St -> Hp -> Prop), Inv X pins σ H s -> Vals vs us -> t vs σ H Q ->
  wpAny (model X.prog X.w) X.A (assignInOrder ((assignEach ts X.env).map (·.2)) us) (λ _ s' => ∃ σ' H', Inv X pins σ' H' s' /\ Q σ' H') X.xe s
abbrev Mi := V -> V -> V -> Hp -> (Hp -> Prop) -> Prop
def Qo (X : Cx) (t : Mi) : Prop :=
 ∀ (pins : List (Addr × Obj)) (s : Shared) (σ : St) (H : Hp) (o i v : V) (ov iv u : Value) (Q : Hp -> Prop), Inv X pins σ H s -> RelV o ov -> RelV i iv -> RelV v u -> t o i v H Q ->
  wpAny (model X.prog X.w) X.A (setItem ov iv u) (λ _ s' => ∃ H', Inv X pins σ H' s' /\ Q H') X.xe s
section
variable {X : Cx} {pos : Pos}
def Hg (i : Nat) : TG := λ v σ H Q => Q (σ.set i (some v)) H
theorem Je {i : Nat} {x : Str} (hN : X.N.Nodup) (hi : X.N[i]? = some x) (hx : Loc X.env.scope x) (hf : X.fn x = true ∨ X.env.scope.names.lookup x = some .local := by first | exact .inl rfl | exact .inr rfl | assumption) : PG X (.Name x pos) (Hg i) := by
 intro pins s σ H v u Q I r h
 exact wpAny_assign_Name (oY I hN hi hx r (λ s' I' => ⟨_, H, I', h⟩) hf)
def gNil : TGs := λ vs σ H Q => vs = [] /\ Q σ H
def RK (t : TG) (u : TGs) : TGs := λ vs σ H Q => ∃ v r, vs = v :: r /\ t v σ H λ σ' H' => u r σ' H' Q
theorem JG : PGs X [] gNil := by
 intro pins s σ H vs us Q I r h
 obtain ⟨e, h⟩ := h
 subst e
 cases r
 exact assignInOrder_nil ⟨σ, H, I, h⟩
theorem Gq {e : Expr} {es : List Expr} {t : TG} {u : TGs} (h1 : PG X e t) (h2 : PGs X es u)
  (hs : (assignEach (e :: es) X.env).map (·.2) = assign e X.env :: (assignEach es X.env).map (·.2) := by rfl) : PGs X (e :: es) (RK t u) := by
 intro pins s σ H vs us Q I r h
 obtain ⟨v, vr, e1, h⟩ := h
 subst e1
 cases r with
 | cons r rr =>
  rw [hs]
  refine assignInOrder_cons (thn (h1 pins s σ H _ _ _ I r h) λ _ s1 zq14 => ?_)
  obtain ⟨σ1, H1, I1, q1⟩ := zq14
  exact h2 pins s1 σ1 H1 _ _ Q I1 rr q1
def gTup (K : PySem.W.Frag) (n : Nat) (t : TGs) : TG := λ v σ H Q => ∃ a xs, v = .ref a /\ SqT K H a xs /\ xs.length = n /\ t xs σ H Q
theorem Oj {es : List Expr} {k : Nat} {t : TGs} {n : Nat} (hc : X.calm = true) (h : PGs X es t)
  (hn : (assignEach es X.env).length = n := by rfl) (hst : (assignEach es X.env).findIdx? (·.1) = none := by rfl) : PG X (.Tuple es k pos) (gTup X.K n t) := by
 intro pins s σ H v u Q I r hw
 obtain ⟨a, xs, e1, hq, hl, hw⟩ := hw
 subst e1
 cases r
 obtain ⟨its, rv, ht, hz⟩ := I.tuple hq
 refine assign_Tuple_tuple (I.ok.hd hc) ht (by simp [hn, <- hl, rv.length]) hst λ h' hx => ?_
 have I1 : Inv X pins σ H { s with heap := h' } := I.kept (t' := s.toks) λ b o e => hx b o (Nat.ne_of_lt (Heap.lt_size e)) e
 exact h pins _ σ H xs _ Q I1 (by simpa using rv) hw
def gSub (to ti : TE) (t : Mi) : TG := λ v σ H Q => to σ H λ o H1 => ti σ H1 λ i H2 => t o i v H2 λ H3 => Q σ H3
theorem Mg {o i : Expr} {to ti : TE} {t : Mi} (ho : PE X o to) (hi : PE X i ti) (hs : Qo X t)
  (ha : ∀ v, assign (.Subscript o i pos) X.env v = (do
   let ov <- holding [v] (eval o X.env)
   let iv <- holding [v, ov] (eval i X.env)
   standAt pos
   holding [v, ov, iv] (setItem ov iv v)
   release [v, ov, iv] []) := by intro _; rfl) : PG X (.Subscript o i pos) (gSub to ti t) := by
 intro pins s σ H v u Q I r h
 rw [ha]
 refine wpAny_bind (wpAny_holding (thn (ho pins s σ H _ I h) λ ov s1 zq15 => ?_))
 obtain ⟨x, H1, I1, r1, q1⟩ := zq15
 refine wpAny_bind (wpAny_holding (thn (hi pins s1 σ H1 _ I1 q1) λ iv s2 zq16 => ?_))
 obtain ⟨y, H2, I2, r2, q2⟩ := zq16
 refine wpAny_bind (wpAny_standAt (wpAny_bind (wpAny_holding (thn (hs pins s2 σ H2 x y v ov iv u _ I2 r1 r2 r q2) λ _ s3 zq17 => ?_))))
 obtain ⟨H3, I3, q3⟩ := zq17
 exact wpAny_release ⟨σ, H3, I3, q3⟩
def Ml (te : TE) (g : TG) : TS := λ D σ H => te σ H λ x H1 => g x σ H1 D.nx
theorem Ej {tg e : Expr} {te : TE} {g : TG} (he : PE X e te) (hg : PG X tg g) (hs : swapsWithSole [tg] e pos.line X.env = pure false := by rfl) (hw : swappedStores [tg] e X.env = pure none := by rfl)
  (h1 : (assignEach [tg] X.env).map (·.2) = [assign tg X.env] := by rfl) : PS X (.Assign [tg] e pos) (Ml te g) := by
 intro pins s σ H D I h
 refine wpAny_Assign_stores (thn (he pins s σ H _ I h) λ v s1 ⟨x, H1, I1, r1, q1⟩ => ?_) hs hw
 rw [h1]
 exact thn (hg pins s1 σ H1 x v _ I1 r1 q1) λ _ s2 q => q
theorem Nh {i : Nat} {x : Str} {e : Expr} {te : TE} {pos' : Pos} (hN : X.N.Nodup) (hi : X.N[i]? = some x) (hx : Loc X.env.scope x) (he : PE X e te) (hs : swapsWith e (some (.Name x pos')) pos.line X.env = pure false := by rfl) (hf : X.fn x = true ∨ X.env.scope.names.lookup x = some .local := by first | exact .inl rfl | exact .inr rfl | assumption) :
  PS X (.Assign [.Name x pos'] e pos) (Ml te (Hg i)) := by
 intro pins s σ H D I h
 refine wpAny_Assign_Name (thn (he pins s σ H _ I h) λ v s1 zq18 => ?_) hs
 obtain ⟨y, H1, I1, r1, q1⟩ := zq18
 exact oY I1 hN hi hx r1 (λ s2 I2 => ⟨_, H1, I2, q1⟩) hf
def tPar (i j : Nat) (ta : TA) : TS := λ D σ H => ta σ H λ vs H1 => ∃ v w, vs = [v, w] /\ D.nx ((σ.set i (some v)).set j (some w)) H1
theorem NP {i j : Nat} {x y : Str} {a b : Expr} {ta : TA} {px py pt : Pos} {kt k2 pt2} (hc : X.calm = true) (hN : X.N.Nodup) (hi : X.N[i]? = some x) (hj : X.N[j]? = some y) (hij : i ≠ j)
  (hx : X.env.scope.names.lookup x = some .local) (hy : X.env.scope.names.lookup y = some .local) (ha : PA X [a, b] ta)
  (hw : swappedStores [.Tuple [.Name x px, .Name y py] kt pt] (.Tuple [a, b] k2 pt2) X.env = pure (some [x, y]))
  (hs : swapsWithSole [.Tuple [.Name x px, .Name y py] kt pt] (.Tuple [a, b] k2 pt2) pos.line X.env = pure false := by rfl) :
  PS X (.Assign [.Tuple [.Name x px, .Name y py] kt pt] (.Tuple [a, b] k2 pt2) pos) (tPar i j ta) := by
 intro pins s σ H D I h
 rw [exec_Assign_arm]
 refine wpAny_bind (wpAny_standAt ?_)
 rw [hs]
 refine wpAny_bind (wpAny_pure ?_)
 rw [if_neg (by decide)]
 refine wpAny_bind (Tuple_ (thn (ha _ pins s σ H _ I h) λ us s1 zq19 => ?_))
 obtain ⟨vs, H1, I1, r1, q1⟩ := zq19
 obtain ⟨v, w, e1, q1⟩ := q1
 subst e1
 obtain ⟨u1, u2, rfl, rv, rw'⟩ : ∃ u1 u2, us = [u1, u2] /\ RelV v u1 /\ RelV w u2 := by
  cases r1 with
  | cons p q =>
   cases q with
   | cons p' q' =>
    cases q'
    exact ⟨_, _, rfl, p, p'⟩
 refine wpAny_newObj_type ?_ (by show 2 <= sizeLine; decide)
 have I2 : Inv X pins σ H1 { s1 with heap := s1.heap.push { cls := .type "tuple", data := .seq [u1, u2].toArray } } := I1.kept (t' := s1.toks) λ b o e => Heap.get?_push_of_some _ e
 rw [hw]
 refine wpAny_bind (wpAny_pure ?_)
 show wpAny (model X.prog X.w) X.A (do rule "assign.swapped-stores"; let items <- unpackItems (.ref s1.heap.objs.size) 2 none; assignInOrder [λ v => bindName X.env y v, λ v => bindName X.env x v] items.reverse; pure Flow.next) _ _ _
 refine wpAny_bind (wpAny_rule (wpAny_bind (unpackItems_tuple (items := #[u1, u2]) (I.ok.hd hc) (IsTup.new s1.heap _) λ h' hx' => ?_)))
 have I3 := I2.kept (h' := h') (t' := s1.toks) λ b o e => hx' b o (Nat.ne_of_lt (Heap.lt_size e)) e
 show wpAny _ _ (assignInOrder [λ v => bindName X.env y v, λ v => bindName X.env x v] [u2, u1] >>= λ _ => pure Flow.next) _ _ _
 refine wpAny_bind (assignInOrder_cons (wpAny_bindName (oY I3 hN hj (.inl hy) rw' (λ s2 I4 => ?_) (.inr hy))))
 refine assignInOrder_cons (wpAny_bindName (oY I4 hN hi (.inl hx) rv (λ s3 I5 => assignInOrder_nil (wpAny_pure ?_)) (.inr hx)))
 rw [List.set_comm _ _ (Ne.symm hij)] at I5
 exact ⟨_, H1, I5, q1⟩
end
section
variable {X : Cx} {pos : Pos}
def Ou (c : TT) (tb : TS) : TS := λ D σ H => ∃ W : Nat -> St -> Hp -> Prop, (∃ m, W m σ H) /\ ∀ m σ H, W m σ H ->
 c σ H λ b H1 => if b = true then ∃ N : St -> Hp -> Prop, (∀ σ' H', N σ' H' -> ∃ m', m' < m /\ W m' σ' H') /\ tb { D with nx := N, ct := N, bk := D.nx } σ H1 else D.nx σ H1
theorem Ep {c : Expr} {body : List Stmt} {tc : TT} {tb : TS} (hp : PassesOwn (model X.prog X.w) X.A X.env X.xe) (hc : PT X c tc) (hb : PSs X body tb) : PS X (.While c body [] pos) (Ou tc tb) := by
 intro pins s σ H D I h
 obtain ⟨W, ⟨m0, w0⟩, turn⟩ := h
 refine wpAny_While (codeAny_whileLoop (λ n s' => ∃ σ' H', Inv X pins σ' H' s' /\ W n σ' H') ?_ m0 ⟨σ, H, I, w0⟩)
 rintro n s1 ⟨σ1, H1, I1, w1⟩
 refine wpAny_passesOwn hp (thn (hc pins s1 σ1 H1 _ I1 (turn n σ1 H1 w1)) λ b s2 zq27 => ?_)
 obtain ⟨H2, I2, q2⟩ := zq27
 cases b with
 | true =>
  obtain ⟨N, hN, q2⟩ := q2
  rw [if_pos rfl]
  refine wpAny_passesOwn hp (thn (hb pins s2 σ1 H2 _ I2 q2) λ f s3 q3 => ?_)
  cases f with
  | next =>
   obtain ⟨σ3, H3, I3, n3⟩ := q3
   obtain ⟨m', hm, w3⟩ := hN σ3 H3 n3
   exact ⟨m', hm, σ3, H3, I3, w3⟩
  | cont =>
   obtain ⟨σ3, H3, I3, n3⟩ := q3
   obtain ⟨m', hm, w3⟩ := hN σ3 H3 n3
   exact ⟨m', hm, σ3, H3, I3, w3⟩
  | brk => exact q3
  | ret v => exact q3
 | false =>
  rw [if_neg Bool.false_ne_true]
  exact wpAny_execs_nil ⟨σ1, H2, I2, q2⟩
end
structure It where
 go : Nat -> Hp -> Prop
 yld : Nat -> Hp -> V -> Hp -> Prop
 stop : Nat -> Hp -> Prop
def kW (X : Cx) (pins : List (Addr × Obj)) (H : Hp) (b : Addr) : Prop :=
 H b = none /\ b ≠ X.env.locals /\ b ∉ X.fs /\ (b ∈ X.ex ∨ X.s₀.heap.objs.size <= b) /\ (∀ x c, X.env.cells.lookup x = some c -> c ≠ b) /\ ∀ p ∈ X.pn ++ pins, p.1 ≠ b
theorem Inv.fpOk {X : Cx} {pins : List (Addr × Obj)} {σ : St} {H H' : Hp} {s : Shared} {b : Addr} (I : Inv X pins σ H s) (hb : s.heap.objs.size <= b) (hn : H' b = none) : kW X pins H' b := by
 refine ⟨hn, Nat.ne_of_gt (Nat.lt_of_lt_of_le I.lt hb), I.nofs hb, .inr (Nat.le_trans I.sz hb), λ x c e z => ?_, λ p hp z => ?_⟩
 .obtain ⟨v, q⟩ := I.cell x c e
  exact absurd (Nat.lt_of_lt_of_le q.lt (by rw [z]; exact hb)) (Nat.lt_irrefl _)
 .exact absurd (Nat.lt_of_lt_of_le (Heap.lt_size (I.pin p hp).1) (by rw [z]; exact hb)) (Nat.lt_irrefl _)
structure Turn (P : Program) (w : World) (K : PySem.W.Frag) (tg : Expr) (J : It) (fp : List Addr) (it : Addr) (tn : Nat -> Heap -> Prop) : Prop where
 mem : it ∈ fp
 obj : ∀ i h, tn i h -> ∀ b ∈ fp, ∃ o, h.get? b = some o /\ ∀ v, o.data ≠ .cell v
 keep : ∀ i h h', tn i h -> (∀ b ∈ fp, ∀ o, h.get? b = some o -> h'.get? b = some o) -> tn i h'
 item : ∀ (X : Cx), X.prog = P -> X.w = w -> X.K = K -> X.calm = true -> ∀ (i : Nat) (pins : List (Addr × Obj)) (s : Shared) (σ : St) (H : Hp) (E : Value -> Shared -> Prop), Inv X pins σ H s -> (∀ b ∈ fp, kW X pins H b) -> tn i s.heap -> J.go i H ->
  wpAny (model P w) X.A (pyNext (.ref it)) (λ r s1 => ∃ u, r = some u /\
   wpAny (model P w) X.A (letOwnedTupleGo tg (.ref it) u) (λ _ s2 => ∃ x H', Inv X pins σ H' s2 /\ RelV x u /\ J.yld i H x H' /\ tn (i + 1) s2.heap /\ ∀ b ∈ fp, H' b = none) E s1) E s
 done : ∀ (X : Cx), X.prog = P -> X.w = w -> X.K = K -> X.calm = true -> ∀ (i : Nat) (pins : List (Addr × Obj)) (s : Shared) (σ : St) (H : Hp) (E : Value -> Shared -> Prop), Inv X pins σ H s -> (∀ b ∈ fp, kW X pins H b) -> tn i s.heap -> J.stop i H ->
  wpAny (model P w) X.A (pyNext (.ref it)) (λ r s1 => r = none /\ Inv X pins σ H s1) E s
 self : ∀ (A : Around) (i : Nat) (s : Shared) (Q : Value -> Shared -> Prop) (E : Value -> Shared -> Prop), tn i s.heap -> Q (.ref it) s -> wpAny (model P w) A (pyIter (.ref it)) Q E s
abbrev TI := St -> Hp -> (It -> Hp -> Prop) -> Prop
def PIE (X : Cx) (pins : List (Addr × Obj)) (σ : St) (tg : Expr) (R : It -> Hp -> Prop) (itv : Value) (s2 : Shared) : Prop :=
 ∃ (it : Addr) (fp : List Addr) (tn : Nat -> Heap -> Prop) (J : It) (H' : Hp), itv = .ref it /\ Inv X pins σ H' s2 /\ Turn X.prog X.w X.K tg J fp it tn /\ tn 0 s2.heap /\ (∀ b ∈ fp, kW X pins H' b) /\ R J H'
def PI (X : Cx) (tg iter : Expr) (wi : TI) : Prop :=
 ∀ (pins : List (Addr × Obj)) (s : Shared) (σ : St) (H : Hp) (R : It -> Hp -> Prop), Inv X pins σ H s -> wi σ H R ->
  wpAny (model X.prog X.w) X.A (eval iter X.env) (λ v s1 => wpAny (model X.prog X.w) X.A (pyIter v) (PIE X pins σ tg R) X.xe s1) X.xe s
theorem HB {M : Model} {A : Around} {E : Value -> Shared -> Prop} {s : Shared} {tg : Expr} {it : Addr} {u : Value} {o : Obj} {n : String} {vs : Array Value} {Q : Unit -> Shared -> Prop} (ho : s.heap.get? it = some o) (hc : o.cls = .type n) (hd : o.data = .fields vs)
  (hn : ["enumerate", "zip", "dict_itemiterator", "dict_reverseitemiterator", "odict_iterator", "itertools.zip_longest", "itertools.pairwise"].contains n = false) (hQ : Q () s) : wpAny M A (letOwnedTupleGo tg (.ref it) u) Q E s := by
 unfold letOwnedTupleGo
 cases tg <;> first
  | exact wpAny_pure hQ
  | (cases u <;> first
    | exact wpAny_pure hQ
    | (refine wpAny_bind (wpAny_load ho ?_)
       rw [hc, hd]
       show wpAny M A (if (["enumerate", "zip", "dict_itemiterator", "dict_reverseitemiterator", "odict_iterator", "itertools.zip_longest", "itertools.pairwise"].contains n && vs[0]? == some (rawInt _)) = true then _ else _) Q E s
       rw [if_neg (by intro h; rw [hn, Bool.false_and] at h; cases h)]
       exact wpAny_pure hQ))
def Itl (K : PySem.W.Frag) (a : Addr) : It :=
 ⟨λ i H => ∃ xs x, SqL K H a xs /\ xs[i]? = some x, λ i H x H' => H' = H /\ ∀ xs, SqL K H a xs -> xs[i]? = some x, λ i H => ∃ xs, SqL K H a xs /\ xs.length <= i⟩
def Itt (K : PySem.W.Frag) (a : Addr) : It :=
 ⟨λ i H => ∃ xs x, SqT K H a xs /\ xs[i]? = some x, λ i H x H' => H' = H /\ ∀ xs, SqT K H a xs -> xs[i]? = some x, λ i H => ∃ xs, SqT K H a xs /\ xs.length <= i⟩
def Itr (lo : Int) (n : Nat) : It := ⟨λ i _ => i < n, λ i H x H' => H' = H /\ x = .int (lo + i), λ i _ => n <= i⟩
theorem uV {P : Program} {w : World} {K : PySem.W.Frag} {tg : Expr} (a it : Addr) : Turn P w K tg (Itl K a) [it] it (λ i h => h.IsListIter it a i) where
 mem := by simp
 obj := λ i h st b hb => by
  have e : b = it := by simpa using hb
  subst e
  obtain ⟨o, e, c, d⟩ := st
  exact ⟨o, e, λ v z => by rw [d] at z; cases z⟩
 keep := λ i h h' st k => st.at λ o e => k it (by simp) o e
 item := by
  intro X hP hw hK hc i pins s σ H E I hf st hg
  subst hP hw hK
  obtain ⟨xs, x, hq, hx⟩ := hg
  obtain ⟨its, rv, p, hz⟩ := I.list hq
  obtain ⟨u, hu, ru⟩ := rv.get hx
  obtain ⟨f0, f1, f2, f3, f4, f5⟩ := hf it (by simp)
  refine wpAny_pyNext_list_item st p.isList (x := u) (by simpa using hu) λ h' st' sb => ?_
  have I1 : Inv X pins σ H { s with heap := h' } := I.turned (t' := s.toks) (λ b o hb e => (sb.2 b hb).trans e) f0 f1 f3 f4 f5
  obtain ⟨o, e, c, d⟩ := id st'
  exact ⟨u, rfl, HB (s := { s with heap := h' }) e c d (by decide) ⟨x, H, I1, ru, ⟨rfl, λ ys hy => by rw [I.list_inj hy hq]; exact hx⟩, st', λ b hb => (hf b hb).1⟩⟩
 done := by
  intro X hP hw hK hc i pins s σ H E I hf st hg
  subst hP hw hK
  obtain ⟨xs, hq, hx⟩ := hg
  obtain ⟨its, rv, p, hz⟩ := I.list hq
  obtain ⟨f0, f1, f2, f3, f4, f5⟩ := hf it (by simp)
  have hl := rv.length
  exact wpAny_pyNext_list_end (I.ok.hd hc) st p.isList (by simp; omega) λ h' eb => ⟨rfl, I.turned (t' := s.toks) (λ b o hb e => eb b o hb e) f0 f1 f3 f4 f5⟩
 self := λ _ _ _ _ _ st h => wpAny_pyIter_listiter st h
theorem sE {P : Program} {w : World} {K : PySem.W.Frag} {tg : Expr} (a it : Addr) : Turn P w K tg (Itt K a) [it] it (λ i h => h.IsTupleIter it a i) where
 mem := by simp
 obj := λ i h st b hb => by
  have e : b = it := by simpa using hb
  subst e
  obtain ⟨o, e, c, d⟩ := st
  exact ⟨o, e, λ v z => by rw [d] at z; cases z⟩
 keep := λ i h h' st k => st.at λ o e => k it (by simp) o e
 item := by
  intro X hP hw hK hc i pins s σ H E I hf st hg
  subst hP hw hK
  obtain ⟨xs, x, hq, hx⟩ := hg
  obtain ⟨its, rv, p, hz⟩ := I.tuple hq
  obtain ⟨u, hu, ru⟩ := rv.get hx
  obtain ⟨f0, f1, f2, f3, f4, f5⟩ := hf it (by simp)
  refine wpAny_pyNext_tuple_item st (show s.heap.IsTuple a its.toArray from p) (x := u) (by simpa using hu) λ h' st' sb => ?_
  have I1 : Inv X pins σ H { s with heap := h' } := I.turned (t' := s.toks) (λ b o hb e => (sb.2 b hb).trans e) f0 f1 f3 f4 f5
  obtain ⟨o, e, c, d⟩ := id st'
  exact ⟨u, rfl, HB (s := { s with heap := h' }) e c d (by decide) ⟨x, H, I1, ru, ⟨rfl, λ ys hy => by rw [I.tuple_inj hy hq]; exact hx⟩, st', λ b hb => (hf b hb).1⟩⟩
 done := by
  intro X hP hw hK hc i pins s σ H E I hf st hg
  subst hP hw hK
  obtain ⟨xs, hq, hx⟩ := hg
  obtain ⟨its, rv, p, hz⟩ := I.tuple hq
  obtain ⟨f0, f1, f2, f3, f4, f5⟩ := hf it (by simp)
  have hl := rv.length
  exact wpAny_pyNext_tuple_end (I.ok.hd hc) st (show s.heap.IsTuple a its.toArray from p) (by simp; omega) λ h' eb => ⟨rfl, I.turned (t' := s.toks) (λ b o hb e => eb b o hb e) f0 f1 f3 f4 f5⟩
 self := λ _ _ _ _ _ st h => wpAny_pyIter_tupleiter st h
theorem zZ {P : Program} {w : World} {K : PySem.W.Frag} {tg : Expr} (it : Addr) (lo : Int) (n : Nat) : Turn P w K tg (Itr lo n) [it] it (λ i h => IsRangeIter h it (lo + (i : Nat) * 1) ((n : Int) - (i : Nat)) 1) where
 mem := by simp
 obj := λ i h st b hb => by
  have e : b = it := by simpa using hb
  subst e
  exact ⟨_, st, λ v z => by
   have z' : Data.fields _ = Data.cell v := z
   cases z'⟩
 keep := λ i h h' st k => k it (by simp) _ st
 item := by
  intro X hP hw hK hc i pins s σ H E I hf st hg
  subst hP hw hK
  obtain ⟨f0, f1, f2, f3, f4, f5⟩ := hf it (by simp)
  have W := Walks.range (prog := X.prog) (w := X.w) (I.ok.hd hc) it lo 1 n
  refine W.item i s _ _ hg st λ v h' tk hv st' kk => ?_
  obtain ⟨t, rfl⟩ := hv
  have I1 : Inv X pins σ H { s with heap := h', toks := tk } := I.turned (λ b o hb e => kk b o (by simpa using hb) e) f0 f1 f3 f4 f5
  refine ⟨_, rfl, HB (s := { s with heap := h', toks := tk }) (n := "range_iterator") st' rfl rfl (by decide) ⟨.int (lo + i), H, I1, ⟨t, ?_⟩, ⟨rfl, rfl⟩, st', λ b hb => (hf b hb).1⟩⟩
  rw [Int.mul_one]
 done := by
  intro X hP hw hK hc i pins s σ H E I hf st hg
  subst hP hw hK
  obtain ⟨f0, f1, f2, f3, f4, f5⟩ := hf it (by simp)
  exact wpAny_pyNext_range_end (I.ok.hd hc) st (by have : n <= i := hg; omega) λ h' eb => ⟨rfl, I.turned (t' := s.toks) (λ b o hb e => eb b o hb e) f0 f1 f3 f4 f5⟩
 self := λ _ _ _ _ _ st h => wpAny_pyIter_rangeiter st h
section
variable {X : Cx} {tg : Expr}
theorem Ez {pins : List (Addr × Obj)} {σ : St} {H : Hp} {s : Shared} {R : It -> Hp -> Prop} {E : Value -> Shared -> Prop} {lo hi : Int} {t u v : Tok} {tk : Nat} (I : Inv X pins σ H s) (h1 : -(2 ^ 62) <= lo) (h2 : lo < 2 ^ 62) (h3 : -(2 ^ 62) <= hi) (h4 : hi < 2 ^ 62)
  (q : R (Itr lo (hi - lo).toNat) H) : wpAny (model X.prog X.w) X.A (pyIter (.ref s.heap.objs.size)) (PIE X pins σ tg R) E { s with heap := s.heap.push { cls := .type "range", data := .fields #[.int lo t, .int hi u, .int 1 v] }, toks := tk } := by
 refine wpAny_pyIter_range (IsRange.new ..) (small_one h1 h2 h3 h4) ?_
 have I1 : Inv X pins σ H { s with heap := s.heap.push { cls := .type "range", data := .fields #[.int lo t, .int hi u, .int 1 v] }, toks := tk } := I.kept λ b o e => Heap.get?_push_of_some _ e
 refine ⟨(s.heap.push { cls := .type "range", data := .fields #[.int lo t, .int hi u, .int 1 v] }).objs.size, [(s.heap.push { cls := .type "range", data := .fields #[.int lo t, .int hi u, .int 1 v] }).objs.size], _, _, H, rfl,
  I1.kept (t' := tk) λ b o e => Heap.get?_push_of_some _ e, zZ _ lo (hi - lo).toNat, ?_, λ b hb => ?_, q⟩
 .have e1 : lo + ((0 : Nat) : Int) * 1 = lo := by simp
  have e2 : (((hi - lo).toNat : Nat) : Int) - ((0 : Nat) : Int) = Builtin.Range.rangeSize lo hi 1 := by rw [rangeSize_one]; split <;> omega
  show IsRangeIter _ _ (lo + ((0 : Nat) : Int) * 1) ((((hi - lo).toNat : Nat) : Int) - ((0 : Nat) : Int)) 1
  rw [e1, e2]
  exact Heap.get?_push_size _ rfl
 .have e : b = (s.heap.push { cls := .type "range", data := .fields #[.int lo t, .int hi u, .int 1 v] }).objs.size := by simpa using hb
  subst e
  exact I1.fpOk (Nat.le_refl _) (I1.hok.fresh (Nat.le_refl _))
def Rp (ta : TA) : TI := λ σ H R => ta σ H λ vs H1 => ∃ j : Int, vs = [.int j] /\ -(2 ^ 62) <= j /\ j < 2 ^ 62 /\ R (Itr 0 j.toNat) H1
theorem Do {a : Expr} {ta : TA} {p pos : Pos} (hg : Gl X "range") (hm : X.mg "range" = none) (ha : PA X [a] ta) (hs : starEach [a] X.env = [(false, eval a X.env)] := by rfl) : PI X tg (.Call (.Name "range" p) [a] [] pos) (Rp ta) := by
 intro pins s σ H R I h
 refine Call_ (lz I hg hm boot_range (PyProof.Rows.callWith_type1 (thn (ha pos pins s σ H _ I h) λ us s1 ⟨vs, H1, I1, r1, q1⟩ => ?_) hs rfl))
 obtain ⟨j, e, q1, q2, q⟩ := q1
 subst e
 cases r1 with
 | cons r rr =>
  cases rr
  obtain ⟨t, rfl⟩ := r
  exact call_range_1 (Ez I1 (by omega) (by omega) q1 q2 (by simpa using q))
def tFor (wi : TI) (g : TG) (tb : TS) : TS := λ D σ H => wi σ H λ J H1 => ∃ W : Nat -> Nat -> St -> Hp -> Prop, (∃ m, W 0 m σ H1) /\ ∀ i m σ H, W i m σ H ->
 (J.stop i H /\ D.nx σ H) ∨ (J.go i H /\ ∃ N : St -> Hp -> Prop, (∀ σ' H', N σ' H' -> ∃ m', m' < m /\ W (i + 1) m' σ' H') /\ ∀ x H', J.yld i H x H' -> g x σ H' λ σ2 H2 => tb { D with nx := N, ct := N, bk := D.nx } σ2 H2)
def qw (fp : List Addr) (h : Heap) : List (Addr × Obj) := fp.filterMap λ b => (h.get? b).map λ o => (b, o)
theorem fu {fp : List Addr} {h : Heap} {b : Addr} {o : Obj} (hb : b ∈ fp) (e : h.get? b = some o) : (b, o) ∈ qw fp h := List.mem_filterMap.mpr ⟨b, hb, by rw [e]; rfl⟩
theorem DN {fp : List Addr} {h : Heap} {p : Addr × Obj} (hp : p ∈ qw fp h) : p.1 ∈ fp /\ h.get? p.1 = some p.2 := by
 obtain ⟨b, hb, e⟩ := List.mem_filterMap.mp hp
 cases q : h.get? b with
 | none => rw [q] at e; cases e
 | some o =>
  rw [q] at e
  have e' : (b, o) = p := Option.some.inj e
  subst e'
  exact ⟨hb, q⟩
theorem Inv.pinned {pins : List (Addr × Obj)} {σ : St} {H : Hp} {s : Shared} {fp : List Addr} (I : Inv X pins σ H s) (hf : ∀ b ∈ fp, kW X pins H b) (ho : ∀ b ∈ fp, ∃ o, s.heap.get? b = some o /\ ∀ v, o.data ≠ .cell v) : Inv X (pins ++ qw fp s.heap) σ H s :=
 I.pins_of λ p hp => (List.mem_append.mp hp).elim (λ z => I.pin p (List.mem_append_right _ z)) λ z => by
  obtain ⟨hb, e⟩ := DN z
  obtain ⟨f0, f1, f2, _⟩ := hf p.1 hb
  obtain ⟨o, e', d⟩ := ho p.1 hb
  rw [e] at e'; cases e'
  exact ⟨e, f0, f1, f2, d⟩
theorem Inv.unpinned {pins pl : List (Addr × Obj)} {σ : St} {H : Hp} {s : Shared} (I : Inv X (pins ++ pl) σ H s) : Inv X pins σ H s := I.pins_of λ p hp => I.pin p (List.mem_append_right _ (List.mem_append_left _ hp))
theorem Pj {iter : Expr} {body : List Stmt} {wi : TI} {g : TG} {tb : TS} {pos : Pos} (hp : PassesOwn (model X.prog X.w) X.A X.env X.xe) (hc : X.calm = true) (hi : PI X tg iter wi) (hg : PG X tg g) (hb : PSs X body tb)
  (hs : ∀ x, foldedSetIterable iter X.env x = pure x := by intro _; rfl) : PS X (.For tg iter body [] pos) (tFor wi g tb) := by
 intro pins s σ H D I h
 refine wpAny_For (thn (hi pins s σ H _ I h) λ v s1 h1 => thn h1 λ itv s2 h2 => ?_) hs
 obtain ⟨it, fp, tn, J, H2, e, I2, T, st2, f2, W, ⟨m0, w0⟩, turn⟩ := h2
 subst e
 have stat : ∀ {H' : Hp}, (∀ b ∈ fp, H' b = none) -> ∀ b ∈ fp, kW X pins H' b := λ hn b hb => ⟨hn b hb, (f2 b hb).2⟩
 refine codeAny_forLoop_any (λ n s' => ∃ i σ' H', Inv X pins σ' H' s' /\ tn i s'.heap /\ (∀ b ∈ fp, H' b = none) /\ W i n σ' H') ?_ m0 ⟨0, σ, H2, I2, st2, λ b hb => (f2 b hb).1, w0⟩
 rintro n s3 ⟨i, σ3, H3, I3, st3, fr3, w3⟩
 rcases turn i n σ3 H3 w3 with ⟨stop, qn⟩ | ⟨go, N, hN, step⟩
 .refine wpAny_passesOwn hp (thn (T.done X rfl rfl rfl hc i pins s3 σ3 H3 X.xe I3 (stat fr3) st3 stop) λ r s4 zq30 => ?_)
  obtain ⟨hr, I4⟩ := zq30
  subst hr
  exact wpAny_execs_nil ⟨σ3, H3, I4, qn⟩
 .refine wpAny_passesOwn hp (thn (T.item X rfl rfl rfl hc i pins s3 σ3 H3 X.xe I3 (stat fr3) st3 go) λ r s4 zq31 => ?_)
  obtain ⟨u, hr, h4⟩ := zq31
  subst hr
  refine wpAny_passesOwn hp (thn h4 λ _ s5 zq32 => ?_)
  obtain ⟨x, H5, I5, r5, y5, st5, fr5⟩ := zq32
  have I5' := I5.pinned (stat fr5) (T.obj _ _ st5)
  refine wpAny_passesOwn hp (thn (hg _ s5 σ3 H5 x u _ I5' r5 (step x H5 y5)) λ _ s6 zq33 => ?_)
  obtain ⟨σ6, H6, I6, q6⟩ := zq33
  refine wpAny_passesOwn hp (thn (hb _ s6 σ6 H6 _ I6 q6) λ f s7 q7 => ?_)
  have again : ∀ {σ7 : St} {H7 : Hp}, Inv X (pins ++ qw fp s5.heap) σ7 H7 s7 -> N σ7 H7 -> ∃ m, m < n /\ ∃ i σ' H', Inv X pins σ' H' s7 /\ tn i s7.heap /\ (∀ b ∈ fp, H' b = none) /\ W i m σ' H' := λ {σ7 H7} I7 n7 => by
   obtain ⟨m', hm, w7⟩ := hN σ7 H7 n7
   refine ⟨m', hm, i + 1, σ7, H7, I7.unpinned, T.keep _ _ _ st5 λ b hb o e => (I7.pin (b, o) (List.mem_append_right _ (List.mem_append_right _ (fu hb e)))).1, λ b hb => ?_, w7⟩
   obtain ⟨o, e, d⟩ := T.obj _ _ st5 b hb
   exact (I7.pin (b, o) (List.mem_append_right _ (List.mem_append_right _ (fu hb e)))).2.1
  cases f with
  | next => obtain ⟨σ7, H7, I7, n7⟩ := q7; exact again I7 n7
  | cont => obtain ⟨σ7, H7, I7, n7⟩ := q7; exact again I7 n7
  | brk => obtain ⟨σ7, H7, I7, q7⟩ := q7; exact ⟨σ7, H7, I7.unpinned, q7⟩
  | ret v => obtain ⟨x7, σ7, H7, I7, r7, q7⟩ := q7; exact ⟨x7, σ7, H7, I7.unpinned, r7, q7⟩
end
abbrev R2 := V -> V -> Hp -> VK -> Prop
def OpR (X : Cx) (f : Value -> Value -> Sem Value) (r : R2) : Prop :=
 ∀ (pins : List (Addr × Obj)) (s : Shared) (σ : St) (H : Hp) (x y : V) (v u : Value) (Q : VK), Inv X pins σ H s -> RelV x v -> RelV y u -> r x y H Q ->
  wpAny (model X.prog X.w) X.A (f v u) (EP X pins σ Q) X.xe s
def UnR (X : Cx) (f : Value -> Sem Value) (r : V -> Hp -> VK -> Prop) : Prop :=
 ∀ (pins : List (Addr × Obj)) (s : Shared) (σ : St) (H : Hp) (x : V) (v : Value) (Q : VK), Inv X pins σ H s -> RelV x v -> r x H Q ->
  wpAny (model X.prog X.w) X.A (f v) (EP X pins σ Q) X.xe s
def gZ (X : Cx) (f : Value) (r : List V -> Hp -> VK -> Prop) : Prop :=
 ∀ (pins : List (Addr × Obj)) (s : Shared) (σ : St) (H : Hp) (xs : List V) (us : List Value) (Q : VK), Inv X pins σ H s -> Vals xs us -> r xs H Q ->
  wpAny (model X.prog X.w) X.A (call f us) (EP X pins σ Q) X.xe s
def TruR (X : Cx) (r : V -> Hp -> (Bool -> Hp -> Prop) -> Prop) : Prop :=
 ∀ (pins : List (Addr × Obj)) (s : Shared) (σ : St) (H : Hp) (x : V) (v : Value) (Q : Bool -> Hp -> Prop), Inv X pins σ H s -> RelV x v -> r x H Q ->
  wpAny (model X.prog X.w) X.A (truthy v) (TP X pins σ Q) X.xe s
def tOp (r : R2) (ta tb : TE) : TE := λ σ H Q => ta σ H λ x H1 => tb σ H1 λ y H2 => r x y H2 Q
def tUn (r : V -> Hp -> VK -> Prop) (ta : TE) : TE := λ σ H Q => ta σ H λ x H1 => r x H1 Q
def rI (C : Int -> Int -> Prop) (g : Int -> Int -> V) : R2 := λ x y H Q => ∃ i j, x = .int i /\ y = .int j /\ C i j /\ Q (g i j) H
def rI0 (g : Int -> Int -> V) : R2 := λ x y H Q => ∃ i j, x = .int i /\ y = .int j /\ Q (g i j) H
def rU (g : Int -> V) : V -> Hp -> VK -> Prop := λ x H Q => ∃ i, x = .int i /\ Q (g i) H
section
variable {X : Cx} {a b c : Expr} {ta tb tc : TE} {pos : Pos}
theorem OJ (ha : PE X a ta) (hb : PE X b tb) {pins : List (Addr × Obj)} {s : Shared} {σ : St} {H : Hp} {R : V -> V -> Hp -> Prop} (I : Inv X pins σ H s)
  (h : ta σ H λ x H1 => tb σ H1 λ y H2 => R x y H2) {Q : Value -> Shared -> Prop} {f : Value -> Value -> Sem Value}
  (hf : ∀ v u s2 x y H2, Inv X pins σ H2 s2 -> RelV x v -> RelV y u -> R x y H2 -> wpAny (model X.prog X.w) X.A (f v u) Q X.xe s2) :
  wpAny (model X.prog X.w) X.A (eval a X.env) (λ v s₁ => wpAny (model X.prog X.w) X.A (eval b X.env) (λ u s₂ => wpAny (model X.prog X.w) X.A (f v u) Q X.xe s₂) X.xe s₁) X.xe s := by
 refine thn (ha pins s σ H _ I h) λ v s1 zq34 => ?_
 obtain ⟨x, H1, I1, r1, q1⟩ := zq34
 refine thn (hb pins s1 σ H1 _ I1 q1) λ u s2 zq35 => ?_
 obtain ⟨y, H2, I2, r2, q2⟩ := zq35
 exact hf v u s2 x y H2 I2 r1 r2 q2
theorem Lf {op : Operator} {r : R2} (ho : OpR X (binaryOp op) r) (ha : PE X a ta) (hb : PE X b tb) : PE X (.BinOp a op b pos) (tOp r ta tb) := by
 intro pins s σ H Q I h
 exact wpAny_BinOp (OJ ha hb I h λ v u s2 x y H2 I2 rx ry q => ho pins s2 σ H2 x y v u Q I2 rx ry q)
theorem QL {op : UnaryOp} {r : V -> Hp -> VK -> Prop} (ho : UnR X (unaryOp op) r) (ha : PE X a ta) : PE X (.UnaryOp op a pos) (tUn r ta) := by
 intro pins s σ H Q I h
 exact UnaryOp_ (thn (ha pins s σ H _ I h) λ v s1 ⟨x, H1, I1, r1, q1⟩ => ho pins s1 σ H1 x v Q I1 r1 q1)
theorem opI {f : Value -> Value -> Sem Value} {C : Int -> Int -> Prop} {g : Int -> Int -> Int}
  (rule : ∀ (i j : Int) (t u : Tok) (s : Shared) (Q : Value -> Shared -> Prop) (E : Value -> Shared -> Prop), C i j -> Q (.int (g i j) s.toks) { s with toks := s.toks + 1 } -> wpAny (model X.prog X.w) X.A (f (.int i t) (.int j u)) Q E s) :
  OpR X f (rI C λ i j => .int (g i j)) := by
 intro pins s σ H x y v u Q I rx ry h
 obtain ⟨i, j, rfl, rfl, hc, q⟩ := h
 obtain ⟨t, rfl⟩ := rx
 obtain ⟨t', rfl⟩ := ry
 exact rule i j t t' s _ _ hc ⟨.int (g i j), H, I.tok _, ⟨_, rfl⟩, q⟩
theorem QJ {f : Value -> Value -> Sem Value} {g : Int -> Int -> Int}
  (rule : ∀ (i j : Int) (t u : Tok) (s : Shared) (Q : Value -> Shared -> Prop) (E : Value -> Shared -> Prop), Q (.int (g i j) s.toks) { s with toks := s.toks + 1 } -> wpAny (model X.prog X.w) X.A (f (.int i t) (.int j u)) Q E s) :
  OpR X f (rI0 λ i j => .int (g i j)) := by
 intro pins s σ H x y v u Q I rx ry h
 obtain ⟨i, j, rfl, rfl, q⟩ := h
 obtain ⟨t, rfl⟩ := rx
 obtain ⟨t', rfl⟩ := ry
 exact rule i j t t' s _ _ ⟨.int (g i j), H, I.tok _, ⟨_, rfl⟩, q⟩
theorem NB {f : Value -> Value -> Sem Value} {g : Int -> Int -> Bool}
  (rule : ∀ (i j : Int) (t u : Tok) (s : Shared) (Q : Value -> Shared -> Prop) (E : Value -> Shared -> Prop), Q (.bool (g i j)) s -> wpAny (model X.prog X.w) X.A (f (.int i t) (.int j u)) Q E s) :
  OpR X f (rI0 λ i j => .bl (g i j)) := by
 intro pins s σ H x y v u Q I rx ry h
 obtain ⟨i, j, rfl, rfl, q⟩ := h
 obtain ⟨t, rfl⟩ := rx
 obtain ⟨t', rfl⟩ := ry
 exact rule i j t t' s _ _ ⟨.bl (g i j), H, I, rfl, q⟩
theorem NZ : OpR X (binaryOp .Add) (rI0 λ i j => .int (i + j)) := QJ λ _ _ _ _ _ _ _ q => add_int q
theorem Nv : OpR X (binaryOp .Sub) (rI0 λ i j => .int (i - j)) := QJ λ _ _ _ _ _ _ _ q => sub_int q
theorem JX : OpR X (binaryOp .Mod) (rI (λ _ j => j ≠ 0) λ i j => .int (i.fmod j)) := opI λ _ _ _ _ _ _ _ hc q => mod_int' hc q
theorem unI {f : Value -> Sem Value} {g : Int -> Int}
  (rule : ∀ (i : Int) (t : Tok) (s : Shared) (Q : Value -> Shared -> Prop) (E : Value -> Shared -> Prop), Q (.int (g i) s.toks) { s with toks := s.toks + 1 } -> wpAny (model X.prog X.w) X.A (f (.int i t)) Q E s) :
  UnR X f (rU λ i => .int (g i)) := by
 intro pins s σ H x v Q I rx h
 obtain ⟨i, rfl, q⟩ := h
 obtain ⟨t, rfl⟩ := rx
 exact rule i t s _ _ ⟨.int (g i), H, I.tok _, ⟨_, rfl⟩, q⟩
theorem Pz : UnR X (unaryOp .USub) (rU λ i => .int (-i)) := unI λ _ _ _ _ _ q => neg_int q
end
section
variable {X : Cx} {a b c : Expr} {ta tb tc : TE} {pos : Pos}
theorem Rj : OpR X (compareOp .Lt) (rI0 λ i j => .bl (decide (i < j))) := NB λ _ _ _ _ _ _ _ q => lt_int q
theorem Rm : OpR X (compareOp .Gt) (rI0 λ i j => .bl (decide (j < i))) := NB λ _ _ _ _ _ _ _ q => gt_int q
theorem Rx : OpR X (compareOp .GtE) (rI0 λ i j => .bl (decide (j <= i))) := NB λ _ _ _ _ _ _ _ q => ge_int q
theorem OpR.or {f : Value -> Value -> Sem Value} {r r' : R2} (h : OpR X f r) (h' : OpR X f r') : OpR X f (λ x y H Q => r x y H Q ∨ r' x y H Q) := by
 intro pins s σ H x y v u Q I rx ry q
 rcases q with q | q
 .exact h pins s σ H x y v u Q I rx ry q
 .exact h' pins s σ H x y v u Q I rx ry q
theorem Jx {op : CmpOp} {r : R2} (ho : OpR X (compareOp op) r) (ha : PE X a ta) (hb : PE X b tb) (hm : behindInMarks op b = false) : PE X (.Compare a [op] [b] pos) (tOp r ta tb) := by
 intro pins s σ H Q I h
 exact wpAny_Compare1 (OJ ha hb I h λ v u s2 x y H2 I2 rx ry q => ho pins s2 σ H2 x y v u Q I2 rx ry q) hm
def Qi (t : TE) : TT := λ σ H Q => t σ H λ x H' => ∃ k, x = .bl k /\ Q k H'
theorem Jr {op : CmpOp} {r : R2} (ho : OpR X (compareOp op) r) (ha : PE X a ta) (hb : PE X b tb) (hm : behindInMarks op b = false) : PT X (.Compare a [op] [b] pos) (Qi (tOp r ta tb)) := by
 intro pins s σ H Q I h
 refine wpAny_isTrue_Compare1 (thn (ha pins s σ H _ I h) λ v s1 ⟨x, H1, I1, r1, q1⟩ => thn (hb pins s1 σ H1 _ I1 q1) λ u s2 ⟨y, H2, I2, r2, q2⟩ =>
  thn (ho pins s2 σ H2 x y v u _ I2 r1 r2 q2) λ c s3 ⟨z, H3, I3, r3, k, e, q3⟩ => ?_) hm
 subst e
 cases r3
 exact wpAny_truthy_bool ⟨H3, I3, q3⟩
def Nf (K : PySem.W.Frag) (x : V) (H : Hp) (k : Bool) : Prop :=
 match x with
 | .non => k = false
 | .bl b => k = b
 | .int i => k = (i != 0)
 | .str y => y.length <= sizeLine /\ k = ((y.length : Int) != 0)
 | .byt y => y.size <= sizeLine /\ k = ((y.size : Int) != 0)
 | .ref p => (∃ xs, SqL K H p xs /\ k = !xs.isEmpty) ∨ (∃ xs, SqT K H p xs /\ k = !xs.isEmpty) ∨ ∃ kvs, H p = some (.dK kvs) /\ k = !kvs.isEmpty
 | _ => False
theorem zV {κ : Type} {kvs : List (κ × V)} {vs : List (κ × Value)} (r : KV kvs vs) : (!vs.isEmpty) = !kvs.isEmpty := by
 cases r <;> rfl
theorem rH {xs : List V} {its : List Value} (r : Vals xs its) : (!its.toArray.isEmpty) = !xs.isEmpty := by
 cases r <;> simp
theorem nY : (sizeLine : Nat) < 2 ^ 63 := by rw [sizeLine_eq]; decide
theorem Pg : TruR X (λ x H Q => ∃ k, Nf X.K x H k /\ Q k H) := by
 intro pins s σ H x v Q I rx h
 obtain ⟨k, e, q⟩ := h
 have hl := nY
 have hs : sizeLine = 16777216 := sizeLine_eq
 cases x with
 | non =>
  cases rx
  have e' : k = false := e
  subst e'
  exact truthy_none ⟨H, I, q⟩
 | bl b =>
  cases rx
  have e' : k = b := e
  subst e'
  exact wpAny_truthy_bool ⟨H, I, q⟩
 | int i =>
  obtain ⟨t, rfl⟩ := rx
  have e' : k = (i != 0) := e
  subst e'
  exact PySem.P.truthy_int ⟨H, I, q⟩
 | str y =>
  obtain ⟨t, rfl⟩ := rx
  obtain ⟨hy, e'⟩ : y.length <= sizeLine /\ k = ((y.length : Int) != 0) := e
  subst e'
  exact PySem.P.truthy_str (by omega) ⟨H, I.tok _, q⟩
 | byt y =>
  obtain ⟨t, rfl⟩ := rx
  obtain ⟨hy, e'⟩ : y.size <= sizeLine /\ k = ((y.size : Int) != 0) := e
  subst e'
  exact PySem.W.truthy_bytes (by omega) ⟨H, I.tok _, q⟩
 | ref p =>
  cases rx
  have e' : (∃ xs, SqL X.K H p xs /\ k = !xs.isEmpty) ∨ (∃ xs, SqT X.K H p xs /\ k = !xs.isEmpty) ∨ ∃ kvs, H p = some (.dK kvs) /\ k = !kvs.isEmpty := e
  rcases e' with ⟨xs, hx, e'⟩ | ⟨xs, hx, e'⟩ | ⟨kvs, hx, e'⟩
  .subst e'
   obtain ⟨its, r, pl, hz⟩ := I.list hx
   have hlen := r.length
   exact wpAny_truthy_list pl.isList (by simp only [List.size_toArray]; omega) ⟨H, I.tok _, by rw [rH r]; exact q⟩
  .subst e'
   obtain ⟨its, r, pl, hz⟩ := I.tuple hx
   have hlen := r.length
   exact truthy_tuple pl (by simp only [List.size_toArray]; omega) ⟨H, I.tok _, by rw [rH r]; exact q⟩
  .subst e'
   obtain ⟨hz, hS, vs, r, m⟩ : kvs.length <= sizeLine /\ (p == sysModules) = false /\ ∃ vs, KV kvs vs /\ s.heap.DictOf (wz X.prog X.w) p vs := I.hok p _ hx
   have hlen : kvs.length = vs.length := Paired.length r
   exact wpAny_truthy_dict hS m (by omega) ⟨H, I.tok _, by rw [zV r]; exact q⟩
 | _ => exact (show False from e).elim
theorem Hd (ha : PE X a ta) (he : ∀ whole, isTrue a X.env whole = (do let v <- whole; standAt a.pos; holding [v] (truthy v))) :
  PT X a (λ σ H Q => ta σ H λ x H' => ∃ k, Nf X.K x H' k /\ Q k H') := by
 intro pins s σ H Q I h
 exact isTrue_plain (thn (ha pins s σ H _ I h) λ v s1 ⟨x, H1, I1, r1, q1⟩ => Pg pins s1 σ H1 x v Q I1 r1 q1) (he _)
theorem zJ : OpR X (binaryOp .Add) (λ x y H Q => ∃ i j, x = .str i /\ y = .str j /\ i.length + j.length <= sizeLine /\ Q (.str (i ++ j)) H) := by
 intro pins s σ H x y v u Q I rx ry h
 obtain ⟨i, j, rfl, rfl, hz, q⟩ := h
 obtain ⟨t, rfl⟩ := rx
 obtain ⟨t', rfl⟩ := ry
 exact add_str (λ t' tk => ⟨.str (i ++ j), H, I.tok _, ⟨_, rfl⟩, q⟩) hz
theorem vals1 {x : V} {us : List Value} (r : Vals [x] us) : ∃ u, us = [u] /\ RelV x u := by
 cases r with
 | cons r1 r2 => cases r2; exact ⟨_, rfl, r1⟩
theorem vals2 {x y : V} {us : List Value} (r : Vals [x, y] us) : ∃ u w', us = [u, w'] /\ RelV x u /\ RelV y w' := by
 cases r with
 | cons r1 r2 =>
  cases r2 with
  | cons r3 r4 => cases r4; exact ⟨_, _, rfl, r1, r3⟩
theorem Ek : gZ X (.builtin "abs") (λ xs H Q => ∃ i, xs = [.int i] /\ Q (.int (if i < 0 then -i else i)) H) := by
 intro pins s σ H xs us Q I r h
 obtain ⟨i, rfl, q⟩ := h
 obtain ⟨u, rfl, t, rfl⟩ := vals1 r
 exact call_abs_int λ u tk => ⟨.int (if i < 0 then -i else i), H, I.tok _, ⟨_, rfl⟩, q⟩
theorem CJ (hc : X.calm = true) : gZ X (.builtin "min") (λ xs H Q => ∃ i j, xs = [.int i, .int j] /\ Q (.int (if j < i then j else i)) H) := by
 intro pins s σ H xs us Q I r h
 obtain ⟨i, j, rfl, q⟩ := h
 obtain ⟨u, w', rfl, ⟨t, rfl⟩, ⟨t', rfl⟩⟩ := vals2 r
 refine min_two_ints (I.ok.hd hc) λ h' tk k => ⟨_, H, I.kept k, ?_, q⟩
 by_cases hj : j < i
 .rw [if_pos hj, if_pos hj]; exact ⟨_, rfl⟩
 .rw [if_neg hj, if_neg hj]; exact ⟨_, rfl⟩
end
def yF (f : Str) (v : V) : List (Str × V) -> List (Str × V)
 | [] => [(f, v)]
 | (g, x) :: r => if g = f then (g, v) :: r else (g, x) :: yF f v r
structure dO (k : Nat) (A : Around) : Prop where
 hd : A.handled = none
 dp : A.depth + 3 * k + 5 < recursionLimit
 un : A.units + 16 * k + 200 < cLine
theorem dO.mono {j k : Nat} {A : Around} (r : dO k A) (h : j <= k) : dO j A := ⟨r.hd, by have := r.dp; omega, by have := r.un; omega⟩
theorem dO.deeper {k : Nat} {A : Around} (r : dO (k + 1) A) (env : Env) : dO k (A.deeper env) :=
 ⟨r.hd, by have := r.dp; show A.depth + 1 + 3 * k + 5 < _; omega, by have := r.un; show A.units + 3 + 16 * k + 200 < _; omega⟩
theorem dO.depth {k : Nat} {A : Around} (r : dO k A) : A.depth < recursionLimit := by have := r.dp; omega
def tNil : TA := λ _ H Q => Q [] H
def Rh (ta : TE) (tr : TA) : TA := λ σ H Q => ta σ H λ x H1 => tr σ H1 λ xs H2 => Q (x :: xs) H2
section
variable {X : Cx} {e : Expr} {es : List Expr} {te : TE} {t : TA} {pos : Pos}
theorem vJ : PA X [] tNil := λ _ _ _ _ H Q I h => Calls.spliced_nil ⟨[], H, I, .nil, h⟩
theorem pA (ha : PE X e te) (hr : PA X es t) (hs : starEach (e :: es) X.env = (false, eval e X.env) :: starEach es X.env := by rfl) : PA X (e :: es) (Rh te t) := by
 intro pos pins s σ H Q I h
 rw [hs]
 show wpAny _ _ (spliced ((false, eval e X.env) :: backTo pos (starEach es X.env))) _ _ s
 refine Calls.spliced_cons (thn (ha pins s σ H _ I h) λ u s1 zq46 => ?_)
 obtain ⟨x, H1, I1, r1, q1⟩ := zq46
 exact thn (hr pos pins s1 σ H1 _ I1 q1) λ us s2 ⟨xs, H2, I2, r2, q2⟩ => ⟨x :: xs, H2, I2, .cons r1 r2, q2⟩
def tTup (t : TA) : TE := λ σ H Q => t σ H λ xs H1 => xs.length <= sizeLine /\ ∀ p, H1 p = none -> Q (.ref p) (upd H1 p (.tup xs))
def tLst (t : TA) : TE := λ σ H Q => t σ H λ xs H1 => xs.length <= sizeLine /\ ∀ p, H1 p = none -> Q (.ref p) (upd H1 p (.lst xs))
theorem Pq {x1} (h : PA X es t) : PE X (.Tuple es x1 pos) (tTup t) := by
 intro pins s σ H Q I hq
 refine wpAny_Tuple_spliced (thn (h pos pins s σ H _ I hq) λ us s1 ⟨xs, H1, I1, r, z, q⟩ => ⟨by rw [<- r.length]; exact z, ?_⟩)
 have hf : H1 s1.heap.objs.size = none := I1.hok.fresh (Nat.le_refl _)
 refine ⟨.ref s1.heap.objs.size, upd H1 s1.heap.objs.size (.tup xs), I1.laid (t' := s1.toks) (λ b u e => Heap.get?_push_of_some _ e) (Nat.le_refl _) ?_, rfl, q _ hf⟩
 exact ⟨z, us, r, ⟨_, Heap.get?_push_size _ rfl, rfl, _, rfl⟩⟩
theorem Em (h : PA X es t) : PE X (.List es pos) (tLst t) := by
 intro pins s σ H Q I hq
 refine wpAny_List_spliced (thn (h pos pins s σ H _ I hq) λ us s1 ⟨xs, H1, I1, r, z, q⟩ => ⟨by rw [<- r.length]; exact z, ?_⟩)
 have hf : H1 s1.heap.objs.size = none := I1.hok.fresh (Nat.le_refl _)
 refine ⟨.ref s1.heap.objs.size, upd H1 s1.heap.objs.size (.lst xs), I1.laid (t' := s1.toks) (λ b u e => Heap.get?_push_of_some _ e) (Nat.le_refl _) ?_, rfl, q _ hf⟩
 exact ⟨z, us, 0, r, Heap.get?_push_size _ rfl⟩
end
abbrev Sp := List V -> Hp -> VK -> XK -> Prop
abbrev CXT := List Env -> Hp -> Shared -> XK -> Value -> Shared -> Prop
structure IK (P : Program) (w : World) (K : PySem.W.Frag) (mg : Str -> Option Value) (base : Heap) (A : Around) (outer : List Env) (s : Shared) (H : Hp) : Prop where
 frames : A.frames = some outer
 mod : Mod K mg base
 bs : ∀ b o, base.get? b = some o -> s.heap.get? b = some o /\ H b = none
 bsz : base.objs.size <= s.heap.objs.size
 funs : s.heap.FunFrames base outer
 frf : ∀ b ∈ frs outer, H b = none
 hok : HOk P w H s.heap
 bare : AllBare s.gens
def CE (outer : List Env) (P : Program) (w : World) (H : Hp) (s : Shared) (Q : VK) (u : Value) (s' : Shared) : Prop :=
 ∃ v H', s'.os = s.os /\ GK s.gens s'.gens /\ Un (frs outer) [] H H' s.heap s'.heap /\ HOk P w H' s'.heap /\ RelV v u /\ Q v H'
def CR (CX : CXT) (outer : List Env) (P : Program) (w : World) (H : Hp) (s : Shared) (Q : VK) (E : XK) (r : Result) (s' : Shared) : Prop :=
 match r with
 | .ok (.ret u) => CE outer P w H s Q u s'
 | .ok _ => False
 | .error e => CX outer H s E e s'
structure qM (P : Program) (w : World) (K : PySem.W.Frag) (mg : Str -> Option Value) (base : Heap) (CX : CXT) (k : Nat) (f : Addr) (fd : FuncData) (ps : List Str) (sp : Sp) : Prop where
 len : ∀ vs H Q E, sp vs H Q E -> vs.length = ps.length
 run : ∀ (A : Around) (outer : List Env) (s : Shared) (H : Hp) (args : Args) (us : List Value) (vs : List V) (Q : VK) (E : XK), dO k A -> IK P w K mg base A outer s H -> BindsTo s fd args (ps.zip us) -> Vals vs us -> sp vs H Q E ->
  codeAny (model P w) A (.call (.ref f) args) (CR CX outer P w H s Q E) s
theorem qM.imp {P : Program} {w : World} {K : PySem.W.Frag} {mg : Str -> Option Value} {base : Heap} {CX : CXT} {k : Nat} {f : Addr} {fd : FuncData} {ps : List Str} {sp sp' : Sp} (F : qM P w K mg base CX k f fd ps sp)
  (h : ∀ vs H Q E, sp' vs H Q E -> sp vs H Q E) : qM P w K mg base CX k f fd ps sp' :=
 ⟨λ vs H Q E q => F.len vs H Q E (h _ _ _ _ q), λ A outer s H args us vs Q E hr he hb hv hs => F.run A outer s H args us vs Q E hr he hb hv (h _ _ _ _ hs)⟩
section
variable {X : Cx} {pins : List (Addr × Obj)} {σ : St} {H : Hp} {s s' : Shared}
theorem Inv.env0 (I : Inv X pins σ H s) : IK X.prog X.w X.K X.mg X.base X.A X.stack s H :=
 ⟨I.ok.frames, I.ok.mod, I.bs, Nat.le_trans I.ok.bsz I.sz, I.stack, I.stkFree, I.hok, I.bare.bare⟩
theorem Inv.after {Q : VK} {u : Value} (I : Inv X pins σ H s) (h : CE X.stack X.prog X.w H s Q u s') : EP X pins σ Q u s' := by
 obtain ⟨v, H', os, bare, un, hok, r, q⟩ := h
 obtain ⟨hh, g, d, t, os'⟩ := s'
 obtain rfl : os' = s.os := os
 exact ⟨v, H', I.call (h' := hh) (g' := g) (d' := d) (t' := t) (ch := []) un hok bare (λ b z => absurd z (by simp)), r, q⟩
end
def Qj (sp : Sp) (dvs : List V) (E : XK) (t : TA) : TE := λ σ H Q => t σ H λ vs H1 => sp (vs ++ dvs) H1 Q E
def Binds (K : PySem.W.Frag) (fd : FuncData) (ps : List Str) (ds : List Value) : Prop :=
 ∀ (s : Shared) (us : List Value), K.In s.heap -> (us ++ ds).length = ps.length -> BindsTo s fd ⟨us, []⟩ (ps.zip (us ++ ds))
theorem Binds.all {K : PySem.W.Frag} {fd : FuncData} {ps : List Str} (h : ∀ us : List Value, us.length = ps.length -> bindArgs fd ⟨us, []⟩ = pure (ps.zip us)) : Binds K fd ps [] := λ s us _ hl => by
 rw [List.append_nil] at hl ⊢
 exact .of_eq (h us hl)
def Aq (CX : CXT) (X : Cx) (E : XK) : Prop := ∀ (pins : List (Addr × Obj)) (σ : St) (H : Hp) (s : Shared) (e : Value) (s' : Shared), Inv X pins σ H s -> CX X.stack H s E e s' -> X.xe e s'
section
variable {X : Cx} {CX : CXT} {k : Nat} {f C : Addr} {fd : FuncData} {ps : List Str} {sp : Sp} {dvs : List V} {ds : List Value} {E : XK} {x m : Str} {p pos apos : Pos} {e o : Expr} {es : List Expr} {ta : TE} {t : TA}
theorem Ly {pins : List (Addr × Obj)} {σ : St} {H : Hp} {s : Shared} {Q : VK} {us : List Value} {vs : List V} (F : qM X.prog X.w X.K X.mg X.base CX k f fd ps sp) (hr : dO k X.A) (hb : Binds X.K fd ps ds) (hd : Vals dvs ds) (hx : Aq CX X E)
  (I : Inv X pins σ H s) (r : Vals vs us) (h : sp (vs ++ dvs) H Q E) : wpAny (model X.prog X.w) X.A (call (.ref f) us) (EP X pins σ Q) X.xe s := by
 have r2 : Vals (vs ++ dvs) (us ++ ds) := r.append hd
 have hl : (us ++ ds).length = ps.length := by rw [<- r2.length]; exact F.len _ _ _ _ h
 refine wpAny_call (codeAny_mono (F.run X.A X.stack s H ⟨us, []⟩ (us ++ ds) (vs ++ dvs) Q E hr I.env0 (hb s us I.kIn hl) r2 h) λ r s' hq => ?_)
 cases r with
 | error e => exact hx pins σ H s e s' I hq
 | ok fl =>
  cases fl with
  | ret u => exact I.after hq
  | next => exact False.elim hq
  | brk => exact False.elim hq
  | cont => exact False.elim hq
theorem Jl (F : qM X.prog X.w X.K X.mg X.base CX k f fd ps sp) (hr : dO k X.A) (hg : Gl X x) (hm : X.mg x = some (.ref f)) (hk : PySem.W.keepIn X.K (.ref f) = true) (hb : Binds X.K fd ps ds) (hd : Vals dvs ds) (hx : Aq CX X E)
  (ha : PA X (e :: es) t) (hdb : (x == ("__debug__" : Str)) = false := by decide) (he : starEach (e :: es) X.env = (false, eval e X.env) :: starEach es X.env := by rfl) (hpl : (backTo pos (starEach es X.env)).any (·.1) = false := by rfl) :
  PE X (.Call (.Name x p) (e :: es) [] pos) (Qj sp dvs E t) := by
 intro pins s σ H Q I h
 refine wpAny_Call_Name_kw (Jv I hg hm ?_ hdb)
 refine PySem.W.callWith_K (h₀ := X.base) I.ok.mod.kin hk (thn (ha pos pins s σ H _ I h) λ us s1 ⟨vs, H1, I1, r, q⟩ => ⟨I1.kIn, ?_⟩) he hpl
 exact Ly F hr hb hd hx I1 r q
end
structure aZ (N P : List Str) (sc : Scope) : Prop where
 kind : sc.kind = .function
 co : sc.isCoroutine = false
 gen : sc.isGenerator = false
 nd : N.Nodup
 pre : N.take P.length = P
 par : ∀ x ∈ P, sc.names.lookup x = some .local ∨ sc.names.lookup x = some .cell
 nofree : ∀ y ∈ sc.names, y.2 ≠ .free
theorem vh {kindOf : Str -> Option NameKind} {x : Str} : ∀ {binds : List (Str × Value)} {m : Str -> Option Value}, (∀ v, (x, v) ∉ binds) -> bindL kindOf binds m x = m x
 | [], _, _ => rfl
 | (n, v) :: r, m, h => by
  unfold bindL
  rw [vh λ w hw => h w (List.mem_cons_of_mem _ hw)]
  split
  .have : x ≠ n := by rintro rfl; exact h v List.mem_cons_self
   simp [this]
  .rfl
theorem vd {kindOf : Str -> Option NameKind} {x : Str} : ∀ {binds : List (Str × Value)} {m : Str -> Option Value}, (∀ v, (x, v) ∉ binds) -> bindC kindOf binds m x = m x
 | [], _, _ => rfl
 | (n, v) :: r, m, h => by
  unfold bindC
  rw [vd λ w hw => h w (List.mem_cons_of_mem _ hw)]
  split
  .rfl
  .have : x ≠ n := by rintro rfl; exact h v List.mem_cons_self
   simp [this]
theorem uZ {kindOf : Str -> Option NameKind} {x : Str} {v : Value} : ∀ {P : List Str} {vs : List Value} {i : Nat} {m : Str -> Option Value}, P.Nodup -> P[i]? = some x -> vs[i]? = some v -> kindOf x = some .local ->
  bindL kindOf (P.zip vs) m x = some v
 | [], _, _, _, _, h, _, _ => by simp at h
 | _ :: _, [], _, _, _, _, h, _ => by simp at h
 | p :: P, w :: vs, 0, m, nd, h1, h2, hk => by
  simp at h1 h2; subst h1; subst h2
  show bindL kindOf ((p, w) :: P.zip vs) m p = _
  unfold bindL
  rw [vh λ v hv => (List.nodup_cons.mp nd).1 (List.of_mem_zip hv).1, if_pos hk]
  simp
 | p :: P, w :: vs, i + 1, m, nd, h1, h2, hk => by
  show bindL kindOf ((p, w) :: P.zip vs) m x = _
  unfold bindL
  exact uZ (i := i) (List.nodup_cons.mp nd).2 (by simpa using h1) (by simpa using h2) hk
theorem uA {kindOf : Str -> Option NameKind} {x : Str} {v : Value} : ∀ {P : List Str} {vs : List Value} {i : Nat} {m : Str -> Option Value}, P.Nodup -> P[i]? = some x -> vs[i]? = some v -> kindOf x ≠ some .local ->
  bindC kindOf (P.zip vs) m x = some v
 | [], _, _, _, _, h, _, _ => by simp at h
 | _ :: _, [], _, _, _, _, h, _ => by simp at h
 | p :: P, w :: vs, 0, m, nd, h1, h2, hk => by
  simp at h1 h2; subst h1; subst h2
  show bindC kindOf ((p, w) :: P.zip vs) m p = _
  unfold bindC
  rw [vd λ v hv => (List.nodup_cons.mp nd).1 (List.of_mem_zip hv).1, if_neg hk]
  simp
 | p :: P, w :: vs, i + 1, m, nd, h1, h2, hk => by
  show bindC kindOf ((p, w) :: P.zip vs) m x = _
  unfold bindC
  exact uA (i := i) (List.nodup_cons.mp nd).2 (by simpa using h1) (by simpa using h2) hk
def start (N : List Str) (vs : List V) : St := vs.map some ++ List.replicate (N.length - vs.length) none
def zT (CX : CXT) (P : Program) (w : World) (K : PySem.W.Frag) (mg : Str -> Option Value) (base : Heap) (N : List Str) (qual : Str) (scope : Scope) (f : Addr) (cd : Value) (A : Around) (outer : List Env) (s : Shared) (H : Hp) (E : XK) : Cx where
 prog := P
 w := w
 K := K
 mg := mg
 base := base
 A := A.deeper (envOfC qual scope s.heap.objs.size f cd)
 N := N
 s₀ := s
 H₀ := H
 env := envOfC qual scope s.heap.objs.size f cd
 outer := outer
 stack := envOfC qual scope s.heap.objs.size f cd :: outer
 ex := []
 calm := true
 fn := λ _ => true
 pn := []
 xe := λ e s' => wpAny (model P w) (A.deeper (envOfC qual scope s.heap.objs.size f cd)) (leaving (envOfC qual scope s.heap.objs.size f cd) e) (λ _ s'' => CX outer H s E e s'') (λ e' s'' => CX outer H s E e' s'') s'
theorem xH {sc : Scope} {n : Nat} {x : Str} (h : sc.names.lookup x = some .cell) : ∃ c, (cellsFrom n sc.names []).lookup x = some c := by
 have q := PySem.W.cellsFrom_some sc.names n [] (.inl h)
 exact Option.isSome_iff_exists.mp q
theorem DW {CX : CXT} {P : Program} {w : World} {K : PySem.W.Frag} {mg : Str -> Option Value} {base : Heap} {N ps : List Str} {qual : Str} {scope : Scope} {f : Addr} {cd : Value} {A : Around} {outer : List Env} {s s1 : Shared} {H : Hp} {E : XK} {us : List Value} {vs : List V}
  (S : aZ N ps scope) (hd : A.handled = none) (e0 : IK P w K mg base A outer s H) (hl : vs.length = ps.length) (r : Vals vs us)
  (x : InCallC s s.heap.objs.size (bindL (envOfC qual scope s.heap.objs.size f cd).kindOf (ps.zip us) λ _ => none) (cellsFrom (s.heap.objs.size + 1) scope.names []) (bindC (envOfC qual scope s.heap.objs.size f cd).kindOf (ps.zip us) λ _ => none) s1) :
  Inv (zT CX P w K mg base N qual scope f cd A outer s H E) [] (start N vs) H s1 := by
 have hpl : ps.length <= N.length := by have := congrArg List.length S.pre; rw [List.length_take] at this; omega
 obtain ⟨h1, tk, rfl, hk⟩ := x.done
 have noA : ∀ b : Addr, b ∉ (zT CX P w K mg base N qual scope f cd A outer s H E).ex := λ b z => absurd (show b ∈ ([] : List Addr) from z) (by simp)
 refine ⟨⟨e0.mod, S.kind, rfl, rfl, Nat.le_refl _, λ y z c h1 h2 => ?_, λ y hy => ?_, λ y c _ h => ?_, λ _ => hd, Around.frames_deeper e0.frames, .inr ⟨rfl, rfl⟩, λ b z => absurd z (noA b), e0.bs, e0.bsz, λ b _ _ => noA b, λ b z => absurd z (noA b), e0.funs, e0.frf⟩,
  rfl, GK.refl e0.bare, Un.kept hk, ⟨_, x.toInCall.ns, λ i y v h1 h2 h3 => ?_⟩, λ y c h => ⟨_, x.cell y c h⟩, e0.hok.fresh (Nat.le_refl _), λ y c h => ?_, λ p hp => absurd (show p ∈ ([] : List (Addr × Obj)) from hp) (by simp), e0.hok.kept hk, ?_⟩
 .exact name_of_addr x.apart (PySem.mem_of_lookup h1) (PySem.mem_of_lookup h2)
 .have hy : scope.names.lookup y = some .cell ∨ scope.names.lookup y = some .free := hy
  rcases hy with hy | hy
  .exact xH hy
  .exact absurd rfl (S.nofree _ (PySem.mem_of_lookup hy))
 .exact Nat.le_of_lt (x.above y c (PySem.mem_of_lookup h))
 .have hi : i < vs.length := by
   unfold start at h2
   by_cases hi : i < vs.length
   .exact hi
   .rw [List.getElem?_append_right (by simpa using hi)] at h2
    rw [List.getElem?_replicate] at h2
    split at h2 <;> cases h2
  have ha : vs[i]? = some v := by
   unfold start at h2
   rw [List.getElem?_append_left (by simpa using hi), List.getElem?_map] at h2
   cases e : vs[i]? with
   | none => rw [e] at h2; cases h2
   | some a => rw [e] at h2; cases h2; rfl
  obtain ⟨u, hu, rv⟩ := r.get ha
  have hp : ps[i]? = some y := by
   rw [<- S.pre, List.getElem?_take_of_lt (by omega)]; exact h1
  have ndP : ps.Nodup := by rw [<- S.pre]; exact S.nd.sublist (List.take_sublist _ _)
  refine ⟨u, rv, ?_⟩
  rcases S.par y (List.mem_of_getElem? hp) with k | k
  .exact .inl ⟨k, uZ ndP hp hu k⟩
  .obtain ⟨c, e⟩ := xH (n := s.heap.objs.size + 1) k
   refine .inr ⟨.inl k, c, e, ?_⟩
   have q := x.cell y c e
   rw [uA ndP hp hu (by show scope.names.lookup y ≠ _; rw [k]; decide)] at q
   exact q
 .exact e0.hok.fresh (Nat.le_of_lt (x.above y c (PySem.mem_of_lookup h)))
 .unfold start
  show _ = N.length
  rw [List.length_append, List.length_map, List.length_replicate]
  omega
theorem Lh {CX : CXT} {P : Program} {w : World} {K : PySem.W.Frag} {mg : Str -> Option Value} {base : Heap} {k : Nat} {f : Addr} {name qual : Str} {params : Arguments} {body : List Stmt} {scope : Scope} {dV kV doc pm cdv ct oc : Value} {an od : Option Addr}
  {osl : Array (Option Value)} {N ps : List Str} {sp : Sp} (lk : K.lookup f = some ⟨oc, od, .func (PySem.W.fnOf name qual params body scope dV kV doc pm an cdv ct), osl⟩) (hcd : PySem.W.codeIn K cdv qual = true) (S : aZ N ps scope)
  (len : ∀ vs H Q E, sp vs H Q E -> vs.length = ps.length)
  (hbody : ∀ (A : Around) (outer : List Env) (s : Shared) (H : Hp) (vs : List V) (Q : VK) (E : XK), dO k (A.deeper (envOfC qual scope s.heap.objs.size f cdv)) -> sp vs H Q E ->
   ∃ t, PSs (zT CX P w K mg base N qual scope f cdv A outer s H E) body t /\ t { nx := λ _ H' => Q .non H', rt := Q } (start N vs) H) :
  qM P w K mg base CX (k + 1) f (PySem.W.fnOf name qual params body scope dV kV doc pm an cdv ct) ps sp := by
 refine ⟨len, λ A outer s H args us vs Q E hr e0 hb r hsp => ?_⟩
 have hl := len _ _ _ _ hsp
 have KX : K.In s.heap := e0.mod.kin.keeps λ b o e => (e0.bs b o e).1
 have lim : s.heap.NoLimit := e0.mod.nolimit.keeps λ b o e => (e0.bs b o e).1
 have hkind : ∀ y ∈ ps.zip us, scope.names.lookup y.1 = some .local ∨ (scope.names.lookup y.1 = some .cell /\ ((cellsFrom (s.heap.objs.size + 1) scope.names []).lookup y.1).isSome = true) := λ zq49 hy => by
  obtain ⟨n, v⟩ := zq49
  rcases S.par n (List.of_mem_zip hy).1 with q | q
  .exact .inl q
  .exact .inr ⟨q, PySem.W.cellsFrom_some _ _ _ (.inl q)⟩
 refine codeAny_call_function hr.depth (KX _ _ lk) rfl S.co S.gen rfl (PySem.W.codeRec_of KX hcd) (hb _ _ _ _ ?_)
 refine wpAny_newFunctionEnv_cells S.kind hkind λ env he s1 x => ?_
 subst he
 refine ⟨lim.keeps x.toInCall.keep, codeAny_func ?_⟩
 obtain ⟨t, ht, hq⟩ := hbody A outer s H vs Q E (hr.deeper _) hsp
 have I : Inv (zT CX P w K mg base N qual scope f cdv A outer s H E) [] (start N vs) H s1 := DW S hr.hd e0 hl r x
 refine wpAny_mono (ht [] s1 (start N vs) H _ I hq) (λ fl s' hs => ?_) λ e s' hs => hs
 have fin : ∀ {σ' : St} {H' : Hp} {v : V} {u : Value}, Inv (zT CX P w K mg base N qual scope f cdv A outer s H E) [] σ' H' s' -> RelV v u -> Q v H' -> CE outer P w H s Q u s' :=
  λ {σ' H' v u} J rv q => ⟨v, H', J.os, J.bare, J.base, J.hok, rv, q⟩
 cases fl with
 | ret u =>
  obtain ⟨v, σ', H', J, rv, q⟩ := hs
  exact fin J rv q
 | next =>
  obtain ⟨σ', H', J, q⟩ := hs
  exact fin (v := V.non) (u := Value.none) J rfl q
 | brk =>
  obtain ⟨_, _, _, q⟩ := hs
  exact False.elim q
 | cont =>
  obtain ⟨_, _, _, q⟩ := hs
  exact False.elim q
section
variable {X : Cx} {x : Str} {p pos : Pos} {e : Expr} {es : List Expr} {t : TA} {id T : String} {r : List V -> Hp -> VK -> Prop}
def tCB (r : List V -> Hp -> VK -> Prop) (t : TA) : TE := λ σ H Q => t σ H λ vs H1 => r vs H1 Q
theorem jY (hc : gZ X (.builtin id) r) (hg : Gl X x) (hm : X.mg x = none) (hv : bootBuiltins x = some (.builtin id)) (ha : PA X (e :: es) t) (hn : x ≠ "__name__" := by decide) (hdb : (x == ("__debug__" : Str)) = false := by decide)
  (he : starEach (e :: es) X.env = (false, eval e X.env) :: starEach es X.env := by rfl) (hpl : (backTo pos (starEach es X.env)).any (·.1) = false := by rfl) : PE X (.Call (.Name x p) (e :: es) [] pos) (tCB r t) := by
 intro pins s σ H Q I h
 refine wpAny_Call_Name_kw (lz I hg hm hv ?_ hn hdb)
 exact PyProof.Rows.callWith_builtin1 (thn (ha pos pins s σ H _ I h) λ us s1 ⟨vs, H1, I1, r1, q1⟩ => hc pins s1 σ H1 vs us Q I1 r1 q1) he hpl
theorem mQ (hc : gZ X (.type T) r) (hg : Gl X x) (hm : X.mg x = none) (hv : bootBuiltins x = some (.type T)) (ha : PA X (e :: es) t) (hn : x ≠ "__name__" := by decide) (hdb : (x == ("__debug__" : Str)) = false := by decide)
  (he : starEach (e :: es) X.env = (false, eval e X.env) :: starEach es X.env := by rfl) (hpl : (backTo pos (starEach es X.env)).any (·.1) = false := by rfl) : PE X (.Call (.Name x p) (e :: es) [] pos) (tCB r t) := by
 intro pins s σ H Q I h
 refine wpAny_Call_Name_kw (lz I hg hm hv ?_ hn hdb)
 exact PyProof.Rows.callWith_type1 (thn (ha pos pins s σ H _ I h) λ us s1 ⟨vs, H1, I1, r1, q1⟩ => hc pins s1 σ H1 vs us Q I1 r1 q1) he hpl
end
end L2
namespace HT
open PySem PyProof.Rows
def lexLt : List Int -> List Int -> Bool
 | [], [] => false
 | [], _ :: _ => true
 | _ :: _, [] => false
 | x :: xs, y :: ys => if x = y then lexLt xs ys else decide (x < y)
theorem lexLt_cons (x y : Int) (xs ys : List Int) : lexLt (x :: xs) (y :: ys) = if x = y then lexLt xs ys else decide (x < y) := rfl
section
variable {prog : Program} {w : World} {A : Around} {E : Value -> Shared -> Prop} {s : Shared}
theorem cat_tup {t b : Addr} {vs ws : List Value} {Q : Value -> Shared -> Prop} (ht : IsTup s.heap t vs.toArray) (hb : IsTup s.heap b ws.toArray) (hv : vs ≠ [])
  (h1 : ws = [] -> Q (.ref t) s) (h2 : ws ≠ [] -> Q (.ref s.heap.objs.size) { s with heap := s.heap.push { cls := .type "tuple", data := .seq (vs ++ ws).toArray } })
  (hsz : vs.length + ws.length <= sizeLine) : wpAny (model prog w) A (binaryOp .Add (.ref t) (.ref b)) Q E s := by
 obtain ⟨⟨cls, dd, data, sl⟩, ho, hc, n, hd⟩ := id ht
 obtain ⟨⟨cls2, dd2, data2, sl2⟩, ho2, hc2, n2, hd2⟩ := id hb
 simp only at hc hd hc2 hd2
 subst hc hd hc2 hd2
 have e : vs.toArray ++ ws.toArray = (vs ++ ws).toArray := by simp
 by_cases hw : ws = []
 .exact concat_meets ⟨_, ho, rfl⟩ ⟨_, ho2, rfl⟩ noFill_tuple_add seq_tuple_add PySem.F.slot_tuple_add PySem.F.entry_tuple_add (PySem.F.args_tuple_add_2 _ _)
   (tuple_addW1 t b vs.toArray ws.toArray n n2 dd dd2 sl sl2 (by simpa using hv) (by simp [hw])) ⟨ho, ho2, h1 hw⟩
 .refine concat_meets ⟨_, ho, rfl⟩ ⟨_, ho2, rfl⟩ noFill_tuple_add seq_tuple_add PySem.F.slot_tuple_add PySem.F.entry_tuple_add (PySem.F.args_tuple_add_2 _ _)
   (tuple_addW2 t b vs.toArray ws.toArray n n2 dd dd2 sl sl2 (by simpa using hv) (by simpa using hw) (by rw [List.size_toArray, List.size_toArray]; exact hsz)) ⟨ho, ho2, ?_⟩
  rw [e]
  exact h2 hw
def sIx (n d : Nat) : Option Int -> Nat
 | none => d
 | some v => if v < 0 then (v + (n : Int)).toNat else min v.toNat n
theorem Nt (n d : Nat) (hd : d <= n) (o : Option Int) : sIx n d o <= n := by
 cases o with
 | none => exact hd
 | some v =>
  show (if v < 0 then (v + (n : Int)).toNat else min v.toNat n) <= n
  by_cases hv : v < 0
  .rw [if_pos hv]; omega
  .rw [if_neg hv]; exact Nat.min_le_right _ _
theorem Bv (v : Int) (n d : Nat) : (if v < 0 then max (v + (n : Int)) 0 else min v (n : Int)) = ((sIx n d (some v) : Nat) : Int) := by
 show (if v < 0 then max (v + (n : Int)) 0 else min v (n : Int)) = (((if v < 0 then (v + (n : Int)).toNat else min v.toNat n) : Nat) : Int)
 by_cases hv : v < 0
 .simp only [if_pos hv]; omega
 .simp only [if_neg hv]; omega
theorem Af (lo hi : Option Int) (n : Nat) : Builtin.Slice.sliceAdjust lo hi 1 (n : Int) = (((sIx n 0 lo : Nat) : Int), ((sIx n n hi : Nat) : Int)) := by
 have h1 : ¬ ((1 : Int) < 0) := by omega
 unfold Builtin.Slice.sliceAdjust
 simp only [h1, if_false]
 refine Prod.ext ?_ ?_
 .cases lo with
  | none => rfl
  | some v => exact Bv v n 0
 .cases hi with
  | none => rfl
  | some v => exact Bv v n n
theorem zL (i j : Nat) : Builtin.Slice.slicePlaces (i : Int) (j : Int) 1 = j - i := by
 unfold Builtin.Slice.slicePlaces
 have h1 : (1 : Int) > 0 := by omega
 simp only [h1, if_true, Int.ediv_one]
 split <;> omega
theorem tW {v : Value} {o : Option Int} {Q : Option Int -> Shared -> Prop} (p : IsPart v o) (h : Q o s) : wpAny (model prog w) A (Builtin.Slice.slicePartIndex v) Q E s := by
 cases p with
 | none => exact slicePart_none h
 | int i t => exact slicePart_int h
theorem kj {sl : Addr} {vl vu : Value} {lo hi : Option Int} {n : Nat} {Q : Int × Int × Nat -> Shared -> Prop} (hs : s.heap.IsSliceOf sl vl vu .none) (pl : IsPart vl lo) (pu : IsPart vu hi)
  (h : Q (((sIx n 0 lo : Nat) : Int), 1, sIx n n hi - sIx n 0 lo) s) : wpAny (model prog w) A (Builtin.Slice.sliceApplied (.ref sl) (pure (n : Int))) Q E s := by
 obtain ⟨os, hos, hcs, hds⟩ := id hs
 unfold Builtin.Slice.sliceApplied Builtin.Slice.sliceFields
 refine wpAny_bind (wpAny_bind (wpAny_field hos hds (x := vl) rfl (wpAny_bind (wpAny_field hos hds (x := vu) rfl (wpAny_bind (wpAny_field hos hds (x := .none) rfl (wpAny_pure ?_)))))))
 refine wpAny_bind (slicePart_none ?_)
 show wpAny _ _ (if ((1 : Int) == 0) = true then _ else _) _ _ s
 rw [if_neg (by decide)]
 refine wpAny_bind (tW pl (wpAny_bind (tW pu (wpAny_bind (wpAny_pure ?_)))))
 show wpAny _ _ (match Builtin.Slice.sliceAdjust lo hi 1 (n : Int) with | (lo, hi) => pure (lo, (1 : Int), Builtin.Slice.slicePlaces lo hi 1)) _ _ s
 rw [Af lo hi n]
 show wpAny _ _ (pure (((sIx n 0 lo : Nat) : Int), (1 : Int), Builtin.Slice.slicePlaces ((sIx n 0 lo : Nat) : Int) ((sIx n n hi : Nat) : Int) 1)) _ _ s
 rw [zL]
 exact wpAny_pure h
theorem GP (xs : Array Value) (i k : Nat) : ((List.range k).filterMap λ (m : Nat) => xs[((i : Int) + (m : Int) * 1).toNat]?).toArray = ((xs.toList.drop i).take k).toArray := by
 have e : (λ (m : Nat) => xs[((i : Int) + (m : Int) * 1).toNat]?) = λ m => xs[i + m]? := by
  funext m
  have : ((i : Int) + (m : Int) * 1).toNat = i + m := by omega
  rw [this]
 rw [e]
 have := pick_run xs i k
 rw [List.filterMap_map] at this
 have e2 : ((λ x => xs[x]?) ∘ λ x => i + x) = λ m => xs[i + m]? := rfl
 rw [e2] at this
 rw [this]
theorem getItem_tuple_cut {t sl : Addr} {items : Array Value} {vl vu : Value} {lo hi : Option Int} {Q : Value -> Shared -> Prop} (ht : IsTup s.heap t items) (hs : s.heap.IsSliceOf sl vl vu .none) (pl : IsPart vl lo) (pu : IsPart vu hi)
  (hw : ¬ (sIx items.size 0 lo = 0 /\ sIx items.size items.size hi = items.size))
  (h : Q (.ref s.heap.objs.size) { s with heap := s.heap.push { cls := .type "tuple", data := .seq ((items.toList.drop (sIx items.size 0 lo)).take (sIx items.size items.size hi - sIx items.size 0 lo)).toArray } })
  (hsz : items.size <= sizeLine) : wpAny (model prog w) A (getItem (.ref t) (.ref sl)) Q E s := by
 have htake : sizeOk (.seq ((items.toList.drop (sIx items.size 0 lo)).take (sIx items.size items.size hi - sIx items.size 0 lo)).toArray) := by
  show ((items.toList.drop (sIx items.size 0 lo)).take (sIx items.size items.size hi - sIx items.size 0 lo)).toArray.size <= sizeLine
  rw [List.size_toArray, List.length_take, List.length_drop, Array.length_toList]
  omega
 have hj : sIx items.size items.size hi <= items.size := Nt _ _ (Nat.le_refl _) hi
 obtain ⟨os, hos, hcs, hds⟩ := id hs
 have hTs : s.TypeIs (.ref sl) "slice" := ⟨os, hos, hcs⟩
 unfold getItem
 try with_reducible refine wpAny_holding ?_
 first | refine wpAny_bind (wpAny_pure ?_) | skip
 refine wpAny_bind (wpAny_sequenceKey ht.typeIs (by decide) ?_)
 refine wpAny_bind (wpAny_callSpecial?_slot (name := Str.ofString "__getitem__") ht.typeIs PyProof.Rows.slot_tuple_getitem
  (wpAny_call_entry PyProof.Rows.slot_tuple_getitem ht.typeIs entry_tuple_getitem ?_ (args_tuple_getitem _ _)))
 show wpAny _ _ (Builtin.Tuple.tupleItemsOf (.ref t) >>= _) _ _ s
 refine wpAny_bind (tupleItemsOf_ ht ?_)
 refine wpAny_bind (wpAny_typeOf hTs ?_)
 rw [if_pos (by decide)]
 refine wpAny_bind (kj hs pl pu ?_)
 have hno : ¬ ((((sIx items.size 0 lo : Nat) : Int) == 0 && (1 : Int) == 1 && (sIx items.size items.size hi - sIx items.size 0 lo) == items.size) = true) := by
  intro q
  rw [Bool.and_eq_true, Bool.and_eq_true] at q
  have q1 : ((sIx items.size 0 lo : Nat) : Int) = 0 := eq_of_beq q.1.1
  have q2 : sIx items.size items.size hi - sIx items.size 0 lo = items.size := eq_of_beq q.2
  exact hw ⟨by omega, by omega⟩
 show wpAny _ _ (if (((sIx items.size 0 lo : Nat) : Int) == 0 && (1 : Int) == 1 && (sIx items.size items.size hi - sIx items.size 0 lo) == items.size) = true then _ else _) _ _ s
 rw [if_neg hno, GP]
 first
  | exact wpAny_bind (m := Builtin.Tuple.tupleExact _) (wpAny_newObj_type (wpAny_pure ⟨_, rfl, wpAny_pure h⟩) htake)
  | exact wpAny_bind (m := Builtin.Tuple.tupleExact _) (wpAny_newObj_type (wpAny_bind (wpAny_pure (wpAny_pure ⟨_, rfl, wpAny_pure h⟩))) htake)
  | exact wpAny_bind (wpAny_bind (m := Builtin.Tuple.tupleExact _) (wpAny_newObj_type (wpAny_pure (wpAny_pure ⟨_, rfl, wpAny_pure h⟩)) htake))
  | exact wpAny_bind (wpAny_bind (m := Builtin.Tuple.tupleExact _) (wpAny_newObj_type (wpAny_pure ⟨_, rfl, wpAny_pure h⟩) htake))
end
end HT
namespace L2
open PySem PySem.Spec PyProof.Rows
abbrev TO := St -> Hp -> (Option Int -> Hp -> Prop) -> Prop
def PO (X : Cx) (e : Option Expr) (t : TO) : Prop :=
 ∀ (pins : List (Addr × Obj)) (s : Shared) (σ : St) (H : Hp) (Q : Option Int -> Hp -> Prop), Inv X pins σ H s -> t σ H Q ->
  wpAny (model X.prog X.w) X.A (evalPart e X.env) (λ u s' => ∃ o H', Inv X pins σ H' s' /\ IsPart u o /\ Q o H') X.xe s
def JR : TO := λ _ H Q => Q none H
def QV (t : TE) : TO := λ σ H Q => t σ H λ x H1 => ∃ i, x = .int i /\ Q (some i) H1
section
variable {X : Cx} {e : Expr} {te : TE} {lo hi : Option Expr} {tl th : TO} {pos p2 : Pos}
theorem Js : PO X none JR := by
 intro pins s σ H Q I h
 rw [evalPart_none]
 exact wpAny_pure ⟨none, H, I, .none, h⟩
theorem IW (h : PE X e te) : PO X (some e) (QV te) := by
 intro pins s σ H Q I hw
 rw [evalPart_some]
 refine thn (h pins s σ H _ I hw) λ u s1 zq50 => ?_
 obtain ⟨x, H1, I1, r1, q1⟩ := zq50
 obtain ⟨i, rfl, q⟩ := q1
 obtain ⟨t, rfl⟩ := r1
 exact ⟨some i, H1, I1, .int i t, q⟩
def SlR (X : Cx) (r : V -> Option Int -> Option Int -> Hp -> VK -> Prop) : Prop :=
 ∀ (pins : List (Addr × Obj)) (s : Shared) (σ : St) (H : Hp) (x : V) (v vl vu : Value) (lo hi : Option Int) (sl : Addr) (Q : VK), Inv X pins σ H s -> RelV x v -> s.heap.IsSliceOf sl vl vu .none -> IsPart vl lo -> IsPart vu hi -> r x lo hi H Q ->
  ∃ T id, typeLookup (.type T) "__getitem__" = pure (some (.builtin id)) /\ s.TypeIs v T /\ wpAny (model X.prog X.w) X.A (getItem v (.ref sl)) (EP X pins σ Q) X.xe s
theorem SlR.or {r r' : V -> Option Int -> Option Int -> Hp -> VK -> Prop} (h : SlR X r) (h' : SlR X r') : SlR X (λ x lo hi H Q => r x lo hi H Q ∨ r' x lo hi H Q) := by
 intro pins s σ H x v vl vu lo hi sl Q I rx hs pl pu q
 rcases q with q | q
 .exact h pins s σ H x v vl vu lo hi sl Q I rx hs pl pu q
 .exact h' pins s σ H x v vl vu lo hi sl Q I rx hs pl pu q
def tSl (r : V -> Option Int -> Option Int -> Hp -> VK -> Prop) (te : TE) (tl th : TO) : TE := λ σ H Q => te σ H λ x H1 => tl σ H1 λ l H2 => th σ H2 λ u H3 => r x l u H3 Q
theorem yU {r : V -> Option Int -> Option Int -> Hp -> VK -> Prop} (hr : SlR X r) (he : PE X e te) (hl : PO X lo tl) (hu : PO X hi th) : PE X (.Subscript e (.Slice lo hi none p2) pos) (tSl r te tl th) := by
 intro pins s σ H Q I h
 refine Subscript_ (thn (he pins s σ H _ I h) λ v s1 zq51 => ?_)
 obtain ⟨x, H1, I1, r1, q1⟩ := zq51
 refine wpAny_Slice (thn (hl pins s1 σ H1 _ I1 q1) λ vl s2 ⟨l, H2, I2, pl, q2⟩ => thn (hu pins s2 σ H2 _ I2 q2) λ vu s3 zq52 => ?_)
 obtain ⟨u, H3, I3, pu, q3⟩ := zq52
 rw [evalPart_none]
 refine wpAny_pure ?_
 have I4 : Inv X pins σ H3 { s3 with heap := s3.heap.push { cls := .type "slice", data := .fields #[vl, vu, .none] } } := I3.kept (t' := s3.toks) λ b ob q => Heap.get?_push_of_some _ q
 obtain ⟨T, id, hT, ht, hg⟩ := hr pins { s3 with heap := s3.heap.push { cls := .type "slice", data := .fields #[vl, vu, .none] } } σ H3 x v vl vu l u s3.heap.objs.size Q I4 r1 (Heap.IsSliceOf.new ..) pl pu q3
 show wpAny (model X.prog X.w) X.A (subscriptTail e (.Slice lo hi none p2) v (.ref s3.heap.objs.size)) (EP X pins σ Q) X.xe { s3 with heap := s3.heap.push { cls := .type "slice", data := .fields #[vl, vu, .none] } }
 exact tail_any (ops := [.ref s3.heap.objs.size, v]) ht hT hg (by with_unfolding_all rfl)
def yW (xs : List V) (lo hi : Option Int) : List V := (xs.drop (HT.sIx xs.length 0 lo)).take (HT.sIx xs.length xs.length hi - HT.sIx xs.length 0 lo)
theorem qH (xs : List V) (lo hi : Option Int) : (yW xs lo hi).length <= xs.length := by
 unfold yW
 rw [List.length_take, List.length_drop]
 omega
def rSlT (K : PySem.W.Frag) : V -> Option Int -> Option Int -> Hp -> VK -> Prop := λ x lo hi H Q => ∃ a xs, x = .ref a /\ SqT K H a xs /\
 ¬ (HT.sIx xs.length 0 lo = 0 /\ HT.sIx xs.length xs.length hi = xs.length) /\ ∀ p, H p = none -> Q (.ref p) (upd H p (.tup (yW xs lo hi)))
theorem Py : SlR X (rSlT X.K) := by
 intro pins s σ H x v vl vu lo hi sl Q I rx hs pl pu h
 obtain ⟨a, xs, rfl, hx, hw, q⟩ := h
 cases rx
 obtain ⟨its, r, ht, hz⟩ := I.tuple hx
 have hlen : its.toArray.size = xs.length := by rw [List.size_toArray]; exact r.length.symm
 refine ⟨"tuple", _, PyProof.Rows.slot_tuple_getitem.lookup, ht.typeIs, ?_⟩
 refine HT.getItem_tuple_cut ht hs pl pu (by rw [hlen]; exact hw) ?_ (by rw [hlen]; exact hz)
 rw [hlen]
 refine ⟨.ref s.heap.objs.size, _, I.laid (t' := s.toks) (o := .tup (yW xs lo hi)) (λ b ob q => Heap.get?_push_of_some _ q) (Nat.le_refl _) ?_, rfl, q _ (I.hok.fresh (Nat.le_refl _))⟩
 exact ⟨Nat.le_trans (qH xs lo hi) hz, _, (r.drop (HT.sIx xs.length 0 lo)).take (HT.sIx xs.length xs.length hi - HT.sIx xs.length 0 lo), IsTup.new _ _⟩
def Ql (K : PySem.W.Frag) : R2 := λ x y H Q => ∃ a b xs ys, x = .ref a /\ y = .ref b /\ SqT K H a xs /\ SqT K H b ys /\ xs ≠ [] /\ xs.length + ys.length <= sizeLine /\
 (ys = [] -> Q (.ref a) H) /\ (ys ≠ [] -> ∀ p, H p = none -> Q (.ref p) (upd H p (.tup (xs ++ ys))))
theorem Vals.kY {xs : List V} {us : List Value} (r : Vals xs us) : us = [] ↔ xs = [] := by
 cases r with
 | nil => simp
 | cons _ _ => simp
theorem Ji : OpR X (binaryOp .Add) (Ql X.K) := by
 intro pins s σ H x y v u Q I rx ry h
 obtain ⟨a, b, xs, ys, rfl, rfl, ha, hb, hx, hz, q1, q2⟩ := h
 cases rx
 cases ry
 obtain ⟨its, r1, p1, _⟩ := I.tuple ha
 obtain ⟨its2, r2, p2, _⟩ := I.tuple hb
 refine HT.cat_tup p1 p2 (λ z => hx (r1.kY.mp z)) (λ z => ⟨.ref a, H, I, rfl, q1 (r2.kY.mp z)⟩) (λ z => ?_) (by rw [<- r1.length, <- r2.length]; exact hz)
 refine ⟨.ref s.heap.objs.size, _, I.laid (t' := s.toks) (o := .tup (xs ++ ys)) (λ b ob q => Heap.get?_push_of_some _ q) (Nat.le_refl _) ?_, rfl, q2 (λ w => z (r2.kY.mpr w)) _ (I.hok.fresh (Nat.le_refl _))⟩
 exact ⟨by rw [List.length_append]; exact hz, _, r1.append r2, IsTup.new _ _⟩
end
def ixN (n : Nat) (i : Int) : Option Nat := if 0 <= i then (if i < n then some i.toNat else none) else if -(n : Int) <= i then some (i + n).toNat else none
def atI {α : Type} (xs : List α) (i : Int) : Option α := (ixN xs.length i).bind λ j => xs[j]?
theorem BL {n : Nat} {i : Int} {j : Nat} (h : ixN n i = some j) : seqIndex? i n = some j /\ j < n /\ -(n : Int) <= i /\ i < n := by
 unfold ixN at h
 by_cases h0 : 0 <= i
 .rw [if_pos h0] at h
  by_cases h1 : i < n
  .rw [if_pos h1] at h
   have e : i.toNat = j := Option.some.inj h
   exact ⟨by rw [seqIndex_of h0 h1, e], by omega, by omega, h1⟩
  .rw [if_neg h1] at h; cases h
 .rw [if_neg h0] at h
  by_cases h1 : -(n : Int) <= i
  .rw [if_pos h1] at h
   have e : (i + n).toNat = j := Option.some.inj h
   exact ⟨by rw [seqIndex_neg (by omega) h1, e], by omega, h1, by omega⟩
  .rw [if_neg h1] at h; cases h
theorem wA {α : Type} {xs : List α} {i : Int} {v : α} (h : atI xs i = some v) : ∃ j, seqIndex? i xs.length = some j /\ xs[j]? = some v /\ j < xs.length /\ -(xs.length : Int) <= i /\ i < xs.length := by
 unfold atI at h
 cases e : ixN xs.length i with
 | none => rw [e] at h; cases h
 | some j =>
  rw [e] at h
  obtain ⟨h1, h2, h3, h4⟩ := BL e
  exact ⟨j, h1, h, h2, h3, h4⟩
theorem HX {α : Type} {xs : List α} {j : Nat} {v : α} (h : xs[j]? = some v) : atI xs (j : Int) = some v := by
 have hj : j < xs.length := (List.getElem?_eq_some_iff.mp h).1
 have e : ixN xs.length (j : Int) = some j := by
  unfold ixN
  rw [if_pos (by omega), if_pos (by omega)]; simp
 unfold atI; rw [e]; exact h
theorem tZ {α : Type} (xs : List α) (v : α) : atI (xs ++ [v]) (-1) = some v := by
 have hl : (xs ++ [v]).length = xs.length + 1 := by simp
 have e : ixN (xs ++ [v]).length (-1) = some xs.length := by
  unfold ixN
  rw [hl, if_neg (by decide), if_pos (by omega)]
  congr 1
  omega
 unfold atI
 rw [e]
 show (xs ++ [v])[xs.length]? = some v
 simp
def Cq (b : Expr) : Prop := ∀ o i, subscripted b false o i = operate [o, i] (getItem o i)
def IxR (X : Cx) (r : R2) : Prop :=
 ∀ (value slice : Expr) (pins : List (Addr × Obj)) (s : Shared) (σ : St) (H : Hp) (x y : V) (v u : Value) (Q : VK), Inv X pins σ H s -> RelV x v -> RelV y u -> r x y H Q ->
  subscripted slice false v u = operate [v, u] (getItem v u) -> wpAny (model X.prog X.w) X.A (subscriptTail value slice v u) (EP X pins σ Q) X.xe s
def MtR (X : Cx) (id : String) (r : V -> List V -> Hp -> VK -> Prop) : Prop :=
 ∀ (pins : List (Addr × Obj)) (s : Shared) (σ : St) (H : Hp) (x : V) (xs : List V) (v : Value) (us : List Value) (Q : VK), Inv X pins σ H s -> RelV x v -> Vals xs us -> r x xs H Q ->
  wpAny (model X.prog X.w) X.A (call (.builtin id) (v :: us)) (EP X pins σ Q) X.xe s
section
variable {X : Cx} {a b : Expr} {ta tb : TE} {pos : Pos}
theorem IxR.or {r r' : R2} (h : IxR X r) (h' : IxR X r') : IxR X (λ x y H Q => r x y H Q ∨ r' x y H Q) := by
 intro value slice pins s σ H x y v u Q I rx ry q hs
 rcases q with q | q
 .exact h value slice pins s σ H x y v u Q I rx ry q hs
 .exact h' value slice pins s σ H x y v u Q I rx ry q hs
theorem Qf {r : R2} (hr : IxR X r) (ha : PE X a ta) (hb : PE X b tb) (hs : Cq b) : PE X (.Subscript a b pos) (tOp r ta tb) := by
 intro pins s σ H Q I h
 exact Subscript_ (OJ ha hb I h λ v u s2 x y H2 I2 rx ry q => hr a b pins s2 σ H2 x y v u Q I2 rx ry q (hs _ _))
def Rz (K : PySem.W.Frag) : R2 := λ x y H Q => ∃ p xs i v, x = .ref p /\ y = .int i /\ SqL K H p xs /\ atI xs i = some v /\ Q v H
def QF (K : PySem.W.Frag) : R2 := λ x y H Q => ∃ p xs i v, x = .ref p /\ y = .int i /\ SqT K H p xs /\ atI xs i = some v /\ Q v H
def Qm : R2 := λ x y H Q => ∃ z i c, x = .str z /\ y = .int i /\ z.length <= sizeLine /\ atI z.cps.toList i = some c /\ Q (.str ⟨#[c]⟩) H
theorem Kv : IxR X (Rz X.K) := by
 intro value slice pins s σ H x y v u Q I rx ry h hs
 obtain ⟨p, xs, i, z, rfl, rfl, hq, he, q⟩ := h
 cases rx
 obtain ⟨t, rfl⟩ := ry
 obtain ⟨its, r, pl, hz⟩ := I.list hq
 obtain ⟨j, h1, h2, h3, h4, h5⟩ := wA he
 obtain ⟨w, ew, rw'⟩ := r.get h2
 have hl := r.length
 have hn := nY
 have fin : EP X pins σ Q w s := ⟨z, H, I, rw', q⟩
 by_cases h0 : 0 <= i
 .have hj : i.toNat = j := by
   rw [seqIndex_of h0 h5] at h1
   exact Option.some.inj h1
  exact item_listR pl.isList h0 (by omega) (by rw [hj]; simpa using ew) fin hs
 .have hj : (i + (its.toArray.size : Int)).toNat = j := by
   rw [seqIndex_neg (by omega) h4] at h1
   rw [List.size_toArray, <- hl]
   exact Option.some.inj h1
  exact subscriptTail_builtinR (x := w) pl.isList.typeIs slot_list_getitem.lookup
   (wpAny_getItem_list_neg (Q := λ r s' => r = w /\ EP X pins σ Q r s') pl.isList (by omega) (by rw [List.size_toArray] <;> omega) (by omega) (by rw [hj]; simpa using ew) ⟨rfl, fin⟩) hs
theorem Mr : IxR X (QF X.K) := by
 intro value slice pins s σ H x y v u Q I rx ry h hs
 obtain ⟨p, xs, i, z, rfl, rfl, hq, he, q⟩ := h
 cases rx
 obtain ⟨t, rfl⟩ := ry
 obtain ⟨its, r, pl, hz⟩ := I.tuple hq
 obtain ⟨j, h1, h2, h3, h4, h5⟩ := wA he
 obtain ⟨w, ew, rw'⟩ := r.get h2
 have hl := r.length
 have hn := nY
 have fin : EP X pins σ Q w s := ⟨z, H, I, rw', q⟩
 exact subscriptTail_builtinR (x := w) pl.typeIs slot_tuple_getitem.lookup
  (getItem_tuple (j := j) (Q := λ r s' => r = w /\ EP X pins σ Q r s') pl (by omega) (by omega) (by rw [List.size_toArray, <- hl]; exact h1) (by simpa using ew) ⟨rfl, fin⟩) hs
theorem Nu : IxR X Qm := by
 intro value slice pins s σ H x y v u Q I rx ry h hs
 obtain ⟨z, i, c, rfl, rfl, hz, he, q⟩ := h
 obtain ⟨t, rfl⟩ := rx
 obtain ⟨t', rfl⟩ := ry
 obtain ⟨j, h1, h2, h3, h4, h5⟩ := wA he
 have hl : z.cps.toList.length = z.length := by simp [Str.length]
 rw [hl] at h1 h4 h5
 have hn := nY
 exact tail_any (typeIs_str s z t) slot_str_getitem.lookup (getItem_str (c := c) (by
  have e1 : decide (i < -(2 ^ 63 : Int)) = false := decide_eq_false (by omega)
  have e2 : decide (i >= 2 ^ 63) = false := decide_eq_false (by omega)
  rw [e1, e2, Bool.or_false]) (by rw [h1]; simpa using h2) ⟨.str ⟨#[c]⟩, H, I.tok _, ⟨_, rfl⟩, q⟩) hs
def rIx (K : PySem.W.Frag) : R2 := λ x y H Q => Rz K x y H Q ∨ QF K x y H Q ∨ Qm x y H Q
theorem Lx : IxR X (rIx X.K) := Kv.or (Mr.or Nu)
theorem Aa (its : List Value) (n j : Nat) (u : Value) : Obj.mapSeq (·.setIfInBounds j u) { cls := .type "list", data := .seq its.toArray n } = { cls := .type "list", data := .seq (its.set j u).toArray n } := by
 simp [Obj.mapSeq]
theorem Inv.lst {pins : List (Addr × Obj)} {σ : St} {H : Hp} {s : Shared} {p : Addr} {xs : List V} (I : Inv X pins σ H s) (h : H p = some (.lst xs)) :
  ∃ (its : List Value) (n : Nat), Vals xs its /\ s.heap.get? p = some { cls := .type "list", data := .seq its.toArray n } /\ xs.length <= sizeLine := by
 obtain ⟨z, its, n, r, e⟩ := I.hok p _ h
 exact ⟨its, n, r, e, z⟩
theorem Inv.lstUpd {pins : List (Addr × Obj)} {σ : St} {H : Hp} {s : Shared} {p : Addr} {xs ys : List V} {its its' : List Value} {n n' : Nat} {f : Obj -> Obj} (I : Inv X pins σ H s) (h : H p = some (.lst xs))
  (ho : s.heap.get? p = some { cls := .type "list", data := .seq its.toArray n }) (hf : f { cls := .type "list", data := .seq its.toArray n } = { cls := .type "list", data := .seq its'.toArray n' }) (r : Vals ys its') (hz : ys.length <= sizeLine) (t : Nat) :
  Inv X pins σ (upd H p (.lst ys)) { s with heap := s.heap.update p f, toks := t } := by
 have e : (s.heap.update p f).get? p = some { cls := .type "list", data := .seq its'.toArray n' } := by
  rw [Heap.get?_update_self f ho (by rw [hf] <;> rfl), hf]
 refine I.write (x := p) (e := p) (by rw [h]; trivial) (.inl rfl) (λ b u hb q => (Heap.get?_update_other _ _ (Ne.symm hb)).trans q) ⟨_, e⟩ ?_
 exact ⟨hz, its', n', r, e⟩
def Qv : V -> V -> V -> Hp -> (Hp -> Prop) -> Prop := λ o i v H Q => ∃ p xs k j, o = .ref p /\ i = .int k /\ H p = some (.lst xs) /\ ixN xs.length k = some j /\ Q (upd H p (.lst (xs.set j v)))
theorem set_list : Qo X Qv := by
 intro pins s σ H o i v ov iv u Q I ro ri rv h
 obtain ⟨p, xs, k, j, rfl, rfl, hp, hj, q⟩ := h
 cases ro
 obtain ⟨t, rfl⟩ := ri
 obtain ⟨its, n, r, ho, hz⟩ := I.lst hp
 obtain ⟨h1, h2, h3, h4⟩ := BL hj
 have hl := r.length
 have hn := nY
 have I' : Inv X pins σ (upd H p (.lst (xs.set j v))) { s with heap := s.heap.update p (Obj.mapSeq (·.setIfInBounds j u)) } :=
  I.lstUpd hp ho (Aa its n j u) (r.set rv j) (by rw [List.length_set]; exact hz) s.toks
 by_cases h0 : 0 <= k
 .have hk : k.toNat = j := by
   rw [seqIndex_of h0 h4] at h1
   exact Option.some.inj h1
  exact PySem.W.ki_setAt ho h0 (by omega) (by rw [List.size_toArray, <- hl]; exact h4) (by rw [hk]; exact ⟨_, I', q⟩)
 .have hk : (k + (its.toArray.size : Int)).toNat = j := by
   rw [seqIndex_neg (by omega) h3] at h1
   rw [List.size_toArray, <- hl]
   exact Option.some.inj h1
  exact PySem.W.ki_setBack ho (by omega) (by rw [List.size_toArray, <- hl]; exact h3) (by omega) (by rw [hk]; exact ⟨_, I', q⟩)
theorem wY (lo hi : Option Int) (n : Nat) : (sliceBounds lo hi none n).1 = ((HT.sIx n 0 lo : Nat) : Int) /\ (sliceBounds lo hi none n).2.1 = ((HT.sIx n n hi : Nat) : Int) /\ (sliceBounds lo hi none n).2.2 = 1 := by
 refine ⟨?_, ?_, rfl⟩
 .cases lo with
  | none => simp [sliceBounds, HT.sIx]
  | some i =>
   simp only [sliceBounds, HT.sIx, Option.getD_none, show (1 : Int) > 0 by decide, if_true]
   by_cases h : i < 0
   .simp only [h, if_true] <;> omega
   .simp only [h, if_false] <;> omega
 .cases hi with
  | none => simp [sliceBounds, HT.sIx]
  | some i =>
   simp only [sliceBounds, HT.sIx, Option.getD_none, show (1 : Int) > 0 by decide, if_true]
   by_cases h : i < 0
   .simp only [h, if_true] <;> omega
   .simp only [h, if_false] <;> omega
theorem uq (its : List Value) (lo hi : Option Int) : slicePick its.toArray lo hi none = ((its.drop (HT.sIx its.length 0 lo)).take (HT.sIx its.length its.length hi - HT.sIx its.length 0 lo)).toArray := by
 obtain ⟨h1, h2, h3⟩ := wY lo hi its.toArray.size
 unfold slicePick
 rw [h1, h2, h3]
 simp only [sliceRange_one, pick_run, List.size_toArray] <;> rfl
def rSlL (K : PySem.W.Frag) : V -> Option Int -> Option Int -> Hp -> VK -> Prop := λ x lo hi H Q => ∃ a xs, x = .ref a /\ SqL K H a xs /\ ∀ p, H p = none -> Q (.ref p) (upd H p (.lst (yW xs lo hi)))
theorem Bu : SlR X (rSlL X.K) := by
 intro pins s σ H x v vl vu lo hi sl Q I rx hs pl pu h
 obtain ⟨a, xs, rfl, hx, q⟩ := h
 cases rx
 obtain ⟨its, r, ht, hz⟩ := I.list hx
 have hlen := r.length
 refine ⟨"list", _, slot_list_getitem.lookup, ht.isList.typeIs, ?_⟩
 refine wpAny_getItem_list_slice ht.isList hs pl pu .none (by simp) ?_ (by rw [List.size_toArray] <;> omega)
 rw [uq, <- hlen]
 refine ⟨.ref s.heap.objs.size, _, I.laid (t' := s.toks) (o := .lst (yW xs lo hi)) (λ b ob q => Heap.get?_push_of_some _ q) (Nat.le_refl _) ?_, rfl, q _ (I.hok.fresh (Nat.le_refl _))⟩
 exact ⟨Nat.le_trans (qH xs lo hi) hz, _, 0, (r.drop (HT.sIx xs.length 0 lo)).take (HT.sIx xs.length xs.length hi - HT.sIx xs.length 0 lo), Heap.get?_push_size _ rfl⟩
theorem vZ : gZ X (.builtin "len") (λ xs H Q => ∃ p ys, xs = [.ref p] /\ (SqL X.K H p ys ∨ SqT X.K H p ys) /\ Q (.int ys.length) H) := by
 intro pins s σ H xs us Q I r h
 obtain ⟨p, ys, rfl, hq, q⟩ := h
 obtain ⟨u, rfl, rx⟩ := vals1 r
 cases rx
 have hn := nY
 rcases hq with hq | hq
 .obtain ⟨its, r', pl, hz⟩ := I.list hq
  have hlen := r'.length
  exact Calls.call_len_list pl.isList (by simp only [List.size_toArray] <;> omega) ⟨.int ys.length, H, I.tok _, ⟨s.toks + 1, by rw [List.size_toArray, hlen]⟩, q⟩
 .obtain ⟨its, r', pl, hz⟩ := I.tuple hq
  have hlen := r'.length
  exact len_tuple pl (by simp only [List.size_toArray] <;> omega) ⟨.int ys.length, H, I.tok _, ⟨s.toks + 1, by rw [List.size_toArray, hlen]⟩, q⟩
theorem wG : gZ X (.builtin "len") (λ xs H Q => ∃ z, xs = [.str z] /\ z.length <= sizeLine /\ Q (.int z.length) H) := by
 intro pins s σ H xs us Q I r h
 obtain ⟨z, rfl, hz, q⟩ := h
 obtain ⟨u, rfl, t, rfl⟩ := vals1 r
 have hn := nY
 exact len_str (by omega) ⟨.int z.length, H, I.tok _, ⟨_, rfl⟩, q⟩
theorem gZ.or {f : Value} {r r' : List V -> Hp -> VK -> Prop} (h : gZ X f r) (h' : gZ X f r') : gZ X f (λ xs H Q => r xs H Q ∨ r' xs H Q) := by
 intro pins s σ H xs us Q I rs q
 rcases q with q | q
 .exact h pins s σ H xs us Q I rs q
 .exact h' pins s σ H xs us Q I rs q
theorem vW : gZ X (.type "list") (λ xs H Q => ∃ p ys, xs = [.ref p] /\ (SqL X.K H p ys ∨ SqT X.K H p ys) /\ ∀ l, H l = none -> Q (.ref l) (upd H l (.lst ys))) := by
 intro pins s σ H xs us Q I r h
 obtain ⟨p, ys, rfl, hq, q⟩ := h
 obtain ⟨u, rfl, rx⟩ := vals1 r
 cases rx
 have fin : ∀ (its : List Value), Vals ys its -> ys.length <= sizeLine -> ∀ (h' : Heap) (c' : Nat), (∀ b o', s.heap.get? b = some o' -> h'.get? b = some o') ->
   h'.get? s.heap.objs.size = some { cls := .type "list", dict := none, data := .seq its.toArray c', slots := #[] } -> EP X pins σ Q (.ref s.heap.objs.size) { s with heap := h' } := λ its r' hz h' c' kp e =>
  ⟨.ref s.heap.objs.size, _, I.laid (t' := s.toks) kp (Nat.le_refl _) (show gV X.prog X.w _ h' _ (.lst ys) from ⟨hz, its, c', r', e⟩), rfl, q _ (I.hok.fresh (Nat.le_refl _))⟩
 rcases hq with hq | hq
 .obtain ⟨its, r', pl, hz⟩ := I.list hq
  have hlen := r'.length
  obtain ⟨o, ho, hc, n, hd⟩ := pl.isList
  exact call_list_seq p (.inl rfl) ho hc hd (λ h' c' kp e => fin its r' hz h' c' kp e) (by simp only [List.size_toArray] <;> omega)
 .obtain ⟨its, r', pl, hz⟩ := I.tuple hq
  have hlen := r'.length
  obtain ⟨o, ho, hc, n, hd⟩ := pl
  exact call_list_seq p (.inr rfl) ho hc hd (λ h' c' kp e => fin its r' hz h' c' kp e) (by simp only [List.size_toArray] <;> omega)
theorem uh : gZ X (.type "tuple") (λ xs H Q => ∃ p ys, xs = [.ref p] /\ ((SqL X.K H p ys /\ ∀ l, H l = none -> Q (.ref l) (upd H l (.tup ys))) ∨ (SqT X.K H p ys /\ Q (.ref p) H))) := by
 intro pins s σ H xs us Q I r h
 obtain ⟨p, ys, rfl, h⟩ := h
 obtain ⟨u, rfl, rx⟩ := vals1 r
 cases rx
 rcases h with ⟨hq, q⟩ | ⟨hq, q⟩
 .obtain ⟨its, r', pl, hz⟩ := I.list hq
  have hlen := r'.length
  refine call_tuple_list pl.isList (λ h' kp => ?_) (by simp only [List.size_toArray] <;> omega)
  have I1 : Inv X pins σ H { s with heap := h' } := I.kept (t' := s.toks) kp
  have I2 : Inv X pins σ (upd H h'.objs.size (.tup ys)) { s with heap := h'.push { cls := .type "tuple", data := .seq its.toArray } } :=
   I1.laid (t' := s.toks) (λ b o e => Heap.get?_push_of_some _ e) (Nat.le_refl _) (show gV X.prog X.w _ _ _ (.tup ys) from ⟨hz, its, r', IsTup.new _ _⟩)
  exact ⟨.ref h'.objs.size, _, I2, rfl, q _ (I1.hok.fresh (Nat.le_refl _))⟩
 .obtain ⟨its, r', pl, hz⟩ := I.tuple hq
  exact call_tuple_same pl ⟨.ref p, H, I, rfl, q⟩
def tyV (K : PySem.W.Frag) (T : String) (x : V) (H : Hp) : Prop := match x with
 | .str _ => T = "str"
 | .int _ => T = "int"
 | .ref p => (T = "list" /\ ∃ xs, SqL K H p xs) ∨ (T = "tuple" /\ ∃ o, K.lookup p = some o /\ o.cls = .type "tuple" /\ o.dict = none) ∨
   (T = "dict" /\ ((∃ kvs, H p = some (.dK kvs)) ∨ ∃ kvs, H p = some (.dT kvs))) ∨ (T = "set" /\ ∃ S n, H p = some (.set S n))
 | _ => False
theorem Nm {pins : List (Addr × Obj)} {σ : St} {H : Hp} {s : Shared} {T : String} {x : V} {v : Value} (I : Inv X pins σ H s) (r : RelV x v) (ty : tyV X.K T x H) :
  s.TypeIs v T /\ ∀ a, v = .ref a -> ∃ ob, s.heap.get? a = some ob /\ ob.dict = none := by
 cases x with
 | str z =>
  obtain ⟨t, rfl⟩ := r
  cases (show T = "str" from ty)
  exact ⟨typeIs_str s z t, λ _ e => nomatch e⟩
 | int i =>
  obtain ⟨t, rfl⟩ := r
  cases (show T = "int" from ty)
  exact ⟨typeIs_int s i t, λ _ e => nomatch e⟩
 | ref p =>
  cases r
  rcases ty with ⟨rfl, xs, hq⟩ | ⟨rfl, o, hk, hc, hd⟩ | ⟨rfl, hk⟩ | ⟨rfl, S, n, hk⟩
  .obtain ⟨its, _, pl, _⟩ := I.list hq
   refine ⟨pl.isList.typeIs, λ a e => ?_⟩
   cases e
   obtain ⟨o, n, e, c, hd, _⟩ := pl
   exact ⟨o, e, hd⟩
  .refine ⟨⟨o, I.kIn p o hk, hc⟩, λ a e => ?_⟩
   cases e
   exact ⟨o, I.kIn _ o hk, hd⟩
  .have z : ∃ o, s.heap.get? p = some o /\ o.ExactDict := by
    rcases hk with ⟨kvs, hk⟩ | ⟨kvs, hk⟩
    .obtain ⟨_, _, _, _, o, _, _, e, ex, _⟩ := I.hok p _ hk
     exact ⟨o, e, ex⟩
    .obtain ⟨_, _, _, _, o, _, _, e, ex, _⟩ := I.hok p _ hk
     exact ⟨o, e, ex⟩
   obtain ⟨o, e, ex⟩ := z
   refine ⟨⟨o, e, ex.1⟩, λ a e2 => ?_⟩
   cases e2
   exact ⟨o, e, ex.2.1⟩
  .obtain ⟨o, _, _, _, e, ex, _⟩ := I.hok p _ hk
   refine ⟨⟨o, e, ex.1⟩, λ a e2 => ?_⟩
   cases e2
   exact ⟨o, e, ex.2.1⟩
 | _ => exact False.elim ty
def tBM (K : PySem.W.Frag) (T : String) (r : V -> List V -> Hp -> VK -> Prop) (to : TE) (t : TA) : TE := λ σ H Q => to σ H λ x H1 => tyV K T x H1 /\ t σ H1 λ xs H2 => r x xs H2 Q
variable {o e : Expr} {es : List Expr} {to : TE} {t : TA} {name : Str} {apos cpos : Pos} {T id : String} {r : V -> List V -> Hp -> VK -> Prop}
theorem KC (pa : PlainAttrs T) (slot : Slot T name id) (hty : typeOf (.builtin id) = pure (.type "method_descriptor")) (hm : MtR X id r) (ho : PE X o to) (ha : PA X (e :: es) t)
  (hbase : attributeBase o name X.env (eval o X.env) = eval o X.env := by rfl)
  (hfew : ((backTo cpos (starEach (e :: es) X.env)).all (λ x => !x.1) && (backToKw cpos (keywordEach [] X.env)).all (λ x => x.1.isSome)
   && decide ((e :: es).length + ([] : List Keyword).length + (if ([] : List Keyword).isEmpty then 0 else 1) < 30)) = true := by rfl)
  (hline : (apos.endLine == cpos.line) = true := by rfl) (hs : starEach (e :: es) X.env = (false, eval e X.env) :: starEach es X.env := by rfl) (hplain : (backTo cpos (starEach es X.env)).any (·.1) = false := by rfl) :
  PE X (.Call (.Attribute o name apos) (e :: es) [] cpos) (tBM X.K T r to t) := by
 intro pins s σ H Q I h
 refine wpAny_Call_method_late hbase hfew hline rfl (thn (ho pins s σ H _ I h) λ v s1 zq54 => ?_)
 obtain ⟨x, H1, I1, r1, ty, q1⟩ := zq54
 obtain ⟨h1, h2⟩ := Nm I1 r1 ty
 refine ⟨T, id, pa, slot, hty, h1, h2, ?_⟩
 have hA := ha cpos pins s1 σ H1 _ I1 q1
 rw [hs] at hA ⊢
 refine Calls.callWith_builtin (by show (false || (backTo cpos (starEach es X.env)).any (·.1)) = false; rw [hplain] <;> rfl) (Calls.evalArgs_plain ?_)
 exact thn hA λ us s2 ⟨vs, H2, I2, r2, q2⟩ => hm pins s2 σ H2 x vs v us Q I2 r1 r2 q2
end
def MtM (X : Cx) (id : String) (r : V -> List V -> Hp -> VK -> Prop) : Prop :=
 ∀ (pins : List (Addr × Obj)) (s : Shared) (σ : St) (H : Hp) (x : V) (xs : List V) (v : Value) (us : List Value) (Q : VK), Inv X pins σ H s -> RelV x v -> Vals xs us -> r x xs H Q ->
  wpAny (model X.prog X.w) X.A (call (.builtin id) (v :: us)) (EP X pins σ Q) X.xe s
theorem Vals.one : ∀ {x : V} {us : List Value}, Vals [x] us -> ∃ u, us = [u] /\ RelV x u
 | _, _, .cons r .nil => ⟨_, rfl, r⟩
theorem Vals.eraseIdx : ∀ {xs : List V} {us : List Value} (i : Nat), Vals xs us -> Vals (xs.eraseIdx i) (us.eraseIdx i)
 | _, _, _, .nil => .nil
 | _, _, 0, .cons _ t => t
 | _, _, i + 1, .cons r t => .cons r (Vals.eraseIdx i t)
theorem Vals.rep {xs : List V} {us : List Value} (h : Vals xs us) : ∀ k : Nat, Vals (List.replicate k xs).flatten (List.replicate k us).flatten
 | 0 => .nil
 | k + 1 => by
  rw [List.replicate_succ, List.replicate_succ, List.flatten_cons, List.flatten_cons]
  exact Vals.append h (Vals.rep h k)
theorem uW {α : Type} : ∀ (l : List α) (i : Nat), (l.eraseIdx i).length <= l.length
 | [], _ => Nat.le_refl _
 | _ :: _, 0 => Nat.le_succ _
 | _ :: r, i + 1 => Nat.succ_le_succ (uW r i)
theorem foldl_rep (its : List Value) : ∀ (k : Nat) (acc : List Value),
  List.foldl (λ x1 x2 => x1 ++ x2) acc.toArray (List.replicate k its.toArray) = (acc ++ (List.replicate k its).flatten).toArray
 | 0, acc => by simp
 | k + 1, acc => by
  have e : acc.toArray ++ its.toArray = (acc ++ its).toArray := by simp
  have e2 : (acc ++ its) ++ (List.replicate k its).flatten = acc ++ (List.replicate (k + 1) its).flatten := by
   rw [List.replicate_succ, List.flatten_cons, List.append_assoc]
  rw [<- e2, <- foldl_rep its k (acc ++ its), <- e, List.replicate_succ, List.foldl_cons]
section
variable {X : Cx} {pins : List (Addr × Obj)} {σ : St} {H : Hp} {s : Shared} {l b : Addr} {xs ys zs : List V}
theorem Inv.lset {its its' : List Value} {n : Nat} {f : Array Value -> Array Value} {t' : Nat} (I : Inv X pins σ H s) (hH : H l = some (.lst xs))
  (e : s.heap.get? l = some { cls := .type "list", data := .seq its.toArray n }) (hf : f its.toArray = its'.toArray) (hv : Vals ys its') (hz : ys.length <= sizeLine) :
  Inv X pins σ (upd H l (.lst ys)) { s with heap := s.heap.update l (Obj.mapSeq f), toks := t' } := by
 have q := PySem.IsL.update e f
 rw [hf] at q
 refine I.write (x := l) (e := l) (by rw [hH]; exact trivial) (.inl rfl) (λ b' u hb hu => (Heap.get?_update_other s.heap (Obj.mapSeq f) (Ne.symm hb)).trans hu) ⟨_, q⟩ ?_
 exact ⟨hz, its', _, hv, q⟩
theorem Inv.lnew {its : List Value} {t' : Nat} (I : Inv X pins σ H s) (hv : Vals ys its) (hz : ys.length <= sizeLine) :
  Inv X pins σ (upd H s.heap.objs.size (.lst ys)) { s with heap := s.heap.push { cls := .type "list", data := .seq its.toArray }, toks := t' } :=
 I.laid (λ _ _ q => Heap.get?_push_of_some _ q) (Nat.le_refl _) ⟨hz, its, 0, hv, Heap.get?_push_size _ rfl⟩
theorem Inv.fresh (I : Inv X pins σ H s) : H s.heap.objs.size = none := I.hok.fresh (Nat.le_refl _)
theorem Inv.lstM (I : Inv X pins σ H s) (hH : H l = some (.lst xs)) : xs.length <= sizeLine /\ ∃ (its : List Value) (n : Nat), Vals xs its /\ xs.length = its.length /\ s.heap.get? l = some { cls := .type "list", data := .seq its.toArray n } := by
 obtain ⟨z, its, n, r, e⟩ := I.hok l _ hH
 exact ⟨z, its, n, r, r.length, e⟩
theorem xF {n : Nat} (h : n <= sizeLine) : Builtin.List.listTooLong n = false := by
 unfold Builtin.List.listTooLong
 exact decide_eq_false (by omega)
end
section
variable {X : Cx}
def Kr : V -> List V -> Hp -> VK -> Prop := λ x vs H Q => ∃ l xs y, x = .ref l /\ vs = [y] /\ H l = some (.lst xs) /\ xs.length < sizeLine /\ Q .non (upd H l (.lst (xs ++ [y])))
theorem CP : MtM X "list.append" Kr := by
 intro pins s σ H x vs v us Q I rx rv h
 obtain ⟨l, xs, y, rfl, rfl, hH, hz, q⟩ := h
 cases rx
 obtain ⟨u, rfl, ru⟩ := rv.one
 obtain ⟨z, its, n, r, hl, e⟩ := I.lstM hH
 refine call_meets F.slot_list_append ⟨_, e, rfl⟩ F.entry_list_append (F.args_list_append_2 _ _) (PySem.list_append l its.toArray n u (by rw [List.size_toArray]; omega)) ⟨e, ?_⟩
 refine ⟨.non, _, I.lset (its' := its ++ [u]) hH e (by simp) (r.append (.cons ru .nil)) ?_, rfl, q⟩
 rw [List.length_append, List.length_singleton]
 omega
def Ks : V -> List V -> Hp -> VK -> Prop := λ x vs H Q => ∃ l b xs zs, x = .ref l /\ vs = [.ref b] /\ H l = some (.lst xs) /\ H b = some (.lst zs) /\ xs.length + zs.length <= sizeLine /\ Q .non (upd H l (.lst (xs ++ zs)))
theorem Qd : MtM X "list.extend" Ks := by
 intro pins s σ H x vs v us Q I rx rv h
 obtain ⟨l, b, xs, zs, rfl, rfl, hH, hB, hz, q⟩ := h
 cases rx
 obtain ⟨u, rfl, ru⟩ := rv.one
 cases ru
 obtain ⟨z, its, n, r, hl, e⟩ := I.lstM hH
 obtain ⟨z2, its2, n2, r2, hl2, e2⟩ := I.lstM hB
 have hsz : its.toArray.size + its2.toArray.size <= sizeLine := by rw [List.size_toArray, List.size_toArray]; omega
 have hlong : ¬ (!its.toArray.isEmpty && Builtin.List.listTooLong (its.toArray.size + its2.toArray.size)) = true := by
  rw [xF hsz, Bool.and_false]
  exact Bool.false_ne_true
 refine call_meets F.slot_list_extend ⟨_, e, rfl⟩ F.entry_list_extend (F.args_list_extend_2 _ _)
  (AutoSeq1.list_extend_list_list_0 l its.toArray n b its2.toArray n2 hlong (by rw [List.size_toArray]; omega) (by omega)) ⟨e, e2, ?_⟩
 refine ⟨.non, _, I.lset (its' := its ++ its2) hH e (by simp) (r.append r2) ?_, rfl, q⟩
 rw [List.length_append]
 omega
def Oz : V -> List V -> Hp -> VK -> Prop := λ x vs H Q => ∃ l xs i k y, x = .ref l /\ vs = [.int i] /\ H l = some (.lst xs) /\ -(2 ^ 63) <= i /\ i < 2 ^ 63 /\ seqIndex? i xs.length = some k /\ xs[k]? = some y /\ Q y (upd H l (.lst (xs.eraseIdx k)))
theorem Gy : MtM X "list.pop" Oz := by
 intro pins s σ H x vs v us Q I rx rv h
 obtain ⟨l, xs, i, k, y, rfl, rfl, hH, h1, h2, hk, hy, q⟩ := h
 cases rx
 obtain ⟨u, rfl, ru⟩ := rv.one
 obtain ⟨t, rfl⟩ := ru
 obtain ⟨z, its, n, r, hl, e⟩ := I.lstM hH
 obtain ⟨w, hw, rw'⟩ := r.get hy
 refine call_meets F.slot_list_pop ⟨_, e, rfl⟩ F.entry_list_pop (F.args_list_pop_2 _ _)
  (MeetsSeq.list_pop_at l its.toArray n i t k w (fitsIndex_both h1 h2) (by rw [List.size_toArray, <- hl]; exact hk) (by rw [<- Array.getElem?_toList]; exact hw) (by rw [List.size_toArray]; omega)) ⟨e, ?_⟩
 refine ⟨y, _, I.lset (its' := its.eraseIdx k) hH e ?_ (r.eraseIdx k) ?_, rw', q⟩
 .show its.toArray.eraseIdxIfInBounds k = (its.eraseIdx k).toArray
  rw [List.eraseIdxIfInBounds_toArray]
 .have := uW xs k
  omega
def rCat : R2 := λ x y H Q => ∃ l b xs zs, x = .ref l /\ y = .ref b /\ H l = some (.lst xs) /\ H b = some (.lst zs) /\ xs.length + zs.length <= sizeLine /\ ∀ p, H p = none -> Q (.ref p) (upd H p (.lst (xs ++ zs)))
theorem LK : OpR X (binaryOp .Add) rCat := by
 intro pins s σ H x y v u Q I rx ry h
 obtain ⟨l, b, xs, zs, rfl, rfl, hH, hB, hz, q⟩ := h
 cases rx
 cases ry
 obtain ⟨z, its, n, r, hl, e⟩ := I.lstM hH
 obtain ⟨z2, its2, n2, r2, hl2, e2⟩ := I.lstM hB
 refine PySem.P.add_list e e2 ?_ (by rw [List.size_toArray, List.size_toArray]; omega)
 have ea : its.toArray ++ its2.toArray = (its ++ its2).toArray := by simp
 rw [ea]
 exact ⟨.ref _, _, I.lnew (t' := s.toks) (r.append r2) (by rw [List.length_append]; omega), rfl, q _ I.fresh⟩
def rRep : R2 := λ x y H Q => ∃ l k xs, x = .ref l /\ y = .int k /\ H l = some (.lst xs) /\ -(2 ^ 63) <= k /\ k < 2 ^ 63 /\ xs.length * k.toNat <= sizeLine /\
 ∀ p, H p = none -> Q (.ref p) (upd H p (.lst (List.replicate k.toNat xs).flatten))
theorem len_rep {α : Type} (xs : List α) (k : Nat) : (List.replicate k xs).flatten.length = k * xs.length := by
 induction k with
 | zero => simp
 | succ k ih => rw [List.replicate_succ, List.flatten_cons, List.length_append, ih, Nat.succ_mul, Nat.add_comm]
theorem Fx : OpR X (binaryOp .Mult) rRep := by
 intro pins s σ H x y v u Q I rx ry h
 obtain ⟨l, k, xs, rfl, rfl, hH, h1, h2, hz, q⟩ := h
 cases rx
 obtain ⟨t, rfl⟩ := ry
 obtain ⟨z, its, n, r, hl, e⟩ := I.lstM hH
 have hlen : its.toArray.size * k.toNat <= sizeLine := by rw [List.size_toArray, <- hl]; exact hz
 have hcap : ¬ its.toArray.size * k.toNat > (2 ^ 63 - 1) / 8 := by
  have : (sizeLine : Nat) <= (2 ^ 63 - 1) / 8 := by decide
  omega
 have hfit : ¬ (!Builtin.List.listFitsIndex k) = true := by
  rw [fitsIndex_both h1 h2]
  exact Bool.false_ne_true
 have hlong : ¬ Builtin.List.listTooLong (its.toArray.size * k.toNat) = true := by
  rw [xF hlen]
  exact Bool.false_ne_true
 have hnew : List.foldl (λ x1 x2 => x1 ++ x2) #[] (List.replicate (if its.toArray.isEmpty = true then 0 else k.toNat) its.toArray) = (List.replicate k.toNat its).flatten.toArray := by
  have f0 : ∀ m : Nat, List.foldl (λ x1 x2 => x1 ++ x2) #[] (List.replicate m its.toArray) = (List.replicate m its).flatten.toArray := λ m => by
   have := foldl_rep its m []
   rw [List.nil_append] at this
   exact this
  rw [f0]
  cases its with
  | nil => simp
  | cons a r' => rw [if_neg (by simp)]
 refine wpAny_binaryOp_repeat_ref (T := "list") (U := "int") (by decide) ⟨_, e, rfl⟩ (λ s' => typeIs_int s' k t) noFill_list_mul F.fills_int_mul F.slot_int_rmul repeat_list F.slot_int_index.lookup
  (call_meets F.slot_int_rmul (typeIs_int s k t) F.entry_int_rmul (F.args_int_rmul_2 _ _) (int___rmul___int_list k t l its.toArray n)
   ⟨e, rfl, ⟨_, e, rfl⟩, call_meets F.slot_list_mul ⟨_, e, rfl⟩ F.entry_list_mul (F.args_list_mul_2 _ _) (AutoListH.list___mul___list_int_3 l its.toArray n k t hfit hcap hlong) ⟨e, ?_⟩⟩)
 rw [hnew]
 exact ⟨.ref _, _, I.lnew (t' := s.toks) (r.rep k.toNat) (by rw [len_rep, Nat.mul_comm]; exact hz), rfl, q _ I.fresh⟩
end
end L2
namespace Att
open PySem PySem.W PySem.Calls PyProof.Rows
theorem qT {P : Params} {h : Heap} : ∀ (ns : List Int) (vs : List Value), WellAll P h vs (ns.map WData.int) -> IntsAre vs ns := by
 intro ns
 induction ns with
 | nil =>
  intro vs w
  rw [List.map_nil] at w
  cases w
  exact .nil
 | cons n ns ih =>
  intro vs w
  rw [List.map_cons] at w
  cases w with
  | cons a b =>
   cases a
   exact .cons _ _ (ih _ b)
theorem DQ {l : OpenLaw} {n : Nat} (hn : l.most = some n) {P : Params} {h : Heap} {args : List WData} {vals : List Value}
  (hpre : l.row.toRowW.claim.pre args = true) (hwl : WellAll P h vals args) :
  ∃ a vs ns, vals = [Value.ref a] /\ args = [WData.list (ns.map WData.int)] /\ h.get? a = some { cls := .type "list", data := .seq vs.toArray } /\ IntsAre vs ns /\ ns.length <= n := by
 have hsh : WShape.hasAll [] args [.list .int] = true := (pre_splitW hpre).1
 have hc : l.pre.holds [] { args := args } = true := (pre_splitW hpre).2
 obtain ⟨d, r, rfl, h1, h2⟩ := hasAllW_cons hsh
 obtain rfl := hasAllW_nil h2
 obtain ⟨xs, rfl, h3⟩ := hasW_list h1
 obtain ⟨ns, rfl⟩ := items_int h3
 have hlen : ns.length <= n := by
  unfold OpenLaw.pre at hc
  have h4 : (WTm.not (.lt (.lit (.int (n : Int))) (.len (.arg 0)))).holds [] { args := [.list (ns.map .int)] } = true := by
   have h4 := (holds_andW hc).1
   rw [hn] at h4
   exact h4
  have h5 := condW_of h4 (w_not (w_lt w_lit (w_len_list (w_arg rfl))))
  rw [List.length_map] at h5
  refine Nat.le_of_not_lt λ q => ?_
  have q' : (n : Int) < ((ns.length : Nat) : Int) := by omega
  first
   | (rw [decide_eq_true q'] at h5; exact absurd h5 (by decide))
   | (simp at h5; omega)
 cases hwl with
 | cons w1 w2 =>
  cases w2
  cases w1 with
  | list ho hall => exact ⟨_, _, ns, rfl, rfl, ho, qT ns _ hall, hlen⟩
theorem Dm (l : OpenLaw) (args : List WData) : l.row.toRowW.claim.post args (.bool true) args = true :=
 postW_of (r := l.row.toRowW) (X := (true == true))
  (show WShape.has [] (.bool true) .bool = true by first | rfl | decide | simp [WShape.has, WShape.arms, WShape.armsAll])
  (show (WTm.eq .res (.lit (.bool true))).value [] { args := args, res := some (.bool true), after := args } = some (.bool (true == true)) from w_eq_bool (w_res rfl) w_lit) rfl
theorem attach_call {l : OpenLaw} {n : Nat} {q : Program} {loose : List Str} {XP : (Str -> Option Value) -> Heap -> Prop} {YP : World -> Heap -> Prop} {d : DefRec}
  (hn : l.most = some n) (hdf : d.params.defaults = [])
  (call : ∀ (w : World) (s₀ s₁ : Shared) (mg mb : Str -> Option Value) (fa : Addr) (o : Obj) (pm cd doc : Value) (a : Addr) (vs : List Value) (ns : List Int),
   Ground q loose [] XP w s₀ mg mb s₁.heap -> YP w s₁.heap ->
   s₁.heap.get? fa = some o -> o.data = .func (docDef d.name d.params d.body d.scope pm cd doc) -> s₁.heap.CodeRec cd d.name -> mg d.name = some (.ref fa) ->
   s₁.heap.get? a = some { cls := .type "list", data := .seq vs.toArray } -> IntsAre vs ns -> ns.length <= n -> s₁.gens = #[] ->
   codeAny (model l.prog w) callerA (.call (.ref fa) ⟨[.ref a], []⟩) (λ r s' => r = .ok (.ret (.bool true)) /\ OldK s₁.heap s'.heap /\ s'.os = s₁.os /\ AllBare s'.gens) s₁) :
  WalkO q loose XP YP l.row.toRowW d [] (λ f vs => PySem.call f vs) := by
 intro w s₀ s₁ mg mb G Y fa o pm cd doc dV kV ho hd hcd hD hmg hg args vals as hpre hlay hrd hwl hlo
 obtain rfl : dV = .none := Dflts.none hD hdf
 obtain rfl : kV = .none := Dflts.noKw hD
 obtain ⟨a, vs, ns, rfl, rfl, hobj, hints, hlen⟩ := DQ hn hpre hwl
 refine enter_call (codeAny_mono (call w s₀ s₁ mg mb fa o pm cd doc a vs ns G Y ho (fd_plain hd) hcd hmg hobj hints hlen hg) λ r s' hq => ?_)
 obtain ⟨rfl, h2, h3, h4⟩ := hq
 exact ⟨.inl ⟨.bool true, .bool true, [], rfl, λ _ => rfl, .bool true, Dm l _, λ _ => ⟨List.Pairwise.nil, λ _ hm => (nomatch hm)⟩⟩, h2, h3, h4⟩
end Att
namespace L2
open PySem PySem.Spec PyProof.Rows
theorem qx : ∀ {vs : List Value} {ns : List Int}, IntsAre vs ns -> Vals (ns.map V.int) vs
 | _, _, .nil => .nil
 | _, _, .cons n t h => .cons ⟨t, rfl⟩ (qx h)
def lr (s : Stmt) : Arguments := match s with
 | .FunctionDef _ a _ _ _ _ _ _ _ _ => a
 | _ => { posonlyargs := [], args := [], vararg := none, kwonlyargs := [], kw_defaults := [], kwarg := none, defaults := [] }
def jb (s : Stmt) : List Stmt := match s with
 | .FunctionDef _ _ b _ _ _ _ _ _ _ => b
 | _ => []
def aP (s : Stmt) : Scope := match s with
 | .FunctionDef _ _ _ _ _ _ sc _ _ _ => sc
 | _ => { kind := .function, names := [], isGenerator := false, isCoroutine := false }
abbrev CX0 : CXT := λ _ _ _ _ _ _ => False
abbrev E0 : XK := λ _ _ _ => False
theorem QM {X : Cx} : Aq CX0 X E0 := λ _ _ _ _ _ _ _ h => h.elim
def lF (H H' : Hp) : Prop := ∀ b o, H b = some o -> H' b = some o
theorem lF.refl (H : Hp) : lF H H := λ _ _ h => h
theorem lF.trans {H H1 H2 : Hp} (a : lF H H1) (b : lF H1 H2) : lF H H2 := λ c o h => b c o (a c o h)
def ye (X : Cx) : List Nat -> List Str -> Prop
 | [], [] => True
 | i :: is, x :: xs => (X.N[i]? = some x /\ (X.env.kindOf x = some .cell ∨ X.env.kindOf x = some .free)) /\ ye X is xs
 | _, _ => False
theorem ye.length {X : Cx} : ∀ {is : List Nat} {xs : List Str}, ye X is xs -> is.length = xs.length
 | [], [], _ => rfl
 | _ :: _, _ :: _, h => by rw [List.length_cons, List.length_cons, ye.length h.2]
theorem ye.get {X : Cx} : ∀ {is : List Nat} {xs : List Str} {j i : Nat}, ye X is xs -> is[j]? = some i -> ∃ x, xs[j]? = some x /\ X.N[i]? = some x /\ (X.env.kindOf x = some .cell ∨ X.env.kindOf x = some .free)
 | [], [], _, _, _, e => by simp at e
 | i :: is, x :: xs, 0, k, h, e => by
  simp at e; subst e
  exact ⟨x, rfl, h.1⟩
 | i :: is, x :: xs, j + 1, k, h, e => by
  obtain ⟨y, e1, e2⟩ := ye.get (j := j) (i := k) h.2 (by simpa using e)
  exact ⟨y, by simpa using e1, e2⟩
def jQ (σ : St) (is : List Nat) : St := is.map λ i => (σ[i]?).join
theorem qg {σ : St} {is : List Nat} {j : Nat} {v : V} (e : (jQ σ is)[j]? = some (some v)) : ∃ i, is[j]? = some i /\ σ[i]? = some (some v) := by
 unfold jQ at e
 rw [List.getElem?_map] at e
 cases q : is[j]? with
 | none => rw [q] at e; cases e
 | some i =>
  rw [q] at e
  have e1 : (σ[i]?).join = some v := by simpa using e
  cases q2 : σ[i]? with
  | none => rw [q2] at e1; cases e1
  | some o =>
   rw [q2] at e1
   have e2 : o = some v := e1
   subst e2
   exact ⟨i, rfl, q2⟩
def bT (env : Env) : List (Str × NameKind) -> List (Str × Addr) -> List (Str × Addr)
 | [], acc => acc
 | (n, k) :: r, acc => bT env r (if k == .free then (match env.cells.lookup n with | some c => (n, c) :: acc | none => acc) else acc)
theorem zp {env : Env} : ∀ (names : List (Str × NameKind)) (acc : List (Str × Addr)), (∀ y ∈ names, y.2 = .free -> ∃ c, env.cells.lookup y.1 = some c) ->
  (forIn names acc λ (p : Str × NameKind) (r : List (Str × Addr)) => if p.2 == .free then (do let c <- cellOf env p.1; pure (ForInStep.yield ((p.1, c) :: r))) else pure (ForInStep.yield r) : Sem (List (Str × Addr))) = pure (bT env names acc)
 | [], acc, _ => rfl
 | (n, k) :: r, acc, h => by
  have hr := zp (env := env) r
  rw [List.forIn_cons]
  unfold bT
  by_cases hk : (k == NameKind.free) = true
  .obtain ⟨c, hc⟩ := h (n, k) List.mem_cons_self (by simpa using hk)
   simp only [hk, if_true]
   unfold cellOf
   simp only at hc
   rw [hc]
   simp only [pure_bind]
   exact hr _ λ y hy => h y (List.mem_cons_of_mem _ hy)
  .simp only [hk]
   simp only [pure_bind, Bool.false_eq_true, if_false]
   exact hr _ λ y hy => h y (List.mem_cons_of_mem _ hy)
theorem iC {scope : Scope} {env : Env} (h : ∀ y ∈ scope.names, y.2 = .free -> ∃ c, env.cells.lookup y.1 = some c) : closureFor scope env = pure (bT env scope.names []) := by
 have e := zp (env := env) scope.names [] h
 rw [<- e]
 unfold closureFor
 simp only [bind_pure]
theorem jR {env : Env} : ∀ {names : List (Str × NameKind)} {acc : List (Str × Addr)} {p : Str × Addr}, p ∈ bT env names acc -> p ∈ acc ∨ env.cells.lookup p.1 = some p.2
 | [], acc, p, h => .inl h
 | (n, k) :: r, acc, p, h => by
  unfold bT at h
  rcases jR h with h | h
  .split at h
   .split at h
    .rename_i c hc
     rcases List.mem_cons.mp h with e | h
     .subst e; exact .inr hc
     .exact .inl h
    .exact .inl h
   .exact .inl h
  .exact .inr h
theorem mK {env : Env} {x : Str} : ∀ {names : List (Str × NameKind)} {acc : List (Str × Addr)}, (∀ k, (x, k) ∈ names -> k ≠ .free) -> (bT env names acc).lookup x = acc.lookup x
 | [], acc, _ => rfl
 | (n, k) :: r, acc, h => by
  unfold bT
  rw [mK λ k hk => h k (List.mem_cons_of_mem _ hk)]
  by_cases hk : (k == NameKind.free) = true
  .rw [if_pos hk]
   have hne : x ≠ n := by
    rintro rfl
    exact h k List.mem_cons_self (by simpa using hk)
   split
   .rw [List.lookup_cons]
    have : (x == n) = false := by simpa using hne
    rw [this]
   .rfl
  .rw [if_neg hk]
theorem jn {env : Env} {x : Str} {c : Addr} (hc : env.cells.lookup x = some c) : ∀ {names : List (Str × NameKind)} {acc : List (Str × Addr)}, (x, NameKind.free) ∈ names ∨ acc.lookup x = some c -> (bT env names acc).lookup x = some c
 | [], acc, h => by
  rcases h with h | h
  .simp at h
  .exact h
 | (n, k) :: r, acc, h => by
  unfold bT
  apply jn hc
  by_cases hr : (x, NameKind.free) ∈ r
  .exact .inl hr
  .right
   by_cases hx : x = n
   .subst hx
    by_cases hk : (k == NameKind.free) = true
    .rw [if_pos hk, hc]
     simp
    .rw [if_neg hk]
     rcases h with h | h
     .rcases List.mem_cons.mp h with e | h
      .exfalso; apply hk
       cases e; rfl
      .exact absurd h hr
     .exact h
   .have h' : acc.lookup x = some c := by
     rcases h with h | h
     .rcases List.mem_cons.mp h with e | h
      .cases e; exact absurd rfl hx
      .exact absurd h hr
     .exact h
    have hxn : (x == n) = false := by simpa using hx
    split
    .split
     .rw [List.lookup_cons, hxn]; exact h'
     .exact h'
    .exact h'
structure CO (lo : Nat) (h : Heap) (acc : List (Str × Addr)) : Prop where
 lt : ∀ p ∈ acc, p.2 < h.objs.size
 em : ∀ p ∈ acc, lo <= p.2 -> h.IsCell p.2 none
 ap : ∀ p ∈ acc, ∀ q ∈ acc, p.2 = q.2 -> lo <= p.2 -> p.1 = q.1
theorem CO.go {lo : Nat} : ∀ (names : List (Str × NameKind)) (h : Heap) (acc : List (Str × Addr)), CO lo h acc -> lo <= h.objs.size -> CO lo (pushCells h names) (cellsFrom h.objs.size names acc)
 | [], h, acc, x, _ => x
 | (n, k) :: r, h, acc, x, hl => by
  unfold pushCells cellsFrom
  by_cases hk : (k == NameKind.cell) = true
  .rw [if_pos hk, if_pos hk]
   have := CO.go (lo := lo) r (h.push { cls := .type "cell", data := .cell none }) ((n, h.objs.size) :: acc) ⟨λ p hp => ?_, λ p hp hlo => ?_, λ p hp q hq e hlo => ?_⟩ (by rw [Heap.size_push]; omega)
   .rwa [Heap.size_push] at this
   .rw [Heap.size_push]
    rcases List.mem_cons.mp hp with e | hp
    .subst e; exact Nat.lt_succ_self _
    .exact Nat.lt_succ_of_lt (x.lt p hp)
   .rcases List.mem_cons.mp hp with e | hp
    .subst e; exact ⟨_, Heap.get?_push_size _ rfl, rfl⟩
    .exact (x.em p hp hlo).keeps λ b o e => Heap.get?_push_of_some _ e
   .rcases List.mem_cons.mp hp with e1 | hp <;> rcases List.mem_cons.mp hq with e2 | hq
    .subst e1; subst e2; rfl
    .subst e1
     have e' : h.objs.size = q.2 := e
     exact absurd (x.lt q hq) (by rw [<- e']; exact Nat.lt_irrefl _)
    .subst e2
     have e' : p.2 = h.objs.size := e
     exact absurd (x.lt p hp) (by rw [e']; exact Nat.lt_irrefl _)
    .exact x.ap p hp q hq e hlo
  .rw [if_neg hk, if_neg hk]
   exact CO.go r h acc x hl
theorem wI : ∀ {names : List (Str × NameKind)} {m : Nat} {acc : List (Str × Addr)} {p : Str × Addr}, p ∈ cellsFrom m names acc -> p ∈ acc ∨ m <= p.2
 | [], m, acc, p, h => .inl h
 | (n, k) :: r, m, acc, p, h => by
  unfold cellsFrom at h
  by_cases hk : (k == NameKind.cell) = true
  .rw [if_pos hk] at h
   rcases wI h with h | h
   .rcases List.mem_cons.mp h with e | h
    .subst e; exact .inr (Nat.le_refl _)
    .exact .inl h
   .exact .inr (by omega)
  .rw [if_neg hk] at h
   exact wI h
theorem Bb {x : Str} : ∀ {names : List (Str × NameKind)} {m : Nat} {acc : List (Str × Addr)}, (∀ k, (x, k) ∈ names -> k ≠ .cell) -> (cellsFrom m names acc).lookup x = acc.lookup x
 | [], m, acc, _ => rfl
 | (n, k) :: r, m, acc, h => by
  unfold cellsFrom
  by_cases hk : (k == NameKind.cell) = true
  .rw [if_pos hk, Bb λ k hk => h k (List.mem_cons_of_mem _ hk), List.lookup_cons]
   have hne : x ≠ n := by
    rintro rfl
    exact h k List.mem_cons_self (by simpa using hk)
   have : (x == n) = false := by simpa using hne
   rw [this]
  .rw [if_neg hk]
   exact Bb λ k hk => h k (List.mem_cons_of_mem _ hk)
section
variable {M : Model} {A : Around} {E : Value -> Shared -> Prop} {s : Shared}
theorem ni {scope : Scope} {globals : Addr} {closure : List (Str × Addr)} {qual : Str} {func : Option Addr} {code : Value} {around : Option Env} {builtins : Addr} {Q : Env -> Shared -> Prop}
  (h : Q (newEnv scope s.heap.objs.size globals (cellsFrom (s.heap.objs.size + 1) scope.names closure) qual func code around builtins)
   { s with heap := pushCells (s.heap.push { cls := .type (if around.isSome then "dict" else "frame"), data := .dict #[] }) scope.names }) :
  wpAny M A (newFunctionEnv scope globals closure [] qual func code around builtins) Q E s := by
 simp only [newFunctionEnv]
 refine wpAny_bind (wpAny_alloc ?_)
 refine wpAny_bind (wpAny_layCells _ (λ name kind cells => by cases hkc : kind == NameKind.cell <;> simp [hkc]) _ _ _ _ ?_)
 rw [List.forIn_nil]
 refine wpAny_bind (wpAny_pure (wpAny_pure ?_))
 have e : (s.heap.push ({ cls := .type (if around.isSome then "dict" else "frame"), data := .dict #[] } : Obj)).objs.size = s.heap.objs.size + 1 := Heap.size_push ..
 rw [<- e] at h
 cases around <;> exact h
end
structure dI (X : Cx) (own cap : List Str) (capI : List Nat) (scope : Scope) : Prop where
 kind : scope.kind = .function
 nd : (scope.names.map (·.1)).Nodup
 caps : ye X capI cap
 fre : ∀ y ∈ scope.names, y.2 = .free -> y.1 ∈ cap
 cfr : ∀ x ∈ cap, (x, NameKind.free) ∈ scope.names
theorem tX {x : Str} {k k' : NameKind} : ∀ {names : List (Str × NameKind)}, (names.map (·.1)).Nodup -> (x, k) ∈ names -> (x, k') ∈ names -> k = k'
 | [], _, h, _ => by simp at h
 | p :: r, nd, h1, h2 => by
  rw [List.map_cons, List.nodup_cons] at nd
  rcases List.mem_cons.mp h1 with e1 | h1 <;> rcases List.mem_cons.mp h2 with e2 | h2
  .rw [<- e2] at e1; exact (Prod.mk.inj e1).2
  .exact absurd (by rw [<- e1]; exact List.mem_map.mpr ⟨_, h2, rfl⟩) nd.1
  .exact absurd (by rw [<- e2]; exact List.mem_map.mpr ⟨_, h1, rfl⟩) nd.1
  .exact tX nd.2 h1 h2
theorem cR {α : Type} {x : Str} {k : α} : ∀ {names : List (Str × α)}, (names.map (·.1)).Nodup -> (x, k) ∈ names -> names.lookup x = some k
 | [], _, h => by simp at h
 | (n, k') :: r, nd, h => by
  rw [List.map_cons, List.nodup_cons] at nd
  rw [List.lookup_cons]
  rcases List.mem_cons.mp h with e | hr
  .cases e; simp
  .have hne : x ≠ n := by
    intro e
    subst e
    exact nd.1 (List.mem_map.mpr ⟨_, hr, rfl⟩)
   have : (x == n) = false := by simpa using hne
   rw [this]
   exact cR nd.2 hr
theorem qL {scope : Scope} {env : Env} {x : Str} {k : NameKind} (h : (x, k) ∈ (relabel scope env).names) : (x, k) ∈ scope.names ∨ (k = .cell /\ (x, NameKind.free) ∈ scope.names) := by
 unfold relabel at h
 obtain ⟨⟨n, k'⟩, hm, e⟩ := List.mem_map.mp h
 dsimp only at e
 split at e
 .rename_i hc
  cases e
  have hk : k' = NameKind.free := by
   simp only [Bool.and_eq_true, beq_iff_eq] at hc
   exact hc.1.1
  subst hk
  exact .inr ⟨rfl, hm⟩
 .cases e; exact .inl hm
theorem wy {scope : Scope} {env : Env} : (relabel scope env).names.map (·.1) = scope.names.map (·.1) := by
 unfold relabel
 rw [List.map_map]
 apply List.map_congr_left
 rintro ⟨n, k⟩ _
 show (if _ then (n, NameKind.cell) else (n, k)).1 = n
 split <;> rfl
theorem vP {scope : Scope} {env : Env} {x : Str} (nd : (scope.names.map (·.1)).Nodup) (h : (x, NameKind.free) ∈ scope.names) : (relabel scope env).names.lookup x = some .cell ∨ (relabel scope env).names.lookup x = some .free := by
 have nd' : ((relabel scope env).names.map (·.1)).Nodup := by rw [wy]; exact nd
 by_cases hc : (NameKind.free == NameKind.free && env.scope.kind == .function && env.kindOf x == some .cell) = true
 .left
  refine cR nd' ?_
  unfold relabel
  refine List.mem_map.mpr ⟨(x, NameKind.free), h, ?_⟩
  dsimp only
  rw [if_pos hc]
 .right
  refine cR nd' ?_
  unfold relabel
  refine List.mem_map.mpr ⟨(x, NameKind.free), h, ?_⟩
  dsimp only
  rw [if_neg hc]
def cM (X : Cx) (own cap : List Str) (scope : Scope) (cs : List (Str × Addr)) (C : Addr) (fp : List Addr) (s2 : Shared) (H2 : Hp) : Cx where
 prog := X.prog
 w := X.w
 K := X.K
 mg := X.mg
 base := X.base
 A := X.A
 N := own ++ cap
 s₀ := s2
 H₀ := H2
 env := compEnvC scope cs C X.env
 outer := X.stack
 stack := X.stack
 ex := fp
 fn := λ x => own.contains x
 calm := X.calm
 pn := []
 xe := λ _ _ => False
def cJ (own : List Str) (σ : St) (capI : List Nat) : St := List.replicate own.length none ++ jQ σ capI
section
variable {X : Cx} {pins : List (Addr × Obj)} {σ : St} {H : Hp} {s : Shared} {own cap : List Str} {capI : List Nat} {scope : Scope}
theorem dI.cells (B : dI X own cap capI scope) (I : Inv X pins σ H s) : ∀ y ∈ scope.names, y.2 = .free -> ∃ c, X.env.cells.lookup y.1 = some c := λ y hy e => by
 have hm := B.fre y hy e
 obtain ⟨j, hj⟩ := List.getElem?_of_mem hm
 have hlt : j < capI.length := by rw [B.caps.length]; exact (List.getElem?_eq_some_iff.mp hj).1
 obtain ⟨x, e1, _, k⟩ := B.caps.get (j := j) (i := capI[j]) (by simp [hlt])
 rw [hj] at e1
 cases e1
 exact I.ok.has _ k
theorem Inv.comp {fp : List Addr} {h0 h1 : Heap} {C : Addr} {tk : Nat} (I : Inv X pins σ H s) (B : dI X own cap capI scope) (hown : ∀ x ∈ own, (x, NameKind.free) ∉ scope.names) (hf : ∀ b ∈ fp, kW X pins H b) (ho : ∀ b ∈ fp, ∃ o, s.heap.get? b = some o)
  (hk0 : ∀ b o, s.heap.get? b = some o -> h0.get? b = some o) (hsz : s.heap.objs.size <= h0.objs.size) (hC : C = h0.objs.size) (h1e : h1 = pushCells (h0.push { cls := .type "dict", data := .dict #[] }) scope.names) :
  Inv (cM X own cap scope (cellsFrom (C + 1) scope.names (bT X.env scope.names [])) C fp s H) [] (cJ own σ capI) H { s with heap := h1, toks := tk } := by
 have hCs : s.heap.objs.size <= C := by rw [hC]; exact hsz
 have hpush : (h0.push ({ cls := .type "dict", data := .dict #[] } : Obj)).objs.size = C + 1 := by rw [hC]; exact Heap.size_push ..
 have keep1 : ∀ b o, h0.get? b = some o -> h1.get? b = some o := λ b o e => by rw [h1e]; exact pushCells_keeps _ _ _ _ (Heap.get?_push_of_some _ e)
 have keep : ∀ b o, s.heap.get? b = some o -> h1.get? b = some o := λ b o e => keep1 b o (hk0 b o e)
 have hCo : h1.get? C = some { cls := .type "dict", data := .dict #[] } := by
  rw [h1e]
  refine pushCells_keeps _ _ _ _ ?_
  rw [hC]; exact Heap.get?_push_size _ rfl
 have clo_old : ∀ p ∈ bT X.env scope.names [], X.env.cells.lookup p.1 = some p.2 := λ p hp => (jR hp).elim (λ z => by simp at z) id
 have old_lt : ∀ x c, X.env.cells.lookup x = some c -> c < s.heap.objs.size := λ x c e => let ⟨v, q⟩ := I.cell x c e; q.lt
 have co0 : CO (C + 1) (h0.push { cls := .type "dict", data := .dict #[] }) (bT X.env scope.names []) := by
  refine ⟨λ p hp => ?_, λ p hp hlo => ?_, λ p hp q hq e hlo => ?_⟩
  .rw [hpush]; exact Nat.lt_succ_of_lt (Nat.lt_of_lt_of_le (old_lt _ _ (clo_old p hp)) hCs)
  .exact absurd (Nat.lt_of_lt_of_le (old_lt _ _ (clo_old p hp)) (Nat.le_trans hCs (Nat.le_trans (Nat.le_succ _) hlo))) (Nat.lt_irrefl _)
  .exact absurd (Nat.lt_of_lt_of_le (old_lt _ _ (clo_old p hp)) (Nat.le_trans hCs (Nat.le_trans (Nat.le_succ _) hlo))) (Nat.lt_irrefl _)
 have co := CO.go scope.names _ _ co0 (by rw [hpush]; exact Nat.le_refl _)
 rw [hpush, <- h1e] at co
 have csm : ∀ x c, (cellsFrom (C + 1) scope.names (bT X.env scope.names [])).lookup x = some c -> (X.env.cells.lookup x = some c /\ c < s.heap.objs.size) ∨ (C + 1 <= c /\ h1.IsCell c none) := λ x c e => by
  have hm := PySem.mem_of_lookup e
  rcases wI hm with z | z
  .have q := clo_old _ z
   exact .inl ⟨q, old_lt _ _ q⟩
  .exact .inr ⟨z, co.em _ hm z⟩
 have fresh : ∀ b, s.heap.objs.size <= b -> H b = none := λ b hb => I.hok.fresh hb
 have eout : (cM X own cap scope (cellsFrom (C + 1) scope.names (bT X.env scope.names [])) C fp s H).fs = frs X.stack := rfl
 refine ⟨⟨I.ok.mod, ?_, I.ok.glob, I.ok.blt, hCs, ?_, ?_, ?_, I.ok.hd, I.ok.frames, .inl rfl, ?_, I.bs, Nat.le_trans I.ok.bsz I.sz, ?_, ?_, I.stack, I.stkFree⟩, rfl, I.bare.again, Un.kept keep, ?_, ?_, fresh C hCs, ?_, ?_, I.hok.kept keep, ?_⟩
 .exact B.kind
 .
  intro x y c e1 e2
  have e1' : (cellsFrom (C + 1) scope.names (bT X.env scope.names [])).lookup x = some c := e1
  have e2' : (cellsFrom (C + 1) scope.names (bT X.env scope.names [])).lookup y = some c := e2
  rcases csm x c e1' with ⟨z1, l1⟩ | ⟨z1, _⟩
  .rcases csm y c e2' with ⟨z2, _⟩ | ⟨z2, _⟩
   .exact I.ok.inj x y c z1 z2
   .exact absurd (Nat.lt_of_lt_of_le l1 (Nat.le_trans hCs (Nat.le_trans (Nat.le_succ _) z2))) (Nat.lt_irrefl _)
  .exact co.ap _ (PySem.mem_of_lookup e1') _ (PySem.mem_of_lookup e2') rfl z1
 .
  intro x hx
  have hx' : (relabel scope X.env).names.lookup x = some .cell ∨ (relabel scope X.env).names.lookup x = some .free := hx
  have hm : (x, NameKind.cell) ∈ scope.names ∨ (x, NameKind.free) ∈ scope.names := by
   rcases hx' with e | e
   .rcases qL (PySem.mem_of_lookup e) with q | q
    .exact .inl q
    .exact .inr q.2
   .rcases qL (PySem.mem_of_lookup e) with q | q
    .exact .inr q
    .cases q.1
  rcases hm with q | q
  .exact Option.isSome_iff_exists.mp (PySem.W.cellsFrom_some scope.names (C + 1) _ (.inl (cR B.nd q)))
  .obtain ⟨c, hc⟩ := B.cells I _ q rfl
   exact Option.isSome_iff_exists.mp (PySem.W.cellsFrom_some scope.names (C + 1) _ (.inr (by rw [jn hc (.inl q)]; rfl)))
 .
  intro x c hx e
  have e' : (cellsFrom (C + 1) scope.names (bT X.env scope.names [])).lookup x = some c := e
  have hxo : x ∈ own := by simpa [cM] using hx
  rcases wI (PySem.mem_of_lookup e') with z | z
  .exfalso
   have nf := hown x hxo
   have : (bT X.env scope.names []).lookup x = none := by
    rw [mK λ k hk => by rintro rfl; exact nf hk]; rfl
   have hl : (cellsFrom (C + 1) scope.names (bT X.env scope.names [])).lookup x = some c := e'
   have q : ∀ (l : List (Str × Addr)), (x, c) ∈ l -> l.lookup x ≠ none := by
    intro l
    induction l with
    | nil => intro h; simp at h
    | cons p r ih =>
     intro h
     obtain ⟨n, d⟩ := p
     rw [List.lookup_cons]
     by_cases hn : (x == n) = true
     .rw [hn]; simp
     .have hn' : (x == n) = false := by simpa using hn
      rw [hn']
      rcases List.mem_cons.mp h with e | h
      .cases e; simp at hn'
      .exact ih h
   exact q _ z this
  .exact Nat.le_trans hCs (Nat.le_trans (Nat.le_succ _) z)
 .
  intro b hb
  obtain ⟨o, hbo⟩ := ho b hb
  have hlt := Heap.lt_size hbo
  refine ⟨Nat.ne_of_lt (Nat.lt_of_lt_of_le hlt hCs), λ x c e => ?_⟩
  rcases csm x c e with ⟨z, _⟩ | ⟨z, _⟩
  .exact (hf b hb).2.2.2.2.1 x c z
  .exact Nat.ne_of_gt (Nat.lt_of_lt_of_le hlt (Nat.le_trans hCs (Nat.le_trans (Nat.le_succ _) z)))
 .
  intro b o e hb
  rcases (hf b hb).2.2.2.1 with z | z
  .exact I.ok.noex b o e z
  .exact absurd (Nat.lt_of_lt_of_le (Heap.lt_size e) (Nat.le_trans I.ok.bsz z)) (Nat.lt_irrefl _)
 .
  intro b hb hz
  rcases List.mem_cons.mp (I.stkSub b hz) with z | z
  .exact (hf b hb).2.1 z
  .exact (hf b hb).2.2.1 z
 .
  obtain ⟨m, hn, hl⟩ := I.loc
  refine ⟨λ _ => none, ⟨_, #[], 0, hCo, rfl, by intro e he; simp at he, λ _ => rfl⟩, λ i x v e1 e2 hv => ?_⟩
  have e2' : (cJ own σ capI)[i]? = some (some v) := e2
  have e1' : (own ++ cap)[i]? = some x := e1
  unfold cJ at e2'
  by_cases hi : i < own.length
  .rw [List.getElem?_append_left (by simpa using hi), List.getElem?_replicate] at e2'
   split at e2' <;> cases e2'
  .rw [List.getElem?_append_right (by simpa using hi)] at e2'
   rw [List.getElem?_append_right (by simpa using hi)] at e1'
   rw [List.length_replicate] at e2'
   obtain ⟨i0, q1, q2⟩ := qg e2'
   obtain ⟨y, q3, q4, q5⟩ := B.caps.get q1
   rw [e1'] at q3
   cases q3
   have hxf : (x, NameKind.free) ∈ scope.names := B.cfr x (List.mem_of_getElem? e1')
   have vis : Vis X.env.scope x := by
    rcases q5 with q5 | q5
    .exact .inr (.inl q5)
    .exact .inr (.inr q5)
   obtain ⟨u, ru, lk⟩ := hl i0 x v q4 q2 vis
   refine ⟨u, ru, .inr ⟨vP B.nd hxf, ?_⟩⟩
   rcases lk with ⟨k, _⟩ | ⟨_, c, ec, hc⟩
   .rcases q5 with q5 | q5 <;> rw [k] at q5 <;> cases q5
   .refine ⟨c, ?_, hc.keeps keep⟩
    show (cellsFrom (C + 1) scope.names (bT X.env scope.names [])).lookup x = some c
    rw [Bb λ k hk => ?_]
    .exact jn ec (.inl hxf)
    .rintro rfl
     cases tX B.nd hk hxf
 .
  intro x c e
  rcases csm x c e with ⟨z, _⟩ | ⟨_, z⟩
  .obtain ⟨v, q⟩ := I.cell x c z
   exact ⟨v, q.keeps keep⟩
  .exact ⟨none, z⟩
 .
  intro x c e
  rcases csm x c e with ⟨z, _⟩ | ⟨z, _⟩
  .exact I.freeC x c z
  .exact fresh c (Nat.le_trans hCs (Nat.le_trans (Nat.le_succ _) z))
 .intro p hp
  exact absurd (show p ∈ ([] : List (Addr × Obj)) from hp) (by simp)
 .show (cJ own σ capI).length = (own ++ cap).length
  unfold cJ jQ
  rw [List.length_append, List.length_append, List.length_replicate, List.length_map, B.caps.length]
end
section
variable {prog : Program} {w : World} {A : Around} {R : Result -> Shared -> Prop} {s : Shared}
theorem uK {elt target iter : Expr} {ifs : List Expr} {scope : Scope} {pos : Pos} {it acc : Value} {env : Env} {E' : Value -> Shared -> Prop} (I : Nat -> Shared -> Prop)
  (hE : ∀ e s', E' e s' -> notedBy (model prog w) A env (λ e s' => R (.error e) s') e s')
  (turn : ∀ n s, I n s -> wpAny (model prog w) A (pyNext it) (λ r s₁ => match r with
   | none => R (.ok .next) s₁
   | some v => wpAny (model prog w) A (letOwnedTupleGo target it v) (λ _ s₂ => wpAny (model prog w) A (assign target env v) (λ _ s₃ =>
     wpAny (model prog w) A (forIn ifs true λ c r => if r = true then do let ok <- isTrue c env (eval c env); pure (ForInStep.yield ok) else pure (ForInStep.yield r)) (λ ok s₄ =>
      if ok = true then wpAny (model prog w) A (eval elt env) (λ x s₅ =>
       wpAny (model prog w) A (call (.builtin "list.append") [acc, x]) (λ _ s₆ => ∃ m, m < n /\ I m s₆) E' s₅) E' s₄
      else ∃ m, m < n /\ I m s₄) E' s₃) E' s₂) E' s₁) E' s)
  (n : Nat) (h : I n s) :
  codeAny (model prog w) A (.compLoop (.ListComp elt [⟨target, iter, ifs, 0⟩] scope pos) 0 it acc env) R s := by
 refine codeAny_loop rfl I (λ n s hI => ?_) n h
 show wpAny _ A ((compTurn (.ListComp elt [⟨target, iter, ifs, 0⟩] scope pos) 0 it acc env).onRaise (λ x => do noteFrame x env; theTreesLotGoes x)) _ _ s
 refine wpAny_noted ?_
 rw [compTurn_list]
 refine wpAny_bind (wpAny_standAt (wpAny_bind (wpAny_mono (turn n s hI) (λ r s₁ h₁ => ?_) hE)))
 cases r with
 | none => exact wpAny_pure h₁
 | some v =>
  refine wpAny_bind (wpAny_mono h₁ (λ _ s₂ h₂ => ?_) hE)
  refine wpAny_bind (wpAny_mono h₂ (λ _ s₂ h₂ => wpAny_bind (wpAny_mono h₂ (λ ok s₃ h₃ => ?_) hE)) hE)
  cases ok with
  | false => exact wpAny_pure ⟨rfl, h₃⟩
  | true =>
   exact wpAny_bind (wpAny_bind (wpAny_mono h₃ (λ x s₄ h₄ => wpAny_bind (wpAny_mono h₄ (λ _ s₅ h₅ => wpAny_pure (wpAny_pure ⟨rfl, h₅⟩)) hE)) hE))
end
def PIf (X : Cx) (ifs : List Expr) (t : TT) : Prop :=
 ∀ (pins : List (Addr × Obj)) (s : Shared) (σ : St) (H : Hp) (Q : Bool -> Hp -> Prop), Inv X pins σ H s -> t σ H Q ->
  wpAny (model X.prog X.w) X.A (forIn ifs true λ c r => if r = true then do let ok <- isTrue c X.env (eval c X.env); pure (ForInStep.yield ok) else pure (ForInStep.yield r)) (TP X pins σ Q) X.xe s
def tYes : TT := λ _ H Q => Q true H
section
variable {X : Cx} {c : Expr} {t : TT}
theorem Jj : PIf X [] tYes := λ _ _ _ H _ I h => wpAny_tests_nil ⟨H, I, h⟩
end
def Fits (a b : St) : Prop := b.length = a.length /\ ∀ (i : Nat) v, a[i]? = some (some v) -> b[i]? = some (some v)
def tLC (own : List Str) (capI : List Nat) (wi : TI) (g : TG) (tt : TT) (te : TE) : TE := λ σ H Q => wi σ H λ J H1 => ∃ W : Nat -> Nat -> List V -> Hp -> Prop, (∃ m, W 0 m [] H1) /\ ∀ i m ys H, W i m ys H ->
 (J.stop i H /\ ∀ l, H l = none -> Q (.ref l) (upd H l (.lst ys))) ∨
 (J.go i H /\ ys.length < sizeLine /\ ∀ x H', J.yld i H x H' -> g x (cJ own σ capI) H' λ σ2 H2 => Fits (cJ own σ capI) σ2 /\ tt σ2 H2 λ b H3 =>
  if b = true then te σ2 H3 (λ y H4 => ∃ m', m' < m /\ W (i + 1) m' (ys ++ [y]) H4) else ∃ m', m' < m /\ W (i + 1) m' ys H3)
abbrev bW (us : List Value) (k : Nat) : Obj := { cls := .type "list", data := .seq us.toArray k }
section
variable {X : Cx} {tg iter elt : Expr} {ifs : List Expr} {wi : TI} {g : TG} {tt : TT} {te : TE} {own cap : List Str} {capI : List Nat} {scope : Scope} {pos : Pos}
theorem Inv.compEnd {X' : Cx} {pins pins' : List (Addr × Obj)} {σ σ' : St} {H H2 : Hp} {s2 s1 : Shared} {fp : List Addr} {l C : Addr} {ys : List V} {us : List Value} {k : Nat} {h' : Heap}
  (I2 : Inv X pins σ H2 s2) (f2 : ∀ b ∈ fp, kW X pins H2 b) (hP : X'.prog = X.prog) (hw : X'.w = X.w) (hfs : X'.fs = frs X.stack) (hex : X'.ex = fp) (hs : X'.s₀ = s2) (hH : X'.H₀ = H2) (hC : X'.env.locals = C)
  (I : Inv X' pins' σ' H s1) (hl : s2.heap.objs.size <= l) (hlC : l ≠ C) (hCs : s2.heap.objs.size <= C) (ho : s1.heap.get? l = some (bW us k)) (hn : H l = none) (hv : Vals ys us) (hz : ys.length <= sizeLine)
  (sb : Heap.SameBut C s1.heap h') : Inv X pins σ (upd H l (.lst ys)) { s1 with heap := h' } := by
 subst hs hH hC
 have ne2 : ∀ b o, X'.s₀.heap.get? b = some o -> b ≠ X'.env.locals /\ b ≠ l := λ b o e => ⟨Nat.ne_of_lt (Nat.lt_of_lt_of_le (Heap.lt_size e) hCs), Nat.ne_of_lt (Nat.lt_of_lt_of_le (Heap.lt_size e) hl)⟩
 have ub := I.base
 rw [hfs, hex] at ub
 have nl : ∀ b u, H b = some u -> b ≠ l := λ b u e z => by rw [z, hn] at e; cases e
 have nC : ∀ b u, H b = some u -> b ≠ X'.env.locals := λ b u e z => by rw [z, I.free] at e; cases e
 refine I2.call' (ch := fp) (s' := { s1 with heap := h' }) I.os ⟨λ b o e n hb hx => ?_, λ b o e n hb hx => ?_, λ b o e n hx => ?_, λ b o e hx => ?_, λ b xs e => ?_, λ b o u e => ?_, λ b ps e => ?_⟩ ?_ I.bare λ b hb => ?_
 .exact (sb.2 b (ne2 b o e).1).trans (ub.keep b o e n hb hx)
 .obtain ⟨sl, q⟩ := ub.slot b o e n hb hx
  exact ⟨sl, (sb.2 b (ne2 b o e).1).trans q⟩
 .rw [aU (ne2 b o e).2]
  exact ub.free b o e n hx
 .obtain ⟨o', q⟩ := ub.there b o e hx
  exact ⟨o', (sb.2 b (ne2 b o e).1).trans q⟩
 .have q := ub.tups b xs e
  rw [aU (nl b _ q)]; exact q
 .have q := ub.frzs b o u e
  rw [aU (nl b _ q)]; exact q
 .obtain ⟨more, q⟩ := ub.tbls b ps e
  exact ⟨more, by rw [aU (nl b _ q)]; exact q⟩
 .intro a o e
  have hok := I.hok
  rw [hP, hw] at hok
  by_cases ha : a = l
  .subst ha
   rw [dw] at e
   cases e
   exact ⟨hz, us, k, hv, (sb.2 a hlC).trans ho⟩
  .rw [aU ha] at e
   refine (hok a o e).stay (λ b u hb q => (sb.2 b ?_).trans q) (λ b q => by rw [aU (nl b _ q)]; exact q) λ b xs q => by rw [aU (nl b _ q)]; exact q
   rcases hb with z | z
   .rw [z]; exact nC a o e
   .exact nC b _ z
 .obtain ⟨q0, q1, q2, q3, q4, q5⟩ := f2 b hb
  exact ⟨q3.imp id λ z => z, q1, q4, q5⟩
theorem Qg (hc : X.calm = true) (B : dI X own cap capI scope) (hown : ∀ x ∈ own, (x, NameKind.free) ∉ scope.names) (hi : PI X tg iter wi)
  (hg : ∀ cs C fp s2 H2, PG (cM X own cap scope cs C fp s2 H2) tg g) (ht : ∀ cs C fp s2 H2, PIf (cM X own cap scope cs C fp s2 H2) ifs tt) (he : ∀ cs C fp s2 H2, PE (cM X own cap scope cs C fp s2 H2) elt te)
  (hs : ∀ x, foldedSetIterable iter X.env x = pure x := by intro _; rfl) : PE X (.ListComp elt [⟨tg, iter, ifs, 0⟩] scope pos) (tLC own capI wi g tt te) := by
 intro pins s σ H Q I h
 rw [eval_ListComp]
 refine wpAny_comprehension_free (use := none) (cl := bT X.env scope.names []) rfl hs (iC (B.cells I)) B.kind (λ y hy e => cR B.nd (by rw [<- e]; exact hy)) ?_
 refine thn (hi pins s σ H _ I h) λ v s1 h1 => thn h1 λ itv s2 h2 => ?_
 obtain ⟨it, fp, tn, J, H2, e, I2, T, st2, f2, W, ⟨m0, w0⟩, turn⟩ := h2
 subst e
 refine wpAny_newObj_type (ni ?_)
 dsimp only
 generalize hl : s2.heap.objs.size = l
 generalize hh0 : s2.heap.push { cls := .type "list", dict := none, data := .seq ([] : List Value).toArray } = h0
 have hsz0 : h0.objs.size = l + 1 := by rw [<- hh0, Heap.size_push, hl]
 generalize hC : h0.objs.size = C
 generalize hh1 : pushCells (h0.push { cls := .type (if (some X.env).isSome = true then "dict" else "frame"), data := .dict #[] }) scope.names = h1
 have hl0 : h0.get? l = some (bW [] 0) := by rw [<- hh0, <- hl]; exact Heap.get?_push_size _ rfl
 have hk0 : ∀ b o, s2.heap.get? b = some o -> h0.get? b = some o := λ b o e => by rw [<- hh0]; exact Heap.get?_push_of_some _ e
 have hlC : l ≠ C := by rw [<- hC, hsz0]; exact Nat.ne_of_lt (Nat.lt_succ_self _)
 have hls : s2.heap.objs.size <= l := Nat.le_of_eq hl
 have hCs : s2.heap.objs.size <= C := by rw [<- hC, hsz0, hl]; exact Nat.le_succ _
 have ho2 : ∀ b ∈ fp, ∃ o, s2.heap.get? b = some o := λ b hb => let ⟨o, e, _⟩ := T.obj 0 _ st2 b hb; ⟨o, e⟩
 have hfl : ∀ b ∈ fp, b ≠ l /\ b ≠ C := λ b hb => let ⟨o, e⟩ := ho2 b hb; ⟨Nat.ne_of_lt (Nat.lt_of_lt_of_le (Heap.lt_size e) hls), Nat.ne_of_lt (Nat.lt_of_lt_of_le (Heap.lt_size e) hCs)⟩
 have hl1 : h1.get? l = some (bW [] 0) := by rw [<- hh1]; exact pushCells_keeps _ _ _ _ (Heap.get?_push_of_some _ hl0)
 have keep1 : ∀ b o, s2.heap.get? b = some o -> h1.get? b = some o := λ b o e => by rw [<- hh1]; exact pushCells_keeps _ _ _ _ (Heap.get?_push_of_some _ (hk0 b o e))
 generalize hcs : cellsFrom (C + 1) scope.names (bT X.env scope.names []) = cs
 have I0 : Inv (cM X own cap scope cs C fp s2 H2) [] (cJ own σ capI) H2 { s2 with heap := h1 } := by
  have q := I2.comp (tk := s2.toks) B hown f2 ho2 hk0 (by rw [hsz0, hl]; exact Nat.le_succ _) hC.symm hh1.symm
  rw [hcs] at q
  exact q
 have henv : (newEnv scope C X.env.globals cs X.env.qual none .none (some X.env) builtinsNs) = { compEnvC scope cs C X.env with scope := scope } := rfl
 have henv2 : ({ newEnv scope C X.env.globals cs X.env.qual none .none (some X.env) builtinsNs with scope := relabel scope X.env } : Env) = (cM X own cap scope cs C fp s2 H2).env := rfl
 generalize hX' : cM X own cap scope cs C fp s2 H2 = X' at I0 henv2
 have eP : X'.prog = X.prog := by rw [<- hX']; rfl
 have eW : X'.w = X.w := by rw [<- hX']; rfl
 have eK : X'.K = X.K := by rw [<- hX']; rfl
 have eA : X'.A = X.A := by rw [<- hX']; rfl
 have eFs : X'.fs = frs X.stack := by rw [<- hX']; rfl
 have eEx : X'.ex = fp := by rw [<- hX']; rfl
 have eS : X'.s₀ = s2 := by rw [<- hX']; rfl
 have eH : X'.H₀ = H2 := by rw [<- hX']; rfl
 have eL : X'.env.locals = C := by rw [<- hX']; rfl
 have eC : X'.calm = true := by rw [<- hX']; exact hc
 have eX : X'.xe = λ _ _ => False := by rw [<- hX']; rfl
 have ePn : X'.pn = [] := by rw [<- hX']; rfl
 have hg' : PG X' tg g := by rw [<- hX']; exact hg cs C fp s2 H2
 have ht' : PIf X' ifs tt := by rw [<- hX']; exact ht cs C fp s2 H2
 have he' : PE X' elt te := by rw [<- hX']; exact he cs C fp s2 H2
 have stat : ∀ {H' : Hp} {P : List (Addr × Obj)}, X'.Ok -> (∀ b ∈ fp, H' b = none) -> (∀ p ∈ P, p.1 = l) -> ∀ b ∈ fp, kW X' P H' b := λ {H' P} ok hn hP b hb => by
  refine ⟨hn b hb, ?_, ?_, .inl (by rw [eEx]; exact hb), ?_, λ p hp => ?_⟩
  .exact (ok.exf b (by rw [eEx]; exact hb)).1
  .exact ok.exfs b (by rw [eEx]; exact hb)
  .exact (ok.exf b (by rw [eEx]; exact hb)).2
  .rw [ePn, List.nil_append] at hp
   rw [hP p hp]
   exact Ne.symm (hfl b hb).1
 have lfs : X'.Ok -> l ∉ X'.fs := λ ok hz => by
  rw [eFs] at hz
  exact (Inv.nofs (X := X) I2 hls) ((List.mem_cons.mp (I2.stkSub l hz)).elim (λ z => absurd I2.lt (by rw [<- z, hl]; exact Nat.lt_irrefl _)) id)
 have pinL : ∀ {σ' : St} {H' : Hp} {s' : Shared} {us : List Value} {k : Nat}, Inv X' [] σ' H' s' -> s'.heap.get? l = some (bW us k) -> H' l = none -> Inv X' [(l, bW us k)] σ' H' s' := λ {σ' H' s' us k} I' e n =>
  I'.pins_of λ p hp => by
   obtain rfl : p = (l, bW us k) := by simpa using hp
   exact ⟨e, n, by rw [eL]; exact hlC, lfs I'.ok, λ v z => by cases z⟩
 have loop : ∀ s3 : Shared, s3 = { s2 with heap := h1 } -> codeAny (model X.prog X.w) X.A (.compLoop (.ListComp elt [⟨tg, iter, ifs, 0⟩] scope pos) 0 (.ref it) (.ref l) X'.env) (compPost (model X.prog X.w) X.A X.xe none (EP X pins σ Q) (.ref l) C) s3 := by
  rintro s3 rfl
  refine uK (E' := λ _ _ => False) (λ n s' => ∃ i ys us k H', Inv X' [] (cJ own σ capI) H' s' /\ tn i s'.heap /\ (∀ b ∈ fp, H' b = none) /\ W i n ys H' /\ Vals ys us /\ s'.heap.get? l = some (bW us k) /\ H' l = none /\ ys.length <= sizeLine) (λ _ _ z => z.elim) ?_ m0
   ⟨0, [], [], 0, H2, I0, T.keep _ _ _ st2 λ b _ o e => keep1 b o e, λ b hb => (f2 b hb).1, w0, .nil, hl1, I2.hok.fresh hls, Nat.zero_le _⟩
  rintro n s3 ⟨i, ys, us, k, H3, I3, st3, fr3, w3, v3, o3, n3, z3⟩
  have I3p := pinL I3 o3 n3
  have P1 : ∀ p ∈ [(l, bW us k)], p.1 = l := λ p hp => by
   obtain rfl : p = (l, bW us k) := by simpa using hp
   rfl
  rcases turn i n ys H3 w3 with ⟨stop, qn⟩ | ⟨go, hlt, step⟩
  .have q := T.done X' eP eW eK eC i _ s3 _ H3 (λ _ _ => False) I3p (stat I3.ok fr3 P1) st3 stop
   rw [eA] at q
   refine wpAny_mono q (λ r s4 ⟨hr, I4⟩ => ?_) λ _ _ z => z
   subst hr
   have pl := I4.pin (l, bW us k) (by simp)
   obtain ⟨m4, hn4, _⟩ := I4.loc
   rw [eL] at hn4
   refine ⟨m4, hn4, λ h' sb => ⟨.ref l, upd H3 l (.lst ys), ?_, rfl, qn l n3⟩⟩
   exact I2.compEnd f2 eP eW eFs eEx eS eH eL I4 hls hlC hCs pl.1 n3 v3 z3 sb
  .have q := T.item X' eP eW eK eC i _ s3 _ H3 (λ _ _ => False) I3p (stat I3.ok fr3 P1) st3 go
   rw [eA] at q
   refine wpAny_mono q (λ r s4 ⟨u, hr, h4⟩ => ?_) λ _ _ z => z
   subst hr
   refine wpAny_mono h4 (λ _ s5 ⟨x, H5, I5, r5, y5, st5, fr5⟩ => ?_) λ _ _ z => z
   have I5' := I5.pinned (stat I5.ok fr5 P1) (T.obj _ _ st5)
   have a1 := hg' _ s5 _ H5 x u _ I5' r5 (step x H5 y5)
   rw [eP, eW, eA, eX] at a1
   refine wpAny_mono a1 (λ _ s6 ⟨σ6, H6, I6, ft6, q6⟩ => ?_) λ _ _ z => z
   have a2 := ht' _ s6 σ6 H6 _ I6 q6
   rw [eP, eW, eA, eX] at a2
   refine wpAny_mono a2 (λ ok s7 ⟨H7, I7, q7⟩ => ?_) λ _ _ z => z
   have back : ∀ {H8 : Hp} {s8 : Shared}, Inv X' ([(l, bW us k)] ++ qw fp s5.heap) σ6 H8 s8 -> Inv X' [] (cJ own σ capI) H8 s8 /\ tn (i + 1) s8.heap /\ (∀ b ∈ fp, H8 b = none) /\ s8.heap.get? l = some (bW us k) /\ H8 l = none := λ {H8 s8} I8 => by
    have pl := I8.pin (l, bW us k) (by simp)
    refine ⟨(I8.weak ft6.1.symm ft6.2).pins_of λ p hp => absurd hp (by simp), T.keep _ _ _ st5 λ b hb o e => ?_, λ b hb => ?_, pl.1, pl.2.1⟩
    .exact (I8.pin (b, o) (List.mem_append_right _ (List.mem_append_right _ (fu hb e)))).1
    .obtain ⟨o, e, d⟩ := T.obj _ _ st5 b hb
     exact (I8.pin (b, o) (List.mem_append_right _ (List.mem_append_right _ (fu hb e)))).2.1
   cases ok with
   | false =>
    rw [if_neg Bool.false_ne_true]
    rw [if_neg Bool.false_ne_true] at q7
    obtain ⟨m', hm, w7⟩ := q7
    obtain ⟨I8, st8, fr8, o8, n8⟩ := back I7
    exact ⟨m', hm, i + 1, ys, us, k, H7, I8, st8, fr8, w7, v3, o8, n8, z3⟩
   | true =>
    rw [if_pos rfl]
    rw [if_pos rfl] at q7
    have a3 := he' _ s7 σ6 H7 _ I7 q7
    rw [eP, eW, eA, eX] at a3
    refine wpAny_mono a3 (λ yv s8 ⟨y, H8, I8', r8, m', hm, w8⟩ => ?_) λ _ _ z => z
    obtain ⟨I8, st8, fr8, o8, n8⟩ := back I8'
    refine append_at (hsz := by show us.toArray.size <= sizeLine; rw [List.size_toArray, <- v3.length]; exact z3) o8 λ h9 sb9 o9 => ?_
    have I9 : Inv X' [] (cJ own σ capI) H8 { s8 with heap := h9 } := I8.turned (t' := s8.toks) (λ b o hb e => (sb9.2 b hb).trans e) n8 (by rw [eL]; exact hlC) (.inr (by rw [eS]; exact hls)) (λ x c e => by
     rintro rfl
     obtain ⟨v', ho', hd', hd''⟩ := I8.cell x c e
     rw [o8] at hd'
     cases hd'
     cases hd'') (λ p hp => by rw [ePn] at hp; exact absurd hp (by simp))
    refine ⟨m', hm, i + 1, ys ++ [y], us ++ [yv], k + 1, H8, I9, T.keep _ _ _ st8 λ b hb o e => (sb9.2 b (hfl b hb).1).trans e, fr8, w8, v3.append (.cons r8 .nil), ?_, n8, ?_⟩
    .rw [o9]
     simp [bW]
    .rw [List.length_append]
     exact hlt
 have T0 := T.keep 0 s2.heap h1 st2 λ b _ o e => keep1 b o e
 rw [henv2]
 exact codeAny_compStart_list (loop _ rfl) (T.self X.A 0 _ _ _ T0 (loop _ rfl))
end
def cj (M : Model) (A : Around) (c : Code) (t : Sem Fin) (fs : List Frame) (s : Shared) (Φ : End -> Shared -> Prop) : Prop :=
 ∀ Γ p, Γ.code = c -> Γ.Woken A -> ∃ e s', Runs M Γ p t fs s e s' /\ Φ e s'
section
variable {M : Model} {A : Around} {c : Code} {fs : List Frame} {s : Shared} {Φ : End -> Shared -> Prop}
theorem cj.wrap {α : Type} {m : Sem α} {K : α -> Sem Fin} {H : Value -> Sem Fin} {gd : Bool -> Bool} {lv : List Value -> List Value}
  (h : wpAny M (A.over c fs) m (λ a s' => cj M A c (K a) fs s' Φ) (λ x s' => cj M A c (H x) fs s' Φ) s) : cj M A c (m.wrap K H gd lv) fs s Φ := by
 rintro Γ p rfl hΓ
 exact runs_wrap_of_wp K H gd lv m (h (Γ.over fs) p (hΓ.over fs)) (λ a p' s' h' => h' Γ p' rfl hΓ) (λ x p' s' h' => h' Γ p' rfl hΓ)
theorem cj.bindWrap {α β : Type} {m : Sem α} {K : α -> Sem β} {K' : β -> Sem Fin} {H' : Value -> Sem Fin} {gd : Bool -> Bool} {lv : List Value -> List Value}
  (h : wpAny M (A.over c fs) m (λ a s' => cj M A c ((K a).wrap K' H' gd lv) fs s' Φ) (λ x s' => cj M A c (H' x) fs s' Φ) s) : cj M A c ((m >>= K).wrap K' H' gd lv) fs s Φ := by
 rw [Sem.bind_eq_wrap', Sem.wrap_wrap]; exact cj.wrap h
theorem cj.at {p' : Pos} {k : Unit -> Sem Fin} (h : cj M A c (k ()) fs s Φ) : cj M A c (.at p' k) fs s Φ :=
 cj.wrap (m := standAt p') (K := k) (H := .raise) (gd := id) (lv := id) (wpAny_standAt h)
theorem cj.again {c' : Code} (hq : c'.quiet = true) (hc : cj M A c' (M.den c') fs s Φ) : cj M A c (.pure (.again c')) fs s Φ := by
 rintro Γ p rfl hΓ
 obtain ⟨e, s', hr, he⟩ := hc (Γ.goto c') p rfl (hΓ.goto c')
 exact ⟨e, s', Runs.head (c₁ := c') (λ _ _ x => .again hq x) hr, he⟩
theorem cj.end (r : Result) (h : Φ (.ret r) s) : cj M A c (leafOf r) [] s Φ := by
 rintro Γ p rfl _
 exact ⟨.ret r, s, Runs.leaf r, h⟩
theorem cj.yield {v : Value} {g : Bool} {l : List Value} {k : Resume -> Sem Fin} (hfs : splitAtGen fs = none) (h : ∀ p, Φ (.susp v g l k c p fs) s) : cj M A c (.yield v g l k) fs s Φ := by
 rintro Γ p rfl _
 exact ⟨_, s, Runs.yield' fs hfs, h p⟩
def KN (M : Model) (A : Around) (gs : GenState) (s : Shared) (Φ : End -> Shared -> Prop) : Prop :=
 match gs with
 | .fresh c => cj M A c (M.den c) [] s Φ
 | .suspended k _ c _ fs _ => cj M A c (k (.send .none)) fs s Φ
 | _ => False
theorem JQ {E : Value -> Shared -> Prop} {g : Nat} {gs : GenState} {l : List Value} {α : Type} {k : GenResult -> Sem α} {Q : α -> Shared -> Prop} (hg : s.gens[g]? = some gs)
  (hgo : KN M A gs (s.setGen g .running) Φ) (hq : ∀ e s₁, Φ e s₁ -> e.quiet = true) (hΦ : ∀ e s₁, Φ e s₁ -> wpAny M A (k e.result) Q E (s₁.setGen g e.genState)) :
  wpAny M A (.resume g (.send .none) l k) Q E s := by
 intro Γ p hΓ
 rw [Sem.wp_resume]
 have hB : ∀ c, (Γ.wake c p).Woken A := λ c => hΓ.wake c p
 cases gs with
 | fresh c =>
  obtain ⟨e₁, s₁, hr, he⟩ := hgo (Γ.wake c p) p rfl (hB c)
  exact ⟨_, _, by unfold Wakes; rw [hg]; exact ⟨e₁, s₁, hr, hq e₁ s₁ he, rfl, rfl⟩, hΦ e₁ s₁ he Γ p hΓ⟩
 | suspended k₀ l₀ c₀ p₀ fs₀ cl =>
  obtain ⟨e₁, s₁, hr, he⟩ := hgo (Γ.wake c₀ p) p₀ rfl (hB c₀)
  exact ⟨_, _, by unfold Wakes; rw [hg]; exact ⟨e₁, s₁, hr, hq e₁ s₁ he, rfl, rfl⟩, hΦ e₁ s₁ he Γ p hΓ⟩
 | running => exact hgo.elim
 | finished => exact hgo.elim
end
section
variable {prog : Program} {w : World} {A : Around} {E : Value -> Shared -> Prop} {s : Shared} {Φ : End -> Shared -> Prop}
theorem qC {a : Addr} {g : Nat} {gs : GenState} {Q : Option Value -> Shared -> Prop} (hh : A.handled = none) (hl : s.heap.NoLimit) (hroom : A.depth < recursionLimit)
  (hg : s.heap.IsGen a g) (hgs : s.gens[g]? = some gs) (hgo : KN (model prog w) A.in1 gs (s.setGen g .running) Φ) (hq : ∀ e s₁, Φ e s₁ -> e.quiet = true)
  (hΦ : ∀ e s₁, Φ e s₁ -> (∃ v gd l k c p fs, e = .susp v gd l k c p fs /\ Q (some v) (s₁.setGen g e.genState)) ∨
   (e = .ret (.ok .next) /\ ∀ h', (∀ b o, s₁.heap.get? b = some o -> h'.get? b = some o) -> Q none { s₁.setGen g .finished with heap := h' })) :
  wpAny (model prog w) A (pyNext (.ref a)) Q E s := by
 unfold pyNext
 refine wpAny_bind (wpAny_attempt (wpAny_callSpecial?_slot (name := Str.ofString "__next__") hg.typeIs slot_gen_next
  (wpAny_call_entry slot_gen_next hg.typeIs entry_gen_next ?_ (args_gen_next _))))
 show wpAny _ A.in1 (Builtin.Generator.genWake (.ref a) (.send .none)) _ _ s
 unfold Builtin.Generator.genWake
 refine wpAny_bind (wpAny_holding (wpAny_genNumber hg (wpAny_bind (wpAny_genState hgs ?_))))
 cases gs with
 | running => exact hgo.elim
 | finished => exact hgo.elim
 | _ =>
  refine wpAny_bind (wpAny_roomToWake hl hroom ?_)
  show wpAny _ A.in1 (.resume g (.send .none) [] _) _ _ s
  refine JQ hgs hgo hq λ e s₁ he => ?_
  rcases hΦ e s₁ he with ⟨v, gd, l, k, c, p, fs, rfl, hQ⟩ | ⟨rfl, hP⟩
  .exact wpAny_pure ⟨v, rfl, wpAny_pure hQ⟩
  .show wpAny _ A.in1 (newExc (.type "StopIteration") [] >>= _) _ _ _
   refine wpAny_bind ?_
   simp only [newExc, newTuple]
   refine wpAny_bind (wpAny_newObj_type ?_ (by size_fits))
   refine wpAny_bind (m := firstArgMember _ _) (wpAny_of_eq (a := Value.none) (by first | rfl | (simp only [firstArgMember]; rfl)) ?_)
   refine wpAny_newObj_type ?_ (by size_fits)
   simp only [raiseNew]
   refine wpAny_bind (wpAny_bind (wpAny_handled ?_))
   first | rw [show A.in1.handled = none from hh] | rw [hh]
   refine wpAny_throw ?_
   refine wpAny_bind (wpAny_isInstance (T := "StopIteration") (b := true) ⟨_, Heap.get?_push_size _ rfl, rfl⟩ isSubtype_stop ?_)
   exact wpAny_pure (hP _ λ b o hb => Heap.get?_push_of_some _ (Heap.get?_push_of_some _ hb))
end
def sH (X : Cx) (AG : Around) (own cap : List Str) (scope : Scope) (cs : List (Str × Addr)) (C : Addr) (code : Value) (fp : List Addr) (s2 : Shared) (H2 : Hp) : Cx where
 prog := X.prog
 w := X.w
 K := X.K
 mg := X.mg
 base := X.base
 A := AG
 N := own ++ cap
 s₀ := { s2 with gens := s2.gens.push .running }
 H₀ := H2
 env := genEnv scope cs C code builtinsNs X.env
 outer := X.stack
 stack := genEnv scope cs C code builtinsNs X.env :: X.stack
 ex := fp
 fn := λ x => own.contains x
 calm := true
 pn := []
 xe := λ _ _ => False
section
variable {X : Cx} {pins : List (Addr × Obj)} {σ : St} {H : Hp} {s : Shared} {own cap : List Str} {capI : List Nat} {scope : Scope}
theorem Inv.gen {AG : Around} {fp : List Addr} {h1 : Heap} {C : Addr} {tk : Nat} {code : Value} {m : Str -> Option Value} (I : Inv X pins σ H s) (B : dI X own cap capI scope) (hown : ∀ x ∈ own, (x, NameKind.free) ∉ scope.names) (hnc : ∀ y ∈ scope.names, y.2 ≠ .cell)
  (hf : ∀ b ∈ fp, kW X pins H b) (ho : ∀ b ∈ fp, ∃ o, s.heap.get? b = some o)
  (keep : ∀ b o, s.heap.get? b = some o -> h1.get? b = some o) (hCs : s.heap.objs.size <= C) (hm : h1.Ns C m) (hAf : AG.frames = some (genEnv scope (bT X.env scope.names []) C code builtinsNs X.env :: X.stack)) (hAh : AG.handled = none) :
  Inv (sH X AG own cap scope (bT X.env scope.names []) C code fp s H) [] (cJ own σ capI) H { s with heap := h1, toks := tk, gens := s.gens.push .running } := by
 have clo_old : ∀ p ∈ bT X.env scope.names [], X.env.cells.lookup p.1 = some p.2 := λ p hp => (jR hp).elim (λ z => by simp at z) id
 have old_lt : ∀ x c, X.env.cells.lookup x = some c -> c < s.heap.objs.size := λ x c e => let ⟨v, q⟩ := I.cell x c e; q.lt
 have csm : ∀ x c, (bT X.env scope.names []).lookup x = some c -> X.env.cells.lookup x = some c /\ c < s.heap.objs.size := λ x c e => by
  have q := clo_old _ (PySem.mem_of_lookup e)
  exact ⟨q, old_lt _ _ q⟩
 have fresh : ∀ b, s.heap.objs.size <= b -> H b = none := λ b hb => I.hok.fresh hb
 have brun : AllBare (s.gens.push .running) := AllBare.push I.bare.bare rfl
 refine ⟨⟨I.ok.mod, ?_, I.ok.glob, rfl, hCs, ?_, ?_, ?_, λ _ => hAh, hAf, .inr ⟨rfl, rfl⟩, ?_, I.bs, Nat.le_trans I.ok.bsz I.sz, ?_, ?_, I.stack, I.stkFree⟩, rfl, GK.refl brun, Un.kept keep, ?_, ?_, fresh C hCs, ?_, ?_, I.hok.kept keep, ?_⟩
 .exact B.kind
 .intro x y c e1 e2
  exact I.ok.inj x y c (csm x c e1).1 (csm y c e2).1
 .intro x hx
  have hx' : scope.names.lookup x = some .cell ∨ scope.names.lookup x = some .free := hx
  rcases hx' with e | e
  .exact absurd rfl (hnc _ (PySem.mem_of_lookup e))
  .have q := PySem.mem_of_lookup e
   obtain ⟨c, hc⟩ := B.cells I _ q rfl
   exact ⟨c, jn hc (.inl q)⟩
 .intro x c hx e
  exfalso
  have hxo : x ∈ own := by simpa [sH] using hx
  have nf := hown x hxo
  have q : (bT X.env scope.names []).lookup x = none := by
   rw [mK λ k hk => by rintro rfl; exact nf hk]; rfl
  have e' : (bT X.env scope.names []).lookup x = some c := e
  rw [q] at e'; cases e'
 .intro b hb
  obtain ⟨o, hbo⟩ := ho b hb
  have hlt := Heap.lt_size hbo
  exact ⟨Nat.ne_of_lt (Nat.lt_of_lt_of_le hlt hCs), λ x c e => (hf b hb).2.2.2.2.1 x c (csm x c e).1⟩
 .intro b o e hb
  rcases (hf b hb).2.2.2.1 with z | z
  .exact I.ok.noex b o e z
  .exact absurd (Nat.lt_of_lt_of_le (Heap.lt_size e) (Nat.le_trans I.ok.bsz z)) (Nat.lt_irrefl _)
 .intro b hb hz
  rcases List.mem_cons.mp (I.stkSub b hz) with z | z
  .exact (hf b hb).2.1 z
  .exact (hf b hb).2.2.1 z
 .obtain ⟨m', hn, hl⟩ := I.loc
  refine ⟨m, hm, λ i x v e1 e2 hv => ?_⟩
  have e2' : (cJ own σ capI)[i]? = some (some v) := e2
  have e1' : (own ++ cap)[i]? = some x := e1
  unfold cJ at e2'
  by_cases hi : i < own.length
  .rw [List.getElem?_append_left (by simpa using hi), List.getElem?_replicate] at e2'
   split at e2' <;> cases e2'
  .rw [List.getElem?_append_right (by simpa using hi)] at e2'
   rw [List.getElem?_append_right (by simpa using hi)] at e1'
   rw [List.length_replicate] at e2'
   obtain ⟨i0, q1, q2⟩ := qg e2'
   obtain ⟨y, q3, q4, q5⟩ := B.caps.get q1
   rw [e1'] at q3
   cases q3
   have hxf : (x, NameKind.free) ∈ scope.names := B.cfr x (List.mem_of_getElem? e1')
   have vis : Vis X.env.scope x := by
    rcases q5 with q5 | q5
    .exact .inr (.inl q5)
    .exact .inr (.inr q5)
   obtain ⟨u, ru, lk⟩ := hl i0 x v q4 q2 vis
   refine ⟨u, ru, .inr ⟨.inr (cR B.nd hxf), ?_⟩⟩
   rcases lk with ⟨k, _⟩ | ⟨_, c, ec, hc⟩
   .rcases q5 with q5 | q5 <;> rw [k] at q5 <;> cases q5
   .exact ⟨c, jn ec (.inl hxf), hc.keeps keep⟩
 .intro x c e
  obtain ⟨v, q⟩ := I.cell x c (csm x c e).1
  exact ⟨v, q.keeps keep⟩
 .intro x c e
  exact I.freeC x c (csm x c e).1
 .intro p hp
  exact absurd (show p ∈ ([] : List (Addr × Obj)) from hp) (by simp)
 .show (cJ own σ capI).length = (own ++ cap).length
  unfold cJ jQ
  rw [List.length_append, List.length_append, List.length_replicate, List.length_map, B.caps.length]
end
abbrev Cy (elt tg iter : Expr) (scope : Scope) (pos : Pos) : Expr := .GeneratorExp elt [⟨tg, iter, [], 0⟩] scope pos
abbrev ji (elt tg iter : Expr) (scope : Scope) (pos : Pos) (it : Addr) (cenv : Env) : Code := .compLoop (Cy elt tg iter scope pos) 0 (.ref it) .none cenv
abbrev genS (elt tg iter : Expr) (scope : Scope) (pos : Pos) (it : Addr) (cenv : Env) : Code := .compStart (Cy elt tg iter scope pos) 0 (.ref it) .none cenv
section
variable {X' : Cx} {A1 : Around} {elt tg iter : Expr} {scope : Scope} {pos : Pos} {it : Addr} {fp : List Addr} {tn : Nat -> Heap -> Prop} {J : It} {σb : St} {g : TG} {te : TE}
theorem Et (T : Turn X'.prog X'.w X'.K tg J fp it tn) (hA : X'.A = A1.over (ji elt tg iter scope pos it X'.env) []) (hc : X'.calm = true) (hex : X'.ex = fp) (hpn : X'.pn = []) (hco : X'.env.scope.isCoroutine = false)
  (hxe : X'.xe = λ _ _ => False) (hg : PG X' tg g) (he : PE X' elt te) {i : Nat} {H : Hp} {s : Shared} {Q : VK} {P : List (Addr × Obj)} (hP : ∀ p ∈ P, p.1 ∉ fp) (I : Inv X' P σb H s) (st : tn i s.heap) (fr : ∀ b ∈ fp, H b = none)
  (go : J.go i H) (step : ∀ x H', J.yld i H x H' -> g x σb H' λ σ2 H2 => Fits σb σ2 /\ te σ2 H2 Q) :
  cj (model X'.prog X'.w) A1 (ji elt tg iter scope pos it X'.env) ((model X'.prog X'.w).den (ji elt tg iter scope pos it X'.env)) [] s λ e s' =>
   ∃ v k p y H', e = .susp v false [] k (ji elt tg iter scope pos it X'.env) p [] /\ k (.send .none) = .pure (.again (ji elt tg iter scope pos it X'.env)) /\ RelV y v /\ Q y H' /\ Inv X' P σb H' s' /\ tn (i + 1) s'.heap /\ ∀ b ∈ fp, H' b = none := by
 have stat : ∀ {H' : Hp}, X'.Ok -> (∀ b ∈ fp, H' b = none) -> ∀ b ∈ fp, kW X' P H' b := λ {H'} ok hn b hb =>
  ⟨hn b hb, (ok.exf b (by rw [hex]; exact hb)).1, ok.exfs b (by rw [hex]; exact hb), .inl (by rw [hex]; exact hb), (ok.exf b (by rw [hex]; exact hb)).2, λ p hp e => by rw [hpn] at hp; exact hP p hp (e ▸ hb)⟩
 show cj _ A1 _ ((compTurn (Cy elt tg iter scope pos) 0 (.ref it) .none X'.env).onRaise (leaving X'.env)) [] s _
 rw [compTurn_gen, Sem.onRaise_eq_wrap]
 refine cj.bindWrap (wpAny_standAt ?_)
 have q := T.item X' rfl rfl rfl hc i P s σb H (λ _ _ => False) I (stat I.ok fr) st go
 rw [hA] at q
 refine cj.bindWrap (wpAny_mono q (λ r s1 ⟨u, hr, h1⟩ => ?_) λ _ _ z => z.elim)
 subst hr
 refine cj.bindWrap (wpAny_mono h1 (λ _ s2 ⟨x, H2, I2, r2, y2, st2, fr2⟩ => ?_) λ _ _ z => z.elim)
 have I2' := I2.pinned (stat I2.ok fr2) (T.obj _ _ st2)
 have a1 := hg _ s2 σb H2 x u _ I2' r2 (step x H2 y2)
 rw [hA, hxe] at a1
 refine cj.bindWrap (wpAny_mono a1 (λ _ s3 ⟨σ3, H3, I3, ft3, q3⟩ => ?_) λ _ _ z => z.elim)
 refine cj.bindWrap (wpAny_tests_nil ?_)
 simp only [if_true]
 have hy : ∀ v, yieldOut X'.env v = yieldValue v := λ v => by simp only [yieldOut, hco, Bool.false_eq_true, if_false]
 simp only [hy]
 rw [Sem.bind_eq_wrap', Sem.bind_eq_wrap', Sem.wrap_wrap, Sem.wrap_wrap]
 have a2 := he _ s3 σ3 H3 _ I3 q3
 rw [hA, hxe] at a2
 refine cj.wrap (wpAny_mono a2 (λ v s4 ⟨y, H4, I4, r4, q4⟩ => ?_) λ _ _ z => z.elim)
 refine cj.at (cj.yield rfl λ p => ⟨v, _, p, y, H4, rfl, rfl, r4, q4, (I4.weak ft3.1.symm ft3.2).unpinned, T.keep _ _ _ st2 λ b hb o e => ?_, λ b hb => ?_⟩)
 .exact (I4.pin (b, o) (List.mem_append_right _ (List.mem_append_right _ (fu hb e)))).1
 .obtain ⟨o, e, d⟩ := T.obj _ _ st2 b hb
  exact (I4.pin (b, o) (List.mem_append_right _ (List.mem_append_right _ (fu hb e)))).2.1
theorem Fg (T : Turn X'.prog X'.w X'.K tg J fp it tn) (hA : X'.A = A1.over (ji elt tg iter scope pos it X'.env) []) (hc : X'.calm = true) (hex : X'.ex = fp) (hpn : X'.pn = [])
  {i : Nat} {H : Hp} {s : Shared} {P : List (Addr × Obj)} (hP : ∀ p ∈ P, p.1 ∉ fp) (I : Inv X' P σb H s) (st : tn i s.heap) (fr : ∀ b ∈ fp, H b = none) (stop : J.stop i H) :
  cj (model X'.prog X'.w) A1 (ji elt tg iter scope pos it X'.env) ((model X'.prog X'.w).den (ji elt tg iter scope pos it X'.env)) [] s λ e s' => e = .ret (.ok .next) /\ Inv X' P σb H s' := by
 have stat : ∀ b ∈ fp, kW X' P H b := λ b hb =>
  ⟨fr b hb, (I.ok.exf b (by rw [hex]; exact hb)).1, I.ok.exfs b (by rw [hex]; exact hb), .inl (by rw [hex]; exact hb), (I.ok.exf b (by rw [hex]; exact hb)).2, λ p hp e => by rw [hpn] at hp; exact hP p hp (e ▸ hb)⟩
 show cj _ A1 _ ((compTurn (Cy elt tg iter scope pos) 0 (.ref it) .none X'.env).onRaise (leaving X'.env)) [] s _
 rw [compTurn_gen, Sem.onRaise_eq_wrap]
 refine cj.bindWrap (wpAny_standAt ?_)
 have q := T.done X' rfl rfl rfl hc i P s σb H (λ _ _ => False) I stat st stop
 rw [hA] at q
 refine cj.bindWrap (wpAny_mono q (λ r s1 ⟨hr, I1⟩ => ?_) λ _ _ z => z.elim)
 subst hr
 exact cj.end (.ok .next) ⟨rfl, I1⟩
theorem vm {A0 : Around} {P : Program} {w : World} {K : PySem.W.Frag} {cenv : Env} {Φ : End -> Shared -> Prop} {s : Shared} {i : Nat} (T : Turn P w K tg J fp it tn) (st : tn i s.heap)
  (h : cj (model P w) A0 (ji elt tg iter scope pos it cenv) ((model P w).den (ji elt tg iter scope pos it cenv)) [] s Φ) :
  cj (model P w) A0 (genS elt tg iter scope pos it cenv) ((model P w).den (genS elt tg iter scope pos it cenv)) [] s Φ := by
 show cj _ A0 _ ((compStart (Cy elt tg iter scope pos) 0 (.ref it) .none cenv).onRaise (leaving cenv)) [] s _
 unfold compStart
 rw [Sem.onRaise_eq_wrap]
 show cj _ A0 _ ((ask >>= _).wrap _ _ _ _) [] s _
 refine cj.bindWrap (wpAny_askSetting ?_)
 split
 .exact cj.again rfl h
 .first
   | exact cj.bindWrap (wpAny_rule (cj.bindWrap (wpAny_standAt (cj.bindWrap (T.self _ i s _ _ st (cj.again rfl h))))))
   | (refine cj.bindWrap (wpAny_rule ?_); show cj _ A0 _ ((standAt iter.pos >>= _).wrap _ _ _ _) [] s _; exact cj.bindWrap (wpAny_standAt (cj.bindWrap (T.self _ i s _ _ st (cj.again rfl h)))))
end
structure qQ where
 nxt : Nat -> Hp -> (V -> Hp -> Prop) -> Prop
 fin : Nat -> Hp -> Prop
structure Ec (X : Cx) (pins : List (Addr × Obj)) (σ : St) (A' : Around) (it : Addr) (lo : Nat) (S : qQ) (SS : List (Addr × Obj) -> Nat -> Hp -> Shared -> Prop) : Prop where
 inv : ∀ {P i H s}, SS P i H s -> Inv X (pins ++ P) σ H s
 next : ∀ {P i H s Q} (E : Value -> Shared -> Prop), SS P i H s -> S.nxt i H Q -> wpAny (model X.prog X.w) A' (pyNext (.ref it)) (λ r s1 => ∃ u y H', r = some u /\ RelV y u /\ Q y H' /\ SS P (i + 1) H' s1) E s
 stop : ∀ {P i H s} (E : Value -> Shared -> Prop), SS P i H s -> S.fin i H -> wpAny (model X.prog X.w) A' (pyNext (.ref it)) (λ r s1 => r = none /\ Inv X (pins ++ P) σ H s1) E s
 keep : ∀ {P i H s h' tk}, SS P i H s -> (∀ b o, s.heap.get? b = some o -> h'.get? b = some o) -> SS P i H { s with heap := h', toks := tk }
 pin : ∀ {P i H s D o}, SS P i H s -> lo <= D -> s.heap.get? D = some o -> H D = none -> (∀ v, o.data ≠ .cell v) -> SS ((D, o) :: P) i H s
 unpin : ∀ {p P i H s}, SS (p :: P) i H s -> SS P i H s
 acc : ∀ {P i H s h' tk D}, SS P i H s -> lo <= D -> H D = none -> (∀ p ∈ P, p.1 ≠ D) -> (∀ b o, b ≠ D -> s.heap.get? b = some o -> h'.get? b = some o) -> SS P i H { s with heap := h', toks := tk }
def Ready (X : Cx) (pins : List (Addr × Obj)) (σ : St) (S : qQ) (v : Value) (H : Hp) (s : Shared) : Prop :=
 ∀ (A' : Around) (E : Value -> Shared -> Prop), A'.handled = none -> A'.frames = some X.stack -> A'.depth <= X.A.depth + 1 -> A'.units <= X.A.units + 8 ->
  wpAny (model X.prog X.w) A' (pyIter v) (λ itv s2 => ∃ it lo SS, itv = .ref it /\ Ec X pins σ A' it lo S SS /\ SS [] 0 H s2 /\ lo <= s2.heap.objs.size) E s
abbrev qU := St -> Hp -> (qQ -> Hp -> Prop) -> Prop
def zq (X : Cx) (e : Expr) (ts : qU) : Prop :=
 ∀ (pins : List (Addr × Obj)) (s : Shared) (σ : St) (H : Hp) (R : qQ -> Hp -> Prop), Inv X pins σ H s -> ts σ H R ->
  wpAny (model X.prog X.w) X.A (eval e X.env) (λ v s1 => ∃ S H1, Inv X pins σ H1 s1 /\ Ready X pins σ S v H1 s1 /\ R S H1) X.xe s
def MP (X : Cx) (pins : List (Addr × Obj)) (σ : St) (S : qQ) (a : Addr) (H : Hp) (s : Shared) : Prop :=
 ∀ (A' : Around), A'.handled = none -> A'.frames = some X.stack -> A'.depth <= X.A.depth + 1 -> A'.units <= X.A.units + 8 ->
  ∃ lo SS, Ec X pins σ A' a lo S SS /\ SS [] 0 H s /\ a < lo /\ lo <= s.heap.objs.size /\ ∀ P i H s, SS P i H s -> ∃ g, s.heap.IsGen a g
def xq (X : Cx) (e : Expr) (ts : qU) : Prop :=
 ∀ (pins : List (Addr × Obj)) (s : Shared) (σ : St) (H : Hp) (R : qQ -> Hp -> Prop), Inv X pins σ H s -> ts σ H R ->
  wpAny (model X.prog X.w) X.A (eval e X.env) (λ v s1 => ∃ a S H1, v = .ref a /\ Inv X pins σ H1 s1 /\ MP X pins σ S a H1 s1 /\ R S H1) X.xe s
theorem yH {X : Cx} {e : Expr} {ts : qU} (h : xq X e ts) : zq X e ts := by
 intro pins s σ H R I hq
 refine thn (h pins s σ H R I hq) λ v s1 ⟨a, S, H1, e, I1, rdy, r⟩ => ⟨S, H1, I1, ?_, r⟩
 subst e
 intro A' E h1 h2 h3 h4
 obtain ⟨lo, SS, sm, s0, _, hl, hg⟩ := rdy A' h1 h2 h3 h4
 obtain ⟨g, ig⟩ := hg _ _ _ _ s0
 exact wpAny_pyIter_gen ig ⟨a, lo, SS, rfl, sm, s0, hl⟩
section
variable {X : Cx} {pins : List (Addr × Obj)} {σ : St} {H : Hp} {s : Shared}
theorem Inv.grown {h' : Heap} {g' : Array GenState} {tk : Nat} (I : Inv X pins σ H s) (k : ∀ b o, s.heap.get? b = some o -> h'.get? b = some o) (hg : GK s.gens g') : Inv X pins σ H { s with heap := h', gens := g', toks := tk } :=
 I.call (ch := []) (g' := g') (t' := tk) (d' := s.drawn) (Un.kept k) (I.hok.kept k) hg λ b hb => absurd hb (by simp)
theorem Inv.more {Q : List (Addr × Obj)} (I : Inv X pins σ H s) (h : ∀ p ∈ Q, s.heap.get? p.1 = some p.2 /\ H p.1 = none /\ p.1 ≠ X.env.locals /\ p.1 ∉ X.fs /\ ∀ v, p.2.data ≠ .cell v) : Inv X (pins ++ Q) σ H s :=
 I.pins_of λ p hp => (List.mem_append.mp hp).elim (λ z => I.pin p (List.mem_append_right _ z)) (h p)
theorem Inv.tbl {P : Addr} {ps ps' : Array Value} {h' : Heap} {tk : Nat} (I : Inv X pins σ H s) (hP : H P = some (.tbl ps)) (hm : ∃ more, ps' = ps ++ more) (k : ∀ b o, b ≠ P -> s.heap.get? b = some o -> h'.get? b = some o)
  (ho : h'.get? P = some { cls := .none, data := .fields ps' }) : Inv X pins σ (upd H P (.tbl ps')) { s with heap := h', toks := tk } := by
 have nP : ∀ b, H b = none -> b ≠ P := λ b e z => by rw [z, hP] at e; cases e
 refine I.un ⟨λ b o e n _ _ => k b o (nP b n) e, λ b o e n _ _ => ⟨o.slots, k b o (nP b n) e⟩, λ b o e n _ => by rw [aU (nP b n)]; exact n, λ b o e _ => ?_, λ b xs e => ?_, λ b o u e => ?_, λ b qs e => ?_⟩ λ a o e => ?_
 .by_cases z : b = P
  .subst z; exact ⟨_, ho⟩
  .exact ⟨o, k b o z e⟩
 .have z : b ≠ P := λ z => by rw [z, hP] at e; cases e
  rw [aU z]; exact e
 .have z : b ≠ P := λ z => by rw [z, hP] at e; cases e
  rw [aU z]; exact e
 .by_cases z : b = P
  .subst z
   rw [hP] at e; cases e
   obtain ⟨more, e⟩ := hm
   exact ⟨more, by rw [dw, e]⟩
  .exact ⟨#[], by rw [aU z, e]; simp⟩
 .by_cases z : a = P
  .subst z
   rw [dw] at e; cases e
   exact ho
  .rw [aU z] at e
   refine (I.hok a o e).stay (λ b u hb q => k b u ?_ q) (λ b q => ?_) λ b xs q => ?_
   .rcases hb with r | r
    .rw [r]; exact z
    .exact λ y => by rw [y, hP] at r; cases r
   .have y : b ≠ P := λ y => by rw [y, hP] at q; cases q
    rw [aU y]; exact q
   .have y : b ≠ P := λ y => by rw [y, hP] at q; cases q
    rw [aU y]; exact q
def vY (H : Hp) (v : Value) : Prop := ∃ c o vs u, v = .ref c /\ H c = some (.frz o (.own 0)) /\ o.data = .fields vs /\ vs[1]? = some u
def TOk (H : Hp) (ps : Array Value) : Prop := TriplesOk ps.toList /\ ∀ pos v, codeAmong pos ps.toList = some v -> vY H v
theorem TOk.mono {H H' : Hp} {ps : Array Value} (h : TOk H ps) (k : ∀ c o, H c = some (.frz o (.own 0)) -> H' c = some (.frz o (.own 0))) : TOk H' ps :=
 ⟨h.1, λ pos v e => let ⟨c, o, vs, u, e1, e2, e3⟩ := h.2 pos v e; ⟨c, o, vs, u, e1, k c o e2, e3⟩⟩
theorem TOk.nil {H : Hp} : TOk H #[] := ⟨by unfold TriplesOk; trivial, λ pos v e => by simp [codeAmong] at e⟩
theorem Av {pos : Pos} {a b : Int} {c v : Value} : ∀ (l : List Value), TriplesOk l -> codeAmong pos (l ++ [rawInt a, rawInt b, c]) = some v -> codeAmong pos l = some v ∨ v = c := λ l h => by
 fun_induction TriplesOk l with
 | case1 =>
  intro e
  right
  simp only [List.nil_append, rawInt, codeAmong] at e
  split at e
  .cases e; rfl
  .cases e
 | case2 line t col u x rest ih =>
  intro e
  simp only [List.cons_append, codeAmong] at e ⊢
  split at e
  .rename_i hc
   left; rw [if_pos hc]; exact e
  .rename_i hc
   rw [if_neg hc]
   exact ih h e
 | case3 => exact h.elim
structure Bc (lo : Nat) (P : Addr) (ps ps' : Array Value) (H H' : Hp) : Prop where
 tab : H' P = some (.tbl ps')
 more : ∃ more, ps' = ps ++ more
 ok : TOk H' ps'
 keep : ∀ b o, b ≠ P -> H b = some o -> H' b = some o
 none : ∀ b, b < lo -> H b = none -> H' b = none
theorem Inv.reg {c : Addr} {o : Obj} (I : Inv X pins σ H s) (ho : s.heap.get? c = some o) (hn : H c = none) (hnew : X.s₀.heap.objs.size <= c) (hL : c ≠ X.env.locals) (hc : ∀ x d, X.env.cells.lookup x = some d -> d ≠ c) (hp : ∀ p ∈ X.pn ++ pins, p.1 ≠ c) :
  Inv X pins σ (upd H c (.frz o (.own 0))) s := by
 have ne : ∀ b u, H b = some u -> b ≠ c := λ b u e z => by rw [z, hn] at e; cases e
 refine ⟨I.ok, I.os, I.bare, ⟨I.base.keep, I.base.slot, λ b ob e n hx => ?_, I.base.there, λ b xs e => ?_, λ b ob u e => ?_, λ b ps e => ?_⟩, I.loc, I.cell, ?_, λ x d e => ?_, λ p hp' => ?_, λ a u e => ?_, I.len⟩
 .rw [aU (Nat.ne_of_lt (Nat.lt_of_lt_of_le (Heap.lt_size e) hnew))]; exact I.base.free b ob e n hx
 .have q := I.base.tups b xs e
  rw [aU (ne _ _ q)]; exact q
 .have q := I.base.frzs b ob u e
  rw [aU (ne _ _ q)]; exact q
 .obtain ⟨more, q⟩ := I.base.tbls b ps e
  exact ⟨more, by rw [aU (ne _ _ q)]; exact q⟩
 .rw [aU (Ne.symm hL)]; exact I.free
 .rw [aU (hc x d e)]; exact I.freeC x d e
 .obtain ⟨a, b, r⟩ := I.pin p hp'
  exact ⟨a, by rw [aU (hp p hp')]; exact b, r⟩
 .by_cases z : a = c
  .subst z
   rw [dw] at e; cases e
   exact ⟨ho, o, ho⟩
  .rw [aU z] at e
   exact (I.hok a u e).stay (λ b v _ q => q) (λ b q => by rw [aU (ne _ _ q)]; exact q) λ b xs q => by rw [aU (ne _ _ q)]; exact q
theorem vz {P c' : Addr} {ps vs : Array Value} {u : Value} {oc : Obj} {h' : Heap} {tk : Nat} {pos : Pos} {G : Prop} (I : Inv X pins σ H s) (hP : H P = some (.tbl ps)) (ht : TOk H ps) (hge : s.heap.objs.size <= c') (hoc : h'.get? c' = some oc) (hdd : oc.data = .fields vs) (hv : vs[1]? = some u)
  (k : ∀ b o, b ≠ P -> s.heap.get? b = some o -> h'.get? b = some o) (ho : h'.get? P = some { cls := .none, data := .fields (ps ++ #[rawInt pos.line, rawInt pos.col, .ref c']) })
  (h : Bc s.heap.objs.size P ps (ps ++ #[rawInt pos.line, rawInt pos.col, .ref c']) H (upd (upd H P (.tbl (ps ++ #[rawInt pos.line, rawInt pos.col, .ref c']))) c' (.frz oc (.own 0))) -> Inv X pins σ (upd (upd H P (.tbl (ps ++ #[rawInt pos.line, rawInt pos.col, .ref c']))) c' (.frz oc (.own 0))) { s with heap := h', toks := tk } -> G) : G := by
 have lt := λ {b : Addr} {o : Obj} (e : s.heap.get? b = some o) => Nat.lt_of_lt_of_le (Heap.lt_size e) hge
 have cP : P ≠ c' := Nat.ne_of_lt (lt (I.hok P _ hP))
 have hn : H c' = none := I.hok.fresh hge
 generalize hps : ps ++ #[rawInt pos.line, rawInt pos.col, .ref c'] = ps' at *
 have I1 : Inv X pins σ (upd H P (.tbl ps')) { s with heap := h', toks := tk } := I.tbl hP ⟨_, hps.symm⟩ k ho
 have I2 : Inv X pins σ (upd (upd H P (.tbl ps')) c' (.frz oc (.own 0))) { s with heap := h', toks := tk } := I1.reg hoc (by rw [aU (Ne.symm cP)]; exact hn) (Nat.le_trans I.sz hge) (Nat.ne_of_gt (Nat.lt_of_lt_of_le I.lt hge))
  (λ x d e => by
   obtain ⟨v, o, e2, _⟩ := I.cell x d e
   exact Nat.ne_of_lt (lt e2)) λ p hp => Nat.ne_of_lt (lt (I.pin p hp).1)
 have kp : ∀ b o, b ≠ P -> H b = some o -> upd (upd H P (.tbl ps')) c' (.frz oc (.own 0)) b = some o := λ b o hb e => by
  have hbc : b ≠ c' := λ z => by rw [z, hn] at e; cases e
  rw [aU hbc, aU hb]; exact e
 refine h ⟨by rw [aU cP, dw], ⟨_, hps.symm⟩, ⟨?_, λ p v e => ?_⟩, kp, λ b hb e => ?_⟩ I2
 .rw [<- hps]
  have hl : (ps ++ #[rawInt pos.line, rawInt pos.col, Value.ref c']).toList = ps.toList ++ [rawInt pos.line, rawInt pos.col, .ref c'] := by simp
  rw [hl]; exact TriplesOk_snoc _ _ _ _ ht.1
 .rw [<- hps] at e
  have hl : (ps ++ #[rawInt pos.line, rawInt pos.col, Value.ref c']).toList = ps.toList ++ [rawInt pos.line, rawInt pos.col, .ref c'] := by simp
  rw [hl] at e
  rcases Av _ ht.1 e with e | e
  .obtain ⟨c, o, ws, w, q1, q2, q3⟩ := ht.2 p v e
   exact ⟨c, o, ws, w, q1, kp c _ (λ z => by rw [z, hP] at q2; cases q2) q2, q3⟩
  .exact ⟨c', oc, vs, u, e, dw, hdd, hv⟩
 .have hbc : b ≠ c' := Nat.ne_of_lt (Nat.lt_of_lt_of_le hb hge)
  have hbP : b ≠ P := λ z => by rw [z, hP] at e; cases e
  rw [aU hbc, aU hbP]; exact e
theorem QQ {c P : Addr} {ps : Array Value} {pos : Pos} {q : Str} {scope : Scope} {Q : Value -> Shared -> Prop} {A : Around} {E : Value -> Shared -> Prop} (I : Inv X pins σ H s) (hc : X.env.code = .ref c) (hd : PySem.W.CodeHd X.base c P) (hP : H P = some (.tbl ps)) (ht : TOk H ps)
  (h : ∀ code s' H' ps', Bc s.heap.objs.size P ps ps' H H' -> Inv X pins σ H' s' -> s'.gens = s.gens -> (∀ b o, b ≠ P -> s.heap.get? b = some o -> s'.heap.get? b = some o) -> Q code s') :
  wpAny (model X.prog X.w) A (genexprCode X.env pos q scope) Q E s := by
 have hd' : PySem.W.CodeHd s.heap c P := hd.keeps I.bk
 have oP : s.heap.get? P = some (PySem.W.tabObj ps) := I.hok P _ hP
 have hok : s.heap.IsCode c P ps := hd'.code oP ht.1
 have htab : s.heap.TableAt c P ps := hd'.tab oP
 cases hnf : codeAmong pos ps.toList with
 | some cv =>
  obtain ⟨o, vs, file, tf, flags, tg, inF, text, tt, op, ho, hdd, h11, h2, h7, h9, h10, hop, hpd, htr, hne⟩ := id hok
  unfold genexprCode codeAt
  rw [hc, if_neg (show ¬ ((Value.ref c == Value.none) = true) from Bool.false_ne_true)]
  refine wpAny_bind (wpAny_fieldsOf ho hdd ?_)
  rw [h11]
  refine wpAny_bind (wpAny_fieldsOf hop hpd ?_)
  rw [hnf]
  exact wpAny_pure (h cv s H ps ⟨hP, ⟨#[], by simp⟩, ht, λ _ _ _ e => e, λ _ _ e => e⟩ I rfl λ b o _ e => e)
 | none =>
  refine wpAny_genexprCodeX hc hok htab hnf λ c' h' tk hx hge hlt hcode hrec htab' _ => ?_
  obtain ⟨c2, oc, vs, t, e2, hoc, hdd, hv⟩ := hrec
  cases e2
  exact vz I hP ht hge hoc hdd hv (λ b o hb e => hx b o hb e) htab'.2 λ hG I' => h (.ref c') _ _ _ hG I' rfl λ b o hb e => hx b o hb e
end
def Hf (J : It) (g : TG) (te : TE) (σb : St) : qQ where
 nxt := λ i H Q => J.go i H /\ ∀ x H', J.yld i H x H' -> g x σb H' λ σ2 H2 => Fits σb σ2 /\ te σ2 H2 Q
 fin := λ i H => J.stop i H
def tGen (own : List Str) (capI : List Nat) (P : Addr) (wi : TI) (g : TG) (te : TE) : qU := λ σ H R => wi σ H λ J H1 => ∃ ps, H1 P = some (.tbl ps) /\ TOk H1 ps /\
 ∀ lo H2 ps', Bc lo P ps ps' H1 H2 -> R (Hf J g te (cJ own σ capI)) H2
theorem xQ {A : Around} {elt tg iter : Expr} {scope : Scope} {pos : Pos} {it : Addr} {cenv : Env} {l : List Env} (h : A.frames = some l) : (A.over (ji elt tg iter scope pos it cenv) []).frames = some (cenv :: l) := by
 unfold Around.over
 show pushEnvs (Code.envs (ji elt tg iter scope pos it cenv)) (pushEnvs (envsOf []) A.frames) = _
 rw [h]; rfl
theorem Dn {X : Cx} {A' : Around} {elt tg iter : Expr} {scope : Scope} {pos : Pos} {it : Addr} {cenv : Env} (hh : A'.handled = none) (hd : A'.depth <= X.A.depth + 1) (hu : A'.units <= X.A.units + 8) :
  ∀ k, dO (k + 1) X.A -> dO k (A'.in1.over (ji elt tg iter scope pos it cenv) []) := λ k r => by
 have e1 : (A'.in1.over (ji elt tg iter scope pos it cenv) []).depth = A'.depth + 1 := rfl
 have e2 : (A'.in1.over (ji elt tg iter scope pos it cenv) []).units = A'.units + 1 + 3 := rfl
 have e3 : (A'.in1.over (ji elt tg iter scope pos it cenv) []).handled = A'.handled := rfl
 have := r.dp
 have := r.un
 exact ⟨e3.trans hh, by rw [e1]; omega, by rw [e2]; omega⟩
section
variable {X : Cx} {tg iter elt : Expr} {wi : TI} {g : TG} {te : TE} {own cap : List Str} {capI : List Nat} {scope : Scope} {pos : Pos} {P : Addr} {kr : Nat}
theorem GC (hc : X.calm = true) (hr : dO kr X.A) (B : dI X own cap capI scope) (hown : ∀ x ∈ own, (x, NameKind.free) ∉ scope.names) (hnc : ∀ y ∈ scope.names, y.2 ≠ .cell) (h0 : scope.names.lookup (".0" : Str) = some NameKind.local)
  (hco : scope.isCoroutine = false) (htb : ∃ c, X.env.code = .ref c /\ PySem.W.CodeHd X.base c P) (hi : PI X tg iter wi) (hg : ∀ AG cs C code fp s2 H2, PG (sH X AG own cap scope cs C code fp s2 H2) tg g)
  (he : ∀ AG cs C code fp s2 H2, (∀ k, dO (k + 1) X.A -> dO k AG) -> PE (sH X AG own cap scope cs C code fp s2 H2) elt te) (hs : ∀ x, genFold iter X.env x = pure x := by intro _; rfl) :
  xq X (Cy elt tg iter scope pos) (tGen own capI P wi g te) := by
 intro pins s σ H R I h
 obtain ⟨c, hcode, hhd⟩ := htb
 refine wpAny_GeneratorExp_make hco (iC (B.cells I)) hnc h0 B.kind hr.depth ?_ hs
 refine thn (hi pins s σ H _ I h) λ v s1 h1 => thn h1 λ itv s2 h2 => ?_
 obtain ⟨it, fp, tn, J, H2, e, I2, T, st2, f2, ps, hP, htr, hR⟩ := h2
 subst e
 refine ⟨I2.nolimit, QQ I2 hcode hhd hP htr λ code s4 H4 ps' hG I4 hgens hk4 => ?_⟩
 obtain ⟨bm, ob, b1, b2, b3, b4, b5, b6⟩ := I4.mod.bmain
 refine wpAny_builtinsFor (bm := bm) (by rw [I4.ok.glob]; exact I4.mod.glob.keeps I4.bk) b1 b2 (I4.bk _ _ b3) b4 b5 b6 ?_
 intro h5 hn5 hs5
 generalize hC : s4.heap.objs.size = C at hn5 hs5 ⊢
 have hCs : s4.heap.objs.size <= C := Nat.le_of_eq hC
 have hR' := hR _ H4 ps' hG
 have k5 : ∀ b o, s4.heap.get? b = some o -> h5.get? b = some o := λ b o e => hs5.extBut b o (Nat.ne_of_lt (Nat.lt_of_lt_of_le (Heap.lt_size e) hCs)) (Heap.get?_push_of_some _ e)
 have sz5 : h5.objs.size = C + 1 := by rw [hs5.1, Heap.size_push, hC]
 generalize ha : h5.objs.size = a
 have hCa : C < a := by rw [<- ha, sz5]; exact Nat.lt_succ_self _
 generalize hgi : s4.gens.size = gi
 generalize hgo : ({ cls := .type "generator", data := .fields #[.int (gi : Int) 0, .str "<genexpr>" (s4.toks + 1), .str (X.env.qual ++ "<genexpr>") (s4.toks + 1 + 1)] } : Obj) = gob
 generalize hh6 : h5.push gob = h6
 have k6 : ∀ b o, h5.get? b = some o -> h6.get? b = some o := λ b o e => by rw [<- hh6]; exact Heap.get?_push_of_some _ e
 have k46 : ∀ b o, s4.heap.get? b = some o -> h6.get? b = some o := λ b o e => k6 b o (k5 b o e)
 have oa6 : h6.get? a = some gob := by rw [<- hh6, <- ha]; refine Heap.get?_push_size _ ?_; rw [<- hgo]; rfl
 have isg : ∀ {h : Heap}, h.get? a = some gob -> h.IsGen a gi := λ {h} e => ⟨gob, .str "<genexpr>" (s4.toks + 1), .str (X.env.qual ++ "<genexpr>") (s4.toks + 1 + 1), e, by rw [<- hgo], by rw [<- hgo], by rw [<- hgo]⟩
 have hfr4 : ∀ b ∈ fp, H4 b = none := λ b hb => let ⟨o, e, _⟩ := T.obj 0 _ st2 b hb; hG.none b (Heap.lt_size e) (f2 b hb).1
 have f4 : ∀ b ∈ fp, kW X pins H4 b := λ b hb => ⟨hfr4 b hb, (f2 b hb).2⟩
 have hbP : ∀ b ∈ fp, b ≠ P := λ b hb z => by have n2 := (f2 b hb).1; rw [z, hP] at n2; cases n2
 have o4 : ∀ b ∈ fp, ∃ o, s4.heap.get? b = some o := λ b hb => let ⟨o, e, _⟩ := T.obj 0 _ st2 b hb; ⟨o, hk4 b o (hbP b hb) e⟩
 have st4 : tn 0 s4.heap := T.keep _ _ _ st2 λ b hb o e => hk4 b o (hbP b hb) e
 have hfa : ∀ b ∈ fp, b ≠ a /\ b ≠ C := λ b hb => let ⟨o, e⟩ := o4 b hb
  have l := Nat.lt_of_lt_of_le (Heap.lt_size e) hCs
  ⟨Nat.ne_of_lt (Nat.lt_trans l hCa), Nat.ne_of_lt l⟩
 generalize hcenv : genEnv scope (bT X.env scope.names []) C code builtinsNs X.env = cenv
 have gk6 : GK s4.gens (s4.gens.push (.fresh (genS elt tg iter scope pos it cenv))) := by
  refine ⟨AllBare.push I4.bare.bare rfl, λ k x e => ?_⟩
  have hlt : k < s4.gens.size := by
   rcases Nat.lt_or_ge k s4.gens.size with z | z
   .exact z
   .rw [Array.getElem?_eq_none z] at e; cases e
  rw [Array.getElem?_push_lt hlt, <- Array.getElem?_eq_getElem hlt]; exact e
 refine ⟨a, Hf J g te (cJ own σ capI), H4, rfl, I4.grown k46 gk6, ?_, hR'⟩
 intro A' hAh hAf hAd hAu
 have gi6 : (s4.gens.push (.fresh (genS elt tg iter scope pos it cenv)))[gi]? = some (.fresh (genS elt tg iter scope pos it cenv)) := by rw [<- hgi]; simp
 generalize hX' : sH X (A'.in1.over (ji elt tg iter scope pos it cenv) []) own cap scope (bT X.env scope.names []) C code fp s4 H4 = X'
 have eP : X'.prog = X.prog := by rw [<- hX']; rfl
 have eW : X'.w = X.w := by rw [<- hX']; rfl
 have eK : X'.K = X.K := by rw [<- hX']; rfl
 have eFs : X'.fs = frs X.stack := by rw [<- hX']; rfl
 have eEx : X'.ex = fp := by rw [<- hX']; rfl
 have eS : X'.s₀ = { s4 with gens := s4.gens.push .running } := by rw [<- hX']; rfl
 have eH : X'.H₀ = H4 := by rw [<- hX']; rfl
 have eL : X'.env.locals = C := by rw [<- hX']; rfl
 have eC : X'.calm = true := by rw [<- hX']; rfl
 have eX : X'.xe = λ _ _ => False := by rw [<- hX']; rfl
 have ePn : X'.pn = [] := by rw [<- hX']; rfl
 have eE : X'.env = cenv := by rw [<- hX', <- hcenv]; rfl
 have eA : X'.A = A'.in1.over (ji elt tg iter scope pos it X'.env) [] := by rw [eE, <- hX']; rfl
 have eCo : X'.env.scope.isCoroutine = false := by rw [<- hX']; exact hco
 have hg' : PG X' tg g := by rw [<- hX']; exact hg _ _ _ _ _ _ _
 have he' : PE X' elt te := by rw [<- hX']; exact he _ _ _ _ _ _ _ (Dn hAh hAd hAu)
 have T' : Turn X'.prog X'.w X'.K tg J fp it tn := by rw [eP, eW, eK]; exact T
 have pfp : ∀ {Q : List (Addr × Obj)}, (∀ p ∈ Q, a < p.1) -> ∀ p ∈ (a, gob) :: Q, p.1 ∉ fp := λ {Q} hQ p hp hb => by
  obtain ⟨o, e⟩ := o4 _ hb
  have l := Nat.lt_of_lt_of_le (Heap.lt_size e) hCs
  rcases List.mem_cons.mp hp with z | z
  .subst z; exact absurd (Nat.lt_trans l hCa) (Nat.lt_irrefl _)
  .exact absurd (Nat.lt_trans (Nat.lt_trans l hCa) (hQ p z)) (Nat.lt_irrefl _)
 have afs : a ∉ X'.fs := λ hz => by
  rw [eFs] at hz
  have l4 : s4.heap.objs.size <= a := Nat.le_trans hCs (Nat.le_of_lt hCa)
  rcases List.mem_cons.mp (I4.stkSub a hz) with z | z
  .exact absurd I4.lt (by rw [<- z]; exact Nat.not_lt.mpr l4)
  .exact I4.nofs l4 z
 have setg : ∀ (s : Shared) (x : GenState), (s.setGen gi x).gens = s.gens.setIfInBounds gi x := λ s x => rfl
 have hSS : ∀ {Q : List (Addr × Obj)} {i : Nat} {H : Hp} {s : Shared}, (∀ p ∈ Q, a < p.1) -> Inv X' ((a, gob) :: Q) (cJ own σ capI) H s -> s.heap.get? a = some gob /\ s.gens[gi]? = some .running /\
   ∀ (x : GenState) (h' : Heap) (tk : Nat), x.bare = true -> (∀ b o, s.heap.get? b = some o -> h'.get? b = some o) -> Inv X (pins ++ Q) σ H { s.setGen gi x with heap := h', toks := tk } := λ {Q i H s} hQ I' => by
  have pa := (I'.pin (a, gob) (by simp)).1
  have gr : s.gens[gi]? = some .running := I'.bare.kept gi .running (by rw [eS, <- hgi]; simp)
  refine ⟨pa, gr, λ x h' tk hx hk => ?_⟩
  have ub := I'.base
  rw [eFs, eEx, eS, eH] at ub
  have hok := I'.hok
  rw [eP, eW] at hok
  refine Inv.more ?_ λ p hp => by
   have q := I'.pin p (by simp [hp])
   have l4 : s4.heap.objs.size <= p.1 := Nat.le_trans hCs (Nat.le_of_lt (Nat.lt_trans hCa (hQ p hp)))
   exact ⟨hk _ _ q.1, q.2.1, λ z => absurd I4.lt (by rw [<- z]; exact Nat.not_lt.mpr l4), I4.nofs l4, q.2.2.2.2⟩
  refine I4.call' (ch := fp) (s' := { s.setGen gi x with heap := h', toks := tk }) (by have := I'.os; rw [eS] at this; exact this)
   ⟨λ b o e n hb hx' => hk b o (ub.keep b o e n hb hx'), λ b o e n hb hx' => let ⟨sl, q⟩ := ub.slot b o e n hb hx'; ⟨sl, hk b _ q⟩, ub.free, λ b o e hx' => let ⟨o', q⟩ := ub.there b o e hx'; ⟨o', hk b o' q⟩, ub.tups, ub.frzs, ub.tbls⟩
   (hok.kept hk) ⟨λ y hy => ?_, λ k y e => ?_⟩ λ b hb => ?_
  .have hy' : y ∈ s.gens.setIfInBounds gi x := hy
   rcases Array.mem_or_eq_of_mem_setIfInBounds hy' with z | z
   .exact I'.bare.bare y z
   .rw [z]; exact hx
  .have hlt : k < gi := by
    rw [<- hgi]
    rcases Nat.lt_or_ge k s4.gens.size with z | z
    .exact z
    .rw [Array.getElem?_eq_none z] at e; cases e
   have q := I'.bare.kept k y (by rw [eS]; show (s4.gens.push .running)[k]? = some y; rw [Array.getElem?_push_lt (by rw [hgi]; exact hlt), <- Array.getElem?_eq_getElem (by rw [hgi]; exact hlt)]; exact e)
   show (s.gens.setIfInBounds gi x)[k]? = some y
   rw [Array.getElem?_setIfInBounds_ne (Nat.ne_of_gt hlt)]
   exact q
  .obtain ⟨q0, q1, q2, q3, q4, q5⟩ := f4 b hb
   exact ⟨q3, q1, q4, q5⟩
 refine ⟨a + 1, λ Q i H s => (∀ p ∈ Q, a < p.1) /\ Inv X (pins ++ Q) σ H s /\ (∃ gs, s.gens[gi]? = some gs /\ gs.bare = true /\ (gs = .fresh (genS elt tg iter scope pos it X'.env) ∨ ∃ k l p cl, gs = .suspended k l (ji elt tg iter scope pos it X'.env) p [] cl /\ k (.send .none) = .pure (.again (ji elt tg iter scope pos it X'.env)))) /\
   Inv X' ((a, gob) :: Q) (cJ own σ capI) H (s.setGen gi .running) /\ tn i s.heap /\ ∀ b ∈ fp, H b = none, ⟨λ st => st.2.1, ?_, ?_, ?_, ?_, ?_, ?_⟩, ?_, Nat.lt_succ_self _, ?_, λ Q i H s st => ⟨gi, isg (hSS (i := i) st.1 st.2.2.2.1).1⟩⟩
 .
  rintro PP i H s Q E ⟨hQ, I1, ⟨gs, hgs, hb, hgs'⟩, Ib, st, fr⟩ ⟨go, step⟩
  have tr := Et (A1 := A'.in1) (elt := elt) (tg := tg) (iter := iter) (scope := scope) (pos := pos) T' eA eC eEx ePn eCo eX hg' he' (pfp hQ) Ib st fr go step
  have oa := (hSS (i := i) hQ Ib).1
  rw [eP, eW] at tr
  refine qC hAh I1.nolimit (by have := hr.dp; omega) (isg oa) hgs (Φ := λ e s' => ∃ v k p y H', e = .susp v false [] k (ji elt tg iter scope pos it X'.env) p [] /\ k (.send .none) = .pure (.again (ji elt tg iter scope pos it X'.env)) /\ RelV y v /\ Q y H' /\ Inv X' ((a, gob) :: PP) (cJ own σ capI) H' s' /\ tn (i + 1) s'.heap /\ ∀ b ∈ fp, H' b = none) ?_ ?_ ?_
  .rcases hgs' with e | ⟨k, l, p, cl, e, ek⟩
   .subst e
    exact vm (i := i) T st tr
   .subst e
    show cj _ _ _ (k (.send .none)) [] _ _
    rw [ek]
    exact cj.again rfl tr
  .rintro e s' ⟨v, k, p, y, H', rfl, _⟩
   rfl
  .rintro e s' ⟨v, k, p, y, H', rfl, ek, ry, qy, I', st', fr'⟩
   left
   refine ⟨v, false, [], k, _, p, [], rfl, v, y, H', rfl, ry, qy, ?_⟩
   obtain ⟨oa', gr', mk⟩ := hSS (i := i) hQ I'
   have e1 : ((s'.setGen gi (End.susp v false [] k (ji elt tg iter scope pos it X'.env) p []).genState).setGen gi .running) = s' := by
    have hl : gi < s'.gens.size := by
     rcases Nat.lt_or_ge gi s'.gens.size with z | z
     .exact z
     .rw [Array.getElem?_eq_none z] at gr'; cases gr'
    obtain ⟨hh, gg, dd, tt, oo⟩ := s'
    show (Shared.mk hh ((gg.setIfInBounds gi _).setIfInBounds gi .running) dd tt oo) = _
    congr 1
    apply Array.ext_getElem?
    intro j
    by_cases hj : gi = j
    .subst hj
     have gr'' : gg[gi]? = some .running := gr'
     have hl' : gi < gg.size := hl
     rw [gr'']
     simp [hl']
    .simp [hj]
   refine ⟨hQ, mk _ s'.heap s'.toks rfl λ b o e => e, ⟨_, setGen_self gr', rfl, .inr ⟨k, [], p, _, rfl, ek⟩⟩, by rw [e1]; exact I', st', fr'⟩
 .
  rintro PP i H s E ⟨hQ, I1, ⟨gs, hgs, hb, hgs'⟩, Ib, st, fr⟩ hfin
  have tr := Fg (A1 := A'.in1) (elt := elt) (tg := tg) (iter := iter) (scope := scope) (pos := pos) T' eA eC eEx ePn (pfp hQ) Ib st fr hfin
  have oa := (hSS (i := i) hQ Ib).1
  rw [eP, eW] at tr
  refine qC hAh I1.nolimit (by have := hr.dp; omega) (isg oa) hgs (Φ := λ e s' => e = .ret (.ok .next) /\ Inv X' ((a, gob) :: PP) (cJ own σ capI) H s') ?_ ?_ ?_
  .rcases hgs' with e | ⟨k, l, p, cl, e, ek⟩
   .subst e
    exact vm (i := i) T st tr
   .subst e
    show cj _ _ _ (k (.send .none)) [] _ _
    rw [ek]
    exact cj.again rfl tr
  .rintro e s' ⟨rfl, _⟩
   rfl
  .rintro e s' ⟨rfl, I'⟩
   right
   obtain ⟨oa', gr', mk⟩ := hSS (i := i) hQ I'
   exact ⟨rfl, λ h' hk => ⟨rfl, mk .finished h' s'.toks rfl hk⟩⟩
 .
  rintro PP i H s h' tk ⟨hQ, I1, hgs, Ib, st, fr⟩ hk
  exact ⟨hQ, I1.kept hk, hgs, Ib.kept (s := s.setGen gi .running) hk, T.keep _ _ _ st λ b _ o e => hk b o e, fr⟩
 .
  rintro PP i H s D o ⟨hQ, I1, hgs, Ib, st, fr⟩ hD ho hn hcell
  have hDa : a < D := hD
  have hD4 : s4.heap.objs.size <= D := Nat.le_of_lt (Nat.lt_of_le_of_lt hCs (Nat.lt_trans hCa hDa))
  refine ⟨λ p hp => ?_, ?_, hgs, ?_, st, fr⟩
  .rcases List.mem_cons.mp hp with z | z
   .subst z; exact hDa
   .exact hQ p z
  .refine I1.pins_of λ p hp => ?_
   rcases List.mem_append.mp hp with z | z
   .exact I1.pin p (by simp [z])
   .rcases List.mem_cons.mp z with z | z
    .subst z
     exact ⟨ho, hn, λ z => absurd I4.lt (by rw [<- z]; exact Nat.not_lt.mpr hD4), I4.nofs hD4, hcell⟩
    .exact I1.pin p (by simp [z])
  .refine Ib.pins_of λ p hp => ?_
   rcases List.mem_cons.mp hp with z | z
   .exact Ib.pin p (by simp [z])
   .rcases List.mem_cons.mp z with z | z
    .subst z
     refine ⟨ho, hn, by rw [eL]; exact Nat.ne_of_gt (Nat.lt_trans hCa hDa), λ hz => ?_, hcell⟩
     rw [eFs] at hz
     rcases List.mem_cons.mp (I4.stkSub D hz) with z | z
     .exact absurd I4.lt (by rw [<- z]; exact Nat.not_lt.mpr hD4)
     .exact I4.nofs hD4 z
    .exact Ib.pin p (by simp [z])
 .
  rintro p PP i H s ⟨hQ, I1, hgs, Ib, st, fr⟩
  exact ⟨λ q hq => hQ q (List.mem_cons_of_mem _ hq), I1.pins_of λ q hq => I1.pin q (by rcases List.mem_append.mp hq with z | z <;> simp [z]), hgs, Ib.pins_of λ q hq => Ib.pin q (by rcases List.mem_cons.mp hq with z | z <;> simp [z]), st, fr⟩
 .
  rintro PP i H s h' tk D ⟨hQ, I1, hgs, Ib, st, fr⟩ hD hn hPD hk
  have hDa : a < D := hD
  have hDC : C < D := Nat.lt_trans hCa hDa
  have hD4 : s4.heap.objs.size <= D := Nat.le_of_lt (Nat.lt_of_le_of_lt hCs hDC)
  have l4 : ∀ b, b < s4.heap.objs.size -> b ≠ D := λ b hb => Nat.ne_of_lt (Nat.lt_of_lt_of_le hb hD4)
  have cl4 : ∀ x c, X.env.cells.lookup x = some c -> c ≠ D := λ x c e => let ⟨v, q⟩ := I4.cell x c e; l4 c q.lt
  refine ⟨hQ, I1.turned hk hn (Ne.symm (l4 _ I4.lt)) (.inr (Nat.le_trans I4.sz hD4)) cl4 (λ p hp => ?_), hgs, Ib.turned (s := s.setGen gi .running) hk hn (by rw [eL]; exact Nat.ne_of_gt hDC) (.inr (by rw [eS]; exact hD4)) (λ x c e => ?_) (λ p hp => ?_), T.keep _ _ _ st λ b hb o e => hk b o ?_ e, fr⟩
  .rcases List.mem_append.mp hp with z | z
   .exact l4 _ (Heap.lt_size (I4.pin p (by simp [z])).1)
   .rcases List.mem_append.mp z with z | z
    .exact l4 _ (Heap.lt_size (I4.pin p (by simp [z])).1)
    .exact hPD p z
  .obtain ⟨v, q⟩ := Ib.cell x c e
   have e' : (bT X.env scope.names []).lookup x = some c := by rw [<- hX'] at e; exact e
   exact cl4 x c ((jR (PySem.mem_of_lookup e')).elim (λ z => by simp at z) id)
  .rw [ePn, List.nil_append] at hp
   rcases List.mem_cons.mp hp with z | z
   .subst z; exact Nat.ne_of_lt hDa
   .exact hPD p z
  .obtain ⟨o', e'⟩ := o4 b hb
   exact l4 b (Heap.lt_size e')
 .
  have Ib0 : Inv X' [] (cJ own σ capI) H4 { s4 with heap := h6, toks := s4.toks + 1 + 1 + 1, gens := s4.gens.push .running } := by
   rw [<- hX']
   refine I4.gen B hown hnc f4 o4 k46 hCs (hn5.at' λ o e => k6 _ o e) ?_ hAh
   rw [hcenv]
   exact xQ hAf
  refine ⟨λ p hp => absurd hp (by simp), by rw [List.append_nil]; exact (I4.grown k46 gk6 : Inv X pins σ H4 _), ⟨_, gi6, rfl, .inl (by rw [eE])⟩, ?_, T.keep _ _ _ st4 λ b _ o e => k46 b o e, hfr4⟩
  have e1 : (Shared.setGen { s4 with gens := s4.gens.push (.fresh (genS elt tg iter scope pos it cenv)), toks := s4.toks + 1 + 1 + 1, heap := h6 } gi .running) = { s4 with heap := h6, toks := s4.toks + 1 + 1 + 1, gens := s4.gens.push .running } := by
   show Shared.mk _ ((s4.gens.push _).setIfInBounds gi .running) _ _ _ = _
   congr 1
   rw [<- hgi]
   apply Array.ext_getElem?
   intro j
   by_cases hj : s4.gens.size = j
   .subst hj; simp
   .simp [hj, Array.getElem?_push, Ne.symm hj]
  rw [e1]
  exact Ib0.pins_of λ p hp => by
   obtain rfl : p = (a, gob) := by simpa using hp
   refine ⟨oa6, ?_, by rw [eL]; exact Nat.ne_of_gt hCa, afs, λ v z => ?_⟩
   .exact I4.hok.fresh (Nat.le_trans hCs (Nat.le_of_lt hCa))
   .rw [<- hgo] at z; cases z
 .show a + 1 <= h6.objs.size
  rw [<- hh6, Heap.size_push, ha]
  exact Nat.le_refl _
end
end L2
namespace L3
open PySem PySem.Spec PyProof.Rows L2
inductive D where
 | non | bl (b : Bool) | int (i : Int) | str (x : Str) | tup (ds : List D) | lst (ds : List D) | ro (ds : List D) | dic (kvs : List (Key × D)) | cell (n : Nat)
abbrev Mu := List (Option (List D))
abbrev En := List (Option D)
mutual
def bu (K : PySem.W.Frag) (F : Hp) (ad : List Addr) : D -> V -> Prop
 | .non, v => v = .non
 | .bl b, v => v = .bl b
 | .int i, v => v = .int i
 | .str x, v => v = .str x
 | .tup ds, v => ∃ a xs, v = .ref a /\ SqT K F a xs /\ aF K F ad ds xs
 | .lst ds, v => ∃ a xs, v = .ref a /\ F a = some (.lst xs) /\ aF K F ad ds xs
 | .ro ds, v => ∃ a xs, v = .ref a /\ SqL K F a xs /\ aF K F ad ds xs
 | .dic kvs, v => ∃ a ps, v = .ref a /\ F a = some (.dK ps) /\ iM K F ad kvs ps
 | .cell n, v => ∃ a, v = .ref a /\ ad[n]? = some a
def aF (K : PySem.W.Frag) (F : Hp) (ad : List Addr) : List D -> List V -> Prop
 | [], vs => vs = []
 | d :: ds, vs => ∃ u us, vs = u :: us /\ bu K F ad d u /\ aF K F ad ds us
def iM (K : PySem.W.Frag) (F : Hp) (ad : List Addr) : List (Key × D) -> List (Key × V) -> Prop
 | [], vs => vs = []
 | p :: ds, vs => ∃ u us, vs = u :: us /\ (u.1 = p.1 /\ bu K F ad p.2 u.2) /\ iM K F ad ds us
end
def mV (a b : List Addr) : Prop := ∀ (i : Nat) x, a[i]? = some x -> b[i]? = some x
theorem mV.refl (a : List Addr) : mV a a := λ _ _ e => e
theorem mV.trans {a b c : List Addr} (x : mV a b) (y : mV b c) : mV a c := λ i z e => y i z (x i z e)
theorem SqT.mono {K : PySem.W.Frag} {F F' : Hp} {a : Addr} {xs : List V} (s : lF F F') (h : SqT K F a xs) : SqT K F' a xs := by
 rcases h with (h | ⟨o, h⟩) | h
 .exact .inl (.inl (s _ _ h))
 .exact .inl (.inr ⟨o, s _ _ h⟩)
 .exact .inr h
theorem SqL.mono {K : PySem.W.Frag} {F F' : Hp} {a : Addr} {xs : List V} (s : lF F F') (h : SqL K F a xs) : SqL K F' a xs := by
 rcases h with (h | ⟨o, h⟩) | h
 .exact .inl (.inl (s _ _ h))
 .exact .inl (.inr ⟨o, s _ _ h⟩)
 .exact .inr h
section
variable {K : PySem.W.Frag} {F F' : Hp} {ad ad' : List Addr}
mutual
theorem bu.mono (s : lF F F') (l : mV ad ad') : ∀ (d : D) (v : V), bu K F ad d v -> bu K F' ad' d v
 | .non, v, h => by unfold bu at h ⊢; exact h
 | .bl _, v, h => by unfold bu at h ⊢; exact h
 | .int _, v, h => by unfold bu at h ⊢; exact h
 | .str _, v, h => by unfold bu at h ⊢; exact h
 | .tup ds, v, h => by
  unfold bu at h ⊢
  obtain ⟨a, xs, e, q, r⟩ := h
  exact ⟨a, xs, e, SqT.mono s q, aF.mono s l ds xs r⟩
 | .lst ds, v, h => by
  unfold bu at h ⊢
  obtain ⟨a, xs, e, q, r⟩ := h
  exact ⟨a, xs, e, s _ _ q, aF.mono s l ds xs r⟩
 | .ro ds, v, h => by
  unfold bu at h ⊢
  obtain ⟨a, xs, e, q, r⟩ := h
  exact ⟨a, xs, e, SqL.mono s q, aF.mono s l ds xs r⟩
 | .dic kvs, v, h => by
  unfold bu at h ⊢
  obtain ⟨a, ps, e, q, r⟩ := h
  exact ⟨a, ps, e, s _ _ q, iM.mono s l kvs ps r⟩
 | .cell n, v, h => by
  unfold bu at h ⊢
  obtain ⟨a, e, q⟩ := h
  exact ⟨a, e, l _ _ q⟩
theorem aF.mono (s : lF F F') (l : mV ad ad') : ∀ (ds : List D) (vs : List V), aF K F ad ds vs -> aF K F' ad' ds vs
 | [], vs, h => by unfold aF at h ⊢; exact h
 | d :: ds, vs, h => by
  unfold aF at h ⊢
  obtain ⟨u, us, e, p, r⟩ := h
  exact ⟨u, us, e, bu.mono s l d u p, aF.mono s l ds us r⟩
theorem iM.mono (s : lF F F') (l : mV ad ad') : ∀ (ds : List (Key × D)) (vs : List (Key × V)), iM K F ad ds vs -> iM K F' ad' ds vs
 | [], vs, h => by unfold iM at h ⊢; exact h
 | p :: ds, vs, h => by
  unfold iM at h ⊢
  obtain ⟨u, us, e, ⟨p1, p2⟩, r⟩ := h
  exact ⟨u, us, e, ⟨p1, bu.mono s l p.2 u.2 p2⟩, iM.mono s l ds us r⟩
end
theorem aF.nil : aF K F ad [] [] := by unfold aF; rfl
theorem aF.cons {d : D} {v : V} {ds : List D} {vs : List V} (h : bu K F ad d v) (r : aF K F ad ds vs) : aF K F ad (d :: ds) (v :: vs) := by unfold aF; exact ⟨v, vs, rfl, h, r⟩
theorem aF.length : ∀ {ds : List D} {vs : List V}, aF K F ad ds vs -> ds.length = vs.length
 | [], vs, h => by unfold aF at h; subst h; rfl
 | d :: ds, vs, h => by
  unfold aF at h
  obtain ⟨u, us, rfl, _, r⟩ := h
  rw [List.length_cons, List.length_cons, aF.length r]
theorem aF.get : ∀ {ds : List D} {vs : List V} {i : Nat} {d : D}, aF K F ad ds vs -> ds[i]? = some d -> ∃ v, vs[i]? = some v /\ bu K F ad d v
 | [], _, _, _, _, e => by simp at e
 | d :: ds, vs, 0, x, h, e => by
  unfold aF at h
  obtain ⟨u, us, rfl, p, r⟩ := h
  simp at e; subst e
  exact ⟨u, rfl, p⟩
 | d :: ds, vs, i + 1, x, h, e => by
  unfold aF at h
  obtain ⟨u, us, rfl, p, r⟩ := h
  obtain ⟨v, e1, e2⟩ := aF.get (i := i) r (by simpa using e)
  exact ⟨v, by simpa using e1, e2⟩
theorem aF.get' : ∀ {ds : List D} {vs : List V} {i : Nat} {v : V}, aF K F ad ds vs -> vs[i]? = some v -> ∃ d, ds[i]? = some d /\ bu K F ad d v
 | [], vs, i, v, h, e => by unfold aF at h; subst h; simp at e
 | d :: ds, vs, 0, x, h, e => by
  unfold aF at h
  obtain ⟨u, us, rfl, p, r⟩ := h
  simp at e; subst e
  exact ⟨d, rfl, p⟩
 | d :: ds, vs, i + 1, x, h, e => by
  unfold aF at h
  obtain ⟨u, us, rfl, p, r⟩ := h
  obtain ⟨y, e1, e2⟩ := aF.get' (i := i) r (by simpa using e)
  exact ⟨y, by simpa using e1, e2⟩
theorem aF.append : ∀ {ds es : List D} {vs us : List V}, aF K F ad ds vs -> aF K F ad es us -> aF K F ad (ds ++ es) (vs ++ us)
 | [], es, vs, us, h, r => by unfold aF at h; subst h; exact r
 | d :: ds, es, vs, us, h, r => by
  unfold aF at h
  obtain ⟨u, ws, rfl, p, q⟩ := h
  exact aF.cons p (aF.append q r)
theorem aF.drop : ∀ {ds : List D} {vs : List V} (n : Nat), aF K F ad ds vs -> aF K F ad (ds.drop n) (vs.drop n)
 | ds, vs, 0, h => h
 | [], vs, n + 1, h => by unfold aF at h; subst h; exact aF.nil
 | d :: ds, vs, n + 1, h => by
  unfold aF at h
  obtain ⟨u, ws, rfl, p, q⟩ := h
  exact aF.drop n q
theorem aF.take : ∀ {ds : List D} {vs : List V} (n : Nat), aF K F ad ds vs -> aF K F ad (ds.take n) (vs.take n)
 | ds, vs, 0, h => aF.nil
 | [], vs, n + 1, h => by unfold aF at h; subst h; exact aF.nil
 | d :: ds, vs, n + 1, h => by
  unfold aF at h
  obtain ⟨u, ws, rfl, p, q⟩ := h
  exact aF.cons p (aF.take n q)
theorem aF.two {d e : D} {vs : List V} (h : aF K F ad [d, e] vs) : ∃ u v, vs = [u, v] /\ bu K F ad d u /\ bu K F ad e v := by
 unfold aF at h
 obtain ⟨u, us, rfl, p, h⟩ := h
 unfold aF at h
 obtain ⟨v, ws, rfl, q, h⟩ := h
 unfold aF at h
 subst h
 exact ⟨u, v, rfl, p, q⟩
theorem aF.one {d : D} {vs : List V} (h : aF K F ad [d] vs) : ∃ u, vs = [u] /\ bu K F ad d u := by
 unfold aF at h
 obtain ⟨u, us, rfl, p, h⟩ := h
 unfold aF at h
 subst h
 exact ⟨u, rfl, p⟩
theorem aF.zero {vs : List V} (h : aF K F ad [] vs) : vs = [] := by unfold aF at h; exact h
end
structure Wd where
 H : Hp
 ad : List Addr
 mu : Mu
def lY (ad : List Addr) (mu : Mu) (b : Addr) : Prop := ∃ (i : Nat) (ds : List D), ad[i]? = some b /\ mu[i]? = some (some ds)
open Classical in
noncomputable def Wd.fz (tb : List Addr) (W : Wd) : Hp := λ b => if lY W.ad W.mu b ∨ b ∈ tb then none else W.H b
abbrev Den (K : PySem.W.Frag) (tb : List Addr) (W : Wd) : D -> V -> Prop := bu K (W.fz tb) W.ad
abbrev cG (K : PySem.W.Frag) (tb : List Addr) (W : Wd) : List D -> List V -> Prop := aF K (W.fz tb) W.ad
structure WOk (K : PySem.W.Frag) (tb : List Addr) (W : Wd) : Prop where
 len : W.ad.length = W.mu.length
 cont : ∀ (i : Nat) a ds, W.ad[i]? = some a -> W.mu[i]? = some (some ds) -> ∃ xs, W.H a = some (.lst xs) /\ cG K tb W ds xs
 inj : ∀ (i j : Nat) a ds es, W.ad[i]? = some a -> W.ad[j]? = some a -> W.mu[i]? = some (some ds) -> W.mu[j]? = some (some es) -> i = j
 tab : ∀ P ∈ tb, ∃ ps, W.H P = some (.tbl ps) /\ TOk W.H ps
structure Le (tb : List Addr) (W W' : Wd) : Prop where
 same : lF (W.fz tb) (W'.fz tb)
 ad : mV W.ad W'.ad
theorem Le.refl {tb : List Addr} (W : Wd) : Le tb W W := ⟨lF.refl _, mV.refl _⟩
theorem Le.trans {tb : List Addr} {W W1 W2 : Wd} (a : Le tb W W1) (b : Le tb W1 W2) : Le tb W W2 := ⟨a.same.trans b.same, a.ad.trans b.ad⟩
section
variable {K : PySem.W.Frag} {tb : List Addr} {W W' : Wd} {d : D} {v : V} {ds : List D} {vs : List V}
theorem Den.mono' (h : Den K tb W d v) (l : Le tb W W') : Den K tb W' d v := bu.mono l.same l.ad d v h
theorem cG.mono' (h : cG K tb W ds vs) (l : Le tb W W') : cG K tb W' ds vs := aF.mono l.same l.ad ds vs h
theorem cY {b : Addr} {o : HO} (h : W.fz tb b = some o) : W.H b = some o /\ ¬ lY W.ad W.mu b /\ b ∉ tb := by
 unfold Wd.fz at h
 split at h
 .cases h
 .rename_i q
  exact ⟨h, λ z => q (.inl z), λ z => q (.inr z)⟩
theorem nF {b : Addr} (h1 : ¬ lY W.ad W.mu b) (h2 : b ∉ tb) : W.fz tb b = W.H b := by
 unfold Wd.fz
 rw [if_neg]
 rintro (z | z)
 .exact h1 z
 .exact h2 z
theorem SqT.fz {a : Addr} {xs : List V} (h : SqT K (W.fz tb) a xs) : SqT K W.H a xs := by
 rcases h with (h | ⟨o, h⟩) | h
 .exact .inl (.inl (cY h).1)
 .exact .inl (.inr ⟨o, (cY h).1⟩)
 .exact .inr h
theorem SqL.fz {a : Addr} {xs : List V} (h : SqL K (W.fz tb) a xs) : SqL K W.H a xs := by
 rcases h with (h | ⟨o, h⟩) | h
 .exact .inl (.inl (cY h).1)
 .exact .inl (.inr ⟨o, (cY h).1⟩)
 .exact .inr h
theorem WOk.live (ok : WOk K tb W) {b : Addr} (h : lY W.ad W.mu b) : ∃ xs, W.H b = some (.lst xs) := by
 obtain ⟨i, ds, e1, e2⟩ := h
 obtain ⟨xs, e, _⟩ := ok.cont i b ds e1 e2
 exact ⟨xs, e⟩
theorem WOk.alloc (ok : WOk K tb W) {p : Addr} {o : HO} (hp : W.H p = none) : WOk K tb ⟨upd W.H p o, W.ad, W.mu⟩ /\ Le tb W ⟨upd W.H p o, W.ad, W.mu⟩ /\ (Wd.fz tb ⟨upd W.H p o, W.ad, W.mu⟩) p = some o := by
 have nl : ¬ lY W.ad W.mu p := λ z => by obtain ⟨xs, e⟩ := ok.live z; rw [hp] at e; cases e
 have nt : p ∉ tb := λ z => by obtain ⟨ps, e, _⟩ := ok.tab p z; rw [hp] at e; cases e
 have le : Le tb W ⟨upd W.H p o, W.ad, W.mu⟩ := ⟨λ b u e => by
  obtain ⟨e1, e2, e3⟩ := cY e
  have hb : b ≠ p := cB e1 hp
  have q := nF (tb := tb) (W := ⟨upd W.H p o, W.ad, W.mu⟩) e2 e3
  rw [q]
  show upd W.H p o b = some u
  rw [aU hb]; exact e1, mV.refl _⟩
 refine ⟨⟨ok.len, λ i a ds e1 e2 => ?_, ok.inj, λ P hP => ?_⟩, le, ?_⟩
 .obtain ⟨xs, e, r⟩ := ok.cont i a ds e1 e2
  refine ⟨xs, ?_, cG.mono' r le⟩
  show upd W.H p o a = _
  rw [aU (cB e hp)]; exact e
 .obtain ⟨ps, e, r⟩ := ok.tab P hP
  refine ⟨ps, ?_, r.mono λ c u q => (aU (cB q hp)).trans q⟩
  show upd W.H p o P = _
  rw [aU (cB e hp)]; exact e
 .have q := nF (tb := tb) (W := ⟨upd W.H p o, W.ad, W.mu⟩) nl nt
  rw [q]; exact dw
theorem WOk.new (ok : WOk K tb W) {p : Addr} (hp : W.H p = none) (r : cG K tb W ds vs) :
  WOk K tb ⟨upd W.H p (.lst vs), W.ad ++ [p], W.mu ++ [some ds]⟩ /\ Le tb W ⟨upd W.H p (.lst vs), W.ad ++ [p], W.mu ++ [some ds]⟩ /\ Den K tb ⟨upd W.H p (.lst vs), W.ad ++ [p], W.mu ++ [some ds]⟩ (.cell W.mu.length) (.ref p) := by
 have adl : mV W.ad (W.ad ++ [p]) := λ i x e => by
  rw [List.getElem?_append_left (List.getElem?_eq_some_iff.mp e).1]; exact e
 have lv : ∀ b, lY (W.ad ++ [p]) (W.mu ++ [some ds]) b -> lY W.ad W.mu b ∨ b = p := λ b zq1 => by
  obtain ⟨i, es, e1, e2⟩ := zq1
  by_cases hi : i < W.ad.length
  .rw [List.getElem?_append_left hi] at e1
   rw [List.getElem?_append_left (by rw [<- ok.len]; exact hi)] at e2
   exact .inl ⟨i, es, e1, e2⟩
  .rw [List.getElem?_append_right (Nat.le_of_not_lt hi)] at e1
   right
   have : (i - W.ad.length) = 0 := by
    have := (List.getElem?_eq_some_iff.mp e1).1
    simp at this
    omega
   rw [this] at e1
   simpa using e1.symm
 have le : Le tb W ⟨upd W.H p (.lst vs), W.ad ++ [p], W.mu ++ [some ds]⟩ := ⟨λ b u e => by
  obtain ⟨e1, e2, e3⟩ := cY e
  have hb : b ≠ p := cB e1 hp
  have q := nF (tb := tb) (W := ⟨upd W.H p (.lst vs), W.ad ++ [p], W.mu ++ [some ds]⟩) (b := b) (λ z => (lv b z).elim e2 hb) e3
  rw [q]
  show upd W.H p (.lst vs) b = some u
  rw [aU hb]; exact e1, adl⟩
 refine ⟨⟨by simp [ok.len], λ i a es e1 e2 => ?_, λ i j a es fs e1 e2 e3 e4 => ?_, λ P hP => ?_⟩, le, ?_⟩
 .by_cases hi : i < W.ad.length
  .have e1' : W.ad[i]? = some a := by rw [<- List.getElem?_append_left (l₂ := [p]) hi]; exact e1
   have e2' : W.mu[i]? = some (some es) := by rw [<- List.getElem?_append_left (l₂ := [some ds]) (by rw [<- ok.len]; exact hi)]; exact e2
   obtain ⟨xs, e, q⟩ := ok.cont i a es e1' e2'
   refine ⟨xs, ?_, cG.mono' q le⟩
   show upd W.H p (.lst vs) a = _
   rw [aU (cB e hp)]; exact e
  .have h0 : i = W.ad.length := by
    have h1 : i < (W.ad ++ [p]).length := (List.getElem?_eq_some_iff.mp e1).1
    simp at h1
    omega
   have e1' : (W.ad ++ [p])[i]? = some a := e1
   have e2' : (W.mu ++ [some ds])[i]? = some (some es) := e2
   rw [h0] at e1' e2'
   rw [ok.len] at e2'
   simp at e1' e2'
   subst e1' e2'
   exact ⟨vs, dw, cG.mono' r le⟩
 .have old : ∀ (k : Nat) es, (W.ad ++ [p])[k]? = some a -> (W.mu ++ [some ds])[k]? = some (some es) -> (k < W.ad.length /\ W.ad[k]? = some a /\ W.mu[k]? = some (some es)) ∨ (k = W.ad.length /\ a = p) := λ k es q1 q2 => by
   by_cases hk : k < W.ad.length
   .left
    refine ⟨hk, ?_, ?_⟩
    .rw [<- List.getElem?_append_left (l₂ := [p]) hk]; exact q1
    .rw [<- List.getElem?_append_left (l₂ := [some ds]) (by rw [<- ok.len]; exact hk)]; exact q2
   .right
    have h1 : k < (W.ad ++ [p]).length := (List.getElem?_eq_some_iff.mp q1).1
    simp at h1
    have h0 : k = W.ad.length := by omega
    subst h0
    simp at q1
    exact ⟨rfl, q1.symm⟩
  rcases old i es e1 e3 with ⟨_, a1, a2⟩ | ⟨a1, a2⟩ <;> rcases old j fs e2 e4 with ⟨_, b1, b2⟩ | ⟨b1, b2⟩
  .exact ok.inj i j a es fs a1 b1 a2 b2
  .obtain ⟨xs, e, _⟩ := ok.cont i a es a1 a2
   rw [b2, hp] at e; cases e
  .obtain ⟨xs, e, _⟩ := ok.cont j a fs b1 b2
   rw [a2, hp] at e; cases e
  .rw [a1, b1]
 .obtain ⟨ps, e, q⟩ := ok.tab P hP
  refine ⟨ps, ?_, q.mono λ c u q => (aU (cB q hp)).trans q⟩
  show upd W.H p (.lst vs) P = _
  rw [aU (cB e hp)]; exact e
 .show bu K _ _ (.cell W.mu.length) (.ref p)
  unfold bu
  refine ⟨p, rfl, ?_⟩
  rw [<- ok.len]
  simp
theorem WOk.write (ok : WOk K tb W) {i : Nat} {a : Addr} {es : List D} (e1 : W.ad[i]? = some a) (e2 : W.mu[i]? = some (some es)) (r : cG K tb W ds vs) :
  WOk K tb ⟨upd W.H a (.lst vs), W.ad, W.mu.set i (some ds)⟩ /\ Le tb W ⟨upd W.H a (.lst vs), W.ad, W.mu.set i (some ds)⟩ := by
 have hi : i < W.mu.length := (List.getElem?_eq_some_iff.mp e2).1
 have lv : ∀ b, lY W.ad (W.mu.set i (some ds)) b -> lY W.ad W.mu b := λ b zq2 => by
  obtain ⟨j, fs, q1, q2⟩ := zq2
  by_cases hj : i = j
  .subst hj; exact ⟨i, es, q1, e2⟩
  .rw [List.getElem?_set_ne hj] at q2; exact ⟨j, fs, q1, q2⟩
 have la : lY W.ad W.mu a := ⟨i, es, e1, e2⟩
 have le : Le tb W ⟨upd W.H a (.lst vs), W.ad, W.mu.set i (some ds)⟩ := ⟨λ b u e => by
  obtain ⟨p1, p2, p3⟩ := cY e
  have hb : b ≠ a := λ z => p2 (z ▸ la)
  have q := nF (tb := tb) (W := ⟨upd W.H a (.lst vs), W.ad, W.mu.set i (some ds)⟩) (b := b) (λ z => p2 (lv b z)) p3
  rw [q]
  show upd W.H a (.lst vs) b = some u
  rw [aU hb]; exact p1, mV.refl _⟩
 refine ⟨⟨by show W.ad.length = (W.mu.set i (some ds)).length; rw [List.length_set]; exact ok.len, λ j b fs q1 q2 => ?_, λ j k b fs gs q1 q2 q3 q4 => ?_, λ P hP => ?_⟩, le⟩
 .have q2' : (W.mu.set i (some ds))[j]? = some (some fs) := q2
  by_cases hj : i = j
  .subst hj
   have q1' : W.ad[i]? = some b := q1
   rw [e1] at q1'; cases q1'
   rw [List.getElem?_set_self hi] at q2'
   cases q2'
   exact ⟨vs, dw, cG.mono' r le⟩
  .rw [List.getElem?_set_ne hj] at q2'
   obtain ⟨xs, e, q⟩ := ok.cont j b fs q1 q2'
   refine ⟨xs, ?_, cG.mono' q le⟩
   show upd W.H a (.lst vs) b = _
   have hba : b ≠ a := by
    intro z
    subst z
    exact hj (ok.inj i j b es fs e1 q1 e2 q2')
   rw [aU hba]; exact e
 .have up : ∀ (j : Nat) fs, (W.mu.set i (some ds))[j]? = some (some fs) -> ∃ gs, W.mu[j]? = some (some gs) := λ j fs q => by
   by_cases hj : i = j
   .subst hj; exact ⟨es, e2⟩
   .rw [List.getElem?_set_ne hj] at q; exact ⟨fs, q⟩
  obtain ⟨fs', q3'⟩ := up j fs q3
  obtain ⟨gs', q4'⟩ := up k gs q4
  exact ok.inj j k b fs' gs' q1 q2 q3' q4'
 .obtain ⟨ps, e, q⟩ := ok.tab P hP
  obtain ⟨xs, ea, _⟩ := ok.cont i a es e1 e2
  refine ⟨ps, ?_, q.mono λ c u q => (aU (yD q ea (by intro z; cases z))).trans q⟩
  show upd W.H a (.lst vs) P = _
  rw [aU (yD e ea (by intro z; cases z))]; exact e
theorem WOk.freeze (ok : WOk K tb W) {i : Nat} {a : Addr} {es : List D} (e1 : W.ad[i]? = some a) (e2 : W.mu[i]? = some (some es)) :
  WOk K tb ⟨W.H, W.ad, W.mu.set i none⟩ /\ Le tb W ⟨W.H, W.ad, W.mu.set i none⟩ /\ Den K tb ⟨W.H, W.ad, W.mu.set i none⟩ (.lst es) (.ref a) := by
 have hi : i < W.mu.length := (List.getElem?_eq_some_iff.mp e2).1
 have up : ∀ (j : Nat) fs, (W.mu.set i none)[j]? = some (some fs) -> i ≠ j /\ W.mu[j]? = some (some fs) := λ j fs q => by
  by_cases hj : i = j
  .subst hj; rw [List.getElem?_set_self hi] at q; cases q
  .rw [List.getElem?_set_ne hj] at q; exact ⟨hj, q⟩
 have lv : ∀ b, lY W.ad (W.mu.set i none) b -> lY W.ad W.mu b := λ b ⟨j, fs, q1, q2⟩ => ⟨j, fs, q1, (up j fs q2).2⟩
 have le : Le tb W ⟨W.H, W.ad, W.mu.set i none⟩ := ⟨λ b u e => by
  obtain ⟨p1, p2, p3⟩ := cY e
  have q := nF (tb := tb) (W := ⟨W.H, W.ad, W.mu.set i none⟩) (b := b) (λ z => p2 (lv b z)) p3
  rw [q]; exact p1, mV.refl _⟩
 obtain ⟨xs, ea, ra⟩ := ok.cont i a es e1 e2
 refine ⟨⟨by show W.ad.length = (W.mu.set i none).length; rw [List.length_set]; exact ok.len, λ j b fs q1 q2 => ?_, λ j k b fs gs q1 q2 q3 q4 => ?_, ok.tab⟩, le, ?_⟩
 .obtain ⟨xs, e, q⟩ := ok.cont j b fs q1 (up j fs q2).2
  exact ⟨xs, e, cG.mono' q le⟩
 .exact ok.inj j k b fs gs q1 q2 (up j fs q3).2 (up k gs q4).2
 .show bu K _ _ (.lst es) (.ref a)
  unfold bu
  refine ⟨a, xs, rfl, ?_, cG.mono' ra le⟩
  have nl : ¬ lY W.ad (W.mu.set i none) a := λ zq3 => by
   obtain ⟨j, fs, q1, q2⟩ := zq3
   obtain ⟨hj, q⟩ := up j fs q2
   exact hj (ok.inj i j a es fs e1 q1 e2 q)
  have nt : a ∉ tb := λ z => by
   obtain ⟨ps, e, _⟩ := ok.tab a z
   rw [ea] at e; cases e
  have q := nF (tb := tb) (W := ⟨W.H, W.ad, W.mu.set i none⟩) nl nt
  rw [q]; exact ea
theorem WOk.tbl (ok : WOk K tb W) {P : Addr} {lo : Nat} {ps ps' : Array Value} {H' : Hp} (hP : P ∈ tb) (e : W.H P = some (.tbl ps)) (hG : Bc lo P ps ps' W.H H') :
  WOk K tb ⟨H', W.ad, W.mu⟩ /\ Le tb W ⟨H', W.ad, W.mu⟩ := by
 have le : Le tb W ⟨H', W.ad, W.mu⟩ := ⟨λ b u q => by
  obtain ⟨p1, p2, p3⟩ := cY q
  have q := nF (tb := tb) (W := ⟨H', W.ad, W.mu⟩) (b := b) p2 p3
  rw [q]
  exact hG.keep b u (λ z => p3 (z ▸ hP)) p1, mV.refl _⟩
 refine ⟨⟨ok.len, λ i a ds e1 e2 => ?_, ok.inj, λ Q hQ => ?_⟩, le⟩
 .obtain ⟨xs, ea, r⟩ := ok.cont i a ds e1 e2
  exact ⟨xs, hG.keep a _ (yD ea e (by intro z; cases z)) ea, cG.mono' r le⟩
 .by_cases hq : Q = P
  .subst hq; exact ⟨ps', hG.tab, hG.ok⟩
  .obtain ⟨qs, e', r⟩ := ok.tab Q hQ
   exact ⟨qs, hG.keep Q _ hq e', r.mono λ c u q => hG.keep c _ (yD q e (by intro z; cases z)) q⟩
end
abbrev SV := L2.St
abbrev EF := En -> Mu -> Option (D × Mu)
abbrev AF := En -> Mu -> Option (List D × Mu)
abbrev TF := En -> Mu -> Option (Bool × Mu)
inductive Fl where
 | nx | bk | ct | rt (d : D)
abbrev SF := En -> Mu -> Option (Fl × En × Mu)
def iW (K : PySem.W.Frag) (tb : List Addr) (W : Wd) (δ : En) (σ : SV) : Prop := δ.length = σ.length /\ ∀ (i : Nat) d, δ[i]? = some (some d) -> ∃ v, σ[i]? = some (some v) /\ Den K tb W d v
section
variable {K : PySem.W.Frag} {tb : List Addr} {W W' : Wd} {δ : En} {σ : SV}
theorem iW.mono' (h : iW K tb W δ σ) (l : Le tb W W') : iW K tb W' δ σ := ⟨h.1, λ i d e => let ⟨v, e1, e2⟩ := h.2 i d e; ⟨v, e1, Den.mono' e2 l⟩⟩
theorem iW.set (h : iW K tb W δ σ) {i : Nat} {d : D} {v : V} (r : Den K tb W d v) : iW K tb W (δ.set i (some d)) (σ.set i (some v)) := by
 refine ⟨by rw [List.length_set, List.length_set]; exact h.1, λ j e q => ?_⟩
 by_cases hj : i = j
 .subst hj
  have hi : i < δ.length := by
   have := (List.getElem?_eq_some_iff.mp q).1
   rwa [List.length_set] at this
  rw [List.getElem?_set_self hi] at q
  cases q
  exact ⟨v, by rw [List.getElem?_set_self (by rw [<- h.1]; exact hi)], r⟩
 .rw [List.getElem?_set_ne hj] at q ⊢
  exact h.2 j e q
end
def tD (K : PySem.W.Frag) (tb : List Addr) (f : EF) : TE := λ σ H Q => ∃ W δ d μ', W.H = H /\ WOk K tb W /\ iW K tb W δ σ /\ f δ W.mu = some (d, μ') /\
 ∀ v W', WOk K tb W' -> Le tb W W' -> W'.mu = μ' -> Den K tb W' d v -> Q v W'.H
def tDA (K : PySem.W.Frag) (tb : List Addr) (f : AF) : TA := λ σ H Q => ∃ W δ ds μ', W.H = H /\ WOk K tb W /\ iW K tb W δ σ /\ f δ W.mu = some (ds, μ') /\
 ∀ vs W', WOk K tb W' -> Le tb W W' -> W'.mu = μ' -> cG K tb W' ds vs -> Q vs W'.H
def tDT (K : PySem.W.Frag) (tb : List Addr) (f : TF) : TT := λ σ H Q => ∃ W δ b μ', W.H = H /\ WOk K tb W /\ iW K tb W δ σ /\ f δ W.mu = some (b, μ') /\
 ∀ W', WOk K tb W' -> Le tb W W' -> W'.mu = μ' -> Q b W'.H
def EndD (K : PySem.W.Frag) (tb : List Addr) (E : Ends) (fl : Fl) (σ : SV) (W : Wd) : Prop := match fl with
 | .nx => E.nx σ W.H
 | .bk => E.bk σ W.H
 | .ct => E.ct σ W.H
 | .rt d => ∀ v, Den K tb W d v -> E.rt v W.H
def tDS (K : PySem.W.Frag) (tb : List Addr) (g : SF) : TS := λ E σ H => ∃ W δ fl δ' μ', W.H = H /\ WOk K tb W /\ iW K tb W δ σ /\ g δ W.mu = some (fl, δ', μ') /\
 ∀ σ' W', WOk K tb W' -> Le tb W W' -> W'.mu = μ' -> iW K tb W' δ' σ' -> EndD K tb E fl σ' W'
def PD (X : Cx) (tb : List Addr) (e : Expr) (f : EF) : Prop := PE X e (tD X.K tb f)
def PAD (X : Cx) (tb : List Addr) (es : List Expr) (f : AF) : Prop := PA X es (tDA X.K tb f)
def PTD (X : Cx) (tb : List Addr) (e : Expr) (f : TF) : Prop := PT X e (tDT X.K tb f)
def PWD (X : Cx) (tb : List Addr) (e : Expr) (f : TF) : Prop := PW X e (tDT X.K tb f)
def PSD (X : Cx) (tb : List Addr) (st : Stmt) (g : SF) : Prop := PS X st (tDS X.K tb g)
def ut (X : Cx) (tb : List Addr) (st : List Stmt) (g : SF) : Prop := PSs X st (tDS X.K tb g)
theorem dW {X : Cx} {e : Expr} {t t' : TE} (h : PE X e t) (k : ∀ σ H Q, t' σ H Q -> t σ H Q) : PE X e t' := λ pins s σ H Q I hq => h pins s σ H Q I (k σ H Q hq)
theorem Lb {X : Cx} {e : List Expr} {t t' : TA} (h : PA X e t) (k : ∀ σ H Q, t' σ H Q -> t σ H Q) : PA X e t' := λ pos pins s σ H Q I hq => h pos pins s σ H Q I (k σ H Q hq)
theorem Eu {X : Cx} {e : Expr} {t t' : TT} (h : PT X e t) (k : ∀ σ H Q, t' σ H Q -> t σ H Q) : PT X e t' := λ pins s σ H Q I hq => h pins s σ H Q I (k σ H Q hq)
theorem Lr {X : Cx} {e : Expr} {t t' : TT} (h : PW X e t) (k : ∀ σ H Q, t' σ H Q -> t σ H Q) : PW X e t' := λ wh pins s σ H Q I hq => h wh pins s σ H Q I (k σ H Q hq)
theorem lM {X : Cx} {e : Stmt} {t t' : TS} (h : PS X e t) (k : ∀ E σ H, t' E σ H -> t E σ H) : PS X e t' := λ pins s σ H E I hq => h pins s σ H E I (k E σ H hq)
theorem EY {X : Cx} {e : List Stmt} {t t' : TS} (h : PSs X e t) (k : ∀ E σ H, t' E σ H -> t E σ H) : PSs X e t' := λ pins s σ H E I hq => h pins s σ H E I (k E σ H hq)
def aq (i : Nat) : EF := λ δ μ => match δ[i]? with
 | some (some d) => some (d, μ)
 | _ => none
def mC (d : D) : EF := λ _ μ => some (d, μ)
def M1 (fa : EF) (op : D -> Mu -> Option (D × Mu)) : EF := λ δ μ => (fa δ μ).bind λ r => op r.1 r.2
def M2 (fa fb : EF) (op : D -> D -> Mu -> Option (D × Mu)) : EF := λ δ μ => (fa δ μ).bind λ r => (fb δ r.2).bind λ q => op r.1 q.1 q.2
def aB : AF := λ _ μ => some ([], μ)
def aa (f : EF) (fs : AF) : AF := λ δ μ => (f δ μ).bind λ r => (fs δ r.2).bind λ q => some (r.1 :: q.1, q.2)
def MC (fs : AF) (op : List D -> Mu -> Option (D × Mu)) : EF := λ δ μ => (fs δ μ).bind λ r => op r.1 r.2
def RD1 (K : PySem.W.Frag) (tb : List Addr) (r : V -> Hp -> VK -> Prop) (op : D -> Mu -> Option (D × Mu)) : Prop := ∀ (W : Wd) (x : D) (v : V) (d : D) (μ' : Mu) (Q : VK), WOk K tb W -> Den K tb W x v -> op x W.mu = some (d, μ') ->
 (∀ v W', WOk K tb W' -> Le tb W W' -> W'.mu = μ' -> Den K tb W' d v -> Q v W'.H) -> r v W.H Q
def RD2 (K : PySem.W.Frag) (tb : List Addr) (r : R2) (op : D -> D -> Mu -> Option (D × Mu)) : Prop := ∀ (W : Wd) (x y : D) (v u : V) (d : D) (μ' : Mu) (Q : VK), WOk K tb W -> Den K tb W x v -> Den K tb W y u -> op x y W.mu = some (d, μ') ->
 (∀ v W', WOk K tb W' -> Le tb W W' -> W'.mu = μ' -> Den K tb W' d v -> Q v W'.H) -> r v u W.H Q
def RDN (K : PySem.W.Frag) (tb : List Addr) (r : List V -> Hp -> VK -> Prop) (op : List D -> Mu -> Option (D × Mu)) : Prop := ∀ (W : Wd) (xs : List D) (vs : List V) (d : D) (μ' : Mu) (Q : VK), WOk K tb W -> cG K tb W xs vs -> op xs W.mu = some (d, μ') ->
 (∀ v W', WOk K tb W' -> Le tb W W' -> W'.mu = μ' -> Den K tb W' d v -> Q v W'.H) -> r vs W.H Q
section
variable {K : PySem.W.Frag} {tb : List Addr}
theorem put {W : Wd} {Q : VK} {d : D} {v : V} (ok : WOk K tb W) (h : ∀ v W', WOk K tb W' -> Le tb W W' -> W'.mu = W.mu -> Den K tb W' d v -> Q v W'.H) (r : Den K tb W d v) : Q v W.H := h v W ok (Le.refl _) rfl r
theorem dH {W : Wd} {i : Int} : Den K tb W (.int i) (.int i) := by show bu _ _ _ _ _; unfold bu; rfl
theorem gD {W : Wd} {b : Bool} : Den K tb W (.bl b) (.bl b) := by show bu _ _ _ _ _; unfold bu; rfl
theorem qY {W : Wd} : Den K tb W .non .non := by show bu _ _ _ _ _; unfold bu; rfl
theorem Jo {W : Wd} {x : Str} : Den K tb W (.str x) (.str x) := by show bu _ _ _ _ _; unfold bu; rfl
theorem bF {W : Wd} {i : Int} {v : V} (h : Den K tb W (.int i) v) : v = .int i := by have h : bu _ _ _ _ _ := h; unfold bu at h; exact h
theorem qG {W : Wd} {b : Bool} {v : V} (h : Den K tb W (.bl b) v) : v = .bl b := by have h : bu _ _ _ _ _ := h; unfold bu at h; exact h
theorem Fz {W : Wd} {v : V} (h : Den K tb W .non v) : v = .non := by have h : bu _ _ _ _ _ := h; unfold bu at h; exact h
theorem wZ {W : Wd} {x : Str} {v : V} (h : Den K tb W (.str x) v) : v = .str x := by have h : bu _ _ _ _ _ := h; unfold bu at h; exact h
theorem iB {W : Wd} {ds : List D} {v : V} (h : Den K tb W (.tup ds) v) : ∃ a xs, v = .ref a /\ SqT K (W.fz tb) a xs /\ cG K tb W ds xs := by have h : bu _ _ _ _ _ := h; unfold bu at h; exact h
theorem mD {W : Wd} {ds : List D} {v : V} (h : Den K tb W (.lst ds) v) : ∃ a xs, v = .ref a /\ W.fz tb a = some (.lst xs) /\ cG K tb W ds xs := by have h : bu _ _ _ _ _ := h; unfold bu at h; exact h
theorem jJ {W : Wd} {ds : List D} {v : V} (h : Den K tb W (.lst ds) v) : ∃ a xs, v = .ref a /\ SqL K (W.fz tb) a xs /\ cG K tb W ds xs := let ⟨a, xs, e, q, r⟩ := mD h; ⟨a, xs, e, SqL.of q, r⟩
theorem uT {W : Wd} {ds : List D} {v : V} (h : Den K tb W (.ro ds) v) : ∃ a xs, v = .ref a /\ SqL K (W.fz tb) a xs /\ cG K tb W ds xs := by have h : bu _ _ _ _ _ := h; unfold bu at h; exact h
theorem Mt {W : Wd} {kvs : List (Key × D)} {v : V} (h : Den K tb W (.dic kvs) v) : ∃ a ps, v = .ref a /\ W.fz tb a = some (.dK ps) /\ iM K (W.fz tb) W.ad kvs ps := by have h : bu _ _ _ _ _ := h; unfold bu at h; exact h
theorem gU {W : Wd} {n : Nat} {v : V} (h : Den K tb W (.cell n) v) : ∃ a, v = .ref a /\ W.ad[n]? = some a := by have h : bu _ _ _ _ _ := h; unfold bu at h; exact h
theorem ph {W : Wd} {Q : VK} {ds : List D} {vs : List V} {p : Addr} (ok : WOk K tb W) (h : ∀ v W', WOk K tb W' -> Le tb W W' -> W'.mu = W.mu -> Den K tb W' (.tup ds) v -> Q v W'.H) (r : cG K tb W ds vs) (hp : W.H p = none) : Q (.ref p) (upd W.H p (.tup vs)) := by
 obtain ⟨ok', le, e⟩ := ok.alloc (o := .tup vs) hp
 refine h (.ref p) _ ok' le rfl ?_
 show bu _ _ _ _ _
 unfold bu
 exact ⟨p, vs, rfl, .inl (.inl e), cG.mono' r le⟩
theorem jD {W : Wd} {Q : VK} {ds : List D} {vs : List V} {p : Addr} (ok : WOk K tb W) (h : ∀ v W', WOk K tb W' -> Le tb W W' -> W'.mu = W.mu -> Den K tb W' (.lst ds) v -> Q v W'.H) (r : cG K tb W ds vs) (hp : W.H p = none) : Q (.ref p) (upd W.H p (.lst vs)) := by
 obtain ⟨ok', le, e⟩ := ok.alloc (o := .lst vs) hp
 refine h (.ref p) _ ok' le rfl ?_
 show bu _ _ _ _ _
 unfold bu
 exact ⟨p, vs, rfl, e, cG.mono' r le⟩
end
section
variable {X : Cx} {tb : List Addr} {a b c e : Expr} {fa fb fc f : EF} {pos : Pos}
theorem Ob {i : Nat} {x : Str} (hN : X.N[i]? = some x) (hv : Vis X.env.scope x) (hd : (x == ("__debug__" : Str)) = false := by decide) (hcd : (x == ("__classdict__" : Str)) = false := by decide) : PD X tb (.Name x pos) (aq i) :=
 dW (Mp hN hv hd hcd) λ σ H Q zq1 => by
  obtain ⟨W, δ, d, μ', e, ok, hd, hf, h⟩ := zq1
  subst e
  unfold aq at hf
  split at hf
  .rename_i d' e
   cases hf
   obtain ⟨v, ev, r⟩ := hd.2 i _ e
   exact ⟨v, ev, put ok h r⟩
  .cases hf
theorem yN {d : D} {v : V} (hp : PE X e (tC v)) (hd : ∀ W, Den X.K tb W d v) : PD X tb e (mC d) :=
 dW hp λ σ H Q zq2 => by
  obtain ⟨W, δ, d', μ', e, ok, _, hf, h⟩ := zq2
  subst e
  cases hf
  exact put ok h (hd W)
theorem aA {i j} : PD X tb (.Constant (.int i) j pos) (mC (.int i)) := yN Hu λ _ => dH
theorem nG {i j} : PD X tb (.Constant (.bool i) j pos) (mC (.bl i)) := yN Qe λ _ => gD
theorem Pb {r : V -> Hp -> VK -> Prop} {op : D -> Mu -> Option (D × Mu)} (hp : ∀ ta, PE X a ta -> PE X e (tUn r ta)) (ho : RD1 X.K tb r op) (ha : PD X tb a fa) : PD X tb e (M1 fa op) :=
 dW (hp _ ha) λ σ H Q zq3 => by
  obtain ⟨W, δ, d, μ', e, ok, hd, hf, h⟩ := zq3
  unfold M1 at hf
  obtain ⟨⟨x, μ1⟩, e1, e2⟩ := Option.bind_eq_some_iff.mp hf
  exact ⟨W, δ, x, μ1, e, ok, hd, e1, λ v W1 ok1 l1 m1 d1 => ho W1 x v d μ' Q ok1 d1 (by rw [m1]; exact e2) λ v' W' ok' l' m' d' => h v' W' ok' (l1.trans l') m' d'⟩
theorem zY {r : R2} {op : D -> D -> Mu -> Option (D × Mu)} (hp : ∀ ta tb, PE X a ta -> PE X b tb -> PE X e (tOp r ta tb)) (ho : RD2 X.K tb r op) (ha : PD X tb a fa) (hb : PD X tb b fb) : PD X tb e (M2 fa fb op) :=
 dW (hp _ _ ha hb) λ σ H Q zq4 => by
  obtain ⟨W, δ, d, μ', e, ok, hd, hf, h⟩ := zq4
  unfold M2 at hf
  obtain ⟨⟨x, μ1⟩, e1, hf⟩ := Option.bind_eq_some_iff.mp hf
  obtain ⟨⟨y, μ2⟩, e2, e3⟩ := Option.bind_eq_some_iff.mp hf
  refine ⟨W, δ, x, μ1, e, ok, hd, e1, λ v W1 ok1 l1 m1 d1 => ⟨W1, δ, y, μ2, rfl, ok1, hd.mono' l1, (by rw [m1]; exact e2), λ u W2 ok2 l2 m2 d2 => ?_⟩⟩
  exact ho W2 x y v u d μ' Q ok2 (Den.mono' d1 l2) d2 (by rw [m2]; exact e3) λ v' W' ok' l' m' d' => h v' W' ok' ((l1.trans l2).trans l') m' d'
theorem au : PAD X tb [] aB := Lb vJ λ σ H Q zq5 => by
 obtain ⟨W, δ, d, μ', e, ok, hd, hf, h⟩ := zq5
 subst e; cases hf
 exact h [] W ok (Le.refl _) rfl aF.nil
theorem ao {es : List Expr} {fs : AF} (ha : PD X tb e f) (hr : PAD X tb es fs) (hs : starEach (e :: es) X.env = (false, eval e X.env) :: starEach es X.env := by rfl) : PAD X tb (e :: es) (aa f fs) :=
 Lb (pA ha hr hs) λ σ H Q zq6 => by
  obtain ⟨W, δ, ds, μ', e, ok, hd, hf, h⟩ := zq6
  unfold aa at hf
  obtain ⟨⟨x, μ1⟩, e1, hf⟩ := Option.bind_eq_some_iff.mp hf
  obtain ⟨⟨xs, μ2⟩, e2, e3⟩ := Option.bind_eq_some_iff.mp hf
  cases e3
  refine ⟨W, δ, x, μ1, e, ok, hd, e1, λ v W1 ok1 l1 m1 d1 => ⟨W1, δ, xs, _, rfl, ok1, hd.mono' l1, (by rw [m1]; exact e2), λ vs W2 ok2 l2 m2 d2 => ?_⟩⟩
  exact h (v :: vs) W2 ok2 (l1.trans l2) m2 (aF.cons (Den.mono' d1 l2) d2)
theorem zH {es : List Expr} {fs : AF} {r : List V -> Hp -> VK -> Prop} {op : List D -> Mu -> Option (D × Mu)} (hp : ∀ ta, PA X es ta -> PE X e (tCB r ta)) (ho : RDN X.K tb r op) (ha : PAD X tb es fs) : PD X tb e (MC fs op) :=
 dW (hp _ ha) λ σ H Q zq7 => by
  obtain ⟨W, δ, d, μ', e, ok, hd, hf, h⟩ := zq7
  unfold MC at hf
  obtain ⟨⟨x, μ1⟩, e1, e2⟩ := Option.bind_eq_some_iff.mp hf
  exact ⟨W, δ, x, μ1, e, ok, hd, e1, λ v W1 ok1 l1 m1 d1 => ho W1 x v d μ' Q ok1 d1 (by rw [m1]; exact e2) λ v' W' ok' l' m' d' => h v' W' ok' (l1.trans l') m' d'⟩
def oTup (ds : List D) (μ : Mu) : Option (D × Mu) := if ds.length <= sizeLine then some (.tup ds, μ) else none
def oLst (ds : List D) (μ : Mu) : Option (D × Mu) := if ds.length <= sizeLine then some (.lst ds, μ) else none
theorem dg {es : List Expr} {fs : AF} {x1} (h : PAD X tb es fs) : PD X tb (.Tuple es x1 pos) (MC fs oTup) :=
 zH (r := λ xs H Q => xs.length <= sizeLine /\ ∀ p, H p = none -> Q (.ref p) (upd H p (.tup xs))) (λ ta h => Pq h) (λ W xs vs d μ' Q ok r ho h => by
  unfold oTup at ho
  split at ho
  .rename_i hl
   cases ho
   exact ⟨by rw [<- aF.length r]; exact hl, λ p hp => ph ok h r hp⟩
  .cases ho) h
theorem dM {es : List Expr} {fs : AF} (h : PAD X tb es fs) : PD X tb (.List es pos) (MC fs oLst) :=
 zH (r := λ xs H Q => xs.length <= sizeLine /\ ∀ p, H p = none -> Q (.ref p) (upd H p (.lst xs))) (λ ta h => Em h) (λ W xs vs d μ' Q ok r ho h => by
  unfold oLst at ho
  split at ho
  .rename_i hl
   cases ho
   exact ⟨by rw [<- aF.length r]; exact hl, λ p hp => jD ok h r hp⟩
  .cases ho) h
def yj : D -> Mu -> Option Bool
 | .bl b, _ => some b
 | .int i, _ => some (i != 0)
 | .non, _ => some false
 | .tup ds, _ => some !ds.isEmpty
 | .lst ds, _ => some !ds.isEmpty
 | .cell n, μ => match μ[n]? with
  | some (some ds) => some !ds.isEmpty
  | _ => none
 | _, _ => none
end
section
variable {K : PySem.W.Frag} {tb : List Addr}
theorem Ku {W : Wd} {x : D} {v : V} {k : Bool} (ok : WOk K tb W) (h : Den K tb W x v) (e : yj x W.mu = some k) : Nf K v W.H k := by
 cases x with
 | non => rw [Fz h]; cases e; rfl
 | bl b => rw [qG h]; cases e; rfl
 | int i => rw [bF h]; cases e; rfl
 | str y => cases e
 | dic y => cases e
 | ro y => cases e
 | tup ds =>
  obtain ⟨a, xs, rfl, q, r⟩ := iB h
  cases e
  refine .inr (.inl ⟨xs, SqT.fz q, ?_⟩)
  have := aF.length r
  cases ds <;> cases xs <;> simp_all
 | lst ds =>
  obtain ⟨a, xs, rfl, q, r⟩ := jJ h
  cases e
  refine .inl ⟨xs, SqL.fz q, ?_⟩
  have := aF.length r
  cases ds <;> cases xs <;> simp_all
 | cell n =>
  obtain ⟨a, rfl, q⟩ := gU h
  have e' : (match W.mu[n]? with | some (some ds) => some !ds.isEmpty | _ => none) = some k := e
  cases e2 : W.mu[n]? with
  | none => rw [e2] at e'; cases e'
  | some o =>
   cases o with
   | none => rw [e2] at e'; cases e'
   | some ds =>
    rw [e2] at e'
    have e'' : some (!ds.isEmpty) = some k := e'
    cases e''
    obtain ⟨xs, e3, r⟩ := ok.cont n a ds q e2
    refine .inl ⟨xs, SqL.of e3, ?_⟩
    have := aF.length r
    cases ds <;> cases xs <;> simp_all
end
section
variable {X : Cx} {tb : List Addr} {a b c e : Expr} {fa fb fc f : EF} {ta tc : TF} {pos : Pos}
def ql (f : EF) : TF := λ δ μ => (f δ μ).bind λ r => (yj r.1 r.2).map λ k => (k, r.2)
theorem iG (h : PD X tb e f) (he : ∀ whole, isTrue e X.env whole = (do let v <- whole; standAt e.pos; holding [v] (truthy v)) := by intro _; rfl) : PTD X tb e (ql f) :=
 Eu (Hd h he) λ σ H Q zq1 => by
  obtain ⟨W, δ, k, μ', e, ok, hd, hf, h⟩ := zq1
  unfold ql at hf
  obtain ⟨⟨x, μ1⟩, e1, e2⟩ := Option.bind_eq_some_iff.mp hf
  obtain ⟨k', e3, e4⟩ := Option.map_eq_some_iff.mp e2
  cases e4
  exact ⟨W, δ, x, _, e, ok, hd, e1, λ v W1 ok1 l1 m1 d1 => ⟨k, Ku ok1 d1 (by rw [m1]; exact e3), h W1 ok1 l1 m1⟩⟩
structure OpD (X : Cx) (tb : List Addr) (sem : Value -> Value -> Sem Value) (op : D -> D -> Mu -> Option (D × Mu)) : Prop where
 ex : ∃ r, OpR X sem r /\ RD2 X.K tb r op
theorem aD {o : Operator} {op : D -> D -> Mu -> Option (D × Mu)} (ho : OpD X tb (binaryOp o) op) (ha : PD X tb a fa) (hb : PD X tb b fb) : PD X tb (.BinOp a o b pos) (M2 fa fb op) := by
 obtain ⟨r, h1, h2⟩ := ho.ex
 exact zY (λ ta tb ha hb => Lf h1 ha hb) h2 ha hb
theorem nQ {o : CmpOp} {op : D -> D -> Mu -> Option (D × Mu)} (ho : OpD X tb (compareOp o) op) (ha : PD X tb a fa) (hb : PD X tb b fb) (hm : behindInMarks o b = false := by first | exact yu _ (by decide) (by decide) | rfl) : PD X tb (.Compare a [o] [b] pos) (M2 fa fb op) := by
 obtain ⟨r, h1, h2⟩ := ho.ex
 exact zY (λ ta tb ha hb => Jx h1 ha hb hm) h2 ha hb
def toB (f : EF) : TF := λ δ μ => (f δ μ).bind λ r => match r.1 with
 | .bl k => some (k, r.2)
 | _ => none
theorem bH {o : CmpOp} {op : D -> D -> Mu -> Option (D × Mu)} (ho : OpD X tb (compareOp o) op) (ha : PD X tb a fa) (hb : PD X tb b fb) (hm : behindInMarks o b = false := by first | exact yu _ (by decide) (by decide) | rfl) : PTD X tb (.Compare a [o] [b] pos) (toB (M2 fa fb op)) := by
 obtain ⟨r, h1, h2⟩ := ho.ex
 refine Eu (Jr h1 ha hb hm) λ σ H Q zq2 => ?_
 obtain ⟨W, δ, k, μ', e, ok, hd, hf, h⟩ := zq2
 unfold toB at hf
 obtain ⟨⟨z, μz⟩, hf, ez⟩ := Option.bind_eq_some_iff.mp hf
 unfold M2 at hf
 obtain ⟨⟨x, μ1⟩, e1, hf⟩ := Option.bind_eq_some_iff.mp hf
 obtain ⟨⟨y, μ2⟩, e2, e3⟩ := Option.bind_eq_some_iff.mp hf
 cases z with
 | bl k' =>
  cases ez
  refine ⟨W, δ, x, μ1, e, ok, hd, e1, λ v W1 ok1 l1 m1 d1 => ⟨W1, δ, y, μ2, rfl, ok1, hd.mono' l1, (by rw [m1]; exact e2), λ u W2 ok2 l2 m2 d2 => ?_⟩⟩
  refine h2 W2 x y v u _ _ _ ok2 (Den.mono' d1 l2) d2 (by rw [m2]; exact e3) λ v' W' ok' l' m' d' => ?_
  exact ⟨k, qG d', h W' ok' ((l1.trans l2).trans l') m'⟩
 | _ => cases ez
def MCh (fa fb fc : EF) (op op' : D -> D -> Mu -> Option (D × Mu)) : EF := λ δ μ => (fa δ μ).bind λ r => (fb δ r.2).bind λ q => (op r.1 q.1 q.2).bind λ z => match z.1 with
 | .bl true => (fc δ z.2).bind λ t => op' q.1 t.1 t.2
 | .bl false => some (.bl false, z.2)
 | _ => none
def lH (ta tc : TF) : TF := λ δ μ => (ta δ μ).bind λ r => if r.1 = true then tc δ r.2 else some (false, r.2)
def ul (ta tc : TF) : TF := λ δ μ => (ta δ μ).bind λ r => if r.1 = true then some (true, r.2) else tc δ r.2
def jM (ta : TF) : TF := λ δ μ => (ta δ μ).bind λ r => some (!r.1, r.2)
theorem zf (ha : PTD X tb a ta) : PWD X tb (.BoolOp .And [a] pos) ta := JV ha
theorem pF (ha : PTD X tb a ta) : PWD X tb (.BoolOp .Or [a] pos) ta := Og ha
theorem vX {rest : List Expr} (ha : PTD X tb a ta) (hb : PWD X tb (.BoolOp .And (b :: rest) pos) tc) : PWD X tb (.BoolOp .And (a :: b :: rest) pos) (lH ta tc) :=
 Lr (Mz ha hb) λ σ H Q zq4 => by
  obtain ⟨W, δ, k, μ', e, ok, hd, hf, h⟩ := zq4
  unfold lH at hf
  obtain ⟨⟨z, μz⟩, e1, e2⟩ := Option.bind_eq_some_iff.mp hf
  refine ⟨W, δ, z, μz, e, ok, hd, e1, λ W1 ok1 l1 m1 => ?_⟩
  cases z with
  | true => exact ⟨W1, δ, k, μ', rfl, ok1, hd.mono' l1, (by rw [m1]; exact e2), λ W' ok' l' m' => h W' ok' (l1.trans l') m'⟩
  | false => cases e2; exact h W1 ok1 l1 m1
theorem pQ {rest : List Expr} (ha : PTD X tb a ta) (hb : PWD X tb (.BoolOp .Or (b :: rest) pos) tc) : PWD X tb (.BoolOp .Or (a :: b :: rest) pos) (ul ta tc) :=
 Lr (Ry ha hb) λ σ H Q zq5 => by
  obtain ⟨W, δ, k, μ', e, ok, hd, hf, h⟩ := zq5
  unfold ul at hf
  obtain ⟨⟨z, μz⟩, e1, e2⟩ := Option.bind_eq_some_iff.mp hf
  refine ⟨W, δ, z, μz, e, ok, hd, e1, λ W1 ok1 l1 m1 => ?_⟩
  cases z with
  | false => exact ⟨W1, δ, k, μ', rfl, ok1, hd.mono' l1, (by rw [m1]; exact e2), λ W' ok' l' m' => h W' ok' (l1.trans l') m'⟩
  | true => cases e2; exact h W1 ok1 l1 m1
theorem oE (h : PWD X tb a ta) : PTD X tb a ta := PW.pt h
theorem iH (ha : PTD X tb a ta) : PTD X tb (.UnaryOp .Not a pos) (jM ta) :=
 Eu (Mh ha) λ σ H Q zq6 => by
  obtain ⟨W, δ, k, μ', e, ok, hd, hf, h⟩ := zq6
  unfold jM at hf
  obtain ⟨⟨z, μz⟩, e1, e2⟩ := Option.bind_eq_some_iff.mp hf
  cases e2
  exact ⟨W, δ, z, _, e, ok, hd, e1, λ W1 ok1 l1 m1 => h W1 ok1 l1 m1⟩
def jB (fa fb : EF) : EF := λ δ μ => (fa δ μ).bind λ r => match r.1 with
 | .bl true => fb δ r.2
 | .bl false => some (.bl false, r.2)
 | _ => none
def pg (fa : EF) : EF := λ δ μ => (fa δ μ).bind λ r => match r.1 with
 | .bl k => some (.bl !k, r.2)
 | _ => none
theorem jx {o} (ha : PD X tb a fa) : PD X tb (.BoolOp o [a] pos) fa := Ow ha
theorem kO {rest : List Expr} (ha : PD X tb a fa) (hb : PD X tb (.BoolOp .And (b :: rest) pos) fb) : PD X tb (.BoolOp .And (a :: b :: rest) pos) (jB fa fb) :=
 dW (Lw ha hb) λ σ H Q zq7 => by
  obtain ⟨W, δ, d, μ', e, ok, hd, hf, h⟩ := zq7
  unfold jB at hf
  obtain ⟨⟨z, μz⟩, e1, e2⟩ := Option.bind_eq_some_iff.mp hf
  refine ⟨W, δ, z, μz, e, ok, hd, e1, λ v W1 ok1 l1 m1 d1 => ?_⟩
  cases z with
  | bl k =>
   cases k with
   | true =>
   refine ⟨true, qG d1, ?_⟩
   rw [if_pos rfl]
   exact ⟨W1, δ, d, μ', rfl, ok1, hd.mono' l1, (by rw [m1]; exact e2), λ v W' ok' l' m' d' => h v W' ok' (l1.trans l') m' d'⟩
   | false =>
   cases e2
   refine ⟨false, qG d1, ?_⟩
   rw [if_neg Bool.false_ne_true]
   exact h _ W1 ok1 l1 m1 gD
  | _ => cases e2
theorem uf (ha : PD X tb a fa) : PD X tb (.UnaryOp .Not a pos) (pg fa) :=
 dW (Pa ha) λ σ H Q zq9 => by
  obtain ⟨W, δ, d, μ', e, ok, hd, hf, h⟩ := zq9
  unfold pg at hf
  obtain ⟨⟨z, μz⟩, e1, e2⟩ := Option.bind_eq_some_iff.mp hf
  refine ⟨W, δ, z, μz, e, ok, hd, e1, λ v W1 ok1 l1 m1 d1 => ?_⟩
  cases z with
  | bl k =>
   cases e2
   exact ⟨k, qG d1, h _ W1 ok1 l1 m1 gD⟩
  | _ => cases e2
end
def bU : SF := λ δ μ => some (.nx, δ, μ)
def aO (g h : SF) : SF := λ δ μ => (g δ μ).bind λ r => match r.1 with
 | .nx => h r.2.1 r.2.2
 | _ => some r
def fJ (f : EF) : SF := λ δ μ => (f δ μ).bind λ r => some (.nx, δ, r.2)
def bA (f : EF) : SF := λ δ μ => (f δ μ).bind λ r => some (.rt r.1, δ, r.2)
def sIf (c : TF) (g h : SF) : SF := λ δ μ => (c δ μ).bind λ r => if r.1 = true then g δ r.2 else h δ r.2
def aY (i : Nat) (f : EF) : SF := λ δ μ => (f δ μ).bind λ r => some (.nx, δ.set i (some r.1), r.2)
section
variable {X : Cx} {tb : List Addr} {e : Expr} {f : EF} {g h : SF} {st : Stmt} {rest : List Stmt} {pos : Pos}
theorem bz : ut X tb [] bU := EY Kp λ E σ H zq11 => by
 obtain ⟨W, δ, fl, δ', μ', e, ok, hd, hf, h⟩ := zq11
 subst e; cases hf
 exact h σ W ok (Le.refl _) rfl hd
theorem aG (h1 : PSD X tb st g) : ut X tb [st] g := Ih h1
theorem aC (h1 : PSD X tb st g) (h2 : ut X tb rest h) : ut X tb (st :: rest) (aO g h) :=
 EY (Ht h1 h2) λ E σ H zq12 => by
  obtain ⟨W, δ, fl, δ', μ', e, ok, hd, hf, k⟩ := zq12
  unfold aO at hf
  obtain ⟨⟨fl1, δ1, μ1⟩, e1, e2⟩ := Option.bind_eq_some_iff.mp hf
  refine ⟨W, δ, fl1, δ1, μ1, e, ok, hd, e1, λ σ1 W1 ok1 l1 m1 d1 => ?_⟩
  cases fl1 with
  | nx => exact ⟨W1, δ1, fl, δ', μ', rfl, ok1, d1, (by rw [m1]; exact e2), λ σ' W' ok' l' m' d' => k σ' W' ok' (l1.trans l') m' d'⟩
  | bk => cases e2; exact k σ1 W1 ok1 l1 m1 d1
  | ct => cases e2; exact k σ1 W1 ok1 l1 m1 d1
  | rt d => cases e2; exact k σ1 W1 ok1 l1 m1 d1
theorem iU (he : PD X tb e f) (hs : swapsWith e none pos.line X.env = pure false := by rfl) : PSD X tb (.Expr e pos) (fJ f) :=
 lM (JZ he hs) λ E σ H zq16 => by
  obtain ⟨W, δ, fl, δ', μ', e, ok, hd, hf, h⟩ := zq16
  unfold fJ at hf
  obtain ⟨⟨x, μ1⟩, e1, e2⟩ := Option.bind_eq_some_iff.mp hf
  cases e2
  exact ⟨W, δ, x, _, e, ok, hd, e1, λ v W1 ok1 l1 m1 d1 => h σ W1 ok1 l1 m1 (hd.mono' l1)⟩
theorem aR (he : PD X tb e f) : PSD X tb (.Return (some e) pos) (bA f) :=
 lM (Nk he) λ E σ H zq17 => by
  obtain ⟨W, δ, fl, δ', μ', e, ok, hd, hf, h⟩ := zq17
  unfold bA at hf
  obtain ⟨⟨x, μ1⟩, e1, e2⟩ := Option.bind_eq_some_iff.mp hf
  cases e2
  exact ⟨W, δ, x, _, e, ok, hd, e1, λ v W1 ok1 l1 m1 d1 => h σ W1 ok1 l1 m1 (hd.mono' l1) v d1⟩
theorem cA {c : Expr} {tc : TF} {as bs : List Stmt} (hc : PTD X tb c tc) (ha : ut X tb as g) (hb : ut X tb bs h) : PSD X tb (.If c as bs pos) (sIf tc g h) :=
 lM (Rn hc ha hb) λ E σ H zq18 => by
  obtain ⟨W, δ, fl, δ', μ', e, ok, hd, hf, k⟩ := zq18
  unfold sIf at hf
  obtain ⟨⟨z, μ1⟩, e1, e2⟩ := Option.bind_eq_some_iff.mp hf
  refine ⟨W, δ, z, μ1, e, ok, hd, e1, λ W1 ok1 l1 m1 => ?_⟩
  cases z with
  | true => exact ⟨W1, δ, fl, δ', μ', rfl, ok1, hd.mono' l1, (by rw [m1]; exact e2), λ σ' W' ok' l' m' d' => k σ' W' ok' (l1.trans l') m' d'⟩
  | false => exact ⟨W1, δ, fl, δ', μ', rfl, ok1, hd.mono' l1, (by rw [m1]; exact e2), λ σ' W' ok' l' m' d' => k σ' W' ok' (l1.trans l') m' d'⟩
theorem aV {i : Nat} {x : Str} {pos' : Pos} (hN : X.N.Nodup) (he : PD X tb e f) (hi : X.N[i]? = some x := by rfl) (hx : Loc X.env.scope x := by first | exact Or.inl rfl | exact Or.inr rfl) (hs : swapsWith e (some (.Name x pos')) pos.line X.env = pure false := by rfl)
  (hf : X.fn x = true ∨ X.env.scope.names.lookup x = some .local := by first | exact .inl rfl | exact .inr rfl | assumption) : PSD X tb (.Assign [.Name x pos'] e pos) (aY i f) :=
 lM (Nh hN hi hx he hs hf) λ E σ H zq19 => by
  obtain ⟨W, δ, fl, δ', μ', e, ok, hd, hf, h⟩ := zq19
  unfold aY at hf
  obtain ⟨⟨x, μ1⟩, e1, e2⟩ := Option.bind_eq_some_iff.mp hf
  cases e2
  exact ⟨W, δ, x, _, e, ok, hd, e1, λ v W1 ok1 l1 m1 d1 => h _ W1 ok1 l1 m1 ((hd.mono' l1).set d1)⟩
def yc (i j : Nat) (fs : AF) : SF := λ δ μ => (fs δ μ).bind λ r => match r.1 with
 | [x, y] => some (.nx, (δ.set i (some x)).set j (some y), r.2)
 | _ => none
theorem Bo {i j : Nat} {x y : Str} {a b : Expr} {fs : AF} {px py pt : Pos} {kt k2 pt2} (hc : X.calm = true) (hN : X.N.Nodup) (ha : PAD X tb [a, b] fs) (hij : i ≠ j := by decide) (hi : X.N[i]? = some x := by rfl) (hj : X.N[j]? = some y := by rfl)
  (hx : X.env.scope.names.lookup x = some .local := by rfl) (hy : X.env.scope.names.lookup y = some .local := by rfl)
  (hw : swappedStores [.Tuple [.Name x px, .Name y py] kt pt] (.Tuple [a, b] k2 pt2) X.env = pure (some [x, y]) := by rfl)
  (hs : swapsWithSole [.Tuple [.Name x px, .Name y py] kt pt] (.Tuple [a, b] k2 pt2) pos.line X.env = pure false := by rfl) :
  PSD X tb (.Assign [.Tuple [.Name x px, .Name y py] kt pt] (.Tuple [a, b] k2 pt2) pos) (yc i j fs) :=
 lM (NP hc hN hi hj hij hx hy ha hw hs) λ E σ H zq20 => by
  obtain ⟨W, δ, fl, δ', μ', e, ok, hd, hf, h⟩ := zq20
  unfold yc at hf
  obtain ⟨⟨xs, μ1⟩, e1, e2⟩ := Option.bind_eq_some_iff.mp hf
  match xs, e1, e2 with
  | [x, y], e1, e2 =>
   cases e2
   refine ⟨W, δ, _, _, e, ok, hd, e1, λ vs W1 ok1 l1 m1 d1 => ?_⟩
   obtain ⟨u, v, rfl, du, dv⟩ := aF.two d1
   exact ⟨u, v, rfl, h _ W1 ok1 l1 m1 (((hd.mono' l1).set du).set dv)⟩
def eO (c : TF) (b : SF) : Nat -> SF
 | 0 => λ _ _ => none
 | n + 1 => λ δ μ => (c δ μ).bind λ r => if r.1 = true then (b δ r.2).bind λ q => match q.1 with
   | .nx => eO c b n q.2.1 q.2.2
   | .ct => eO c b n q.2.1 q.2.2
   | .bk => some (.nx, q.2)
   | .rt d => some (.rt d, q.2)
  else some (.nx, δ, r.2)
theorem jE {c : TF} {b : SF} : ∀ {n m : Nat} {δ : En} {μ : Mu} {r : Fl × En × Mu}, n <= m -> eO c b n δ μ = some r -> eO c b m δ μ = some r
 | 0, _, _, _, _, _, h => by cases h
 | n + 1, 0, _, _, _, hl, _ => by omega
 | n + 1, m + 1, δ, μ, r, hl, h => by
  unfold eO at h ⊢
  obtain ⟨q, e1, e2⟩ := Option.bind_eq_some_iff.mp h
  rw [e1]
  show (if q.1 = true then _ else _) = _
  by_cases hq : q.1 = true
  .rw [if_pos hq] at e2 ⊢
   obtain ⟨t, e3, e4⟩ := Option.bind_eq_some_iff.mp e2
   rw [e3]
   show (match t.1 with | .nx => _ | .ct => _ | .bk => _ | .rt d => _) = _
   cases ht : t.1 with
   | nx => rw [ht] at e4; exact jE (by omega) e4
   | ct => rw [ht] at e4; exact jE (by omega) e4
   | bk => rw [ht] at e4; exact e4
   | rt d => rw [ht] at e4; exact e4
  .rw [if_neg hq] at e2 ⊢; exact e2
open Classical in
noncomputable def lK (c : TF) (b : SF) : SF := λ δ μ => if h : ∃ n r, eO c b n δ μ = some r then some (choose (choose_spec h)) else none
theorem vI {c : TF} {b : SF} {n : Nat} {δ : En} {μ : Mu} {r : Fl × En × Mu} (h : eO c b n δ μ = some r) : lK c b δ μ = some r := by
 have hx : ∃ n r, eO c b n δ μ = some r := ⟨n, r, h⟩
 unfold lK
 rw [dif_pos hx]
 have q := Classical.choose_spec (Classical.choose_spec hx)
 have a := jE (Nat.le_max_left n (Classical.choose hx)) h
 have b := jE (Nat.le_max_right n (Classical.choose hx)) q
 rw [a] at b
 exact b.symm
theorem Dl {c : TF} {b : SF} {δ : En} {μ : Mu} {r : Fl × En × Mu} (h : lK c b δ μ = some r) : ∃ n, eO c b n δ μ = some r := by
 unfold lK at h
 split at h
 .rename_i hx
  cases h
  exact ⟨_, Classical.choose_spec (Classical.choose_spec hx)⟩
 .cases h
theorem vg {c : Expr} {tc : TF} {body : List Stmt} (hp : PassesOwn (model X.prog X.w) X.A X.env X.xe) (hc : PTD X tb c tc) (hb : ut X tb body g) : PSD X tb (.While c body [] pos) (lK tc g) :=
 lM (Ep hp hc hb) λ E σ H zq21 => by
  obtain ⟨W, δ, fl, δ', μ', e, ok, hd, hf, h⟩ := zq21
  obtain ⟨n0, hn0⟩ := Dl hf
  refine ⟨λ m σ1 H1 => ∃ W1 δ1, W1.H = H1 /\ WOk X.K tb W1 /\ Le tb W W1 /\ iW X.K tb W1 δ1 σ1 /\ eO tc g m δ1 W1.mu = some (fl, δ', μ'), ⟨n0, W, δ, e, ok, Le.refl _, hd, hn0⟩, ?_⟩
  rintro m σ1 H1 ⟨W1, δ1, rfl, ok1, l1, d1, hn⟩
  cases m with
  | zero => cases hn
  | succ m =>
   unfold eO at hn
   obtain ⟨⟨k, μ2⟩, e1, e2⟩ := Option.bind_eq_some_iff.mp hn
   refine ⟨W1, δ1, k, μ2, rfl, ok1, d1, e1, λ W2 ok2 l2 m2 => ?_⟩
   cases k with
   | false =>
    cases e2
    rw [if_neg Bool.false_ne_true]
    exact h σ1 W2 ok2 (l1.trans l2) m2 (d1.mono' l2)
   | true =>
    rw [if_pos rfl]
    obtain ⟨⟨fl3, δ3, μ3⟩, e3, e4⟩ := Option.bind_eq_some_iff.mp e2
    refine ⟨λ σ3 H3 => ∃ W3, W3.H = H3 /\ WOk X.K tb W3 /\ Le tb W W3 /\ iW X.K tb W3 δ3 σ3 /\ eO tc g m δ3 W3.mu = some (fl, δ', μ'), λ σ3 H3 ⟨W3, q1, q2, q3, q4, q5⟩ => ⟨m, Nat.lt_succ_self _, W3, δ3, q1, q2, q3, q4, q5⟩, ?_⟩
    refine ⟨W2, δ1, fl3, δ3, μ3, rfl, ok2, d1.mono' l2, (by rw [m2]; exact e3), λ σ3 W3 ok3 l3 m3 d3 => ?_⟩
    cases fl3 with
    | nx => exact ⟨W3, rfl, ok3, (l1.trans l2).trans l3, d3, by rw [m3]; exact e4⟩
    | ct => exact ⟨W3, rfl, ok3, (l1.trans l2).trans l3, d3, by rw [m3]; exact e4⟩
    | bk => cases e4; exact h σ3 W3 ok3 ((l1.trans l2).trans l3) m3 d3
    | rt d => cases e4; exact h σ3 W3 ok3 ((l1.trans l2).trans l3) m3 d3
end
abbrev GF := D -> En -> Mu -> Option En
abbrev GsF := List D -> En -> Mu -> Option En
def tDG (K : PySem.W.Frag) (tb : List Addr) (ts : List Nat) (h : GF) : TG := λ v σ H Q => ∃ W δ d δ', W.H = H /\ WOk K tb W /\ iW K tb W δ σ /\ Den K tb W d v /\ h d δ W.mu = some δ' /\
 ∀ σ', iW K tb W δ' σ' -> σ'.length = σ.length -> (∀ i, i ∉ ts -> σ'[i]? = σ[i]?) -> Q σ' H
def tDGs (K : PySem.W.Frag) (tb : List Addr) (ts : List Nat) (h : GsF) : TGs := λ vs σ H Q => ∃ W δ ds δ', W.H = H /\ WOk K tb W /\ iW K tb W δ σ /\ cG K tb W ds vs /\ h ds δ W.mu = some δ' /\
 ∀ σ', iW K tb W δ' σ' -> σ'.length = σ.length -> (∀ i, i ∉ ts -> σ'[i]? = σ[i]?) -> Q σ' H
def PGD (X : Cx) (tb : List Addr) (tg : Expr) (ts : List Nat) (h : GF) : Prop := PG X tg (tDG X.K tb ts h)
def Il (X : Cx) (tb : List Addr) (tg : List Expr) (ts : List Nat) (h : GsF) : Prop := PGs X tg (tDGs X.K tb ts h)
theorem KJ {X : Cx} {e : Expr} {t t' : TG} (h : PG X e t) (k : ∀ v σ H Q, t' v σ H Q -> t v σ H Q) : PG X e t' := λ pins s σ H v u Q I r hq => h pins s σ H v u Q I r (k v σ H Q hq)
theorem Hl {X : Cx} {e : List Expr} {t t' : TGs} (h : PGs X e t) (k : ∀ v σ H Q, t' v σ H Q -> t v σ H Q) : PGs X e t' := λ pins s σ H v u Q I r hq => h pins s σ H v u Q I r (k v σ H Q hq)
def hName (i : Nat) : GF := λ d δ _ => some (δ.set i (some d))
def jU : GsF := λ ds δ _ => match ds with
 | [] => some δ
 | _ => none
def bY (h : GF) (hs : GsF) : GsF := λ ds δ μ => match ds with
 | [] => none
 | d :: r => (h d δ μ).bind λ δ1 => hs r δ1 μ
def jX (n : Nat) (hs : GsF) : GF := λ d δ μ => match d with
 | .tup ds => if ds.length = n then hs ds δ μ else none
 | _ => none
section
variable {X : Cx} {tb : List Addr} {e tg iter elt : Expr} {f : EF} {pos : Pos}
theorem aQ {i : Nat} {x : Str} (hN : X.N.Nodup) (hi : X.N[i]? = some x := by rfl) (hx : Loc X.env.scope x := by first | exact Or.inl rfl | exact Or.inr rfl)
  (hf : X.fn x = true ∨ X.env.scope.names.lookup x = some .local := by first | exact .inl rfl | exact .inr rfl | assumption) : PGD X tb (.Name x pos) [i] (hName i) :=
 KJ (Je hN hi hx hf) λ v σ H Q zq1 => by
  obtain ⟨W, δ, d, δ', e, ok, hd, dv, hh, h⟩ := zq1
  cases hh
  refine h _ (hd.set dv) (by rw [List.length_set]) λ j hj => ?_
  rw [List.getElem?_set_ne (λ z => hj (by simp [z]))]
theorem gj : Il X tb [] [] jU :=
 Hl JG λ vs σ H Q zq2 => by
  obtain ⟨W, δ, ds, δ', e, ok, hd, dv, hh, h⟩ := zq2
  match ds, dv, hh with
  | [], dv, hh =>
   cases hh
   exact ⟨aF.zero dv, h σ hd rfl λ _ _ => rfl⟩
theorem bG {es : List Expr} {ts us : List Nat} {h : GF} {hs : GsF} (h1 : PGD X tb e ts h) (h2 : Il X tb es us hs)
  (ha : (assignEach (e :: es) X.env).map (·.2) = assign e X.env :: (assignEach es X.env).map (·.2) := by rfl) : Il X tb (e :: es) (ts ++ us) (bY h hs) :=
 Hl (Gq h1 h2 ha) λ vs σ H Q zq3 => by
  obtain ⟨W, δ, ds, δ', e, ok, hd, dv, hh, k⟩ := zq3
  match ds, dv, hh with
  | d :: r, dv, hh =>
   obtain ⟨δ1, e1, e2⟩ := Option.bind_eq_some_iff.mp hh
   have dv' : aF _ _ _ _ _ := dv
   unfold aF at dv'
   obtain ⟨u, us', rfl, p, q⟩ := dv'
   refine ⟨u, us', rfl, W, δ, d, δ1, e, ok, hd, p, e1, λ σ1 d1 l1 s1 => ⟨W, δ1, r, δ', e, ok, d1, q, e2, λ σ2 d2 l2 s2 => ?_⟩⟩
   exact k σ2 d2 (l2.trans l1) λ i hi => (s2 i λ z => hi (List.mem_append_right _ z)).trans (s1 i λ z => hi (List.mem_append_left _ z))
theorem iD {es : List Expr} {k : Nat} {ts : List Nat} {hs : GsF} {n : Nat} (hc : X.calm = true) (h : Il X tb es ts hs) (hn : (assignEach es X.env).length = n := by rfl) (hst : (assignEach es X.env).findIdx? (·.1) = none := by rfl) :
  PGD X tb (.Tuple es k pos) ts (jX n hs) :=
 KJ (Oj hc h hn hst) λ v σ H Q zq4 => by
  obtain ⟨W, δ, d, δ', e, ok, hd, dv, hh, k⟩ := zq4
  cases d with
  | tup ds =>
   obtain ⟨a, xs, rfl, q, r⟩ := iB dv
   have hh' : (if ds.length = n then hs ds δ W.mu else none) = some δ' := hh
   by_cases hl : ds.length = n
   .rw [if_pos hl] at hh'
    have q' : SqT X.K H a xs := by rw [<- e]; exact SqT.fz q
    have hl' : xs.length = n := by rw [<- aF.length r]; exact hl
    exact ⟨a, xs, rfl, q', hl', ⟨W, δ, ds, δ', e, ok, hd, r, hh', k⟩⟩
   .rw [if_neg hl] at hh'; cases hh'
  | _ => cases hh
def xy (f : EF) (h : GF) : SF := λ δ μ => (f δ μ).bind λ r => (h r.1 δ r.2).bind λ δ' => some (.nx, δ', r.2)
theorem oX {ts : List Nat} {h : GF} (he : PD X tb e f) (hg : PGD X tb tg ts h) (hs : swapsWithSole [tg] e pos.line X.env = pure false := by rfl) (hw : swappedStores [tg] e X.env = pure none := by rfl)
  (h1 : (assignEach [tg] X.env).map (·.2) = [assign tg X.env] := by rfl) : PSD X tb (.Assign [tg] e pos) (xy f h) :=
 lM (Ej he hg hs hw h1) λ E σ H zq5 => by
  obtain ⟨W, δ, fl, δ', μ', e, ok, hd, hf, k⟩ := zq5
  unfold xy at hf
  obtain ⟨⟨x, μ1⟩, e1, hf⟩ := Option.bind_eq_some_iff.mp hf
  obtain ⟨δ1, e2, e3⟩ := Option.bind_eq_some_iff.mp hf
  cases e3
  refine ⟨W, δ, x, _, e, ok, hd, e1, λ v W1 ok1 l1 m1 d1 => ⟨W1, δ, x, _, rfl, ok1, hd.mono' l1, d1, (by rw [m1]; exact e2), λ σ1 d2 _ _ => ?_⟩⟩
  exact k σ1 W1 ok1 l1 m1 d2
structure Src where
 items : List D
 cel : Option Nat
def Src.ok (S : Src) (μ : Mu) : Prop := ∀ n, S.cel = some n -> μ[n]? = some (some S.items)
theorem Src.bV {S : Src} {μ : Mu} (h : S.cel = none) : S.ok μ := λ n e => by rw [h] at e; cases e
abbrev IF := En -> Mu -> Option (Src × Mu)
structure DX (K : PySem.W.Frag) (tb : List Addr) (J : It) (S : Src) (W0 : Wd) : Prop where
 go : ∀ (i : Nat) W d, Le tb W0 W -> WOk K tb W -> S.ok W.mu -> S.items[i]? = some d -> J.go i W.H /\ ∀ x H', J.yld i W.H x H' -> ∃ W', W'.H = H' /\ WOk K tb W' /\ Le tb W W' /\ W'.mu = W.mu /\ Den K tb W' d x
 stop : ∀ (i : Nat) W, Le tb W0 W -> WOk K tb W -> S.ok W.mu -> S.items.length <= i -> J.stop i W.H
def tDI (K : PySem.W.Frag) (tb : List Addr) (f : IF) : TI := λ σ H R => ∃ W δ S μ', W.H = H /\ WOk K tb W /\ iW K tb W δ σ /\ f δ W.mu = some (S, μ') /\
 ∀ J W', WOk K tb W' -> Le tb W W' -> W'.mu = μ' -> DX K tb J S W' -> R J W'.H
def PID (X : Cx) (tb : List Addr) (tg iter : Expr) (f : IF) : Prop := PI X tg iter (tDI X.K tb f)
theorem HN {w w' : TI} (h : PI X tg iter w) (k : ∀ σ H R, w' σ H R -> w σ H R) : PI X tg iter w' := λ pins s σ H R I hq => h pins s σ H R I (k σ H R hq)
theorem Pn {l : Expr} {tl : TE} (hl : PE X l tl) : PI X tg l (λ σ H R => tl σ H λ x H1 => ∃ a, x = .ref a /\ ((∃ xs, SqL X.K H1 a xs) /\ R (Itl X.K a) H1 ∨ (∃ xs, SqT X.K H1 a xs) /\ R (Itt X.K a) H1)) := by
 intro pins s σ H R I h
 refine thn (hl pins s σ H _ I h) λ v s1 zq6 => ?_
 obtain ⟨x, H1, I1, r1, q1⟩ := zq6
 obtain ⟨a, e, q⟩ := q1
 subst e
 cases r1
 rcases q with ⟨⟨xs, hq⟩, q⟩ | ⟨⟨xs, hq⟩, q⟩
 .obtain ⟨its, rv, p, hz⟩ := I1.list hq
  refine wpAny_pyIter_list p.isList ?_
  refine ⟨s1.heap.objs.size, [s1.heap.objs.size], _, _, H1, rfl, I1.kept (t' := s1.toks) λ b o e => Heap.get?_push_of_some _ e, uV a _, ⟨_, Heap.get?_push_size _ rfl, rfl, rfl⟩, λ b hb => ?_, q⟩
  have e : b = s1.heap.objs.size := by simpa using hb
  subst e
  exact I1.fpOk (Nat.le_refl _) (I1.hok.fresh (Nat.le_refl _))
 .obtain ⟨its, rv, p, hz⟩ := I1.tuple hq
  refine wpAny_pyIter_tuple (show s1.heap.IsTuple a its.toArray from p) ?_
  refine ⟨s1.heap.objs.size, [s1.heap.objs.size], _, _, H1, rfl, I1.kept (t' := s1.toks) λ b o e => Heap.get?_push_of_some _ e, sE a _, ⟨_, Heap.get?_push_size _ rfl, rfl, rfl⟩, λ b hb => ?_, q⟩
  have e : b = s1.heap.objs.size := by simpa using hb
  subst e
  exact I1.fpOk (Nat.le_refl _) (I1.hok.fresh (Nat.le_refl _))
def srcOf (d : D) (μ : Mu) : Option Src := match d with
 | .tup ds => some ⟨ds, none⟩
 | .lst ds => some ⟨ds, none⟩
 | .cell n => match μ[n]? with
  | some (some ds) => some ⟨ds, some n⟩
  | _ => none
 | _ => none
theorem Fe {K : PySem.W.Frag} {W0 : Wd} {a : Addr} {xs : List V} {ds : List D} (q : SqL K (W0.fz tb) a xs) (r : cG K tb W0 ds xs) : DX K tb (Itl K a) ⟨ds, none⟩ W0 where
 go := λ i W d l ok _ e => by
  have q' : SqL K W.H a xs := SqL.fz (SqL.mono l.same q)
  obtain ⟨v, ev, dv⟩ := aF.get (cG.mono' r l) e
  exact ⟨⟨xs, v, q', ev⟩, λ x H' ⟨e1, e2⟩ => ⟨W, e1.symm, ok, Le.refl _, rfl, by have := e2 xs q'; rw [ev] at this; cases this; exact dv⟩⟩
 stop := λ i W l ok _ hi => ⟨xs, SqL.fz (SqL.mono l.same q), by rw [<- aF.length r]; exact hi⟩
theorem FN {K : PySem.W.Frag} {W0 : Wd} {a : Addr} {xs : List V} {ds : List D} (q : SqT K (W0.fz tb) a xs) (r : cG K tb W0 ds xs) : DX K tb (Itt K a) ⟨ds, none⟩ W0 where
 go := λ i W d l ok _ e => by
  have q' : SqT K W.H a xs := SqT.fz (SqT.mono l.same q)
  obtain ⟨v, ev, dv⟩ := aF.get (cG.mono' r l) e
  exact ⟨⟨xs, v, q', ev⟩, λ x H' ⟨e1, e2⟩ => ⟨W, e1.symm, ok, Le.refl _, rfl, by have := e2 xs q'; rw [ev] at this; cases this; exact dv⟩⟩
 stop := λ i W l ok _ hi => ⟨xs, SqT.fz (SqT.mono l.same q), by rw [<- aF.length r]; exact hi⟩
theorem NT {K : PySem.W.Frag} {W0 : Wd} {a : Addr} {n : Nat} {ds : List D} (q : W0.ad[n]? = some a) : DX K tb (Itl K a) ⟨ds, some n⟩ W0 where
 go := λ i W d l ok hs e => by
  obtain ⟨xs, ex, r⟩ := ok.cont n a ds (l.ad _ _ q) (hs n rfl)
  obtain ⟨v, ev, dv⟩ := aF.get r e
  exact ⟨⟨xs, v, SqL.of ex, ev⟩, λ x H' ⟨e1, e2⟩ => ⟨W, e1.symm, ok, Le.refl _, rfl, by have := e2 xs (SqL.of ex); rw [ev] at this; cases this; exact dv⟩⟩
 stop := λ i W l ok hs hi => by
  obtain ⟨xs, ex, r⟩ := ok.cont n a ds (l.ad _ _ q) (hs n rfl)
  exact ⟨xs, SqL.of ex, by rw [<- aF.length r]; exact hi⟩
def dJ (f : EF) : IF := λ δ μ => (f δ μ).bind λ r => (srcOf r.1 r.2).map λ S => (S, r.2)
theorem cZ (he : PD X tb e f) : PID X tb tg e (dJ f) :=
 HN (Pn he) λ σ H R zq7 => by
  obtain ⟨W, δ, S, μ', e, ok, hd, hf, h⟩ := zq7
  unfold dJ at hf
  obtain ⟨⟨x, μ1⟩, e1, hf⟩ := Option.bind_eq_some_iff.mp hf
  obtain ⟨S', e2, e3⟩ := Option.map_eq_some_iff.mp hf
  cases e3
  refine ⟨W, δ, x, _, e, ok, hd, e1, λ v W1 ok1 l1 m1 d1 => ?_⟩
  cases x with
  | tup ds =>
   cases e2
   obtain ⟨a, xs, rfl, q, r⟩ := iB d1
   exact ⟨a, rfl, .inr ⟨⟨xs, SqT.fz q⟩, h _ W1 ok1 l1 m1 (FN q r)⟩⟩
  | lst ds =>
   cases e2
   obtain ⟨a, xs, rfl, q, r⟩ := jJ d1
   exact ⟨a, rfl, .inl ⟨⟨xs, SqL.fz q⟩, h _ W1 ok1 l1 m1 (Fe q r)⟩⟩
  | cell n =>
   obtain ⟨a, rfl, q⟩ := gU d1
   have e2' : (match μ1[n]? with | some (some ds) => some (⟨ds, some n⟩ : Src) | _ => none) = some S := e2
   cases e4 : μ1[n]? with
   | none => rw [e4] at e2'; cases e2'
   | some o =>
    cases o with
    | none => rw [e4] at e2'; cases e2'
    | some ds =>
     rw [e4] at e2'
     cases e2'
     obtain ⟨xs, ex, _⟩ := ok1.cont n a ds q (by rw [m1]; exact e4)
     exact ⟨a, rfl, .inl ⟨⟨xs, SqL.of ex⟩, h _ W1 ok1 l1 m1 (NT q)⟩⟩
  | _ => cases e2
def cT (lo : Int) (n : Nat) : List D := (List.range n).map λ (k : Nat) => D.int (lo + (k : Int))
theorem MF {K : PySem.W.Frag} {W0 : Wd} {lo : Int} {n : Nat} : DX K tb (Itr lo n) ⟨cT lo n, none⟩ W0 where
 go := λ i W d l ok _ e => by
  unfold cT at e
  rw [List.getElem?_map] at e
  by_cases hi : i < n
  .rw [List.getElem?_range hi] at e
   cases e
   exact ⟨hi, λ x H' ⟨e1, e2⟩ => ⟨W, e1.symm, ok, Le.refl _, rfl, by rw [e2]; exact dH⟩⟩
  .rw [List.getElem?_eq_none (by simpa using hi)] at e; cases e
 stop := λ i W l ok _ hi => by
  unfold cT at hi
  have hi' : n <= i := by simpa using hi
  exact hi'
def bQ (fs : AF) : IF := λ δ μ => (fs δ μ).bind λ r => match r.1 with
 | [.int j] => if -(2 ^ 62) <= j /\ j < 2 ^ 62 then some (⟨cT 0 j.toNat, none⟩, r.2) else none
 | _ => none
theorem cC {a : Expr} {fs : AF} {p : Pos} (hm : X.mg "range" = none) (ha : PAD X tb [a] fs) (hg : Gl X "range" := by rfl) (hs : starEach [a] X.env = [(false, eval a X.env)] := by rfl) : PID X tb tg (.Call (.Name "range" p) [a] [] pos) (bQ fs) :=
 HN (Do hg hm ha hs) λ σ H R zq8 => by
  obtain ⟨W, δ, S, μ', e, ok, hd, hf, h⟩ := zq8
  unfold bQ at hf
  obtain ⟨⟨xs, μ1⟩, e1, e2⟩ := Option.bind_eq_some_iff.mp hf
  match xs, e1, e2 with
  | [.int j], e1, e2 =>
   have e2' : (if -(2 ^ 62) <= j /\ j < 2 ^ 62 then some ((⟨cT 0 j.toNat, none⟩ : Src), μ1) else none) = some (S, μ') := e2
   split at e2'
   .rename_i hj
    cases e2'
    refine ⟨W, δ, _, _, e, ok, hd, e1, λ vs W1 ok1 l1 m1 d1 => ?_⟩
    obtain ⟨u, rfl, du⟩ := aF.one d1
    rw [bF du]
    exact ⟨j, rfl, hj.1, hj.2, h _ W1 ok1 l1 m1 MF⟩
   .cases e2'
open Classical in
noncomputable def forL (S : Src) (h : GF) (b : SF) : List D -> SF
 | [], δ, μ => if S.ok μ then some (.nx, δ, μ) else none
 | d :: r, δ, μ => if S.ok μ then (h d δ μ).bind λ δ1 => (b δ1 μ).bind λ q => match q.1 with
   | .nx => forL S h b r q.2.1 q.2.2
   | .ct => forL S h b r q.2.1 q.2.2
   | .bk => some (.nx, q.2)
   | .rt d => some (.rt d, q.2)
  else none
noncomputable def fZ (f : IF) (h : GF) (b : SF) : SF := λ δ μ => (f δ μ).bind λ r => forL r.1 h b r.1.items δ r.2
theorem fW {body : List Stmt} {fi : IF} {ts : List Nat} {h : GF} {b : SF} (hp : PassesOwn (model X.prog X.w) X.A X.env X.xe) (hc : X.calm = true) (hi : PID X tb tg iter fi) (hg : PGD X tb tg ts h) (hb : ut X tb body b)
  (hs : ∀ x, foldedSetIterable iter X.env x = pure x := by intro _; rfl) : PSD X tb (.For tg iter body [] pos) (fZ fi h b) :=
 lM (Pj hp hc hi hg hb hs) λ E σ H zq10 => by
  obtain ⟨W, δ, fl, δ', μ', e, ok, hd, hf, k⟩ := zq10
  unfold fZ at hf
  obtain ⟨⟨S, μ1⟩, e1, e2⟩ := Option.bind_eq_some_iff.mp hf
  refine ⟨W, δ, S, μ1, e, ok, hd, e1, λ J W1 ok1 l1 m1 io => ?_⟩
  refine ⟨λ i m σ2 H2 => m = S.items.length - i /\ i <= S.items.length /\ ∃ W2 δ2, W2.H = H2 /\ WOk X.K tb W2 /\ Le tb W1 W2 /\ iW X.K tb W2 δ2 σ2 /\ forL S h b (S.items.drop i) δ2 W2.mu = some (fl, δ', μ'),
   ⟨S.items.length, rfl, Nat.zero_le _, W1, δ, rfl, ok1, Le.refl _, hd.mono' l1, by rw [m1]; exact e2⟩, ?_⟩
  rintro i m σ2 H2 ⟨hm, hi', W2, δ2, rfl, ok2, l2, d2, hn⟩
  by_cases hlt : i < S.items.length
  .right
   have hdr : S.items.drop i = S.items[i] :: S.items.drop (i + 1) := List.drop_eq_getElem_cons hlt
   rw [hdr] at hn
   unfold forL at hn
   split at hn
   .rename_i hok
    obtain ⟨δ3, e3, hn⟩ := Option.bind_eq_some_iff.mp hn
    obtain ⟨⟨fl4, δ4, μ4⟩, e4, e5⟩ := Option.bind_eq_some_iff.mp hn
    obtain ⟨go, yl⟩ := io.go i W2 S.items[i] l2 ok2 hok (by simp [hlt])
    refine ⟨go, λ σ5 H5 => ∃ W5, W5.H = H5 /\ WOk X.K tb W5 /\ Le tb W1 W5 /\ iW X.K tb W5 δ4 σ5 /\ forL S h b (S.items.drop (i + 1)) δ4 W5.mu = some (fl, δ', μ'), λ σ5 H5 ⟨W5, q1, q2, q3, q4, q5⟩ => ⟨S.items.length - (i + 1), by omega, rfl, hlt, W5, δ4, q1, q2, q3, q4, q5⟩, λ x H' y => ?_⟩
    obtain ⟨W3, rfl, ok3, l3, m3, d3⟩ := yl x H' y
    refine ⟨W3, δ2, S.items[i], δ3, rfl, ok3, d2.mono' l3, d3, (by rw [m3]; exact e3), λ σ3 d3' _ _ => ?_⟩
    refine ⟨W3, δ3, fl4, δ4, μ4, rfl, ok3, d3', (by rw [m3]; exact e4), λ σ4 W4 ok4 l4 m4 d4 => ?_⟩
    cases fl4 with
    | nx => exact ⟨W4, rfl, ok4, (l2.trans l3).trans l4, d4, by rw [m4]; exact e5⟩
    | ct => exact ⟨W4, rfl, ok4, (l2.trans l3).trans l4, d4, by rw [m4]; exact e5⟩
    | bk => cases e5; exact k σ4 W4 ok4 (((l1.trans l2).trans l3).trans l4) m4 d4
    | rt d => cases e5; exact k σ4 W4 ok4 (((l1.trans l2).trans l3).trans l4) m4 d4
   .cases hn
  .left
   have hdr : S.items.drop i = [] := List.drop_of_length_le (by omega)
   rw [hdr] at hn
   unfold forL at hn
   split at hn
   .rename_i hok
    have hn' : some (Fl.nx, δ2, W2.mu) = some (fl, δ', μ') := hn
    cases hn'
    exact ⟨io.stop i W2 l2 ok2 hok (by omega), k σ2 W2 ok2 (l1.trans l2) rfl d2⟩
   .cases hn
abbrev LF := En -> Mu -> Option (List D × Mu)
def tDN (K : PySem.W.Frag) (tb : List Addr) (f : LF) : TE := λ σ H Q => ∃ W δ ds μ', W.H = H /\ WOk K tb W /\ iW K tb W δ σ /\ f δ W.mu = some (ds, μ') /\
 ∀ p vs W', WOk K tb W' -> Le tb W W' -> W'.mu = μ' -> W'.H p = none -> cG K tb W' ds vs -> Q (.ref p) (upd W'.H p (.lst vs))
def PDN (X : Cx) (tb : List Addr) (e : Expr) (f : LF) : Prop := PE X e (tDN X.K tb f)
def mFz (f : LF) : EF := λ δ μ => (f δ μ).bind λ r => some (.lst r.1, r.2)
def jw (f : LF) : EF := λ δ μ => (f δ μ).bind λ r => some (.cell r.2.length, r.2 ++ [some r.1])
theorem dZ {f : LF} (h : PDN X tb e f) : PD X tb e (mFz f) := dW h λ σ H Q zq11 => by
 obtain ⟨W, δ, d, μ', e, ok, hd, hf, k⟩ := zq11
 unfold mFz at hf
 obtain ⟨⟨ds, μ1⟩, e1, e2⟩ := Option.bind_eq_some_iff.mp hf
 cases e2
 refine ⟨W, δ, ds, _, e, ok, hd, e1, λ p vs W1 ok1 l1 m1 hp r => ?_⟩
 exact jD ok1 (λ v W' ok' l' m' d' => k v W' ok' (l1.trans l') (m'.trans m1) d') r hp
theorem lw {f : LF} (h : PDN X tb e f) : PD X tb e (jw f) := dW h λ σ H Q zq12 => by
 obtain ⟨W, δ, d, μ', e, ok, hd, hf, k⟩ := zq12
 unfold jw at hf
 obtain ⟨⟨ds, μ1⟩, e1, e2⟩ := Option.bind_eq_some_iff.mp hf
 cases e2
 refine ⟨W, δ, ds, μ1, e, ok, hd, e1, λ p vs W1 ok1 l1 m1 hp r => ?_⟩
 obtain ⟨ok2, l2, d2⟩ := ok1.new hp r
 exact k _ _ ok2 (l1.trans l2) (by show W1.mu ++ [some ds] = _; rw [m1]) (by rw [<- m1]; exact d2)
def pU (fs : AF) : LF := λ δ μ => (fs δ μ).bind λ r => if r.1.length <= sizeLine then some r else none
theorem oJ {es : List Expr} {fs : AF} (h : PAD X tb es fs) : PDN X tb (.List es pos) (pU fs) := dW (Em h) λ σ H Q zq13 => by
 obtain ⟨W, δ, ds, μ', e, ok, hd, hf, k⟩ := zq13
 unfold pU at hf
 obtain ⟨⟨xs, μ1⟩, e1, e2⟩ := Option.bind_eq_some_iff.mp hf
 split at e2
 .rename_i hl
  cases e2
  exact ⟨W, δ, _, _, e, ok, hd, e1, λ vs W1 ok1 l1 m1 d1 => ⟨by rw [<- aF.length d1]; exact hl, λ p hp => k p vs W1 ok1 l1 m1 hp d1⟩⟩
 .cases e2
def dD (own : List Str) (δ : En) (capI : List Nat) : En := List.replicate own.length none ++ capI.map λ i => (δ[i]?).join
theorem qW {K : PySem.W.Frag} {W : Wd} {own : List Str} {capI : List Nat} {δ : En} {σ : SV} (h : iW K tb W δ σ) : iW K tb W (dD own δ capI) (cJ own σ capI) := by
 refine ⟨by unfold dD cJ jQ; simp, λ i d e => ?_⟩
 unfold dD at e
 unfold cJ jQ
 by_cases hi : i < own.length
 .rw [List.getElem?_append_left (by simpa using hi), List.getElem?_replicate] at e
  split at e <;> cases e
 .rw [List.getElem?_append_right (by simpa using hi), List.getElem?_map] at e
  rw [List.getElem?_append_right (by simpa using hi), List.getElem?_map]
  rw [List.length_replicate] at e ⊢
  cases q : capI[i - own.length]? with
  | none => rw [q] at e; cases e
  | some j =>
   rw [q] at e
   have e' : (δ[j]?).join = some d := by simpa using e
   cases q2 : δ[j]? with
   | none => rw [q2] at e'; cases e'
   | some o =>
    rw [q2] at e'
    have e2 : o = some d := e'
    subst e2
    obtain ⟨v, ev, dv⟩ := h.2 j d q2
    exact ⟨v, by simp [ev], dv⟩
theorem fits_of {own : List Str} {capI : List Nat} {σ σ' : SV} {ts : List Nat} (hts : ∀ i ∈ ts, i < own.length) (hl : σ'.length = (cJ own σ capI).length) (h : ∀ i, i ∉ ts -> σ'[i]? = (cJ own σ capI)[i]?) : Fits (cJ own σ capI) σ' :=
 ⟨hl, λ i v e => by
  rw [h i λ z => ?_]
  .exact e
  .unfold cJ at e
   rw [List.getElem?_append_left (by simpa using hts i z), List.getElem?_replicate] at e
   split at e <;> cases e⟩
open Classical in
noncomputable def lcL (S : Src) (h : GF) (tt : TF) (fe : EF) (δb : En) : List D -> Mu -> Option (List D × Mu)
 | [], μ => if S.ok μ then some ([], μ) else none
 | d :: r, μ => if S.ok μ then (h d δb μ).bind λ δ1 => (tt δ1 μ).bind λ k => if k.1 = true then (fe δ1 k.2).bind λ y => (lcL S h tt fe δb r y.2).bind λ ys => some (y.1 :: ys.1, ys.2) else lcL S h tt fe δb r k.2 else none
noncomputable def lLC (own : List Str) (capI : List Nat) (fi : IF) (h : GF) (tt : TF) (fe : EF) : LF := λ δ μ => (fi δ μ).bind λ r => if r.1.items.length <= sizeLine then lcL r.1 h tt fe (dD own δ capI) r.1.items r.2 else none
def Jf (X : Cx) (tb : List Addr) (ifs : List Expr) (t : TF) : Prop := PIf X ifs (tDT X.K tb t)
def bI : TF := λ _ μ => some (true, μ)
theorem MJ {X : Cx} {e : List Expr} {t t' : TT} (h : PIf X e t) (k : ∀ σ H Q, t' σ H Q -> t σ H Q) : PIf X e t' := λ pins s σ H Q I hq => h pins s σ H Q I (k σ H Q hq)
theorem cI : Jf X tb [] bI := MJ Jj λ σ H Q zq14 => by
 obtain ⟨W, δ, k, μ', e, ok, hd, hf, h⟩ := zq14
 subst e; cases hf
 exact h W ok (Le.refl _) rfl
theorem gW {ifs : List Expr} {fi : IF} {h : GF} {tt : TF} {fe : EF} {own cap : List Str} {capI ts : List Nat} {scope : Scope} (hc : X.calm = true) (B : dI X own cap capI scope) (hown : ∀ x ∈ own, (x, NameKind.free) ∉ scope.names) (hi : PID X tb tg iter fi)
  (hg : ∀ cs C fp s2 H2, PGD (cM X own cap scope cs C fp s2 H2) tb tg ts h) (ht : ∀ cs C fp s2 H2, Jf (cM X own cap scope cs C fp s2 H2) tb ifs tt) (he : ∀ cs C fp s2 H2, PD (cM X own cap scope cs C fp s2 H2) tb elt fe)
  (hts : ∀ i ∈ ts, i < own.length := by decide) (hs : ∀ x, foldedSetIterable iter X.env x = pure x := by intro _; rfl) : PDN X tb (.ListComp elt [⟨tg, iter, ifs, 0⟩] scope pos) (lLC own capI fi h tt fe) :=
 dW (Qg (g := tDG X.K tb ts h) (tt := tDT X.K tb tt) (te := tD X.K tb fe) hc B hown hi hg ht he hs) λ σ H Q zq15 => by
  obtain ⟨W, δ, ds, μ', e, ok, hd, hf, k⟩ := zq15
  unfold lLC at hf
  obtain ⟨⟨S, μ1⟩, e1, e2⟩ := Option.bind_eq_some_iff.mp hf
  split at e2
  .rename_i hz
   refine ⟨W, δ, S, μ1, e, ok, hd, e1, λ J W1 ok1 l1 m1 io => ?_⟩
   refine ⟨λ i m ys H2 => m = S.items.length - i /\ i <= S.items.length /\ ys.length <= i /\ ∃ W2 zs rs, W2.H = H2 /\ WOk X.K tb W2 /\ Le tb W1 W2 /\ cG X.K tb W2 zs ys /\ lcL S h tt fe (dD own δ capI) (S.items.drop i) W2.mu = some (rs, μ') /\ zs ++ rs = ds,
    ⟨S.items.length, rfl, Nat.zero_le _, Nat.zero_le _, W1, [], ds, rfl, ok1, Le.refl _, aF.nil, by rw [m1]; exact e2, rfl⟩, ?_⟩
   rintro i m ys H2 ⟨hm, hi', hy, W2, zs, rs, rfl, ok2, l2, d2, hn, hzs⟩
   by_cases hlt : i < S.items.length
   .right
    have hdr : S.items.drop i = S.items[i] :: S.items.drop (i + 1) := List.drop_eq_getElem_cons hlt
    rw [hdr] at hn
    unfold lcL at hn
    split at hn
    .rename_i hok
     obtain ⟨δ3, e3, hn⟩ := Option.bind_eq_some_iff.mp hn
     obtain ⟨⟨kk, μ4⟩, e4, hn⟩ := Option.bind_eq_some_iff.mp hn
     obtain ⟨go, yl⟩ := io.go i W2 S.items[i] l2 ok2 hok (by simp [hlt])
     refine ⟨go, Nat.lt_of_lt_of_le (Nat.lt_of_le_of_lt hy hlt) hz, λ x H' y => ?_⟩
     obtain ⟨W3, rfl, ok3, l3, m3, d3⟩ := yl x H' y
     refine ⟨W3, dD own δ capI, S.items[i], δ3, rfl, ok3, (qW hd).mono' ((l1.trans l2).trans l3), d3, (by rw [m3]; exact e3), λ σ3 d3' hl3 ht3 => ⟨fits_of hts hl3 ht3, ?_⟩⟩
     refine ⟨W3, δ3, kk, μ4, rfl, ok3, d3', (by rw [m3]; exact e4), λ W4 ok4 l4 m4 => ?_⟩
     cases kk with
     | false =>
      rw [if_neg Bool.false_ne_true]
      exact ⟨S.items.length - (i + 1), by omega, rfl, hlt, by omega, W4, zs, rs, rfl, ok4, (l2.trans l3).trans l4, cG.mono' d2 (l3.trans l4), by rw [m4]; exact hn, hzs⟩
     | true =>
      rw [if_pos rfl]
      have hn' : ((fe δ3 μ4).bind λ y => (lcL S h tt fe (dD own δ capI) (S.items.drop (i + 1)) y.2).bind λ ys => some (y.1 :: ys.1, ys.2)) = some (rs, μ') := hn
      obtain ⟨⟨yd, μ5⟩, e5, hn'⟩ := Option.bind_eq_some_iff.mp hn'
      obtain ⟨⟨rs', μ6⟩, e6, e7⟩ := Option.bind_eq_some_iff.mp hn'
      cases e7
      refine ⟨W4, δ3, yd, μ5, rfl, ok4, d3'.mono' l4, (by rw [m4]; exact e5), λ v W5 ok5 l5 m5 d5 => ?_⟩
      refine ⟨S.items.length - (i + 1), by omega, rfl, hlt, by rw [List.length_append]; simp; omega, W5, zs ++ [yd], rs', rfl, ok5, ((l2.trans l3).trans l4).trans l5, aF.append (cG.mono' d2 ((l3.trans l4).trans l5)) (aF.cons d5 aF.nil), by rw [m5]; exact e6, by rw [List.append_assoc]; exact hzs⟩
    .cases hn
   .left
    have hdr : S.items.drop i = [] := List.drop_of_length_le (by omega)
    rw [hdr] at hn
    unfold lcL at hn
    split at hn
    .rename_i hok
     cases hn
     rw [List.append_nil] at hzs
     subst hzs
     exact ⟨io.stop i W2 l2 ok2 hok (by omega), λ l hl => k l ys W2 ok2 (l1.trans l2) rfl hl d2⟩
    .cases hn
  .cases e2
end
end L3
namespace L2
open PySem PySem.Spec PyProof.Rows
theorem wX {X : Cx} {pins : List (Addr × Obj)} {σ : L2.St} {H : Hp} {s : Shared} (I : Inv X pins σ H s) (hc : X.calm = true) {A' : Around} (h1 : A'.handled = X.A.handled) (h2 : A'.frames = X.A.frames) : A'.handled = none /\ A'.frames = some X.stack :=
 ⟨h1.trans (I.ok.hd hc), h2.trans I.ok.frames⟩
theorem rm {X : Cx} {e : Expr} {pos : Pos} {s : Shared} {Q : List Value -> Shared -> Prop} (h : wpAny (model X.prog X.w) X.A (eval e X.env) (λ u s1 => Q [u] s1) X.xe s) (hs : starEach [e] X.env = (false, eval e X.env) :: starEach [] X.env := by rfl) :
  wpAny (model X.prog X.w) X.A (spliced (backTo pos (starEach [e] X.env))) Q X.xe s := by
 rw [hs]
 show wpAny _ _ (spliced ((false, eval e X.env) :: backTo pos (starEach [] X.env))) _ _ s
 exact Calls.spliced_cons (thn h λ u s1 q => Calls.spliced_nil q)
def CT (y : V) (k : Bool) : Prop := y = .bl k ∨ ∃ i, y = .int i /\ k = (i != 0)
theorem Cd {P : Program} {w : World} {A : Around} {E : Value -> Shared -> Prop} {s : Shared} {y : V} {v : Value} {k : Bool} {Q : Bool -> Shared -> Prop} (r : RelV y v) (h : CT y k) (hq : Q k s) : wpAny (model P w) A (truthy v) Q E s := by
 rcases h with rfl | ⟨i, rfl, rfl⟩
 .cases r; exact wpAny_truthy_bool hq
 .obtain ⟨t, rfl⟩ := r; exact PySem.P.truthy_int hq
theorem xT {M : Model} {A : Around} {E : Value -> Shared -> Prop} {s : Shared} {t : Sem (Option Value)} {P : Value -> Shared -> Prop} {f : Value -> Sem Unit} (hf : ∀ u, f u = pure ())
  (h : wpAny M A t (λ r s1 => ∃ u, r = some u /\ wpAny M A (f u) (λ _ s2 => P u s2) E s1) E s) : wpAny M A t (λ r s1 => ∃ u, r = some u /\ P u s1) E s := λ Γ p hΓ =>
 Sem.wp_mono M Γ t (λ a p' s ⟨u, e, q⟩ => ⟨u, e, by rw [hf] at q; exact q Γ p' hΓ⟩) (λ _ _ _ e => e) p s (h Γ p hΓ)
section
variable {X : Cx} {e : Expr} {ts : qU} {p pos : Pos} {pins : List (Addr × Obj)} {σ : L2.St}
def Qk (ts : qU) : TE := λ σ H Q => ts σ H λ S H1 => ∃ W : Nat -> Nat -> Hp -> Prop, (∃ m, W 0 m H1) /\ ∀ i m H, W i m H ->
 (S.fin i H /\ Q (.bl true) H) ∨ S.nxt i H λ y H' => ∃ k, CT y k /\ if k = true then ∃ m', m' < m /\ W (i + 1) m' H' else Q (.bl false) H'
def RL (ts : qU) : TE := λ σ H Q => ts σ H λ S H1 => ∃ W : Nat -> Nat -> Hp -> Prop, (∃ m, W 0 m H1) /\ ∀ i m H, W i m H ->
 (S.fin i H /\ Q (.bl false) H) ∨ S.nxt i H λ y H' => ∃ k, CT y k /\ if k = true then Q (.bl true) H' else ∃ m', m' < m /\ W (i + 1) m' H'
theorem Gk {it : Addr} {lo : Nat} {S : qQ} {SS : List (Addr × Obj) -> Nat -> Hp -> Shared -> Prop} {Q : VK} {W : Nat -> Nat -> Hp -> Prop} (sm : Ec X pins σ X.A.in1 it lo S SS)
  (st : ∀ i m H, W i m H -> (S.fin i H /\ Q (.bl true) H) ∨ S.nxt i H λ y H' => ∃ k, CT y k /\ if k = true then ∃ m', m' < m /\ W (i + 1) m' H' else Q (.bl false) H') :
  ∀ (m i : Nat) (H : Hp) (s : Shared), SS [] i H s -> W i m H -> codeAny (model X.prog X.w) X.A (.builtin "all.loop" ⟨[.ref it], []⟩) (λ r s' => ∃ u, r = .ok (.ret u) /\ EP X pins σ Q u s') s := by
 intro m
 induction m using Nat.strongRecOn with
 | ind m ih =>
  intro i H s hs hw
  refine codeAny_builtin F.entry_all_loop ?_
  rw [Around.under_plainId F.plain_all_loop _]
  show wpAny _ X.A.in1 (pyNext (.ref it) >>= _) _ _ s
  rcases st i m H hw with ⟨hf, q⟩ | hn
  .refine wpAny_bind (wpAny_mono (sm.stop (λ _ _ => False) hs hf) (λ r s1 ⟨hr, I1⟩ => ?_) λ _ _ z => z.elim)
   subst hr
   refine wpAny_bind (wpAny_rule (wpAny_pure ⟨_, rfl, .bl true, H, ?_, rfl, q⟩))
   rw [List.append_nil] at I1
   exact I1
  .refine wpAny_bind (wpAny_mono (sm.next (λ _ _ => False) hs hn) (λ r s1 ⟨u, y, H', hr, ry, ⟨k, tk, q⟩, hs'⟩ => ?_) λ _ _ z => z.elim)
   subst hr
   refine wpAny_bind (wpAny_holding (Cd ry tk ?_))
   refine wpAny_bind (wpAny_letGo ?_)
   cases k with
   | true =>
    simp only [if_true]
    rw [if_pos rfl] at q
    obtain ⟨m', hm, hw'⟩ := q
    exact wpAny_pure ⟨plainId_quiet F.plain_all_loop _, ih m' hm (i + 1) H' s1 hs' hw'⟩
   | false =>
    simp only [Bool.false_eq_true, if_false]
    rw [if_neg Bool.false_ne_true] at q
    refine wpAny_bind (wpAny_rule (wpAny_pure ⟨_, rfl, .bl false, H', ?_, rfl, q⟩))
    have I1 := sm.inv hs'
    rw [List.append_nil] at I1
    exact I1
theorem FP {it : Addr} {lo : Nat} {S : qQ} {SS : List (Addr × Obj) -> Nat -> Hp -> Shared -> Prop} {Q : VK} {W : Nat -> Nat -> Hp -> Prop} (sm : Ec X pins σ X.A.in1 it lo S SS)
  (st : ∀ i m H, W i m H -> (S.fin i H /\ Q (.bl false) H) ∨ S.nxt i H λ y H' => ∃ k, CT y k /\ if k = true then Q (.bl true) H' else ∃ m', m' < m /\ W (i + 1) m' H') :
  ∀ (m i : Nat) (H : Hp) (s : Shared), SS [] i H s -> W i m H -> codeAny (model X.prog X.w) X.A (.builtin "any.loop" ⟨[.ref it], []⟩) (λ r s' => ∃ u, r = .ok (.ret u) /\ EP X pins σ Q u s') s := by
 intro m
 induction m using Nat.strongRecOn with
 | ind m ih =>
  intro i H s hs hw
  refine codeAny_builtin F.entry_any_loop ?_
  rw [Around.under_plainId F.plain_any_loop _]
  show wpAny _ X.A.in1 (pyNext (.ref it) >>= _) _ _ s
  rcases st i m H hw with ⟨hf, q⟩ | hn
  .refine wpAny_bind (wpAny_mono (sm.stop (λ _ _ => False) hs hf) (λ r s1 ⟨hr, I1⟩ => ?_) λ _ _ z => z.elim)
   subst hr
   refine wpAny_bind (wpAny_rule (wpAny_pure ⟨_, rfl, .bl false, H, ?_, rfl, q⟩))
   rw [List.append_nil] at I1
   exact I1
  .refine wpAny_bind (wpAny_mono (sm.next (λ _ _ => False) hs hn) (λ r s1 ⟨u, y, H', hr, ry, ⟨k, tk, q⟩, hs'⟩ => ?_) λ _ _ z => z.elim)
   subst hr
   refine wpAny_bind (wpAny_holding (Cd ry tk ?_))
   refine wpAny_bind (wpAny_letGo ?_)
   cases k with
   | false =>
    simp only [Bool.false_eq_true, if_false]
    rw [if_neg Bool.false_ne_true] at q
    obtain ⟨m', hm, hw'⟩ := q
    exact wpAny_pure ⟨plainId_quiet F.plain_any_loop _, ih m' hm (i + 1) H' s1 hs' hw'⟩
   | true =>
    simp only [if_true]
    rw [if_pos rfl] at q
    refine wpAny_bind (wpAny_rule (wpAny_pure ⟨_, rfl, .bl true, H', ?_, rfl, q⟩))
    have I1 := sm.inv hs'
    rw [List.append_nil] at I1
    exact I1
theorem HY (hc : X.calm = true) (hm : X.mg "all" = none) (hstr : zq X e ts) (hg : Gl X "all" := by rfl) (hs : starEach [e] X.env = (false, eval e X.env) :: starEach [] X.env := by rfl) : PE X (.Call (.Name "all" p) [e] [] pos) (Qk ts) := by
 intro pins s σ H Q I h
 refine wpAny_Call_Name_kw (lz I hg hm boot_all ?_ (by decide) (by decide))
 refine PyProof.Rows.callWith_builtin1 (rm (thn (hstr pins s σ H _ I h) λ u s1 ⟨S, H1, I1, rdy, W, ⟨m, w0⟩, st⟩ => ?_) hs) hs rfl
 refine call_function_tree F.kind_all F.plain_all F.entry_all (F.args_all1 _) ?_
 unfold Builtin.«all»
 refine wpAny_bind (m := oneArg "all" _) (wpAny_pure ?_)
 obtain ⟨a1, a2⟩ := wX I1 hc (A' := X.A.in1) rfl rfl
 refine wpAny_bind (wpAny_mono (rdy X.A.in1 (λ _ _ => False) a1 a2 (Nat.le_succ _) (by show X.A.units + 1 <= _; omega)) (λ itv s2 ⟨it, lo, SS, e, sm, s0, _⟩ => ?_) λ _ _ z => z.elim)
 subst e
 refine wpAny_pure ⟨plainId_quiet F.plain_all_loop _, codeAny_mono (Gk sm st m 0 H1 s2 s0 w0) λ r s' ⟨u, hr, q⟩ => ?_⟩
 subst hr
 exact q
theorem JN (hc : X.calm = true) (hm : X.mg "any" = none) (hstr : zq X e ts) (hg : Gl X "any" := by rfl) (hs : starEach [e] X.env = (false, eval e X.env) :: starEach [] X.env := by rfl) : PE X (.Call (.Name "any" p) [e] [] pos) (RL ts) := by
 intro pins s σ H Q I h
 refine wpAny_Call_Name_kw (lz I hg hm boot_any ?_ (by decide) (by decide))
 refine PyProof.Rows.callWith_builtin1 (rm (thn (hstr pins s σ H _ I h) λ u s1 ⟨S, H1, I1, rdy, W, ⟨m, w0⟩, st⟩ => ?_) hs) hs rfl
 refine call_function_tree F.kind_any F.plain_any F.entry_any (F.args_any1 _) ?_
 unfold Builtin.«any»
 refine wpAny_bind (m := oneArg "any" _) (wpAny_pure ?_)
 obtain ⟨a1, a2⟩ := wX I1 hc (A' := X.A.in1) rfl rfl
 refine wpAny_bind (wpAny_mono (rdy X.A.in1 (λ _ _ => False) a1 a2 (Nat.le_succ _) (by show X.A.units + 1 <= _; omega)) (λ itv s2 ⟨it, lo, SS, e, sm, s0, _⟩ => ?_) λ _ _ z => z.elim)
 subst e
 refine wpAny_pure ⟨plainId_quiet F.plain_any_loop _, codeAny_mono (FP sm st m 0 H1 s2 s0 w0) λ r s' ⟨u, hr, q⟩ => ?_⟩
 subst hr
 exact q
def Ca (J : It) : qQ := ⟨λ i H Q => J.go i H /\ ∀ x H', J.yld i H x H' -> Q x H', λ i H => J.stop i H⟩
theorem uY {A' : Around} {it : Addr} {fp : List Addr} {tn : Nat -> Heap -> Prop} {J : It} {H : Hp} {s : Shared} (hc : X.calm = true) (hP : A'.handled = none) (hf : A'.frames = some X.stack)
  (T : Turn X.prog X.w X.K (.Name "x" ⟨0, 0, 0, 0⟩) J fp it tn) (I : Inv X pins σ H s) (st : tn 0 s.heap) (fk : ∀ b ∈ fp, kW X pins H b) :
  ∃ lo SS, Ec X pins σ A' it lo (Ca J) SS /\ SS [] 0 H s /\ lo <= s.heap.objs.size := by
 have toA : ∀ {P : List (Addr × Obj)} {H : Hp} {s : Shared}, Inv X P σ H s -> Inv ({ X with A := A' } : Cx) P σ H s := λ I =>
  ⟨⟨I.ok.mod, I.ok.kind, I.ok.glob, I.ok.blt, I.ok.above, I.ok.inj, I.ok.has, I.ok.cab, λ _ => hP, hf, I.ok.stk, I.ok.exf, I.ok.bs, I.ok.bsz, I.ok.noex, I.ok.exfs, I.ok.funs, I.ok.frf⟩, I.os, I.bare, I.base, I.loc, I.cell, I.free, I.freeC, I.pin, I.hok, I.len⟩
 have ofA : ∀ {P : List (Addr × Obj)} {H : Hp} {s : Shared}, X.Ok -> Inv ({ X with A := A' } : Cx) P σ H s -> Inv X P σ H s := λ ok I =>
  ⟨ok, I.os, I.bare, I.base, I.loc, I.cell, I.free, I.freeC, I.pin, I.hok, I.len⟩
 have flt : ∀ b ∈ fp, b < s.heap.objs.size := λ b hb => let ⟨o, e, _⟩ := T.obj 0 _ st b hb; Heap.lt_size e
 have fkA : ∀ {P : List (Addr × Obj)} {H' : Hp}, (∀ p ∈ P, s.heap.objs.size <= p.1) -> (∀ b ∈ fp, H' b = none) -> ∀ b ∈ fp, kW ({ X with A := A' } : Cx) (pins ++ P) H' b := λ {P H'} hP hn b hb => by
  obtain ⟨q0, q1, q2, q3, q4, q5⟩ := fk b hb
  refine ⟨hn b hb, q1, q2, q3, q4, λ p hp => ?_⟩
  rcases List.mem_append.mp hp with z | z
  .exact q5 p (by simp only [List.mem_append]; exact .inl z)
  .rcases List.mem_append.mp z with z | z
   .exact q5 p (by simp only [List.mem_append]; exact .inr z)
   .exact λ e => absurd (flt b hb) (by rw [<- e]; exact Nat.not_lt.mpr (hP p z))
 refine ⟨s.heap.objs.size, λ P i H' s' => (∀ p ∈ P, s.heap.objs.size <= p.1) /\ Inv X (pins ++ P) σ H' s' /\ tn i s'.heap /\ ∀ b ∈ fp, H' b = none, ⟨λ st => st.2.1, ?_, ?_, ?_, ?_, ?_, ?_⟩, ⟨λ p hp => absurd hp (by simp), by rw [List.append_nil]; exact I, st, λ b hb => (fk b hb).1⟩, Nat.le_refl _⟩
 .rintro P i H1 s1 Q E ⟨hP1, I1, st1, fr1⟩ ⟨go, yl⟩
  have q := T.item ({ X with A := A' } : Cx) rfl rfl rfl hc i (pins ++ P) s1 σ H1 (λ _ _ => False) (toA I1) (fkA hP1 fr1) st1 go
  refine wpAny_mono (xT (λ u => rfl) q) (λ r s2 ⟨u, hr, x, H', I3, r3, y3, st3, fr3⟩ => ?_) λ _ _ z => z.elim
  exact ⟨u, x, H', hr, r3, yl x H' y3, hP1, ofA I1.ok I3, st3, fr3⟩
 .rintro P i H1 s1 E ⟨hP1, I1, st1, fr1⟩ hf
  exact wpAny_mono (T.done ({ X with A := A' } : Cx) rfl rfl rfl hc i (pins ++ P) s1 σ H1 (λ _ _ => False) (toA I1) (fkA hP1 fr1) st1 hf) (λ r s2 ⟨hr, I2⟩ => ⟨hr, ofA I1.ok I2⟩) λ _ _ z => z.elim
 .rintro P i H1 s1 h' tk ⟨hP1, I1, st1, fr1⟩ hk
  exact ⟨hP1, I1.kept hk, T.keep _ _ _ st1 λ b _ o e => hk b o e, fr1⟩
 .rintro P i H1 s1 D o ⟨hP1, I1, st1, fr1⟩ hD ho hn hcell
  refine ⟨λ p hp => ?_, I1.pins_of λ p hp => ?_, st1, fr1⟩
  .rcases List.mem_cons.mp hp with z | z
   .subst z; exact hD
   .exact hP1 p z
  .rcases List.mem_append.mp hp with z | z
   .exact I1.pin p (by simp [z])
   .rcases List.mem_cons.mp z with z | z
    .subst z
     exact ⟨ho, hn, λ z => absurd I.lt (by rw [<- z]; exact Nat.not_lt.mpr hD), I.nofs hD, hcell⟩
    .exact I1.pin p (by simp [z])
 .rintro p P i H1 s1 ⟨hP1, I1, st1, fr1⟩
  exact ⟨λ q hq => hP1 q (List.mem_cons_of_mem _ hq), I1.pins_of λ q hq => I1.pin q (by rcases List.mem_append.mp hq with z | z <;> simp [z]), st1, fr1⟩
 .rintro P i H1 s1 h' tk D ⟨hP1, I1, st1, fr1⟩ hD hn hPD hk
  have l4 : ∀ b, b < s.heap.objs.size -> b ≠ D := λ b hb => Nat.ne_of_lt (Nat.lt_of_lt_of_le hb hD)
  refine ⟨hP1, I1.turned hk hn (Ne.symm (l4 _ I.lt)) (.inr (Nat.le_trans I.sz hD)) (λ x c e => let ⟨v, q⟩ := I.cell x c e; l4 c q.lt) (λ p hp => ?_), T.keep _ _ _ st1 λ b hb o e => hk b o (l4 b (flt b hb)) e, fr1⟩
  rcases List.mem_append.mp hp with z | z
  .exact l4 _ (Heap.lt_size (I.pin p (by simp [z])).1)
  .rcases List.mem_append.mp z with z | z
   .exact l4 _ (Heap.lt_size (I.pin p (by simp [z])).1)
   .exact hPD p z
theorem GJ {te : TE} (hc : X.calm = true) (he : PE X e te) : zq X e (λ σ H R => te σ H λ x H1 => ∃ a, x = .ref a /\ ((∃ xs, SqL X.K H1 a xs) /\ R (Ca (Itl X.K a)) H1 ∨ (∃ xs, SqT X.K H1 a xs) /\ R (Ca (Itt X.K a)) H1)) := by
 intro pins s σ H R I h
 refine thn (he pins s σ H _ I h) λ v s1 zq1 => ?_
 obtain ⟨x, H1, I1, r1, a, e, q⟩ := zq1
 subst e
 cases r1
 rcases q with ⟨⟨xs, hq⟩, q⟩ | ⟨⟨xs, hq⟩, q⟩
 .refine ⟨_, H1, I1, λ A' E h1 h2 h3 h4 => ?_, q⟩
  obtain ⟨its, rv, p, hz⟩ := I1.list hq
  refine wpAny_pyIter_list p.isList ?_
  obtain ⟨lo, SS, sm, s0, hl⟩ := uY (A' := A') (H := H1) (s := { s1 with heap := s1.heap.push { cls := .type "list_iterator", data := .fields #[.ref a, .int 0 0] } }) hc h1 h2 (uV a s1.heap.objs.size) (I1.kept (t' := s1.toks) λ b o e => Heap.get?_push_of_some _ e) ⟨_, Heap.get?_push_size _ rfl, rfl, rfl⟩ λ b hb => by
   have e : b = s1.heap.objs.size := by simpa using hb
   subst e
   exact I1.fpOk (Nat.le_refl _) (I1.hok.fresh (Nat.le_refl _))
  exact ⟨_, lo, SS, rfl, sm, s0, hl⟩
 .refine ⟨_, H1, I1, λ A' E h1 h2 h3 h4 => ?_, q⟩
  obtain ⟨its, rv, p, hz⟩ := I1.tuple hq
  refine wpAny_pyIter_tuple (show s1.heap.IsTuple a its.toArray from p) ?_
  obtain ⟨lo, SS, sm, s0, hl⟩ := uY (A' := A') (H := H1) (s := { s1 with heap := s1.heap.push { cls := .type "tuple_iterator", data := .fields #[.ref a, .int 0 0] } }) hc h1 h2 (sE a s1.heap.objs.size) (I1.kept (t' := s1.toks) λ b o e => Heap.get?_push_of_some _ e) ⟨_, Heap.get?_push_size _ rfl, rfl, rfl⟩ λ b hb => by
   have e : b = s1.heap.objs.size := by simpa using hb
   subst e
   exact I1.fpOk (Nat.le_refl _) (I1.hok.fresh (Nat.le_refl _))
  exact ⟨_, lo, SS, rfl, sm, s0, hl⟩
end
section
variable {X : Cx} {e : Expr} {ts : qU} {p pos : Pos} {pins : List (Addr × Obj)} {σ : L2.St}
def Qh (ts : qU) : TE := λ σ H Q => ts σ H λ S H1 => ∃ W : Nat -> Nat -> Int -> Hp -> Prop, (∃ m, W 0 m 0 H1) /\ ∀ i m t H, W i m t H ->
 (S.fin i H /\ Q (.int t) H) ∨ S.nxt i H λ y H' => ∃ j, y = .int j /\ ∃ m', m' < m /\ W (i + 1) m' (t + j) H'
theorem HR {A : Around} {it D : Addr} {lo : Nat} {S : qQ} {SS : List (Addr × Obj) -> Nat -> Hp -> Shared -> Prop} {Q : VK} {W : Nat -> Nat -> Int -> Hp -> Prop} (sm : Ec X pins σ A.in1 it lo S SS) (hD : lo <= D)
  (st : ∀ i m t H, W i m t H -> (S.fin i H /\ Q (.int t) H) ∨ S.nxt i H λ y H' => ∃ j, y = .int j /\ ∃ m', m' < m /\ W (i + 1) m' (t + j) H') :
  ∀ (m i : Nat) (t : Int) (tA : Tok) (c : Nat) (stage : Int) (H : Hp) (s : Shared), (stage = 0 ∨ stage = 2) -> SS [] i H s -> W i m t H -> s.heap.get? D = some (bW [.int t tA] c) -> H D = none ->
   codeAny (model X.prog X.w) A (.builtin "sum.loop" ⟨[.ref it, .ref D, rawInt stage, rawInt 0], []⟩) (λ r s' => ∃ u, r = .ok (.ret u) /\ EP X pins σ Q u s') s := by
 intro m
 induction m using Nat.strongRecOn with
 | ind m ih =>
  intro i t tA c stage H s hstg hs hw ho hn
  have hsp := sm.pin hs hD ho hn (λ v z => by cases z)
  refine codeAny_builtin F.entry_sum_loop ?_
  rw [Around.under_plainId F.plain_sum_loop _]
  show wpAny _ A.in1 (seqItems? (.ref D) >>= _) _ _ s
  refine wpAny_bind (wpAny_seqItems ho rfl ?_)
  show wpAny _ A.in1 (tryCatch (pyNext (.ref it)) _ >>= _) _ _ s
  rcases st i m t H hw with ⟨hf, q⟩ | hn'
  .refine wpAny_bind (wpAny_tryCatch (wpAny_mono (sm.stop (λ _ _ => False) hsp hf) (λ r s1 ⟨hr, I1⟩ => ?_) λ _ _ z => z.elim))
   subst hr
   exact wpAny_pure ⟨_, rfl, .int t, H, I1.pins_of λ p hp => I1.pin p (by simp [hp]), ⟨tA, rfl⟩, q⟩
  .refine wpAny_bind (wpAny_tryCatch (wpAny_mono (sm.next (λ _ _ => False) hsp hn') (λ r s1 ⟨u, y, H', hr, ry, ⟨j, ey, m', hm, hw'⟩, hs'⟩ => ?_) λ _ _ z => z.elim))
   subst hr ey
   obtain ⟨tj, rfl⟩ := ry
   have pl := (sm.inv hs').pin (D, bW [.int t tA] c) (by simp)
   have hs0 := sm.unpin hs'
   have plain : ∀ (next : Value -> Int), (∀ r, next r = 2) -> wpAny (model X.prog X.w) A.in1 (do
     match <- (holding [Value.int j tj] (binaryOp .Add (Value.int t tA) (Value.int j tj))).attempt with
     | .ok r => updateSeq D λ _ => #[r]; letGo [Value.int t tA, Value.int j tj]; (do updateSeq D λ _ => #[r]; again (.builtin "sum.loop" ⟨[.ref it, .ref D, rawInt (next r), rawInt 0], []⟩))
     | .error e => updateSeq D λ _ => #[]; letGo [Value.int t tA, Value.int j tj] [e]; throw e) (λ fin s' => match fin with
      | .done f => ∃ u, (Except.ok f : Result) = .ok (.ret u) /\ EP X pins σ Q u s'
      | .again c => c.quiet = true /\ codeAny (model X.prog X.w) A c (λ r s' => ∃ u, r = .ok (.ret u) /\ EP X pins σ Q u s') s') (λ e s' => ∃ u, (Except.error e : Result) = .ok (.ret u) /\ EP X pins σ Q u s') s1 := by
    intro next hnx
    refine wpAny_bind (wpAny_attempt (wpAny_holding (add_int ?_)))
    refine wpAny_bind (wpAny_updateSeq (s := { s1 with toks := s1.toks + 1 }) pl.1 rfl ?_)
    have o1 := Heap.get?_update_self (Obj.mapSeq (λ _ => #[Value.int (t + j) s1.toks])) pl.1 rfl
    refine wpAny_bind (wpAny_letGo ?_)
    refine wpAny_bind (wpAny_updateSeq o1 rfl ?_)
    have o2 := Heap.get?_update_self (Obj.mapSeq (λ _ => #[Value.int (t + j) s1.toks])) o1 rfl
    rw [hnx]
    refine wpAny_pure ⟨plainId_quiet F.plain_sum_loop _, ih m' hm (i + 1) (t + j) s1.toks _ 2 H' _ (.inr rfl) (sm.acc (s := s1) (h' := (s1.heap.update D (Obj.mapSeq (λ _ => #[Value.int (t + j) s1.toks]))).update D (Obj.mapSeq (λ _ => #[Value.int (t + j) s1.toks]))) (tk := s1.toks + 1) hs0 hD pl.2.1 (λ p hp => absurd hp (by simp)) λ b o hb e => (Heap.get?_update_other _ _ (Ne.symm hb)).trans ((Heap.get?_update_other _ _ (Ne.symm hb)).trans e)) hw' o2 pl.2.1⟩
   rcases hstg with rfl | rfl
   .show wpAny _ A.in1 (if (_ : Bool) = true then (mkInt (t + j) >>= _) else _) _ _ _
    split
    .refine wpAny_bind (wpAny_mkInt ?_)
     show wpAny _ A.in1 (updateSeq D (λ _ => #[.int (t + j) s1.toks]) >>= _) _ _ _
     refine wpAny_bind (wpAny_updateSeq (s := { s1 with toks := s1.toks + 1 }) pl.1 rfl ?_)
     have o1 := Heap.get?_update_self (Obj.mapSeq (λ _ => #[Value.int (t + j) s1.toks])) pl.1 rfl
     exact wpAny_pure ⟨plainId_quiet F.plain_sum_loop _, ih m' hm (i + 1) (t + j) s1.toks _ 0 H' _ (.inl rfl) (sm.acc (s := s1) (h' := s1.heap.update D (Obj.mapSeq (λ _ => #[Value.int (t + j) s1.toks]))) (tk := s1.toks + 1) hs0 hD pl.2.1 (λ p hp => absurd hp (by simp)) λ b o hb e => (Heap.get?_update_other _ _ (Ne.symm hb)).trans e) hw' o1 pl.2.1⟩
    .exact wpAny_bind (wpAny_rule (plain (λ _ => 2) λ _ => rfl))
   .exact plain (λ _ => 2) λ _ => rfl
theorem Jq (hc : X.calm = true) (hm : X.mg "sum" = none) (hstr : zq X e ts) (hg : Gl X "sum" := by rfl) (hs : starEach [e] X.env = (false, eval e X.env) :: starEach [] X.env := by rfl) : PE X (.Call (.Name "sum" p) [e] [] pos) (Qh ts) := by
 intro pins s σ H Q I h
 refine wpAny_Call_Name_kw (lz I hg hm boot_sum ?_ (by decide) (by decide))
 refine PyProof.Rows.callWith_builtin1 (rm (thn (hstr pins s σ H _ I h) λ u s1 ⟨S, H1, I1, rdy, W, ⟨m, w0⟩, st⟩ => ?_) hs) hs rfl
 refine call_function_tree F.kind_sum F.plain_sum F.entry_sum (F.args_sum1 _) ?_
 unfold Builtin.«sum»
 simp only [List.length_cons, List.length_nil]
 rw [if_neg (by decide)]
 refine wpAny_bind (wpAny_of_eq (show Builtin.Builtins.bindParams "sum" ["start"] 0 { } = pure [none] from rfl) ?_)
 obtain ⟨a1, a2⟩ := wX I1 hc (A' := X.A.in1) rfl rfl
 refine wpAny_bind (wpAny_mono (rdy X.A.in1 (λ _ _ => False) a1 a2 (Nat.le_succ _) (by show X.A.units + 1 <= _; omega)) (λ itv s2 ⟨it, lo, SS, e, sm, s0, hlo⟩ => ?_) λ _ _ z => z.elim)
 subst e
 refine wpAny_bind (wpAny_mkInt ?_)
 refine wpAny_bind (wpAny_pure ?_)
 simp only [List.forIn_cons, List.forIn_nil]
 refine wpAny_bind (wpAny_bind (wpAny_bind (wpAny_isInstance (T := "int") (b := false) (typeIs_int _ _ _) PySem.sub_int_str ?_)))
 simp only [Bool.false_eq_true, if_false]
 refine wpAny_pure (wpAny_bind (wpAny_bind (wpAny_isInstance (T := "int") (b := false) (typeIs_int _ _ _) PySem.sub_int_bytes ?_)))
 simp only [Bool.false_eq_true, if_false]
 refine wpAny_pure (wpAny_bind (wpAny_bind (wpAny_isInstance (T := "int") (b := false) (typeIs_int _ _ _) PySem.sub_int_bytearray ?_)))
 simp only [Bool.false_eq_true, if_false]
 refine wpAny_pure (wpAny_pure ?_)
 refine wpAny_bind (wpAny_newObj_type ?_)
 have hn : H1 s2.heap.objs.size = none := (sm.inv s0).hok.fresh (Nat.le_refl _)
 refine wpAny_pure ⟨plainId_quiet F.plain_sum_loop _, codeAny_mono (HR sm hlo st m 0 0 s2.toks 0 0 H1 _ (.inl rfl) (sm.keep (s := s2) (h' := s2.heap.push { cls := .type "list", dict := none, data := .seq [Value.int 0 s2.toks].toArray }) (tk := s2.toks + 1) s0 λ b o e => Heap.get?_push_of_some _ e) w0 (Heap.get?_push_size _ rfl) hn) λ r s' ⟨u, hr, q⟩ => ?_⟩
 subst hr
 exact q
end
end L2
namespace L3
open PySem PySem.Spec PyProof.Rows L2
abbrev eN := Mu -> Option (D × Mu)
structure Ld (K : PySem.W.Frag) (tb : List Addr) (S : qQ) (ths : List eN) (W0 : Wd) : Prop where
 nxt : ∀ (i : Nat) W th d μ' Q, Le tb W0 W -> WOk K tb W -> ths[i]? = some th -> th W.mu = some (d, μ') -> (∀ v W', WOk K tb W' -> Le tb W W' -> W'.mu = μ' -> Den K tb W' d v -> Q v W'.H) -> S.nxt i W.H Q
 fin : ∀ (i : Nat) W, Le tb W0 W -> WOk K tb W -> ths.length <= i -> S.fin i W.H
abbrev StF := En -> Mu -> Option (List eN × Mu)
def KH (K : PySem.W.Frag) (tb : List Addr) (f : StF) : qU := λ σ H R => ∃ W δ ths μ', W.H = H /\ WOk K tb W /\ iW K tb W δ σ /\ f δ W.mu = some (ths, μ') /\
 ∀ S W', WOk K tb W' -> Le tb W W' -> W'.mu = μ' -> Ld K tb S ths W' -> R S W'.H
def xN (X : Cx) (tb : List Addr) (e : Expr) (f : StF) : Prop := zq X e (KH X.K tb f)
def Fw (X : Cx) (tb : List Addr) (e : Expr) (f : StF) : Prop := xq X e (KH X.K tb f)
section
variable {X : Cx} {tb : List Addr} {e tg iter elt : Expr} {f : EF} {pos p : Pos} {fs : StF}
theorem Jh {t t' : qU} (h : zq X e t) (k : ∀ σ H R, t' σ H R -> t σ H R) : zq X e t' := λ pins s σ H R I hq => h pins s σ H R I (k σ H R hq)
theorem Hm {t t' : qU} (h : xq X e t) (k : ∀ σ H R, t' σ H R -> t σ H R) : xq X e t' := λ pins s σ H R I hq => h pins s σ H R I (k σ H R hq)
theorem tQ (h : Fw X tb e fs) : xN X tb e fs := yH h
def thE (d : D) : eN := λ μ => some (d, μ)
def oR (f : EF) : StF := λ δ μ => (f δ μ).bind λ r => match r.1 with
 | .tup ds => some (ds.map thE, r.2)
 | .lst ds => some (ds.map thE, r.2)
 | _ => none
theorem Hc {K : PySem.W.Frag} {J : It} {ds : List D} {W0 : Wd} (io : DX K tb J ⟨ds, none⟩ W0) : Ld K tb (Ca J) (ds.map thE) W0 where
 nxt := λ i W th d μ' Q l ok e1 e2 hQ => by
  rw [List.getElem?_map] at e1
  cases q : ds[i]? with
  | none => rw [q] at e1; cases e1
  | some d0 =>
   rw [q] at e1
   cases e1
   cases e2
   obtain ⟨go, yl⟩ := io.go i W d l ok (Src.bV rfl) q
   exact ⟨go, λ x H' y => by
    obtain ⟨W', rfl, ok', l', m', d'⟩ := yl x H' y
    exact hQ x W' ok' l' m' d'⟩
 fin := λ i W l ok hi => io.stop i W l ok (Src.bV rfl) (by simpa using hi)
theorem jc (hc : X.calm = true) (he : PD X tb e f) : xN X tb e (oR f) :=
 Jh (GJ hc he) λ σ H R zq1 => by
  obtain ⟨W, δ, ths, μ', e, ok, hd, hf, h⟩ := zq1
  unfold oR at hf
  obtain ⟨⟨x, μ1⟩, e1, e2⟩ := Option.bind_eq_some_iff.mp hf
  refine ⟨W, δ, x, μ1, e, ok, hd, e1, λ v W1 ok1 l1 m1 d1 => ?_⟩
  cases x with
  | tup ds =>
   cases e2
   obtain ⟨a, xs, rfl, q, r⟩ := iB d1
   exact ⟨a, rfl, .inr ⟨⟨xs, SqT.fz q⟩, h _ W1 ok1 l1 m1 (Hc (FN q r))⟩⟩
  | lst ds =>
   cases e2
   obtain ⟨a, xs, rfl, q, r⟩ := jJ d1
   exact ⟨a, rfl, .inl ⟨⟨xs, SqL.fz q⟩, h _ W1 ok1 l1 m1 (Hc (Fe q r))⟩⟩
  | _ => cases e2
def thG (h : GF) (fe : EF) (δb : En) (d : D) : eN := λ μ => (h d δb μ).bind λ δ1 => fe δ1 μ
def qJ (own : List Str) (capI : List Nat) (fi : IF) (h : GF) (fe : EF) : StF := λ δ μ => (fi δ μ).bind λ r => match r.1.cel with
 | none => some (r.1.items.map (thG h fe (dD own δ capI)), r.2)
 | some _ => none
theorem pX {fi : IF} {h : GF} {fe : EF} {own cap : List Str} {capI ts : List Nat} {scope : Scope} {P : Addr} {kr : Nat} (hc : X.calm = true) (hr : dO kr X.A) (B : dI X own cap capI scope) (hown : ∀ x ∈ own, (x, NameKind.free) ∉ scope.names) (hnc : ∀ y ∈ scope.names, y.2 ≠ .cell)
  (hP : P ∈ tb) (htb : ∃ c, X.env.code = .ref c /\ PySem.W.CodeHd X.base c P) (hi : PID X tb tg iter fi)
  (hg : ∀ AG cs C code fp s2 H2, PGD (sH X AG own cap scope cs C code fp s2 H2) tb tg ts h)
  (he : ∀ AG cs C code fp s2 H2, (∀ k, dO (k + 1) X.A -> dO k AG) -> PD (sH X AG own cap scope cs C code fp s2 H2) tb elt fe)
  (hts : ∀ i ∈ ts, i < own.length := by decide) (h0 : scope.names.lookup (".0" : Str) = some NameKind.local := by rfl) (hco : scope.isCoroutine = false := by rfl) (hs : ∀ x, genFold iter X.env x = pure x := by intro _; rfl) :
  Fw X tb (.GeneratorExp elt [⟨tg, iter, [], 0⟩] scope pos) (qJ own capI fi h fe) :=
 Hm (GC (g := tDG X.K tb ts h) (te := tD X.K tb fe) hc hr B hown hnc h0 hco htb hi hg he hs) λ σ H R zq2 => by
  obtain ⟨W, δ, ths, μ', e, ok, hd, hf, k⟩ := zq2
  unfold qJ at hf
  obtain ⟨⟨S, μ1⟩, e1, e2⟩ := Option.bind_eq_some_iff.mp hf
  obtain ⟨items, cel⟩ := S
  cases cel with
  | some n => cases e2
  | none =>
   cases e2
   refine ⟨W, δ, ⟨items, none⟩, _, e, ok, hd, e1, λ J W1 ok1 l1 m1 io => ?_⟩
   obtain ⟨ps, ep, tp⟩ := ok1.tab P hP
   refine ⟨ps, ep, tp, λ lo H2 ps' hG => ?_⟩
   obtain ⟨ok2, l2⟩ := ok1.tbl hP ep hG
   refine k _ ⟨H2, W1.ad, W1.mu⟩ ok2 (l1.trans l2) m1 ⟨λ i W3 th d μ3 Q l3 ok3 e3 e4 hQ => ?_, λ i W3 l3 ok3 hi3 => ?_⟩
   .rw [List.getElem?_map] at e3
    cases q : items[i]? with
    | none => rw [q] at e3; cases e3
    | some d0 =>
     rw [q] at e3
     cases e3
     unfold thG at e4
     obtain ⟨δ1, e5, e6⟩ := Option.bind_eq_some_iff.mp e4
     obtain ⟨go, yl⟩ := io.go i W3 d0 (l2.trans l3) ok3 (Src.bV rfl) q
     refine ⟨go, λ x H' y => ?_⟩
     obtain ⟨W4, rfl, ok4, l4, m4, d4⟩ := yl x H' y
     refine ⟨W4, dD own δ capI, d0, δ1, rfl, ok4, (qW hd).mono' (((l1.trans l2).trans l3).trans l4), d4, (by rw [m4]; exact e5), λ σ' d' hl ht => ⟨fits_of hts hl ht, ?_⟩⟩
     exact ⟨W4, δ1, d, μ3, rfl, ok4, d', (by rw [m4]; exact e6), λ v W5 ok5 l5 m5 d5 => hQ v W5 ok5 (l4.trans l5) m5 d5⟩
   .exact io.stop i W3 (l2.trans l3) ok3 (Src.bV rfl) (by simpa using hi3)
def yJ : D -> Option Bool
 | .bl b => some b
 | .int i => some (i != 0)
 | _ => none
theorem xX {K : PySem.W.Frag} {W : Wd} {x : D} {v : V} {k : Bool} (h : Den K tb W x v) (e : yJ x = some k) : CT v k := by
 cases x with
 | bl b => cases e; exact .inl (qG h)
 | int i => cases e; exact .inr ⟨i, bF h, rfl⟩
 | _ => cases e
def yt : List eN -> Mu -> Option (Bool × Mu)
 | [], μ => some (true, μ)
 | t :: r, μ => (t μ).bind λ x => (yJ x.1).bind λ k => if k = true then yt r x.2 else some (false, x.2)
def pZ : List eN -> Mu -> Option (Bool × Mu)
 | [], μ => some (false, μ)
 | t :: r, μ => (t μ).bind λ x => (yJ x.1).bind λ k => if k = true then some (true, x.2) else pZ r x.2
def Df : List eN -> Mu -> Option (List D × Mu)
 | [], μ => some ([], μ)
 | t :: r, μ => (t μ).bind λ x => (Df r x.2).bind λ q => some (x.1 :: q.1, q.2)
def qR : Int -> List eN -> Mu -> Option (Int × Mu)
 | a, [], μ => some (a, μ)
 | a, t :: r, μ => (t μ).bind λ x => match x.1 with
  | .int j => qR (a + j) r x.2
  | _ => none
def FT (f : StF) : EF := λ δ μ => (f δ μ).bind λ r => (yt r.1 r.2).bind λ q => some (.bl q.1, q.2)
def Ag (f : StF) : EF := λ δ μ => (f δ μ).bind λ r => (pZ r.1 r.2).bind λ q => some (.bl q.1, q.2)
def Ew (f : StF) : EF := λ δ μ => (f δ μ).bind λ r => if r.1.length <= sizeLine then (Df r.1 r.2).bind λ q => some (.tup q.1, q.2) else none
def DK (f : StF) : EF := λ δ μ => (f δ μ).bind λ r => (qR 0 r.1 r.2).bind λ q => some (.int q.1, q.2)
theorem Ha (hc : X.calm = true) (hm : X.mg "all" = none) (hstr : xN X tb e fs) (hg : Gl X "all" := by rfl) (hs : starEach [e] X.env = (false, eval e X.env) :: starEach [] X.env := by rfl) : PD X tb (.Call (.Name "all" p) [e] [] pos) (FT fs) :=
 dW (HY hc hm hstr hg hs) λ σ H Q zq3 => by
  obtain ⟨W, δ, d, μ', e, ok, hd, hf, h⟩ := zq3
  unfold FT at hf
  obtain ⟨⟨ths, μ1⟩, e1, hf⟩ := Option.bind_eq_some_iff.mp hf
  obtain ⟨⟨b, μ2⟩, e2, e3⟩ := Option.bind_eq_some_iff.mp hf
  cases e3
  refine ⟨W, δ, ths, μ1, e, ok, hd, e1, λ S W1 ok1 l1 m1 so => ?_⟩
  refine ⟨λ i m H2 => m = ths.length - i /\ ∃ W2, W2.H = H2 /\ WOk X.K tb W2 /\ Le tb W1 W2 /\ yt (ths.drop i) W2.mu = some (b, μ2), ⟨_, rfl, W1, rfl, ok1, Le.refl _, by rw [m1]; exact e2⟩, ?_⟩
  rintro i m H2 ⟨rfl, W2, rfl, ok2, l2, ha⟩
  by_cases hlt : i < ths.length
  .right
   rw [List.drop_eq_getElem_cons hlt] at ha
   unfold yt at ha
   obtain ⟨⟨x, μ3⟩, e3, ha⟩ := Option.bind_eq_some_iff.mp ha
   obtain ⟨k, e4, ha⟩ := Option.bind_eq_some_iff.mp ha
   refine so.nxt i W2 ths[i] x μ3 _ l2 ok2 (by simp [hlt]) e3 λ v W3 ok3 l3 m3 d3 => ⟨k, xX d3 e4, ?_⟩
   cases k with
   | true =>
    rw [if_pos rfl]
    exact ⟨ths.length - (i + 1), by omega, rfl, W3, rfl, ok3, l2.trans l3, by rw [m3]; exact ha⟩
   | false =>
    rw [if_neg Bool.false_ne_true]
    cases ha
    exact h _ W3 ok3 ((l1.trans l2).trans l3) m3 gD
  .left
   rw [List.drop_of_length_le (by omega)] at ha
   cases ha
   exact ⟨so.fin i W2 l2 ok2 (by omega), h _ W2 ok2 (l1.trans l2) rfl gD⟩
theorem wC (hc : X.calm = true) (hm : X.mg "any" = none) (hstr : xN X tb e fs) (hg : Gl X "any" := by rfl) (hs : starEach [e] X.env = (false, eval e X.env) :: starEach [] X.env := by rfl) : PD X tb (.Call (.Name "any" p) [e] [] pos) (Ag fs) :=
 dW (JN hc hm hstr hg hs) λ σ H Q zq4 => by
  obtain ⟨W, δ, d, μ', e, ok, hd, hf, h⟩ := zq4
  unfold Ag at hf
  obtain ⟨⟨ths, μ1⟩, e1, hf⟩ := Option.bind_eq_some_iff.mp hf
  obtain ⟨⟨b, μ2⟩, e2, e3⟩ := Option.bind_eq_some_iff.mp hf
  cases e3
  refine ⟨W, δ, ths, μ1, e, ok, hd, e1, λ S W1 ok1 l1 m1 so => ?_⟩
  refine ⟨λ i m H2 => m = ths.length - i /\ ∃ W2, W2.H = H2 /\ WOk X.K tb W2 /\ Le tb W1 W2 /\ pZ (ths.drop i) W2.mu = some (b, μ2), ⟨_, rfl, W1, rfl, ok1, Le.refl _, by rw [m1]; exact e2⟩, ?_⟩
  rintro i m H2 ⟨rfl, W2, rfl, ok2, l2, ha⟩
  by_cases hlt : i < ths.length
  .right
   rw [List.drop_eq_getElem_cons hlt] at ha
   unfold pZ at ha
   obtain ⟨⟨x, μ3⟩, e3, ha⟩ := Option.bind_eq_some_iff.mp ha
   obtain ⟨k, e4, ha⟩ := Option.bind_eq_some_iff.mp ha
   refine so.nxt i W2 ths[i] x μ3 _ l2 ok2 (by simp [hlt]) e3 λ v W3 ok3 l3 m3 d3 => ⟨k, xX d3 e4, ?_⟩
   cases k with
   | false =>
    rw [if_neg Bool.false_ne_true]
    exact ⟨ths.length - (i + 1), by omega, rfl, W3, rfl, ok3, l2.trans l3, by rw [m3]; exact ha⟩
   | true =>
    rw [if_pos rfl]
    cases ha
    exact h _ W3 ok3 ((l1.trans l2).trans l3) m3 gD
  .left
   rw [List.drop_of_length_le (by omega)] at ha
   cases ha
   exact ⟨so.fin i W2 l2 ok2 (by omega), h _ W2 ok2 (l1.trans l2) rfl gD⟩
theorem zy (hc : X.calm = true) (hm : X.mg "sum" = none) (hstr : xN X tb e fs) (hg : Gl X "sum" := by rfl) (hs : starEach [e] X.env = (false, eval e X.env) :: starEach [] X.env := by rfl) : PD X tb (.Call (.Name "sum" p) [e] [] pos) (DK fs) :=
 dW (Jq hc hm hstr hg hs) λ σ H Q zq5 => by
  obtain ⟨W, δ, d, μ', e, ok, hd, hf, h⟩ := zq5
  unfold DK at hf
  obtain ⟨⟨ths, μ1⟩, e1, hf⟩ := Option.bind_eq_some_iff.mp hf
  obtain ⟨⟨b, μ2⟩, e2, e3⟩ := Option.bind_eq_some_iff.mp hf
  cases e3
  refine ⟨W, δ, ths, μ1, e, ok, hd, e1, λ S W1 ok1 l1 m1 so => ?_⟩
  refine ⟨λ i m t H2 => m = ths.length - i /\ ∃ W2, W2.H = H2 /\ WOk X.K tb W2 /\ Le tb W1 W2 /\ qR t (ths.drop i) W2.mu = some (b, μ2), ⟨_, rfl, W1, rfl, ok1, Le.refl _, by rw [m1]; exact e2⟩, ?_⟩
  rintro i m t H2 ⟨rfl, W2, rfl, ok2, l2, ha⟩
  by_cases hlt : i < ths.length
  .right
   rw [List.drop_eq_getElem_cons hlt] at ha
   unfold qR at ha
   obtain ⟨⟨x, μ3⟩, e3, ha⟩ := Option.bind_eq_some_iff.mp ha
   cases x with
   | int j =>
    refine so.nxt i W2 ths[i] _ μ3 _ l2 ok2 (by simp [hlt]) e3 λ v W3 ok3 l3 m3 d3 => ⟨j, bF d3, ths.length - (i + 1), by omega, rfl, W3, rfl, ok3, l2.trans l3, by rw [m3]; exact ha⟩
   | _ => cases ha
  .left
   rw [List.drop_of_length_le (by omega)] at ha
   cases ha
   exact ⟨so.fin i W2 l2 ok2 (by omega), h _ W2 ok2 (l1.trans l2) rfl dH⟩
end
abbrev FF := List D -> Mu -> Option (D × Mu)
def spD (K : PySem.W.Frag) (tb : List Addr) (n : Nat) (φ : FF) : Sp := λ vs H Q _ => ∃ W ds d μ', W.H = H /\ WOk K tb W /\ cG K tb W ds vs /\ ds.length = n /\ φ ds W.mu = some (d, μ') /\
 ∀ v W', WOk K tb W' -> Le tb W W' -> W'.mu = μ' -> Den K tb W' d v -> Q v W'.H
structure FI (P : Program) (w : World) (K : PySem.W.Frag) (mg : Str -> Option Value) (base : Heap) (tb : List Addr) (x : Str) (n k : Nat) (φ : FF) : Prop where
 is : ∃ f fd ps, qM P w K mg base CX0 k f fd ps (spD K tb n φ) /\ mg x = some (.ref f) /\ PySem.W.keepIn K (.ref f) = true /\ Binds K fd ps []
def aK (m : Nat) (g : SF) : FF := λ ds μ => (g (ds.map some ++ List.replicate (m - ds.length) none) μ).bind λ r => match r.1 with
 | .rt d => some (d, r.2.2)
 | .nx => some (.non, r.2.2)
 | _ => none
section
variable {X : Cx} {tb : List Addr} {e : Expr} {es : List Expr} {fs : AF} {x : Str} {n k : Nat} {φ : FF} {p pos : Pos}
theorem aM (F : FI X.prog X.w X.K X.mg X.base tb x n k φ) (hr : dO k X.A) (ha : PAD X tb (e :: es) fs) (hn : ∀ δ μ r, fs δ μ = some r -> r.1.length = n) (hg : Gl X x := by rfl) (hdb : (x == ("__debug__" : Str)) = false := by decide)
  (he : starEach (e :: es) X.env = (false, eval e X.env) :: starEach es X.env := by rfl) (hpl : (backTo pos (starEach es X.env)).any (·.1) = false := by rfl) : PD X tb (.Call (.Name x p) (e :: es) [] pos) (MC fs φ) := by
 obtain ⟨f, fd, ps, h1, h2, h3, h4⟩ := F.is
 refine dW (Jl (E := E0) h1 hr hg h2 h3 h4 .nil QM ha hdb he hpl) λ σ H Q zq7 => ?_
 obtain ⟨W, δ, d, μ', e, ok, hd, hf, h⟩ := zq7
 unfold MC at hf
 obtain ⟨⟨xs, μ1⟩, e1, e2⟩ := Option.bind_eq_some_iff.mp hf
 refine ⟨W, δ, xs, μ1, e, ok, hd, e1, λ vs W1 ok1 l1 m1 d1 => ?_⟩
 refine ⟨W1, xs, d, μ', rfl, ok1, by rw [List.append_nil]; exact d1, hn _ _ _ e1, (by rw [m1]; exact e2), λ v W' ok' l' m' d' => h v W' ok' (l1.trans l') m' d'⟩
theorem aN (δ : En) (μ : Mu) (r : List D × Mu) (h : aB δ μ = some r) : r.1.length = 0 := by cases h; rfl
theorem az {f : EF} {fs : AF} {n : Nat} (hk : ∀ δ μ r, fs δ μ = some r -> r.1.length = n) (δ : En) (μ : Mu) (r : List D × Mu) (h : aa f fs δ μ = some r) : r.1.length = n + 1 := by
 unfold aa at h
 obtain ⟨q, _, h⟩ := Option.bind_eq_some_iff.mp h
 obtain ⟨t, e, h⟩ := Option.bind_eq_some_iff.mp h
 cases h
 rw [List.length_cons, hk _ _ _ e]
end
structure dR (K : PySem.W.Frag) (x qual : Str) (st : Stmt) (f : Addr) (fd : FuncData) (P : Addr) : Prop where
 ex : ∃ (oc : Value) (od : Option Addr) (kV doc pm : Value) (an : Option Addr) (c : Addr) (ct : Value) (osl : Array (Option Value)),
  fd = PySem.W.fnOf x qual (lr st) (jb st) (aP st) .none kV doc pm an (.ref c) ct /\ K.lookup f = some ⟨oc, od, .func fd, osl⟩ /\ PySem.W.codeIn K (.ref c) qual = true /\ ∀ h : Heap, K.In h -> PySem.W.CodeHd h c P
 kp : PySem.W.keepIn K (.ref f) = true
theorem cH {P : Program} {w : World} {K : PySem.W.Frag} {mg : Str -> Option Value} {base : Heap} {tb : List Addr} {x qual : Str} {st : Stmt} {f : Addr} {fd : FuncData} {T : Addr} {N ps : List Str} {n k : Nat} {g : SF} (F : dR K x qual st f fd T) (KB : K.In base) (hmg : mg x = some (.ref f)) (S : aZ N ps (aP st)) (hps : ps.length = n)
  (hb : ∀ (kV doc pm : Value) (an : Option Addr) (cdv ct : Value) (us : List Value), us.length = ps.length -> bindArgs (PySem.W.fnOf x qual (lr st) (jb st) (aP st) .none kV doc pm an cdv ct) ⟨us, []⟩ = pure (ps.zip us))
  (hbody : ∀ (c : Addr) (A : Around) (outer : List Env) (s : Shared) (H : Hp) (E : XK), PySem.W.CodeHd base c T -> dO k (A.deeper (envOfC qual (aP st) s.heap.objs.size f (.ref c))) ->
   ut (zT CX0 P w K mg base N qual (aP st) f (.ref c) A outer s H E).nox tb (jb st) g) : FI P w K mg base tb x n (k + 1) (aK N.length g) := by
 obtain ⟨oc, od, kV, doc, pm, an, c, ct, osl, rfl, lk, hcd, hhd⟩ := F.ex
 refine ⟨f, _, ps, Lh lk hcd S (λ vs H Q E ⟨W, ds, d, μ', e, ok, dl, hl, _⟩ => by rw [<- aF.length dl, hl, hps]) λ A outer s H vs Q E hr hsp => ?_, hmg, F.kp, .all (hb kV doc pm an (.ref c) ct)⟩
 obtain ⟨W, ds, d, μ', e, ok, dl, hl, hf, k⟩ := hsp
 refine ⟨_, (hbody c A outer s H E (hhd base KB) hr).nox, ?_⟩
 unfold aK at hf
 obtain ⟨⟨fl, δ', μ1⟩, e1, e2⟩ := Option.bind_eq_some_iff.mp hf
 refine ⟨W, _, fl, δ', μ1, e, ok, ?_, e1, λ σ' W' ok' l' m' d' => ?_⟩
 .have hlen := aF.length dl
  refine ⟨by unfold L2.start; simp [hlen], λ i y q => ?_⟩
  unfold L2.start
  by_cases hi : i < ds.length
  .rw [List.getElem?_append_left (by simpa using hi), List.getElem?_map] at q
   cases q2 : ds[i]? with
   | none => rw [q2] at q; cases q
   | some z =>
    rw [q2] at q
    cases q
    obtain ⟨v, ev, dv⟩ := aF.get dl q2
    exact ⟨v, by rw [List.getElem?_append_left (by rw [List.length_map, <- hlen]; exact hi), List.getElem?_map, ev]; rfl, dv⟩
  .rw [List.getElem?_append_right (by simpa using hi), List.getElem?_replicate] at q
   split at q <;> cases q
 .cases fl with
  | nx => cases e2; exact k .non W' ok' l' m' qY
  | rt d0 => cases e2; exact λ v dv => k v W' ok' l' m' dv
  | bk => cases e2
  | ct => cases e2
end L3
namespace L2
open PySem PySem.Spec PyProof.Rows
section
variable {X : Cx} {a b c e : Expr} {ta tb tc te : TE} {pos : Pos}
def mL (i j : Int) : Nat := Builtin.Int.intBits i + Builtin.Int.intBits j
theorem Kg : OpR X (binaryOp .Mult) (rI (λ i j => mL i j <= 134217728) λ i j => .int (i * j)) := opI λ _ _ _ _ _ _ _ hc q => mul_int q (IntMulOk.of_le (Nat.le_refl _) (Nat.le_refl _) hc)
theorem Fp : OpR X (binaryOp .FloorDiv) (rI (λ _ j => j ≠ 0 /\ j.natAbs.log2 < 9000) λ i j => .int (i.fdiv j)) := opI λ _ _ _ _ _ _ _ hc q => floordiv_int hc.1 q (.inl (PyProof.noPylong_of_log2 hc.2))
theorem Ko : OpR X (binaryOp .Pow) (rI (λ i j => 0 <= j /\ (Builtin.Int.intBits i : Int) * j <= 2 ^ 27) λ i j => .int (i ^ j.toNat)) := opI λ _ _ _ _ _ _ _ hc q => pow_int hc.1 hc.2 q
def Rb (K : PySem.W.Frag) : R2 := λ x y H Q => ∃ a b xs ys, x = .ref a /\ y = .ref b /\ SqT K H a xs /\ SqT K H b ys /\ xs.length + ys.length <= sizeLine /\
 (xs = [] -> Q (.ref b) H) /\ (xs ≠ [] -> ys = [] -> Q (.ref a) H) /\ (xs ≠ [] -> ys ≠ [] -> ∀ p, H p = none -> Q (.ref p) (upd H p (.tup (xs ++ ys))))
theorem Ij : OpR X (binaryOp .Add) (Rb X.K) := by
 intro pins s σ H x y v u Q I rx ry h
 obtain ⟨t, b, xs, ys, rfl, rfl, ha, hb, hz, q0, q1, q2⟩ := h
 by_cases hx : xs = []
 .subst hx
  cases rx
  cases ry
  obtain ⟨its, r1, p1, _⟩ := I.tuple ha
  obtain ⟨its2, r2, p2, _⟩ := I.tuple hb
  cases r1
  obtain ⟨⟨cls, dd, data, sl⟩, ho, hc, n, hd⟩ := id p1
  obtain ⟨⟨cls2, dd2, data2, sl2⟩, ho2, hc2, n2, hd2⟩ := id p2
  simp only at hc hd hc2 hd2
  subst hc hd hc2 hd2
  exact concat_meets ⟨_, ho, rfl⟩ ⟨_, ho2, rfl⟩ noFill_tuple_add seq_tuple_add PySem.F.slot_tuple_add PySem.F.entry_tuple_add (PySem.F.args_tuple_add_2 _ _)
   (tuple_addW0 t b _ _ n n2 dd dd2 sl sl2 (by simp)) ⟨ho, ho2, ⟨.ref b, H, I, rfl, q0 rfl⟩⟩
 .exact Ji pins s σ H _ _ v u Q I rx ry ⟨t, b, xs, ys, rfl, rfl, ha, hb, hx, hz, q1 hx, q2 hx⟩
theorem qe : fillsNumberSlot (.type "tuple") "mul" = pure false :=
 PySem.fillsNumberSlot_seq (id := "tuple.__mul__") (r := some (.builtin "tuple.__rmul__")) F.slot_tuple_mul.lookup (by decide +kernel) F.slot_tuple_rmul.lookup (by decide +kernel)
theorem wQ : seqRepeat? (.type "tuple") = pure (some (.builtin "tuple.__mul__")) := by
 unfold seqRepeat?
 rw [PySem.seqSlot_of (T := "tuple") (name := "__mul__") (id := "tuple.__mul__") F.slot_tuple_mul.lookup (by decide +kernel), PySem.seqSlot_of (T := "tuple") (name := "__rmul__") (id := "tuple.__rmul__") F.slot_tuple_rmul.lookup (by decide +kernel)]
 rfl
theorem rB (a : Int) (t : Tok) (l : Addr) (items : Array Value) (n : Nat) (dd : Option Addr) (sl : Array (Option Value)) :
  Meets (Builtin.«int.__rmul__» ⟨[.int a t, .ref l], []⟩) (λ _ R s => s.heap.get? l = some { cls := .type "tuple", dict := dd, data := .seq items n, slots := sl } /\ R (.ok (.ret Value.notImplemented)) s) :=
 .of_wp λ prog w A R s h => by obtain ⟨hp, g, d, tk, os⟩ := s; obtain ⟨hl, h⟩ := h; wp_walk; exact ⟨_, rfl, h⟩
theorem sO (l : Addr) (items : Array Value) (n : Nat) (x : Int) (u : Tok) (dd : Option Addr) (sl : Array (Option Value)) (h0 : (decide (x < -2 ^ 63) || decide (x >= 2 ^ 63)) = false) (h1 : (items.isEmpty || x == 1) = true) :
  Meets (Builtin.«tuple.__mul__» ⟨[.ref l, .int x u], []⟩) (λ _ R s => s.heap.get? l = some { cls := .type "tuple", dict := dd, data := .seq items n, slots := sl } /\ R (.ok (.ret (Value.ref l))) s) :=
 .of_wp λ prog w A R s h => by
  obtain ⟨hp, g, d, tk, os⟩ := s; obtain ⟨hl, h⟩ := h
  unfold Builtin.«tuple.__mul__»
  wp_walk using AutoSeq1.wpAny_loadPart' hl
  refine wpAny_ite_false (decide_eq_false (by rw [h0]; exact Bool.false_ne_true)) ?_
  wp_walk using AutoSeq1.wpAny_loadPart' hl
  exact ⟨_, rfl, h⟩
theorem sU (l : Addr) (items : Array Value) (n : Nat) (x : Int) (u : Tok) (dd : Option Addr) (sl : Array (Option Value)) (h0 : (decide (x < -2 ^ 63) || decide (x >= 2 ^ 63)) = false) (h1 : (items.isEmpty || x == 1) = false) (h2 : (decide (x <= 0) || items.isEmpty) = true) :
  Meets (Builtin.«tuple.__mul__» ⟨[.ref l, .int x u], []⟩) (λ _ R s => s.heap.get? l = some { cls := .type "tuple", dict := dd, data := .seq items n, slots := sl } /\ R (.ok (.ret (Value.ref s.heap.objs.size))) { s with heap := s.heap.push { cls := Value.type "tuple", data := Data.seq #[] }, toks := s.toks }) :=
 .of_wp λ prog w A R s h => by
  obtain ⟨hp, g, d, tk, os⟩ := s; obtain ⟨hl, h⟩ := h
  unfold Builtin.«tuple.__mul__»
  wp_walk using AutoSeq1.wpAny_loadPart' hl
  refine wpAny_ite_false (decide_eq_false (by rw [h0]; exact Bool.false_ne_true)) ?_
  wp_walk using AutoSeq1.wpAny_loadPart' hl
  exact ⟨_, rfl, h⟩
theorem ur (l : Addr) (items : Array Value) (n : Nat) (x : Int) (u : Tok) (dd : Option Addr) (sl : Array (Option Value)) (h0 : (decide (x < -2 ^ 63) || decide (x >= 2 ^ 63)) = false) (h1 : (items.isEmpty || x == 1) = false) (h2 : (decide (x <= 0) || items.isEmpty) = false)
  (h3 : ¬ (items.size : Int) * x > (2 ^ 63 - 1) / 8) (h4 : Builtin.Tuple.tupleTooMany ((items.size : Int) * x) = false) (h5 : ((List.replicate x.toNat items).foldl (· ++ ·) #[]).size <= sizeLine) :
  Meets (Builtin.«tuple.__mul__» ⟨[.ref l, .int x u], []⟩) (λ _ R s => s.heap.get? l = some { cls := .type "tuple", dict := dd, data := .seq items n, slots := sl } /\ R (.ok (.ret (Value.ref s.heap.objs.size))) { s with heap := s.heap.push { cls := Value.type "tuple", data := Data.seq ((List.replicate x.toNat items).foldl (· ++ ·) #[]) }, toks := s.toks }) :=
 .of_wp λ prog w A R s h => by
  obtain ⟨hp, g, d, tk, os⟩ := s; obtain ⟨hl, h⟩ := h
  unfold Builtin.«tuple.__mul__»
  wp_walk using AutoSeq1.wpAny_loadPart' hl
  refine wpAny_ite_false (decide_eq_false (by rw [h0]; exact Bool.false_ne_true)) ?_
  wp_walk using AutoSeq1.wpAny_loadPart' hl
  refine wpAny_ite_false (decide_eq_false h3) ?_
  wp_walk using AutoSeq1.wpAny_loadPart' hl
  exact ⟨_, rfl, h⟩
def QR (K : PySem.W.Frag) : R2 := λ x y H Q => ∃ l k xs, x = .ref l /\ y = .int k /\ SqT K H l xs /\ -(2 ^ 63) <= k /\ k < 2 ^ 63 /\ xs.length * k.toNat <= sizeLine /\
 ((xs = [] ∨ k = 1) -> Q (.ref l) H) /\ (¬ (xs = [] ∨ k = 1) -> ∀ p, H p = none -> Q (.ref p) (upd H p (.tup (List.replicate k.toNat xs).flatten)))
theorem Kh : OpR X (binaryOp .Mult) (QR X.K) := by
 intro pins s σ H x y v u Q I rx ry h
 obtain ⟨l, k, xs, rfl, rfl, hH, h1, h2, hz, q1, q2⟩ := h
 cases rx
 obtain ⟨t, rfl⟩ := ry
 obtain ⟨its, r, p, hz0⟩ := I.tuple hH
 have hl := r.length
 obtain ⟨⟨cls, dd, data, sl⟩, e, hc, n, hd⟩ := id p
 simp only at hc hd
 subst hc hd
 have h0 : (decide (k < -2 ^ 63) || decide (k >= 2 ^ 63)) = false := by
  rw [decide_eq_false (by omega), decide_eq_false (by omega)]; rfl
 refine wpAny_binaryOp_repeat_ref (T := "tuple") (U := "int") (by decide) ⟨_, e, rfl⟩ (λ s' => typeIs_int s' k t) qe F.fills_int_mul F.slot_int_rmul wQ F.slot_int_index.lookup
  (call_meets F.slot_int_rmul (typeIs_int s k t) F.entry_int_rmul (F.args_int_rmul_2 _ _) (rB k t l its.toArray n dd sl) ⟨e, rfl, ⟨_, e, rfl⟩, ?_⟩)
 by_cases hs : xs = [] ∨ k = 1
 .refine call_meets F.slot_tuple_mul ⟨_, e, rfl⟩ F.entry_tuple_mul (F.args_tuple_mul_2 _ _) (sO l its.toArray n k t dd sl h0 ?_) ⟨e, ⟨.ref l, H, I, rfl, q1 hs⟩⟩
  rcases hs with hs | hs
  .subst hs; cases r; rfl
  .subst hs; simp
 .have hne : (its.toArray.isEmpty || k == 1) = false := by
   rw [Bool.or_eq_false_iff]
   refine ⟨?_, by simpa using λ z => hs (.inr z)⟩
   cases its with
   | nil => cases r; exact absurd (Or.inl rfl) hs
   | cons a b => simp
  have hne' : its.toArray.isEmpty = false := (Bool.or_eq_false_iff.mp hne).1
  by_cases hk : k <= 0
  .refine call_meets F.slot_tuple_mul ⟨_, e, rfl⟩ F.entry_tuple_mul (F.args_tuple_mul_2 _ _) (sU l its.toArray n k t dd sl h0 hne (by rw [decide_eq_true hk]; rfl)) ⟨e, ?_⟩
   have hk0 : k.toNat = 0 := by omega
   refine ⟨.ref s.heap.objs.size, _, I.laid (t' := s.toks) (o := .tup []) (λ b ob q => Heap.get?_push_of_some _ q) (Nat.le_refl _) ⟨Nat.zero_le _, [], .nil, IsTup.new _ _⟩, rfl, ?_⟩
   have := q2 hs _ (I.hok.fresh (Nat.le_refl _))
   rw [hk0] at this
   exact this
  .have hp : its.length * k.toNat <= sizeLine := by rw [<- hl]; exact hz
   have hsz := sizeLine_eq
   have hcast : ((its.toArray.size : Int)) * k = ((its.length * k.toNat : Nat) : Int) := by
    rw [List.size_toArray, Int.natCast_mul, Int.toNat_of_nonneg (by omega)]
   have hfold : List.foldl (λ x1 x2 => x1 ++ x2) #[] (List.replicate k.toNat its.toArray) = (List.replicate k.toNat its).flatten.toArray := by
    have := foldl_rep its k.toNat []
    rw [List.nil_append] at this
    exact this
   have hlen : (List.replicate k.toNat its).flatten.length <= sizeLine := by rw [len_rep, Nat.mul_comm]; exact hp
   refine call_meets F.slot_tuple_mul ⟨_, e, rfl⟩ F.entry_tuple_mul (F.args_tuple_mul_2 _ _) (ur l its.toArray n k t dd sl h0 hne (by rw [decide_eq_false hk, hne']; rfl) ?_ ?_ ?_) ⟨e, ?_⟩
   .rw [hcast]
    have : (sizeLine : Int) <= (2 ^ 63 - 1) / 8 := by decide
    omega
   .rw [hcast]
    unfold Builtin.Tuple.tupleTooMany
    exact decide_eq_false (by omega)
   .rw [hfold, List.size_toArray]; exact hlen
   .rw [hfold]
    refine ⟨.ref s.heap.objs.size, _, I.laid (t' := s.toks) (o := .tup (List.replicate k.toNat xs).flatten) (λ b ob q => Heap.get?_push_of_some _ q) (Nat.le_refl _) ⟨by rw [len_rep, Nat.mul_comm]; exact hz, _, r.rep k.toNat, IsTup.new _ _⟩, rfl, q2 hs _ (I.hok.fresh (Nat.le_refl _))⟩
def Ot (K : PySem.W.Frag) (T : String) (x : V) (H : Hp) (k : Bool) : Prop := match x with
 | .non => k = false
 | .bl _ => k = (T == "bool" || T == "int")
 | .int _ => k = (T == "int")
 | .str _ => k = (T == "str")
 | .ref p => (k = (T == "list") /\ ∃ xs, SqL K H p xs) ∨ (k = (T == "tuple") /\ ∃ xs, SqT K H p xs) ∨ (k = (T == "dict") /\ ∃ xs, H p = some (.dK xs))
 | _ => False
def Iv : List String := ["bool", "int", "str", "list", "tuple", "dict"]
theorem Gb : gZ X (.builtin "isinstance") (λ xs H Q => ∃ x T k, xs = [x, .ty T] /\ T ∈ Iv /\ Ot X.K T x H k /\ Q (.bl k) H) := by
 intro pins s σ H xs us Q I r h
 obtain ⟨x, T, k, rfl, hT, hx, q⟩ := h
 obtain ⟨u, w', rfl, rx, rt⟩ := vals2 r
 cases rt
 have fin : EP X pins σ Q (.bool k) s := ⟨.bl k, H, I, rfl, q⟩
 have fin1 : EP X pins σ Q (.bool k) { s with toks := s.toks + 1 } := ⟨.bl k, H, I.tok _, rfl, q⟩
 simp only [Iv, List.mem_cons, List.not_mem_nil, or_false] at hT
 cases x with
 | non =>
  cases rx
  have hk : k = false := hx
  subst hk
  rcases hT with rfl | rfl | rfl | rfl | rfl | rfl
  .exact IsiPair.NoneType_bool fin1
  .exact IsiPair.NoneType_int fin1
  .exact IsiPair.NoneType_str fin1
  .exact IsiPair.NoneType_list fin1
  .exact IsiPair.NoneType_tuple fin1
  .exact IsiPair.NoneType_dict fin1
 | bl b =>
  cases rx
  have hk : k = _ := hx
  subst hk
  rcases hT with rfl | rfl | rfl | rfl | rfl | rfl
  .exact IsiPair.bool_bool fin
  .exact IsiPair.bool_int fin
  .exact IsiPair.bool_str fin1
  .exact IsiPair.bool_list fin1
  .exact IsiPair.bool_tuple fin1
  .exact IsiPair.bool_dict fin1
 | int b =>
  obtain ⟨t, rfl⟩ := rx
  have hk : k = _ := hx
  subst hk
  rcases hT with rfl | rfl | rfl | rfl | rfl | rfl
  .exact IsiPair.int_bool fin1
  .exact IsiPair.int_int fin
  .exact IsiPair.int_str fin1
  .exact IsiPair.int_list fin1
  .exact IsiPair.int_tuple fin1
  .exact IsiPair.int_dict fin1
 | str b =>
  obtain ⟨t, rfl⟩ := rx
  have hk : k = _ := hx
  subst hk
  rcases hT with rfl | rfl | rfl | rfl | rfl | rfl
  .exact IsiPair.str_bool fin1
  .exact IsiPair.str_int fin1
  .exact IsiPair.str_str fin
  .exact IsiPair.str_list fin1
  .exact IsiPair.str_tuple fin1
  .exact IsiPair.str_dict fin1
 | ref p =>
  cases rx
  rcases hx with ⟨hk, xs, hq⟩ | ⟨hk, xs, hq⟩ | ⟨hk, xs, hq⟩
  .subst hk
   obtain ⟨its, _, pl, _⟩ := I.list hq
   obtain ⟨o, ho, hc, _⟩ := pl.isList
   rcases hT with rfl | rfl | rfl | rfl | rfl | rfl
   .exact IsiPair.list_bool ho hc fin1
   .exact IsiPair.list_int ho hc fin1
   .exact IsiPair.list_str ho hc fin1
   .exact IsiPair.list_list ho hc fin
   .exact IsiPair.list_tuple ho hc fin1
   .exact IsiPair.list_dict ho hc fin1
  .subst hk
   obtain ⟨its, _, pl, _⟩ := I.tuple hq
   obtain ⟨o, ho, hc, _⟩ := pl
   rcases hT with rfl | rfl | rfl | rfl | rfl | rfl
   .exact IsiPair.tuple_bool ho hc fin1
   .exact IsiPair.tuple_int ho hc fin1
   .exact IsiPair.tuple_str ho hc fin1
   .exact IsiPair.tuple_list ho hc fin1
   .exact IsiPair.tuple_tuple ho hc fin
   .exact IsiPair.tuple_dict ho hc fin1
  .subst hk
   obtain ⟨_, _, vs, _, o, _, _, ho, ex, _⟩ := I.hok p _ hq
   have hc := ex.1
   rcases hT with rfl | rfl | rfl | rfl | rfl | rfl
   .exact IsiPair.dict_bool ho hc fin1
   .exact IsiPair.dict_int ho hc fin1
   .exact IsiPair.dict_str ho hc fin1
   .exact IsiPair.dict_list ho hc fin1
   .exact IsiPair.dict_tuple ho hc fin1
   .exact IsiPair.dict_dict ho hc fin
 | _ => exact hx.elim
end
end L2
namespace L3
open PySem PySem.Spec PyProof.Rows L2
abbrev O2 := D -> D -> Mu -> Option (D × Mu)
abbrev O1' := D -> Mu -> Option (D × Mu)
abbrev ON := List D -> Mu -> Option (D × Mu)
def bw : O2
 | .int i, .int j, μ => some (.int (i + j), μ)
 | .tup xs, .tup ys, μ => if xs.length + ys.length <= sizeLine then some (.tup (xs ++ ys), μ) else none
 | .lst xs, .lst ys, μ => if xs.length + ys.length <= sizeLine then some (.lst (xs ++ ys), μ) else none
 | .str x, .str y, μ => if x.length + y.length <= sizeLine then some (.str (x ++ y), μ) else none
 | _, _, _ => none
def cu : O2
 | .int i, .int j, μ => some (.int (i - j), μ)
 | _, _, _ => none
def bC : O2
 | .int i, .int j, μ => if mL i j <= 134217728 then some (.int (i * j), μ) else none
 | .tup xs, .int k, μ => if -(2 ^ 63) <= k /\ k < 2 ^ 63 /\ xs.length * k.toNat <= sizeLine then some (.tup (List.replicate k.toNat xs).flatten, μ) else none
 | .lst xs, .int k, μ => if -(2 ^ 63) <= k /\ k < 2 ^ 63 /\ xs.length * k.toNat <= sizeLine then some (.lst (List.replicate k.toNat xs).flatten, μ) else none
 | _, _, _ => none
def oDiv : O2
 | .int i, .int j, μ => if j ≠ 0 /\ j.natAbs.log2 < 9000 then some (.int (i.fdiv j), μ) else none
 | _, _, _ => none
def oMod : O2
 | .int i, .int j, μ => if j ≠ 0 then some (.int (i.fmod j), μ) else none
 | _, _, _ => none
def zx : O2
 | .int i, .int j, μ => if 0 <= j /\ (Builtin.Int.intBits i : Int) * j <= 2 ^ 27 then some (.int (i ^ j.toNat), μ) else none
 | _, _, _ => none
def oLt : O2
 | .int i, .int j, μ => some (.bl (decide (i < j)), μ)
 | _, _, _ => none
def oGt : O2
 | .int i, .int j, μ => some (.bl (decide (j < i)), μ)
 | _, _, _ => none
def oGe : O2
 | .int i, .int j, μ => some (.bl (decide (j <= i)), μ)
 | _, _, _ => none
section
variable {X : Cx} {tb : List Addr}
theorem rn {K : PySem.W.Frag} {F : Hp} {ad : List Addr} {ds : List D} {vs : List V} (h : aF K F ad ds vs) : ∀ k : Nat, aF K F ad (List.replicate k ds).flatten (List.replicate k vs).flatten
 | 0 => aF.nil
 | k + 1 => by
  rw [List.replicate_succ, List.replicate_succ, List.flatten_cons, List.flatten_cons]
  exact aF.append h (rn h k)
theorem kY {K : PySem.W.Frag} {F : Hp} {ad : List Addr} {ds : List D} {vs : List V} (h : aF K F ad ds vs) : vs = [] ↔ ds = [] := by
 have := aF.length h
 cases ds <;> cases vs <;> simp_all
theorem IV {α : Type} (xs : List α) : (List.replicate (1 : Int).toNat xs).flatten = xs := by simp
theorem bN : OpD X tb (binaryOp .Add) bw := ⟨_, NZ.or (Ij.or (LK.or zJ)), λ W x y v u d μ' Q ok dx dy ho h => by
 cases x with
 | int i =>
  cases y with
  | int j => cases ho; rw [bF dx, bF dy]; exact .inl ⟨i, j, rfl, rfl, put ok h dH⟩
  | _ => cases ho
 | tup xs =>
  cases y with
  | tup ys =>
   have ho' : (if xs.length + ys.length <= sizeLine then some (D.tup (xs ++ ys), W.mu) else none) = some (d, μ') := ho
   split at ho'
   .rename_i hz
    cases ho'
    obtain ⟨a, us, rfl, q1, r1⟩ := iB dx
    obtain ⟨b, ws, rfl, q2, r2⟩ := iB dy
    refine .inr (.inl ⟨a, b, us, ws, rfl, rfl, SqT.fz q1, SqT.fz q2, by rw [<- aF.length r1, <- aF.length r2]; exact hz, λ e => ?_, λ _ e => ?_, λ _ _ p hp => ph ok h (aF.append r1 r2) hp⟩)
    .have e' := (kY r1).mp e
     subst e'
     exact put ok h dy
    .have e' := (kY r2).mp e
     subst e'
     rw [List.append_nil] at h
     exact put ok h dx
   .cases ho'
  | _ => cases ho
 | lst xs =>
  cases y with
  | lst ys =>
   have ho' : (if xs.length + ys.length <= sizeLine then some (D.lst (xs ++ ys), W.mu) else none) = some (d, μ') := ho
   split at ho'
   .rename_i hz
    cases ho'
    obtain ⟨a, us, rfl, q1, r1⟩ := mD dx
    obtain ⟨b, ws, rfl, q2, r2⟩ := mD dy
    exact .inr (.inr (.inl ⟨a, b, us, ws, rfl, rfl, (cY q1).1, (cY q2).1, by rw [<- aF.length r1, <- aF.length r2]; exact hz, λ p hp => jD ok h (aF.append r1 r2) hp⟩))
   .cases ho'
  | _ => cases ho
 | str x =>
  cases y with
  | str y =>
   have ho' : (if x.length + y.length <= sizeLine then some (D.str (x ++ y), W.mu) else none) = some (d, μ') := ho
   split at ho'
   .rename_i hz
    cases ho'
    rw [wZ dx, wZ dy]
    exact .inr (.inr (.inr ⟨x, y, rfl, rfl, hz, put ok h Jo⟩))
   .cases ho'
  | _ => cases ho
 | _ => cases y <;> cases ho⟩
theorem cO : OpD X tb (binaryOp .Sub) cu := ⟨_, Nv, λ W x y v u d μ' Q ok dx dy ho h => by
 cases x with
 | int i =>
  cases y with
  | int j => cases ho; rw [bF dx, bF dy]; exact ⟨i, j, rfl, rfl, put ok h dH⟩
  | _ => cases ho
 | _ => cases y <;> cases ho⟩
theorem bM : OpD X tb (binaryOp .Mult) bC := ⟨_, Kg.or (Kh.or Fx), λ W x y v u d μ' Q ok dx dy ho h => by
 cases x with
 | int i =>
  cases y with
  | int j =>
   have ho' : (if mL i j <= 134217728 then some (D.int (i * j), W.mu) else none) = some (d, μ') := ho
   split at ho'
   .rename_i hz
    cases ho'
    rw [bF dx, bF dy]; exact .inl ⟨i, j, rfl, rfl, hz, put ok h dH⟩
   .cases ho'
  | _ => cases ho
 | tup xs =>
  cases y with
  | int k =>
   have ho' : (if -(2 ^ 63) <= k /\ k < 2 ^ 63 /\ xs.length * k.toNat <= sizeLine then some (D.tup (List.replicate k.toNat xs).flatten, W.mu) else none) = some (d, μ') := ho
   split at ho'
   .rename_i hz
    cases ho'
    obtain ⟨a, us, rfl, q1, r1⟩ := iB dx
    rw [bF dy]
    refine .inr (.inl ⟨a, k, us, rfl, rfl, SqT.fz q1, hz.1, hz.2.1, by rw [<- aF.length r1]; exact hz.2.2, λ e => ?_, λ _ p hp => ph ok h (rn r1 _) hp⟩)
    rcases e with e | e
    .have e' := (kY r1).mp e
     subst e'
     have e2 : (List.replicate k.toNat ([] : List D)).flatten = [] := by simp
     rw [e2] at h
     exact put ok h dx
    .subst e
     rw [IV] at h
     exact put ok h dx
   .cases ho'
  | _ => cases ho
 | lst xs =>
  cases y with
  | int k =>
   have ho' : (if -(2 ^ 63) <= k /\ k < 2 ^ 63 /\ xs.length * k.toNat <= sizeLine then some (D.lst (List.replicate k.toNat xs).flatten, W.mu) else none) = some (d, μ') := ho
   split at ho'
   .rename_i hz
    cases ho'
    obtain ⟨a, us, rfl, q1, r1⟩ := mD dx
    rw [bF dy]
    exact .inr (.inr ⟨a, k, us, rfl, rfl, (cY q1).1, hz.1, hz.2.1, by rw [<- aF.length r1]; exact hz.2.2, λ p hp => jD ok h (rn r1 _) hp⟩)
   .cases ho'
  | _ => cases ho
 | _ => cases y <;> cases ho⟩
theorem dF : OpD X tb (binaryOp .FloorDiv) oDiv := ⟨_, Fp, λ W x y v u d μ' Q ok dx dy ho h => by
 cases x with
 | int i =>
  cases y with
  | int j =>
   have ho' : (if j ≠ 0 /\ j.natAbs.log2 < 9000 then some (D.int (i.fdiv j), W.mu) else none) = some (d, μ') := ho
   split at ho'
   .rename_i hz
    cases ho'
    rw [bF dx, bF dy]; exact ⟨i, j, rfl, rfl, hz, put ok h dH⟩
   .cases ho'
  | _ => cases ho
 | _ => cases y <;> cases ho⟩
theorem bh : OpD X tb (binaryOp .Mod) oMod := ⟨_, JX, λ W x y v u d μ' Q ok dx dy ho h => by
 cases x with
 | int i =>
  cases y with
  | int j =>
   have ho' : (if j ≠ 0 then some (D.int (i.fmod j), W.mu) else none) = some (d, μ') := ho
   split at ho'
   .rename_i hz
    cases ho'
    rw [bF dx, bF dy]; exact ⟨i, j, rfl, rfl, hz, put ok h dH⟩
   .cases ho'
  | _ => cases ho
 | _ => cases y <;> cases ho⟩
theorem Es : OpD X tb (binaryOp .Pow) zx := ⟨_, Ko, λ W x y v u d μ' Q ok dx dy ho h => by
 cases x with
 | int i =>
  cases y with
  | int j =>
   have ho' : (if 0 <= j /\ (Builtin.Int.intBits i : Int) * j <= 2 ^ 27 then some (D.int (i ^ j.toNat), W.mu) else none) = some (d, μ') := ho
   split at ho'
   .rename_i hz
    cases ho'
    rw [bF dx, bF dy]; exact ⟨i, j, rfl, rfl, hz, put ok h dH⟩
   .cases ho'
  | _ => cases ho
 | _ => cases y <;> cases ho⟩
theorem xu : OpD X tb (compareOp .Lt) oLt := ⟨_, Rj, λ W x y v u d μ' Q ok dx dy ho h => by
 cases x with
 | int i =>
  cases y with
  | int j => cases ho; rw [bF dx, bF dy]; exact ⟨i, j, rfl, rfl, put ok h gD⟩
  | _ => cases ho
 | _ => cases y <;> cases ho⟩
theorem Ln : OpD X tb (compareOp .Gt) oGt := ⟨_, Rm, λ W x y v u d μ' Q ok dx dy ho h => by
 cases x with
 | int i =>
  cases y with
  | int j => cases ho; rw [bF dx, bF dy]; exact ⟨i, j, rfl, rfl, put ok h gD⟩
  | _ => cases ho
 | _ => cases y <;> cases ho⟩
theorem Lj : OpD X tb (compareOp .GtE) oGe := ⟨_, Rx, λ W x y v u d μ' Q ok dx dy ho h => by
 cases x with
 | int i =>
  cases y with
  | int j => cases ho; rw [bF dx, bF dy]; exact ⟨i, j, rfl, rfl, put ok h gD⟩
  | _ => cases ho
 | _ => cases y <;> cases ho⟩
end
open PySem.SeqAt
mutual
def eqD : D -> D -> Bool
 | .non, .non => true
 | .bl a, .bl b => a == b
 | .bl a, .int b => (if a then 1 else 0) == b
 | .int a, .bl b => a == (if b then 1 else 0)
 | .int a, .int b => a == b
 | .str a, .str b => a == b
 | .tup xs, .tup ys => iK xs ys
 | .lst xs, .lst ys => iK xs ys
 | _, _ => false
def iK : List D -> List D -> Bool
 | [], [] => true
 | x :: xs, y :: ys => eqD x y && iK xs ys
 | _, _ => false
end
mutual
def gC : D -> Nat
 | .tup ds => gF ds + 1
 | .lst ds => gF ds + 1
 | _ => 0
def gF : List D -> Nat
 | [] => 0
 | d :: ds => max (gC d) (gF ds)
end
mutual
def cD : D -> Bool
 | .non => true
 | .bl _ => true
 | .int _ => true
 | .str _ => true
 | .tup ds => cV ds
 | .lst ds => cV ds
 | _ => false
def cV : List D -> Bool
 | [] => true
 | d :: ds => cD d && cV ds
end
mutual
def DV (K : PySem.W.Frag) (H : Hp) : D -> V -> Prop
 | .non, v => v = .non
 | .bl b, v => v = .bl b
 | .int i, v => v = .int i
 | .str x, v => v = .str x
 | .tup ds, v => ∃ a xs, v = .ref a /\ SqT K H a xs /\ DVL K H ds xs
 | .lst ds, v => ∃ a xs, v = .ref a /\ SqL K H a xs /\ DVL K H ds xs
 | .ro _, _ => False
 | .dic _, _ => False
 | .cell _, _ => False
def DVL (K : PySem.W.Frag) (H : Hp) : List D -> List V -> Prop
 | [], vs => vs = []
 | d :: ds, vs => ∃ u us, vs = u :: us /\ DV K H d u /\ DVL K H ds us
end
section
variable {K : PySem.W.Frag} {tb : List Addr} {W : Wd}
mutual
theorem Lp : ∀ (d : D) (v : V), cD d = true -> bu K (W.fz tb) W.ad d v -> DV K W.H d v
 | .non, v, _, h => by unfold bu at h; unfold DV; exact h
 | .bl _, v, _, h => by unfold bu at h; unfold DV; exact h
 | .int _, v, _, h => by unfold bu at h; unfold DV; exact h
 | .str _, v, _, h => by unfold bu at h; unfold DV; exact h
 | .tup ds, v, p, h => by
  unfold bu at h; unfold DV; unfold cD at p
  obtain ⟨a, xs, e, q, r⟩ := h
  exact ⟨a, xs, e, SqT.fz q, tU ds xs p r⟩
 | .lst ds, v, p, h => by
  unfold bu at h; unfold DV; unfold cD at p
  obtain ⟨a, xs, e, q, r⟩ := h
  exact ⟨a, xs, e, SqL.of (cY q).1, tU ds xs p r⟩
 | .ro ds, v, p, h => by unfold cD at p; cases p
 | .dic ds, v, p, h => by unfold cD at p; cases p
 | .cell ds, v, p, h => by unfold cD at p; cases p
theorem tU : ∀ (ds : List D) (vs : List V), cV ds = true -> aF K (W.fz tb) W.ad ds vs -> DVL K W.H ds vs
 | [], vs, _, h => by unfold aF at h; unfold DVL; exact h
 | d :: ds, vs, p, h => by
  unfold aF at h; unfold DVL; unfold cV at p
  rw [Bool.and_eq_true] at p
  obtain ⟨u, us, e, q, r⟩ := h
  exact ⟨u, us, e, Lp d u p.1 q, tU ds us p.2 r⟩
end
end
def jC (xs ys : List D) (j : Nat) : Bool := match xs[j]?, ys[j]? with
 | some x, some y => eqD x y
 | _, _ => false
theorem jr : ∀ (xs ys : List D), xs.length = ys.length -> (List.range xs.length).all (jC xs ys) = iK xs ys
 | [], [], _ => by unfold iK; rfl
 | x :: xs, y :: ys, h => by
  unfold iK
  rw [List.length_cons, List.range_succ_eq_map, List.all_cons, List.all_map, <- jr xs ys (by simpa using h)]
  rfl
theorem mq : ∀ (xs ys : List D), xs.length ≠ ys.length -> iK xs ys = false
 | [], [], h => absurd rfl h
 | [], y :: ys, _ => by unfold iK; rfl
 | x :: xs, [], _ => by unfold iK; rfl
 | x :: xs, y :: ys, h => by
  unfold iK
  rw [mq xs ys (by simpa using h), Bool.and_false]
theorem sS (xs ys : List D) : ((List.range (min xs.length ys.length)).all (jC xs ys) && xs.length == ys.length) = iK xs ys := by
 by_cases h : xs.length = ys.length
 .rw [<- h, Nat.min_self, jr xs ys h]; simp
 .rw [mq xs ys h, beq_false_of_ne h, Bool.and_false]
section
variable {X : Cx} {pins : List (Addr × Obj)} {σ : L2.St} {H : Hp} {s : Shared}
theorem DVL.length {K : PySem.W.Frag} : ∀ {ds : List D} {vs : List V}, DVL K H ds vs -> ds.length = vs.length
 | [], vs, h => by unfold DVL at h; subst h; rfl
 | d :: ds, vs, h => by
  unfold DVL at h
  obtain ⟨u, us, rfl, _, r⟩ := h
  rw [List.length_cons, List.length_cons, DVL.length r]
theorem DVL.get' {K : PySem.W.Frag} : ∀ {ds : List D} {vs : List V} {i : Nat} {v : V}, DVL K H ds vs -> vs[i]? = some v -> ∃ d, ds[i]? = some d /\ DV K H d v
 | [], vs, i, v, h, e => by unfold DVL at h; subst h; simp at e
 | d :: ds, vs, 0, x, h, e => by
  unfold DVL at h
  obtain ⟨u, us, rfl, p, r⟩ := h
  simp at e; subst e
  exact ⟨d, rfl, p⟩
 | d :: ds, vs, i + 1, x, h, e => by
  unfold DVL at h
  obtain ⟨u, us, rfl, p, r⟩ := h
  obtain ⟨y, e1, e2⟩ := DVL.get' (i := i) r (by simpa using e)
  exact ⟨y, by simpa using e1, e2⟩
theorem zc {a : Addr} {xs ys : List V} (I : Inv X pins σ H s) (h : SqL X.K H a xs) (h' : SqT X.K H a ys) : False := by
 obtain ⟨its, _, pl, _⟩ := I.list h
 obtain ⟨its', _, pt, _⟩ := I.tuple h'
 obtain ⟨o, ho, hc, _⟩ := pl.isList
 obtain ⟨o', ho', hc', _⟩ := pt
 rw [ho] at ho'; cases ho'
 rw [hc] at hc'
 exact absurd hc' (by decide)
mutual
theorem tH (I : Inv X pins σ H s) : ∀ (x y : D) (v : V), DV X.K H x v -> DV X.K H y v -> eqD x y = true
 | .non, .non, v, h, k => by unfold eqD; rfl
 | .non, .bl b, v, h, k => by unfold DV at h k; subst h; cases k
 | .non, .int b, v, h, k => by unfold DV at h k; subst h; cases k
 | .non, .str b, v, h, k => by unfold DV at h k; subst h; cases k
 | .non, .tup ys, v, h, k => by unfold DV at h k; obtain ⟨a, us, rfl, q, r⟩ := k; cases h
 | .non, .lst ys, v, h, k => by unfold DV at h k; obtain ⟨a, us, rfl, q, r⟩ := k; cases h
 | .bl a, .non, v, h, k => by unfold DV at h k; subst h; cases k
 | .bl a, .bl b, v, h, k => by unfold DV at h k; subst h; cases k; unfold eqD; simp
 | .bl a, .int b, v, h, k => by unfold DV at h k; subst h; cases k
 | .bl a, .str b, v, h, k => by unfold DV at h k; subst h; cases k
 | .bl a, .tup ys, v, h, k => by unfold DV at h k; obtain ⟨a, us, rfl, q, r⟩ := k; cases h
 | .bl a, .lst ys, v, h, k => by unfold DV at h k; obtain ⟨a, us, rfl, q, r⟩ := k; cases h
 | .int a, .non, v, h, k => by unfold DV at h k; subst h; cases k
 | .int a, .bl b, v, h, k => by unfold DV at h k; subst h; cases k
 | .int a, .int b, v, h, k => by unfold DV at h k; subst h; cases k; unfold eqD; simp
 | .int a, .str b, v, h, k => by unfold DV at h k; subst h; cases k
 | .int a, .tup ys, v, h, k => by unfold DV at h k; obtain ⟨a, us, rfl, q, r⟩ := k; cases h
 | .int a, .lst ys, v, h, k => by unfold DV at h k; obtain ⟨a, us, rfl, q, r⟩ := k; cases h
 | .str a, .non, v, h, k => by unfold DV at h k; subst h; cases k
 | .str a, .bl b, v, h, k => by unfold DV at h k; subst h; cases k
 | .str a, .int b, v, h, k => by unfold DV at h k; subst h; cases k
 | .str a, .str b, v, h, k => by unfold DV at h k; subst h; cases k; unfold eqD; simp
 | .str a, .tup ys, v, h, k => by unfold DV at h k; obtain ⟨a, us, rfl, q, r⟩ := k; cases h
 | .str a, .lst ys, v, h, k => by unfold DV at h k; obtain ⟨a, us, rfl, q, r⟩ := k; cases h
 | .tup xs, .non, v, h, k => by unfold DV at h k; obtain ⟨a, us, rfl, q, r⟩ := h; cases k
 | .tup xs, .bl b, v, h, k => by unfold DV at h k; obtain ⟨a, us, rfl, q, r⟩ := h; cases k
 | .tup xs, .int b, v, h, k => by unfold DV at h k; obtain ⟨a, us, rfl, q, r⟩ := h; cases k
 | .tup xs, .str b, v, h, k => by unfold DV at h k; obtain ⟨a, us, rfl, q, r⟩ := h; cases k
 | .tup xs, .tup ys, v, h, k => by
  unfold DV at h k
  obtain ⟨a, us, rfl, q, r⟩ := h
  obtain ⟨a', us', e, q', r'⟩ := k
  cases e
  have := I.tuple_inj q q'
  subst this
  unfold eqD
  exact pN I xs ys us r r'
 | .tup xs, .lst ys, v, h, k => by
  unfold DV at h k
  obtain ⟨a, us, rfl, q, r⟩ := h
  obtain ⟨a', us', e, q', r'⟩ := k
  cases e
  exact (zc I q' q).elim
 | .lst xs, .non, v, h, k => by unfold DV at h k; obtain ⟨a, us, rfl, q, r⟩ := h; cases k
 | .lst xs, .bl b, v, h, k => by unfold DV at h k; obtain ⟨a, us, rfl, q, r⟩ := h; cases k
 | .lst xs, .int b, v, h, k => by unfold DV at h k; obtain ⟨a, us, rfl, q, r⟩ := h; cases k
 | .lst xs, .str b, v, h, k => by unfold DV at h k; obtain ⟨a, us, rfl, q, r⟩ := h; cases k
 | .lst xs, .tup ys, v, h, k => by
  unfold DV at h k
  obtain ⟨a, us, rfl, q, r⟩ := h
  obtain ⟨a', us', e, q', r'⟩ := k
  cases e
  exact (zc I q q').elim
 | .lst xs, .lst ys, v, h, k => by
  unfold DV at h k
  obtain ⟨a, us, rfl, q, r⟩ := h
  obtain ⟨a', us', e, q', r'⟩ := k
  cases e
  have := I.list_inj q q'
  subst this
  unfold eqD
  exact pN I xs ys us r r'
 | .ro _, _, v, h, _ => by unfold DV at h; exact h.elim
 | .dic _, _, v, h, _ => by unfold DV at h; exact h.elim
 | .cell _, _, v, h, _ => by unfold DV at h; exact h.elim
 | .non, .ro _, v, _, k => by unfold DV at k; exact k.elim
 | .non, .dic _, v, _, k => by unfold DV at k; exact k.elim
 | .non, .cell _, v, _, k => by unfold DV at k; exact k.elim
 | .bl _, .ro _, v, _, k => by unfold DV at k; exact k.elim
 | .bl _, .dic _, v, _, k => by unfold DV at k; exact k.elim
 | .bl _, .cell _, v, _, k => by unfold DV at k; exact k.elim
 | .int _, .ro _, v, _, k => by unfold DV at k; exact k.elim
 | .int _, .dic _, v, _, k => by unfold DV at k; exact k.elim
 | .int _, .cell _, v, _, k => by unfold DV at k; exact k.elim
 | .str _, .ro _, v, _, k => by unfold DV at k; exact k.elim
 | .str _, .dic _, v, _, k => by unfold DV at k; exact k.elim
 | .str _, .cell _, v, _, k => by unfold DV at k; exact k.elim
 | .tup _, .ro _, v, _, k => by unfold DV at k; exact k.elim
 | .tup _, .dic _, v, _, k => by unfold DV at k; exact k.elim
 | .tup _, .cell _, v, _, k => by unfold DV at k; exact k.elim
 | .lst _, .ro _, v, _, k => by unfold DV at k; exact k.elim
 | .lst _, .dic _, v, _, k => by unfold DV at k; exact k.elim
 | .lst _, .cell _, v, _, k => by unfold DV at k; exact k.elim
theorem pN (I : Inv X pins σ H s) : ∀ (xs ys : List D) (vs : List V), DVL X.K H xs vs -> DVL X.K H ys vs -> iK xs ys = true
 | [], [], vs, _, _ => by unfold iK; rfl
 | [], y :: ys, vs, h, k => by unfold DVL at h k; subst h; obtain ⟨u, us, e, _⟩ := k; cases e
 | x :: xs, [], vs, h, k => by unfold DVL at h k; subst k; obtain ⟨u, us, e, _⟩ := h; cases e
 | x :: xs, y :: ys, vs, h, k => by
  unfold DVL at h k
  obtain ⟨u, us, rfl, p, r⟩ := h
  obtain ⟨u', us', e, p', r'⟩ := k
  cases e
  unfold iK
  rw [tH I x y u p p', pN I xs ys us r r']; rfl
end
mutual
theorem Ny (I : Inv X pins σ H s) : ∀ (x y : D) (v u : V) (vv uu : Value) (A : Around), DV X.K H x v -> DV X.K H y u -> RelV v vv -> RelV u uu -> A.units + gC x < cLine -> EqAt A s vv uu (eqD x y)
 | .non, .non, v, u, vv, uu, A, h, k, rv, ru, hu => by unfold DV at h k; subst h; cases rv; subst k; cases ru; unfold eqD; exact EqAt.same _
 | .non, .bl b0, v, u, vv, uu, A, h, k, rv, ru, hu => by unfold DV at h k; subst h; cases rv; subst k; cases ru; unfold eqD; exact EqAt.none_bool _
 | .non, .int b0, v, u, vv, uu, A, h, k, rv, ru, hu => by unfold DV at h k; subst h; cases rv; subst k; obtain ⟨t1, rfl⟩ := ru; unfold eqD; exact EqAt.none_int _ _
 | .non, .str b0, v, u, vv, uu, A, h, k, rv, ru, hu => by unfold DV at h k; subst h; cases rv; subst k; obtain ⟨t1, rfl⟩ := ru; unfold eqD; exact EqAt.none_str _ _
 | .non, .tup ys, v, u, vv, uu, A, h, k, rv, ru, hu => by unfold DV at h k; subst h; cases rv; obtain ⟨b, ws, rfl, p, r2⟩ := k; cases ru; obtain ⟨its1, iv1, pl1, hz1⟩ := I.tuple p; unfold eqD; exact EqAt.none_tuple pl1 (by omega)
 | .non, .lst ys, v, u, vv, uu, A, h, k, rv, ru, hu => by unfold DV at h k; subst h; cases rv; obtain ⟨b, ws, rfl, p, r2⟩ := k; cases ru; obtain ⟨its1, iv1, pl1, hz1⟩ := I.list p; unfold eqD; exact EqAt.none_list pl1.isList (by omega)
 | .bl a0, .non, v, u, vv, uu, A, h, k, rv, ru, hu => by unfold DV at h k; subst h; cases rv; subst k; cases ru; unfold eqD; exact EqAt.bool_none _
 | .bl a0, .bl b0, v, u, vv, uu, A, h, k, rv, ru, hu => by unfold DV at h k; subst h; cases rv; subst k; cases ru; unfold eqD; exact EqAt.bool_bool _ _
 | .bl a0, .int b0, v, u, vv, uu, A, h, k, rv, ru, hu => by unfold DV at h k; subst h; cases rv; subst k; obtain ⟨t1, rfl⟩ := ru; unfold eqD; exact EqAt.bool_int _ _ _
 | .bl a0, .str b0, v, u, vv, uu, A, h, k, rv, ru, hu => by unfold DV at h k; subst h; cases rv; subst k; obtain ⟨t1, rfl⟩ := ru; unfold eqD; exact EqAt.bool_str _ _ _
 | .bl a0, .tup ys, v, u, vv, uu, A, h, k, rv, ru, hu => by unfold DV at h k; subst h; cases rv; obtain ⟨b, ws, rfl, p, r2⟩ := k; cases ru; obtain ⟨its1, iv1, pl1, hz1⟩ := I.tuple p; unfold eqD; exact EqAt.bool_tuple _ pl1 (by omega)
 | .bl a0, .lst ys, v, u, vv, uu, A, h, k, rv, ru, hu => by unfold DV at h k; subst h; cases rv; obtain ⟨b, ws, rfl, p, r2⟩ := k; cases ru; obtain ⟨its1, iv1, pl1, hz1⟩ := I.list p; unfold eqD; exact EqAt.bool_list _ pl1.isList (by omega)
 | .int a0, .non, v, u, vv, uu, A, h, k, rv, ru, hu => by unfold DV at h k; subst h; obtain ⟨t0, rfl⟩ := rv; subst k; cases ru; unfold eqD; exact EqAt.int_none _ _
 | .int a0, .bl b0, v, u, vv, uu, A, h, k, rv, ru, hu => by unfold DV at h k; subst h; obtain ⟨t0, rfl⟩ := rv; subst k; cases ru; unfold eqD; exact EqAt.int_bool _ _ _
 | .int a0, .int b0, v, u, vv, uu, A, h, k, rv, ru, hu => by unfold DV at h k; subst h; obtain ⟨t0, rfl⟩ := rv; subst k; obtain ⟨t1, rfl⟩ := ru; unfold eqD; exact EqAt.int_int _ _ _ _
 | .int a0, .str b0, v, u, vv, uu, A, h, k, rv, ru, hu => by unfold DV at h k; subst h; obtain ⟨t0, rfl⟩ := rv; subst k; obtain ⟨t1, rfl⟩ := ru; unfold eqD; exact EqAt.int_str _ _ _ _
 | .int a0, .tup ys, v, u, vv, uu, A, h, k, rv, ru, hu => by unfold DV at h k; subst h; obtain ⟨t0, rfl⟩ := rv; obtain ⟨b, ws, rfl, p, r2⟩ := k; cases ru; obtain ⟨its1, iv1, pl1, hz1⟩ := I.tuple p; unfold eqD; exact EqAt.int_tuple _ _ pl1 (by omega)
 | .int a0, .lst ys, v, u, vv, uu, A, h, k, rv, ru, hu => by unfold DV at h k; subst h; obtain ⟨t0, rfl⟩ := rv; obtain ⟨b, ws, rfl, p, r2⟩ := k; cases ru; obtain ⟨its1, iv1, pl1, hz1⟩ := I.list p; unfold eqD; exact EqAt.int_list _ _ pl1.isList (by omega)
 | .str a0, .non, v, u, vv, uu, A, h, k, rv, ru, hu => by unfold DV at h k; subst h; obtain ⟨t0, rfl⟩ := rv; subst k; cases ru; unfold eqD; exact EqAt.str_none _ _
 | .str a0, .bl b0, v, u, vv, uu, A, h, k, rv, ru, hu => by unfold DV at h k; subst h; obtain ⟨t0, rfl⟩ := rv; subst k; cases ru; unfold eqD; exact EqAt.str_bool _ _ _
 | .str a0, .int b0, v, u, vv, uu, A, h, k, rv, ru, hu => by unfold DV at h k; subst h; obtain ⟨t0, rfl⟩ := rv; subst k; obtain ⟨t1, rfl⟩ := ru; unfold eqD; exact EqAt.str_int _ _ _ _
 | .str a0, .str b0, v, u, vv, uu, A, h, k, rv, ru, hu => by unfold DV at h k; subst h; obtain ⟨t0, rfl⟩ := rv; subst k; obtain ⟨t1, rfl⟩ := ru; unfold eqD; exact EqAt.str_str _ _ _ _
 | .str a0, .tup ys, v, u, vv, uu, A, h, k, rv, ru, hu => by unfold DV at h k; subst h; obtain ⟨t0, rfl⟩ := rv; obtain ⟨b, ws, rfl, p, r2⟩ := k; cases ru; obtain ⟨its1, iv1, pl1, hz1⟩ := I.tuple p; unfold eqD; exact EqAt.str_tuple _ _ pl1 (by omega)
 | .str a0, .lst ys, v, u, vv, uu, A, h, k, rv, ru, hu => by unfold DV at h k; subst h; obtain ⟨t0, rfl⟩ := rv; obtain ⟨b, ws, rfl, p, r2⟩ := k; cases ru; obtain ⟨its1, iv1, pl1, hz1⟩ := I.list p; unfold eqD; exact EqAt.str_list _ _ pl1.isList (by omega)
 | .tup xs, .non, v, u, vv, uu, A, h, k, rv, ru, hu => by unfold DV at h k; obtain ⟨a, us, rfl, q, r⟩ := h; cases rv; obtain ⟨its0, iv0, pl0, hz0⟩ := I.tuple q; subst k; cases ru; unfold eqD; exact EqAt.tuple_none pl0 (by omega)
 | .tup xs, .bl b0, v, u, vv, uu, A, h, k, rv, ru, hu => by unfold DV at h k; obtain ⟨a, us, rfl, q, r⟩ := h; cases rv; obtain ⟨its0, iv0, pl0, hz0⟩ := I.tuple q; subst k; cases ru; unfold eqD; exact EqAt.tuple_bool _ pl0 (by omega)
 | .tup xs, .int b0, v, u, vv, uu, A, h, k, rv, ru, hu => by unfold DV at h k; obtain ⟨a, us, rfl, q, r⟩ := h; cases rv; obtain ⟨its0, iv0, pl0, hz0⟩ := I.tuple q; subst k; obtain ⟨t1, rfl⟩ := ru; unfold eqD; exact EqAt.tuple_int _ _ pl0 (by omega)
 | .tup xs, .str b0, v, u, vv, uu, A, h, k, rv, ru, hu => by unfold DV at h k; obtain ⟨a, us, rfl, q, r⟩ := h; cases rv; obtain ⟨its0, iv0, pl0, hz0⟩ := I.tuple q; subst k; obtain ⟨t1, rfl⟩ := ru; unfold eqD; exact EqAt.tuple_str _ _ pl0 (by omega)
 | .tup xs, .tup ys, v, u, vv, uu, A, h, k, rv, ru, hu => by
  have h0 := h
  have k0 := k
  unfold DV at h k; unfold gC at hu
  obtain ⟨a, us, rfl, q, r⟩ := h; cases rv; obtain ⟨its0, iv0, pl0, hz0⟩ := I.tuple q; obtain ⟨b, ws, rfl, p, r2⟩ := k; cases ru; obtain ⟨its1, iv1, pl1, hz1⟩ := I.tuple p
  by_cases hab : a = b
  .subst hab
   rw [tH I _ _ _ h0 k0]
   exact EqAt.same _
  .unfold eqD
   refine EqAt.of_refs hab ?_
   have hl0 : its0.toArray.size = xs.length := by rw [List.size_toArray, <- iv0.length, <- DVL.length r]
   have hl1 : its1.toArray.size = ys.length := by rw [List.size_toArray, <- iv1.length, <- DVL.length r2]
   have rc := RcAt.tuples (A := A) (e := jC xs ys) pl0 pl1 (by omega) (λ j h1 h2 => by
     have h1' : j < its0.length := by simpa using h1
     have h2' : j < its1.length := by simpa using h2
     obtain ⟨d, e1, dv⟩ := DVL.get' r (show us[j]? = some (us[j]'(by rw [iv0.length]; exact h1')) by simp)
     obtain ⟨d', e2, dv'⟩ := DVL.get' r2 (show ws[j]? = some (ws[j]'(by rw [iv1.length]; exact h2')) by simp)
     obtain ⟨z, ez, rz⟩ := iv0.get (show us[j]? = some (us[j]'(by rw [iv0.length]; exact h1')) by simp)
     obtain ⟨z', ez', rz'⟩ := iv1.get (show ws[j]? = some (ws[j]'(by rw [iv1.length]; exact h2')) by simp)
     have f1 : its0.toArray[j] = z := by simpa [h1'] using ez
     have f2 : its1.toArray[j] = z' := by simpa [h2'] using ez'
     rw [f1, f2]
     have := lA I xs ys us ws its0 its1 A.in1 r r2 iv0 iv1 (by rw [units_in1]; omega) j d d' e1 e2 z z' ez ez'
     unfold jC
     rw [e1, e2]
     exact this)
   rw [hl0, hl1, sS] at rc
   exact rc
 | .tup xs, .lst ys, v, u, vv, uu, A, h, k, rv, ru, hu => by unfold DV at h k; obtain ⟨a, us, rfl, q, r⟩ := h; cases rv; obtain ⟨its0, iv0, pl0, hz0⟩ := I.tuple q; obtain ⟨b, ws, rfl, p, r2⟩ := k; cases ru; obtain ⟨its1, iv1, pl1, hz1⟩ := I.list p; unfold eqD; exact EqAt.tuple_list pl0 pl1.isList (by omega)
 | .lst xs, .non, v, u, vv, uu, A, h, k, rv, ru, hu => by unfold DV at h k; obtain ⟨a, us, rfl, q, r⟩ := h; cases rv; obtain ⟨its0, iv0, pl0, hz0⟩ := I.list q; subst k; cases ru; unfold eqD; exact EqAt.list_none pl0.isList (by omega)
 | .lst xs, .bl b0, v, u, vv, uu, A, h, k, rv, ru, hu => by unfold DV at h k; obtain ⟨a, us, rfl, q, r⟩ := h; cases rv; obtain ⟨its0, iv0, pl0, hz0⟩ := I.list q; subst k; cases ru; unfold eqD; exact EqAt.list_bool _ pl0.isList (by omega)
 | .lst xs, .int b0, v, u, vv, uu, A, h, k, rv, ru, hu => by unfold DV at h k; obtain ⟨a, us, rfl, q, r⟩ := h; cases rv; obtain ⟨its0, iv0, pl0, hz0⟩ := I.list q; subst k; obtain ⟨t1, rfl⟩ := ru; unfold eqD; exact EqAt.list_int _ _ pl0.isList (by omega)
 | .lst xs, .str b0, v, u, vv, uu, A, h, k, rv, ru, hu => by unfold DV at h k; obtain ⟨a, us, rfl, q, r⟩ := h; cases rv; obtain ⟨its0, iv0, pl0, hz0⟩ := I.list q; subst k; obtain ⟨t1, rfl⟩ := ru; unfold eqD; exact EqAt.list_str _ _ pl0.isList (by omega)
 | .lst xs, .tup ys, v, u, vv, uu, A, h, k, rv, ru, hu => by unfold DV at h k; obtain ⟨a, us, rfl, q, r⟩ := h; cases rv; obtain ⟨its0, iv0, pl0, hz0⟩ := I.list q; obtain ⟨b, ws, rfl, p, r2⟩ := k; cases ru; obtain ⟨its1, iv1, pl1, hz1⟩ := I.tuple p; unfold eqD; exact EqAt.list_tuple pl0.isList pl1 (by omega)
 | .lst xs, .lst ys, v, u, vv, uu, A, h, k, rv, ru, hu => by
  have h0 := h
  have k0 := k
  unfold DV at h k; unfold gC at hu
  obtain ⟨a, us, rfl, q, r⟩ := h; cases rv; obtain ⟨its0, iv0, pl0, hz0⟩ := I.list q; obtain ⟨b, ws, rfl, p, r2⟩ := k; cases ru; obtain ⟨its1, iv1, pl1, hz1⟩ := I.list p
  by_cases hab : a = b
  .subst hab
   rw [tH I _ _ _ h0 k0]
   exact EqAt.same _
  .unfold eqD
   refine EqAt.of_refs hab ?_
   have hl0 : its0.toArray.size = xs.length := by rw [List.size_toArray, <- iv0.length, <- DVL.length r]
   have hl1 : its1.toArray.size = ys.length := by rw [List.size_toArray, <- iv1.length, <- DVL.length r2]
   by_cases hlen : xs.length = ys.length
   .have rc := RcAt.lists (A := A) (e := jC xs ys) pl0.isList pl1.isList (by rw [hl0, hl1, hlen]) (by omega) (λ j h1 h2 => by
     have h1' : j < its0.length := by simpa using h1
     have h2' : j < its1.length := by simpa using h2
     obtain ⟨d, e1, dv⟩ := DVL.get' r (show us[j]? = some (us[j]'(by rw [iv0.length]; exact h1')) by simp)
     obtain ⟨d', e2, dv'⟩ := DVL.get' r2 (show ws[j]? = some (ws[j]'(by rw [iv1.length]; exact h2')) by simp)
     obtain ⟨z, ez, rz⟩ := iv0.get (show us[j]? = some (us[j]'(by rw [iv0.length]; exact h1')) by simp)
     obtain ⟨z', ez', rz'⟩ := iv1.get (show ws[j]? = some (ws[j]'(by rw [iv1.length]; exact h2')) by simp)
     have f1 : its0.toArray[j] = z := by simpa [h1'] using ez
     have f2 : its1.toArray[j] = z' := by simpa [h2'] using ez'
     rw [f1, f2]
     have := lA I xs ys us ws its0 its1 A.in1 r r2 iv0 iv1 (by rw [units_in1]; omega) j d d' e1 e2 z z' ez ez'
     unfold jC
     rw [e1, e2]
     exact this)
    rw [hl0, jr _ _ hlen] at rc
    exact rc
   .rw [mq _ _ hlen]
    exact RcAt.lists_lengths pl0.isList pl1.isList (by rw [hl0, hl1]; simpa using hlen) (by omega)
 | .ro _, _, v, u, vv, uu, A, h, _, _, _, _ => by unfold DV at h; exact h.elim
 | .dic _, _, v, u, vv, uu, A, h, _, _, _, _ => by unfold DV at h; exact h.elim
 | .cell _, _, v, u, vv, uu, A, h, _, _, _, _ => by unfold DV at h; exact h.elim
 | .non, .ro _, v, u, vv, uu, A, _, k, _, _, _ => by unfold DV at k; exact k.elim
 | .non, .dic _, v, u, vv, uu, A, _, k, _, _, _ => by unfold DV at k; exact k.elim
 | .non, .cell _, v, u, vv, uu, A, _, k, _, _, _ => by unfold DV at k; exact k.elim
 | .bl _, .ro _, v, u, vv, uu, A, _, k, _, _, _ => by unfold DV at k; exact k.elim
 | .bl _, .dic _, v, u, vv, uu, A, _, k, _, _, _ => by unfold DV at k; exact k.elim
 | .bl _, .cell _, v, u, vv, uu, A, _, k, _, _, _ => by unfold DV at k; exact k.elim
 | .int _, .ro _, v, u, vv, uu, A, _, k, _, _, _ => by unfold DV at k; exact k.elim
 | .int _, .dic _, v, u, vv, uu, A, _, k, _, _, _ => by unfold DV at k; exact k.elim
 | .int _, .cell _, v, u, vv, uu, A, _, k, _, _, _ => by unfold DV at k; exact k.elim
 | .str _, .ro _, v, u, vv, uu, A, _, k, _, _, _ => by unfold DV at k; exact k.elim
 | .str _, .dic _, v, u, vv, uu, A, _, k, _, _, _ => by unfold DV at k; exact k.elim
 | .str _, .cell _, v, u, vv, uu, A, _, k, _, _, _ => by unfold DV at k; exact k.elim
 | .tup _, .ro _, v, u, vv, uu, A, _, k, _, _, _ => by unfold DV at k; exact k.elim
 | .tup _, .dic _, v, u, vv, uu, A, _, k, _, _, _ => by unfold DV at k; exact k.elim
 | .tup _, .cell _, v, u, vv, uu, A, _, k, _, _, _ => by unfold DV at k; exact k.elim
 | .lst _, .ro _, v, u, vv, uu, A, _, k, _, _, _ => by unfold DV at k; exact k.elim
 | .lst _, .dic _, v, u, vv, uu, A, _, k, _, _, _ => by unfold DV at k; exact k.elim
 | .lst _, .cell _, v, u, vv, uu, A, _, k, _, _, _ => by unfold DV at k; exact k.elim
theorem lA (I : Inv X pins σ H s) : ∀ (xs ys : List D) (vs us : List V) (vvs uus : List Value) (A : Around), DVL X.K H xs vs -> DVL X.K H ys us -> Vals vs vvs -> Vals us uus -> A.units + gF xs < cLine ->
  ∀ (j : Nat) (x y : D), xs[j]? = some x -> ys[j]? = some y -> ∀ (z z' : Value), vvs[j]? = some z -> uus[j]? = some z' -> EqAt A s z z' (eqD x y)
 | [], ys, vs, us, vvs, uus, A, _, _, _, _, _ => λ j x y e => by simp at e
 | x :: xs, [], vs, us, vvs, uus, A, _, _, _, _, _ => λ j _ y _ e => by simp at e
 | x :: xs, y :: ys, vs, us, vvs, uus, A, h, k, rv, ru, hu => by
  unfold DVL at h k
  unfold gF at hu
  obtain ⟨v, vs', rfl, p, r⟩ := h
  obtain ⟨u, us', rfl, p', r'⟩ := k
  cases rv with
  | cons rv1 rv2 =>
   cases ru with
   | cons ru1 ru2 =>
    intro j x' y' e1 e2 z z' ez ez'
    cases j with
    | zero =>
     simp at e1 e2 ez ez'
     subst e1 e2 ez ez'
     exact Ny I x y v u _ _ A p p' rv1 ru1 (by omega)
    | succ j =>
     exact lA I xs ys vs' us' _ _ A r r' rv2 ru2 (by omega) j x' y' (by simpa using e1) (by simpa using e2) z z' (by simpa using ez) (by simpa using ez')
end
theorem Mq (I : Inv X pins σ H s) : ∀ (x y : D) (v u : V) (vv uu : Value) (A : Around), DV X.K H x v -> DV X.K H y u -> RelV v vv -> RelV u uu -> A.units + gC x < cLine -> RcAt A s vv uu (eqD x y)
 | .non, .non, v, u, vv, uu, A, h, k, rv, ru, hu => by unfold DV at h k; subst h; cases rv; subst k; cases ru; unfold eqD; exact RcAt.none_none
 | .non, .bl b0, v, u, vv, uu, A, h, k, rv, ru, hu => by unfold DV at h k; subst h; cases rv; subst k; cases ru; unfold eqD; exact RcAt.none_bool _
 | .non, .int b0, v, u, vv, uu, A, h, k, rv, ru, hu => by unfold DV at h k; subst h; cases rv; subst k; obtain ⟨t1, rfl⟩ := ru; unfold eqD; exact RcAt.none_int _ _
 | .non, .str b0, v, u, vv, uu, A, h, k, rv, ru, hu => by unfold DV at h k; subst h; cases rv; subst k; obtain ⟨t1, rfl⟩ := ru; unfold eqD; exact RcAt.none_str _ _
 | .non, .tup ys, v, u, vv, uu, A, h, k, rv, ru, hu => by unfold DV at h k; subst h; cases rv; obtain ⟨b, ws, rfl, p, r2⟩ := k; cases ru; obtain ⟨its1, iv1, pl1, hz1⟩ := I.tuple p; unfold eqD; exact RcAt.none_tuple pl1 (by omega)
 | .non, .lst ys, v, u, vv, uu, A, h, k, rv, ru, hu => by unfold DV at h k; subst h; cases rv; obtain ⟨b, ws, rfl, p, r2⟩ := k; cases ru; obtain ⟨its1, iv1, pl1, hz1⟩ := I.list p; unfold eqD; exact RcAt.none_list pl1.isList (by omega)
 | .bl a0, .non, v, u, vv, uu, A, h, k, rv, ru, hu => by unfold DV at h k; subst h; cases rv; subst k; cases ru; unfold eqD; exact RcAt.bool_none _
 | .bl a0, .bl b0, v, u, vv, uu, A, h, k, rv, ru, hu => by unfold DV at h k; subst h; cases rv; subst k; cases ru; unfold eqD; exact RcAt.bool_bool _ _
 | .bl a0, .int b0, v, u, vv, uu, A, h, k, rv, ru, hu => by unfold DV at h k; subst h; cases rv; subst k; obtain ⟨t1, rfl⟩ := ru; unfold eqD; exact RcAt.bool_int _ _ _
 | .bl a0, .str b0, v, u, vv, uu, A, h, k, rv, ru, hu => by unfold DV at h k; subst h; cases rv; subst k; obtain ⟨t1, rfl⟩ := ru; unfold eqD; exact RcAt.bool_str _ _ _
 | .bl a0, .tup ys, v, u, vv, uu, A, h, k, rv, ru, hu => by unfold DV at h k; subst h; cases rv; obtain ⟨b, ws, rfl, p, r2⟩ := k; cases ru; obtain ⟨its1, iv1, pl1, hz1⟩ := I.tuple p; unfold eqD; exact RcAt.bool_tuple _ pl1 (by omega)
 | .bl a0, .lst ys, v, u, vv, uu, A, h, k, rv, ru, hu => by unfold DV at h k; subst h; cases rv; obtain ⟨b, ws, rfl, p, r2⟩ := k; cases ru; obtain ⟨its1, iv1, pl1, hz1⟩ := I.list p; unfold eqD; exact RcAt.bool_list _ pl1.isList (by omega)
 | .int a0, .non, v, u, vv, uu, A, h, k, rv, ru, hu => by unfold DV at h k; subst h; obtain ⟨t0, rfl⟩ := rv; subst k; cases ru; unfold eqD; exact RcAt.int_none _ _
 | .int a0, .bl b0, v, u, vv, uu, A, h, k, rv, ru, hu => by unfold DV at h k; subst h; obtain ⟨t0, rfl⟩ := rv; subst k; cases ru; unfold eqD; exact RcAt.int_bool _ _ _
 | .int a0, .int b0, v, u, vv, uu, A, h, k, rv, ru, hu => by unfold DV at h k; subst h; obtain ⟨t0, rfl⟩ := rv; subst k; obtain ⟨t1, rfl⟩ := ru; unfold eqD; exact RcAt.int_int _ _ _ _
 | .int a0, .str b0, v, u, vv, uu, A, h, k, rv, ru, hu => by unfold DV at h k; subst h; obtain ⟨t0, rfl⟩ := rv; subst k; obtain ⟨t1, rfl⟩ := ru; unfold eqD; exact RcAt.int_str _ _ _ _
 | .int a0, .tup ys, v, u, vv, uu, A, h, k, rv, ru, hu => by unfold DV at h k; subst h; obtain ⟨t0, rfl⟩ := rv; obtain ⟨b, ws, rfl, p, r2⟩ := k; cases ru; obtain ⟨its1, iv1, pl1, hz1⟩ := I.tuple p; unfold eqD; exact RcAt.int_tuple _ _ pl1 (by omega)
 | .int a0, .lst ys, v, u, vv, uu, A, h, k, rv, ru, hu => by unfold DV at h k; subst h; obtain ⟨t0, rfl⟩ := rv; obtain ⟨b, ws, rfl, p, r2⟩ := k; cases ru; obtain ⟨its1, iv1, pl1, hz1⟩ := I.list p; unfold eqD; exact RcAt.int_list _ _ pl1.isList (by omega)
 | .str a0, .non, v, u, vv, uu, A, h, k, rv, ru, hu => by unfold DV at h k; subst h; obtain ⟨t0, rfl⟩ := rv; subst k; cases ru; unfold eqD; exact RcAt.str_none _ _
 | .str a0, .bl b0, v, u, vv, uu, A, h, k, rv, ru, hu => by unfold DV at h k; subst h; obtain ⟨t0, rfl⟩ := rv; subst k; cases ru; unfold eqD; exact RcAt.str_bool _ _ _
 | .str a0, .int b0, v, u, vv, uu, A, h, k, rv, ru, hu => by unfold DV at h k; subst h; obtain ⟨t0, rfl⟩ := rv; subst k; obtain ⟨t1, rfl⟩ := ru; unfold eqD; exact RcAt.str_int _ _ _ _
 | .str a0, .str b0, v, u, vv, uu, A, h, k, rv, ru, hu => by unfold DV at h k; subst h; obtain ⟨t0, rfl⟩ := rv; subst k; obtain ⟨t1, rfl⟩ := ru; unfold eqD; exact RcAt.str_str _ _ _ _
 | .str a0, .tup ys, v, u, vv, uu, A, h, k, rv, ru, hu => by unfold DV at h k; subst h; obtain ⟨t0, rfl⟩ := rv; obtain ⟨b, ws, rfl, p, r2⟩ := k; cases ru; obtain ⟨its1, iv1, pl1, hz1⟩ := I.tuple p; unfold eqD; exact RcAt.str_tuple _ _ pl1 (by omega)
 | .str a0, .lst ys, v, u, vv, uu, A, h, k, rv, ru, hu => by unfold DV at h k; subst h; obtain ⟨t0, rfl⟩ := rv; obtain ⟨b, ws, rfl, p, r2⟩ := k; cases ru; obtain ⟨its1, iv1, pl1, hz1⟩ := I.list p; unfold eqD; exact RcAt.str_list _ _ pl1.isList (by omega)
 | .tup xs, .non, v, u, vv, uu, A, h, k, rv, ru, hu => by unfold DV at h k; obtain ⟨a, us, rfl, q, r⟩ := h; cases rv; obtain ⟨its0, iv0, pl0, hz0⟩ := I.tuple q; subst k; cases ru; unfold eqD; exact RcAt.tuple_none pl0 (by omega)
 | .tup xs, .bl b0, v, u, vv, uu, A, h, k, rv, ru, hu => by unfold DV at h k; obtain ⟨a, us, rfl, q, r⟩ := h; cases rv; obtain ⟨its0, iv0, pl0, hz0⟩ := I.tuple q; subst k; cases ru; unfold eqD; exact RcAt.tuple_bool _ pl0 (by omega)
 | .tup xs, .int b0, v, u, vv, uu, A, h, k, rv, ru, hu => by unfold DV at h k; obtain ⟨a, us, rfl, q, r⟩ := h; cases rv; obtain ⟨its0, iv0, pl0, hz0⟩ := I.tuple q; subst k; obtain ⟨t1, rfl⟩ := ru; unfold eqD; exact RcAt.tuple_int _ _ pl0 (by omega)
 | .tup xs, .str b0, v, u, vv, uu, A, h, k, rv, ru, hu => by unfold DV at h k; obtain ⟨a, us, rfl, q, r⟩ := h; cases rv; obtain ⟨its0, iv0, pl0, hz0⟩ := I.tuple q; subst k; obtain ⟨t1, rfl⟩ := ru; unfold eqD; exact RcAt.tuple_str _ _ pl0 (by omega)
 | .tup xs, .tup ys, v, u, vv, uu, A, h, k, rv, ru, hu => by
  unfold DV at h k; unfold gC at hu
  obtain ⟨a, us, rfl, q, r⟩ := h; cases rv; obtain ⟨its0, iv0, pl0, hz0⟩ := I.tuple q; obtain ⟨b, ws, rfl, p, r2⟩ := k; cases ru; obtain ⟨its1, iv1, pl1, hz1⟩ := I.tuple p
  unfold eqD
  have hl0 : its0.toArray.size = xs.length := by rw [List.size_toArray, <- iv0.length, <- DVL.length r]
  have hl1 : its1.toArray.size = ys.length := by rw [List.size_toArray, <- iv1.length, <- DVL.length r2]
  have rc := RcAt.tuples (A := A) (e := jC xs ys) pl0 pl1 (by omega) (λ j h1 h2 => by
     have h1' : j < its0.length := by simpa using h1
     have h2' : j < its1.length := by simpa using h2
     obtain ⟨d, e1, dv⟩ := DVL.get' r (show us[j]? = some (us[j]'(by rw [iv0.length]; exact h1')) by simp)
     obtain ⟨d', e2, dv'⟩ := DVL.get' r2 (show ws[j]? = some (ws[j]'(by rw [iv1.length]; exact h2')) by simp)
     obtain ⟨z, ez, rz⟩ := iv0.get (show us[j]? = some (us[j]'(by rw [iv0.length]; exact h1')) by simp)
     obtain ⟨z', ez', rz'⟩ := iv1.get (show ws[j]? = some (ws[j]'(by rw [iv1.length]; exact h2')) by simp)
     have f1 : its0.toArray[j] = z := by simpa [h1'] using ez
     have f2 : its1.toArray[j] = z' := by simpa [h2'] using ez'
     rw [f1, f2]
     have := lA I xs ys us ws its0 its1 A.in1 r r2 iv0 iv1 (by rw [units_in1]; omega) j d d' e1 e2 z z' ez ez'
     unfold jC
     rw [e1, e2]
     exact this)
  rw [hl0, hl1, sS] at rc
  exact rc
 | .tup xs, .lst ys, v, u, vv, uu, A, h, k, rv, ru, hu => by unfold DV at h k; obtain ⟨a, us, rfl, q, r⟩ := h; cases rv; obtain ⟨its0, iv0, pl0, hz0⟩ := I.tuple q; obtain ⟨b, ws, rfl, p, r2⟩ := k; cases ru; obtain ⟨its1, iv1, pl1, hz1⟩ := I.list p; unfold eqD; exact RcAt.tuple_list pl0 pl1.isList (by omega)
 | .lst xs, .non, v, u, vv, uu, A, h, k, rv, ru, hu => by unfold DV at h k; obtain ⟨a, us, rfl, q, r⟩ := h; cases rv; obtain ⟨its0, iv0, pl0, hz0⟩ := I.list q; subst k; cases ru; unfold eqD; exact RcAt.list_none pl0.isList (by omega)
 | .lst xs, .bl b0, v, u, vv, uu, A, h, k, rv, ru, hu => by unfold DV at h k; obtain ⟨a, us, rfl, q, r⟩ := h; cases rv; obtain ⟨its0, iv0, pl0, hz0⟩ := I.list q; subst k; cases ru; unfold eqD; exact RcAt.list_bool _ pl0.isList (by omega)
 | .lst xs, .int b0, v, u, vv, uu, A, h, k, rv, ru, hu => by unfold DV at h k; obtain ⟨a, us, rfl, q, r⟩ := h; cases rv; obtain ⟨its0, iv0, pl0, hz0⟩ := I.list q; subst k; obtain ⟨t1, rfl⟩ := ru; unfold eqD; exact RcAt.list_int _ _ pl0.isList (by omega)
 | .lst xs, .str b0, v, u, vv, uu, A, h, k, rv, ru, hu => by unfold DV at h k; obtain ⟨a, us, rfl, q, r⟩ := h; cases rv; obtain ⟨its0, iv0, pl0, hz0⟩ := I.list q; subst k; obtain ⟨t1, rfl⟩ := ru; unfold eqD; exact RcAt.list_str _ _ pl0.isList (by omega)
 | .lst xs, .tup ys, v, u, vv, uu, A, h, k, rv, ru, hu => by unfold DV at h k; obtain ⟨a, us, rfl, q, r⟩ := h; cases rv; obtain ⟨its0, iv0, pl0, hz0⟩ := I.list q; obtain ⟨b, ws, rfl, p, r2⟩ := k; cases ru; obtain ⟨its1, iv1, pl1, hz1⟩ := I.tuple p; unfold eqD; exact RcAt.list_tuple pl0.isList pl1 (by omega)
 | .lst xs, .lst ys, v, u, vv, uu, A, h, k, rv, ru, hu => by
  unfold DV at h k; unfold gC at hu
  obtain ⟨a, us, rfl, q, r⟩ := h; cases rv; obtain ⟨its0, iv0, pl0, hz0⟩ := I.list q; obtain ⟨b, ws, rfl, p, r2⟩ := k; cases ru; obtain ⟨its1, iv1, pl1, hz1⟩ := I.list p
  unfold eqD
  have hl0 : its0.toArray.size = xs.length := by rw [List.size_toArray, <- iv0.length, <- DVL.length r]
  have hl1 : its1.toArray.size = ys.length := by rw [List.size_toArray, <- iv1.length, <- DVL.length r2]
  by_cases hlen : xs.length = ys.length
  .have rc := RcAt.lists (A := A) (e := jC xs ys) pl0.isList pl1.isList (by rw [hl0, hl1, hlen]) (by omega) (λ j h1 h2 => by
     have h1' : j < its0.length := by simpa using h1
     have h2' : j < its1.length := by simpa using h2
     obtain ⟨d, e1, dv⟩ := DVL.get' r (show us[j]? = some (us[j]'(by rw [iv0.length]; exact h1')) by simp)
     obtain ⟨d', e2, dv'⟩ := DVL.get' r2 (show ws[j]? = some (ws[j]'(by rw [iv1.length]; exact h2')) by simp)
     obtain ⟨z, ez, rz⟩ := iv0.get (show us[j]? = some (us[j]'(by rw [iv0.length]; exact h1')) by simp)
     obtain ⟨z', ez', rz'⟩ := iv1.get (show ws[j]? = some (ws[j]'(by rw [iv1.length]; exact h2')) by simp)
     have f1 : its0.toArray[j] = z := by simpa [h1'] using ez
     have f2 : its1.toArray[j] = z' := by simpa [h2'] using ez'
     rw [f1, f2]
     have := lA I xs ys us ws its0 its1 A.in1 r r2 iv0 iv1 (by rw [units_in1]; omega) j d d' e1 e2 z z' ez ez'
     unfold jC
     rw [e1, e2]
     exact this)
   rw [hl0, jr _ _ hlen] at rc
   exact rc
  .rw [mq _ _ hlen]
   exact RcAt.lists_lengths pl0.isList pl1.isList (by rw [hl0, hl1]; simpa using hlen) (by omega)
 | .ro _, _, v, u, vv, uu, A, h, _, _, _, _ => by unfold DV at h; exact h.elim
 | .dic _, _, v, u, vv, uu, A, h, _, _, _, _ => by unfold DV at h; exact h.elim
 | .cell _, _, v, u, vv, uu, A, h, _, _, _, _ => by unfold DV at h; exact h.elim
 | .non, .ro _, v, u, vv, uu, A, _, k, _, _, _ => by unfold DV at k; exact k.elim
 | .non, .dic _, v, u, vv, uu, A, _, k, _, _, _ => by unfold DV at k; exact k.elim
 | .non, .cell _, v, u, vv, uu, A, _, k, _, _, _ => by unfold DV at k; exact k.elim
 | .bl _, .ro _, v, u, vv, uu, A, _, k, _, _, _ => by unfold DV at k; exact k.elim
 | .bl _, .dic _, v, u, vv, uu, A, _, k, _, _, _ => by unfold DV at k; exact k.elim
 | .bl _, .cell _, v, u, vv, uu, A, _, k, _, _, _ => by unfold DV at k; exact k.elim
 | .int _, .ro _, v, u, vv, uu, A, _, k, _, _, _ => by unfold DV at k; exact k.elim
 | .int _, .dic _, v, u, vv, uu, A, _, k, _, _, _ => by unfold DV at k; exact k.elim
 | .int _, .cell _, v, u, vv, uu, A, _, k, _, _, _ => by unfold DV at k; exact k.elim
 | .str _, .ro _, v, u, vv, uu, A, _, k, _, _, _ => by unfold DV at k; exact k.elim
 | .str _, .dic _, v, u, vv, uu, A, _, k, _, _, _ => by unfold DV at k; exact k.elim
 | .str _, .cell _, v, u, vv, uu, A, _, k, _, _, _ => by unfold DV at k; exact k.elim
 | .tup _, .ro _, v, u, vv, uu, A, _, k, _, _, _ => by unfold DV at k; exact k.elim
 | .tup _, .dic _, v, u, vv, uu, A, _, k, _, _, _ => by unfold DV at k; exact k.elim
 | .tup _, .cell _, v, u, vv, uu, A, _, k, _, _, _ => by unfold DV at k; exact k.elim
 | .lst _, .ro _, v, u, vv, uu, A, _, k, _, _, _ => by unfold DV at k; exact k.elim
 | .lst _, .dic _, v, u, vv, uu, A, _, k, _, _, _ => by unfold DV at k; exact k.elim
 | .lst _, .cell _, v, u, vv, uu, A, _, k, _, _, _ => by unfold DV at k; exact k.elim
theorem Od (I : Inv X pins σ H s) : ∀ (x y : D) (v u : V) (vv uu : Value) (A : Around), DV X.K H x v -> DV X.K H y u -> RelV v vv -> RelV u uu -> A.units + gC x < cLine -> RcNeAt A s vv uu (!eqD x y)
 | .non, .non, v, u, vv, uu, A, h, k, rv, ru, hu => by unfold DV at h k; subst h; cases rv; subst k; cases ru; unfold eqD; exact RcNeAt.none_none
 | .non, .bl b0, v, u, vv, uu, A, h, k, rv, ru, hu => by unfold DV at h k; subst h; cases rv; subst k; cases ru; unfold eqD; exact RcNeAt.none_bool _
 | .non, .int b0, v, u, vv, uu, A, h, k, rv, ru, hu => by unfold DV at h k; subst h; cases rv; subst k; obtain ⟨t1, rfl⟩ := ru; unfold eqD; exact RcNeAt.none_int _ _
 | .non, .str b0, v, u, vv, uu, A, h, k, rv, ru, hu => by unfold DV at h k; subst h; cases rv; subst k; obtain ⟨t1, rfl⟩ := ru; unfold eqD; exact RcNeAt.none_str _ _
 | .non, .tup ys, v, u, vv, uu, A, h, k, rv, ru, hu => by unfold DV at h k; subst h; cases rv; obtain ⟨b, ws, rfl, p, r2⟩ := k; cases ru; obtain ⟨its1, iv1, pl1, hz1⟩ := I.tuple p; unfold eqD; exact RcNeAt.none_tuple pl1 (by omega)
 | .non, .lst ys, v, u, vv, uu, A, h, k, rv, ru, hu => by unfold DV at h k; subst h; cases rv; obtain ⟨b, ws, rfl, p, r2⟩ := k; cases ru; obtain ⟨its1, iv1, pl1, hz1⟩ := I.list p; unfold eqD; exact RcNeAt.none_list pl1.isList (by omega)
 | .bl a0, .non, v, u, vv, uu, A, h, k, rv, ru, hu => by unfold DV at h k; subst h; cases rv; subst k; cases ru; unfold eqD; exact RcNeAt.bool_none _
 | .bl a0, .bl b0, v, u, vv, uu, A, h, k, rv, ru, hu => by unfold DV at h k; subst h; cases rv; subst k; cases ru; unfold eqD; exact RcNeAt.bool_bool _ _
 | .bl a0, .int b0, v, u, vv, uu, A, h, k, rv, ru, hu => by unfold DV at h k; subst h; cases rv; subst k; obtain ⟨t1, rfl⟩ := ru; unfold eqD; exact RcNeAt.bool_int _ _ _
 | .bl a0, .str b0, v, u, vv, uu, A, h, k, rv, ru, hu => by unfold DV at h k; subst h; cases rv; subst k; obtain ⟨t1, rfl⟩ := ru; unfold eqD; exact RcNeAt.bool_str _ _ _
 | .bl a0, .tup ys, v, u, vv, uu, A, h, k, rv, ru, hu => by unfold DV at h k; subst h; cases rv; obtain ⟨b, ws, rfl, p, r2⟩ := k; cases ru; obtain ⟨its1, iv1, pl1, hz1⟩ := I.tuple p; unfold eqD; exact RcNeAt.bool_tuple _ pl1 (by omega)
 | .bl a0, .lst ys, v, u, vv, uu, A, h, k, rv, ru, hu => by unfold DV at h k; subst h; cases rv; obtain ⟨b, ws, rfl, p, r2⟩ := k; cases ru; obtain ⟨its1, iv1, pl1, hz1⟩ := I.list p; unfold eqD; exact RcNeAt.bool_list _ pl1.isList (by omega)
 | .int a0, .non, v, u, vv, uu, A, h, k, rv, ru, hu => by unfold DV at h k; subst h; obtain ⟨t0, rfl⟩ := rv; subst k; cases ru; unfold eqD; exact RcNeAt.int_none _ _
 | .int a0, .bl b0, v, u, vv, uu, A, h, k, rv, ru, hu => by unfold DV at h k; subst h; obtain ⟨t0, rfl⟩ := rv; subst k; cases ru; unfold eqD; exact RcNeAt.int_bool _ _ _
 | .int a0, .int b0, v, u, vv, uu, A, h, k, rv, ru, hu => by unfold DV at h k; subst h; obtain ⟨t0, rfl⟩ := rv; subst k; obtain ⟨t1, rfl⟩ := ru; unfold eqD; exact RcNeAt.int_int _ _ _ _
 | .int a0, .str b0, v, u, vv, uu, A, h, k, rv, ru, hu => by unfold DV at h k; subst h; obtain ⟨t0, rfl⟩ := rv; subst k; obtain ⟨t1, rfl⟩ := ru; unfold eqD; exact RcNeAt.int_str _ _ _ _
 | .int a0, .tup ys, v, u, vv, uu, A, h, k, rv, ru, hu => by unfold DV at h k; subst h; obtain ⟨t0, rfl⟩ := rv; obtain ⟨b, ws, rfl, p, r2⟩ := k; cases ru; obtain ⟨its1, iv1, pl1, hz1⟩ := I.tuple p; unfold eqD; exact RcNeAt.int_tuple _ _ pl1 (by omega)
 | .int a0, .lst ys, v, u, vv, uu, A, h, k, rv, ru, hu => by unfold DV at h k; subst h; obtain ⟨t0, rfl⟩ := rv; obtain ⟨b, ws, rfl, p, r2⟩ := k; cases ru; obtain ⟨its1, iv1, pl1, hz1⟩ := I.list p; unfold eqD; exact RcNeAt.int_list _ _ pl1.isList (by omega)
 | .str a0, .non, v, u, vv, uu, A, h, k, rv, ru, hu => by unfold DV at h k; subst h; obtain ⟨t0, rfl⟩ := rv; subst k; cases ru; unfold eqD; exact RcNeAt.str_none _ _
 | .str a0, .bl b0, v, u, vv, uu, A, h, k, rv, ru, hu => by unfold DV at h k; subst h; obtain ⟨t0, rfl⟩ := rv; subst k; cases ru; unfold eqD; exact RcNeAt.str_bool _ _ _
 | .str a0, .int b0, v, u, vv, uu, A, h, k, rv, ru, hu => by unfold DV at h k; subst h; obtain ⟨t0, rfl⟩ := rv; subst k; obtain ⟨t1, rfl⟩ := ru; unfold eqD; exact RcNeAt.str_int _ _ _ _
 | .str a0, .str b0, v, u, vv, uu, A, h, k, rv, ru, hu => by unfold DV at h k; subst h; obtain ⟨t0, rfl⟩ := rv; subst k; obtain ⟨t1, rfl⟩ := ru; unfold eqD; exact RcNeAt.str_str _ _ _ _
 | .str a0, .tup ys, v, u, vv, uu, A, h, k, rv, ru, hu => by unfold DV at h k; subst h; obtain ⟨t0, rfl⟩ := rv; obtain ⟨b, ws, rfl, p, r2⟩ := k; cases ru; obtain ⟨its1, iv1, pl1, hz1⟩ := I.tuple p; unfold eqD; exact RcNeAt.str_tuple _ _ pl1 (by omega)
 | .str a0, .lst ys, v, u, vv, uu, A, h, k, rv, ru, hu => by unfold DV at h k; subst h; obtain ⟨t0, rfl⟩ := rv; obtain ⟨b, ws, rfl, p, r2⟩ := k; cases ru; obtain ⟨its1, iv1, pl1, hz1⟩ := I.list p; unfold eqD; exact RcNeAt.str_list _ _ pl1.isList (by omega)
 | .tup xs, .non, v, u, vv, uu, A, h, k, rv, ru, hu => by unfold DV at h k; obtain ⟨a, us, rfl, q, r⟩ := h; cases rv; obtain ⟨its0, iv0, pl0, hz0⟩ := I.tuple q; subst k; cases ru; unfold eqD; exact RcNeAt.tuple_none pl0 (by omega)
 | .tup xs, .bl b0, v, u, vv, uu, A, h, k, rv, ru, hu => by unfold DV at h k; obtain ⟨a, us, rfl, q, r⟩ := h; cases rv; obtain ⟨its0, iv0, pl0, hz0⟩ := I.tuple q; subst k; cases ru; unfold eqD; exact RcNeAt.tuple_bool _ pl0 (by omega)
 | .tup xs, .int b0, v, u, vv, uu, A, h, k, rv, ru, hu => by unfold DV at h k; obtain ⟨a, us, rfl, q, r⟩ := h; cases rv; obtain ⟨its0, iv0, pl0, hz0⟩ := I.tuple q; subst k; obtain ⟨t1, rfl⟩ := ru; unfold eqD; exact RcNeAt.tuple_int _ _ pl0 (by omega)
 | .tup xs, .str b0, v, u, vv, uu, A, h, k, rv, ru, hu => by unfold DV at h k; obtain ⟨a, us, rfl, q, r⟩ := h; cases rv; obtain ⟨its0, iv0, pl0, hz0⟩ := I.tuple q; subst k; obtain ⟨t1, rfl⟩ := ru; unfold eqD; exact RcNeAt.tuple_str _ _ pl0 (by omega)
 | .tup xs, .tup ys, v, u, vv, uu, A, h, k, rv, ru, hu => by
  unfold DV at h k; unfold gC at hu
  obtain ⟨a, us, rfl, q, r⟩ := h; cases rv; obtain ⟨its0, iv0, pl0, hz0⟩ := I.tuple q; obtain ⟨b, ws, rfl, p, r2⟩ := k; cases ru; obtain ⟨its1, iv1, pl1, hz1⟩ := I.tuple p
  unfold eqD
  have hl0 : its0.toArray.size = xs.length := by rw [List.size_toArray, <- iv0.length, <- DVL.length r]
  have hl1 : its1.toArray.size = ys.length := by rw [List.size_toArray, <- iv1.length, <- DVL.length r2]
  have rc := RcNeAt.tuples (A := A) (e := jC xs ys) pl0 pl1 (by omega) (λ j h1 h2 => by
     have h1' : j < its0.length := by simpa using h1
     have h2' : j < its1.length := by simpa using h2
     obtain ⟨d, e1, dv⟩ := DVL.get' r (show us[j]? = some (us[j]'(by rw [iv0.length]; exact h1')) by simp)
     obtain ⟨d', e2, dv'⟩ := DVL.get' r2 (show ws[j]? = some (ws[j]'(by rw [iv1.length]; exact h2')) by simp)
     obtain ⟨z, ez, rz⟩ := iv0.get (show us[j]? = some (us[j]'(by rw [iv0.length]; exact h1')) by simp)
     obtain ⟨z', ez', rz'⟩ := iv1.get (show ws[j]? = some (ws[j]'(by rw [iv1.length]; exact h2')) by simp)
     have f1 : its0.toArray[j] = z := by simpa [h1'] using ez
     have f2 : its1.toArray[j] = z' := by simpa [h2'] using ez'
     rw [f1, f2]
     have := lA I xs ys us ws its0 its1 A.in1 r r2 iv0 iv1 (by rw [units_in1]; omega) j d d' e1 e2 z z' ez ez'
     unfold jC
     rw [e1, e2]
     exact this)
  rw [hl0, hl1, sS] at rc
  exact rc
 | .tup xs, .lst ys, v, u, vv, uu, A, h, k, rv, ru, hu => by unfold DV at h k; obtain ⟨a, us, rfl, q, r⟩ := h; cases rv; obtain ⟨its0, iv0, pl0, hz0⟩ := I.tuple q; obtain ⟨b, ws, rfl, p, r2⟩ := k; cases ru; obtain ⟨its1, iv1, pl1, hz1⟩ := I.list p; unfold eqD; exact RcNeAt.tuple_list pl0 pl1.isList (by omega)
 | .lst xs, .non, v, u, vv, uu, A, h, k, rv, ru, hu => by unfold DV at h k; obtain ⟨a, us, rfl, q, r⟩ := h; cases rv; obtain ⟨its0, iv0, pl0, hz0⟩ := I.list q; subst k; cases ru; unfold eqD; exact RcNeAt.list_none pl0.isList (by omega)
 | .lst xs, .bl b0, v, u, vv, uu, A, h, k, rv, ru, hu => by unfold DV at h k; obtain ⟨a, us, rfl, q, r⟩ := h; cases rv; obtain ⟨its0, iv0, pl0, hz0⟩ := I.list q; subst k; cases ru; unfold eqD; exact RcNeAt.list_bool _ pl0.isList (by omega)
 | .lst xs, .int b0, v, u, vv, uu, A, h, k, rv, ru, hu => by unfold DV at h k; obtain ⟨a, us, rfl, q, r⟩ := h; cases rv; obtain ⟨its0, iv0, pl0, hz0⟩ := I.list q; subst k; obtain ⟨t1, rfl⟩ := ru; unfold eqD; exact RcNeAt.list_int _ _ pl0.isList (by omega)
 | .lst xs, .str b0, v, u, vv, uu, A, h, k, rv, ru, hu => by unfold DV at h k; obtain ⟨a, us, rfl, q, r⟩ := h; cases rv; obtain ⟨its0, iv0, pl0, hz0⟩ := I.list q; subst k; obtain ⟨t1, rfl⟩ := ru; unfold eqD; exact RcNeAt.list_str _ _ pl0.isList (by omega)
 | .lst xs, .tup ys, v, u, vv, uu, A, h, k, rv, ru, hu => by unfold DV at h k; obtain ⟨a, us, rfl, q, r⟩ := h; cases rv; obtain ⟨its0, iv0, pl0, hz0⟩ := I.list q; obtain ⟨b, ws, rfl, p, r2⟩ := k; cases ru; obtain ⟨its1, iv1, pl1, hz1⟩ := I.tuple p; unfold eqD; exact RcNeAt.list_tuple pl0.isList pl1 (by omega)
 | .lst xs, .lst ys, v, u, vv, uu, A, h, k, rv, ru, hu => by
  unfold DV at h k; unfold gC at hu
  obtain ⟨a, us, rfl, q, r⟩ := h; cases rv; obtain ⟨its0, iv0, pl0, hz0⟩ := I.list q; obtain ⟨b, ws, rfl, p, r2⟩ := k; cases ru; obtain ⟨its1, iv1, pl1, hz1⟩ := I.list p
  unfold eqD
  have hl0 : its0.toArray.size = xs.length := by rw [List.size_toArray, <- iv0.length, <- DVL.length r]
  have hl1 : its1.toArray.size = ys.length := by rw [List.size_toArray, <- iv1.length, <- DVL.length r2]
  by_cases hlen : xs.length = ys.length
  .have rc := RcNeAt.lists (A := A) (e := jC xs ys) pl0.isList pl1.isList (by rw [hl0, hl1, hlen]) (by omega) (λ j h1 h2 => by
     have h1' : j < its0.length := by simpa using h1
     have h2' : j < its1.length := by simpa using h2
     obtain ⟨d, e1, dv⟩ := DVL.get' r (show us[j]? = some (us[j]'(by rw [iv0.length]; exact h1')) by simp)
     obtain ⟨d', e2, dv'⟩ := DVL.get' r2 (show ws[j]? = some (ws[j]'(by rw [iv1.length]; exact h2')) by simp)
     obtain ⟨z, ez, rz⟩ := iv0.get (show us[j]? = some (us[j]'(by rw [iv0.length]; exact h1')) by simp)
     obtain ⟨z', ez', rz'⟩ := iv1.get (show ws[j]? = some (ws[j]'(by rw [iv1.length]; exact h2')) by simp)
     have f1 : its0.toArray[j] = z := by simpa [h1'] using ez
     have f2 : its1.toArray[j] = z' := by simpa [h2'] using ez'
     rw [f1, f2]
     have := lA I xs ys us ws its0 its1 A.in1 r r2 iv0 iv1 (by rw [units_in1]; omega) j d d' e1 e2 z z' ez ez'
     unfold jC
     rw [e1, e2]
     exact this)
   rw [hl0, jr _ _ hlen] at rc
   exact rc
  .rw [mq _ _ hlen]
   exact RcNeAt.lists_lengths pl0.isList pl1.isList (by rw [hl0, hl1]; simpa using hlen) (by omega)
 | .ro _, _, v, u, vv, uu, A, h, _, _, _, _ => by unfold DV at h; exact h.elim
 | .dic _, _, v, u, vv, uu, A, h, _, _, _, _ => by unfold DV at h; exact h.elim
 | .cell _, _, v, u, vv, uu, A, h, _, _, _, _ => by unfold DV at h; exact h.elim
 | .non, .ro _, v, u, vv, uu, A, _, k, _, _, _ => by unfold DV at k; exact k.elim
 | .non, .dic _, v, u, vv, uu, A, _, k, _, _, _ => by unfold DV at k; exact k.elim
 | .non, .cell _, v, u, vv, uu, A, _, k, _, _, _ => by unfold DV at k; exact k.elim
 | .bl _, .ro _, v, u, vv, uu, A, _, k, _, _, _ => by unfold DV at k; exact k.elim
 | .bl _, .dic _, v, u, vv, uu, A, _, k, _, _, _ => by unfold DV at k; exact k.elim
 | .bl _, .cell _, v, u, vv, uu, A, _, k, _, _, _ => by unfold DV at k; exact k.elim
 | .int _, .ro _, v, u, vv, uu, A, _, k, _, _, _ => by unfold DV at k; exact k.elim
 | .int _, .dic _, v, u, vv, uu, A, _, k, _, _, _ => by unfold DV at k; exact k.elim
 | .int _, .cell _, v, u, vv, uu, A, _, k, _, _, _ => by unfold DV at k; exact k.elim
 | .str _, .ro _, v, u, vv, uu, A, _, k, _, _, _ => by unfold DV at k; exact k.elim
 | .str _, .dic _, v, u, vv, uu, A, _, k, _, _, _ => by unfold DV at k; exact k.elim
 | .str _, .cell _, v, u, vv, uu, A, _, k, _, _, _ => by unfold DV at k; exact k.elim
 | .tup _, .ro _, v, u, vv, uu, A, _, k, _, _, _ => by unfold DV at k; exact k.elim
 | .tup _, .dic _, v, u, vv, uu, A, _, k, _, _, _ => by unfold DV at k; exact k.elim
 | .tup _, .cell _, v, u, vv, uu, A, _, k, _, _, _ => by unfold DV at k; exact k.elim
 | .lst _, .ro _, v, u, vv, uu, A, _, k, _, _, _ => by unfold DV at k; exact k.elim
 | .lst _, .dic _, v, u, vv, uu, A, _, k, _, _, _ => by unfold DV at k; exact k.elim
 | .lst _, .cell _, v, u, vv, uu, A, _, k, _, _, _ => by unfold DV at k; exact k.elim
end
def rsv (d : D) (μ : Mu) : D := match d with
 | .cell n => match μ[n]? with
  | some (some ds) => .lst ds
  | _ => d
 | .ro ds => .lst ds
 | _ => d
theorem pO {K : PySem.W.Frag} {tb : List Addr} {W : Wd} {d : D} {v : V} (ok : WOk K tb W) (h : Den K tb W d v) (p : cD (rsv d W.mu) = true) : DV K W.H (rsv d W.mu) v := by
 cases d with
 | cell n =>
  obtain ⟨a, rfl, q⟩ := gU h
  unfold rsv at p ⊢
  dsimp only at p ⊢
  cases e : W.mu[n]? with
  | none => rw [e] at p; cases p
  | some o =>
   rw [e] at p
   cases o with
   | none => cases p
   | some ds =>
    dsimp only at p ⊢
    unfold cD at p
    obtain ⟨xs, ex, r⟩ := ok.cont n a ds q e
    unfold DV
    exact ⟨a, xs, rfl, SqL.of ex, tU ds xs p r⟩
 | ro ds =>
  obtain ⟨a, xs, rfl, q, r⟩ := uT h
  have p' : cD (.lst ds) = true := p
  unfold cD at p'
  show DV K W.H (.lst ds) _
  unfold DV
  exact ⟨a, xs, rfl, SqL.fz q, tU ds xs p' r⟩
 | _ => exact Lp _ _ p h
def oEq : O2 := λ x y μ => if (cD (rsv x μ) && cD (rsv y μ)) = true /\ gC (rsv x μ) < 100 then some (.bl (eqD (rsv x μ) (rsv y μ)), μ) else none
def oNe : O2 := λ x y μ => if (cD (rsv x μ) && cD (rsv y μ)) = true /\ gC (rsv x μ) < 100 then some (.bl (!eqD (rsv x μ) (rsv y μ)), μ) else none
def rEqD (K : PySem.W.Frag) : R2 := λ v u H Q => ∃ x y, DV K H x v /\ DV K H y u /\ gC x < 100 /\ Q (.bl (eqD x y)) H
def rNeD (K : PySem.W.Frag) : R2 := λ v u H Q => ∃ x y, DV K H x v /\ DV K H y u /\ gC x < 100 /\ Q (.bl (!eqD x y)) H
section
variable {X : Cx} {tb : List Addr} {k : Nat}
theorem Lz (hr : dO k X.A) : OpR X (compareOp .Eq) (rEqD X.K) := by
 intro pins s σ H v u vv uu Q I rv ru h
 obtain ⟨x, y, hx, hy, hd, q⟩ := h
 have hun := hr.un
 exact Mq I x y v u vv uu X.A hx hy rv ru (by omega) X.prog X.w X.xe _ ⟨.bl _, H, I, rfl, q⟩
theorem HQ (hr : dO k X.A) : OpR X (compareOp .NotEq) (rNeD X.K) := by
 intro pins s σ H v u vv uu Q I rv ru h
 obtain ⟨x, y, hx, hy, hd, q⟩ := h
 have hun := hr.un
 exact Od I x y v u vv uu X.A hx hy rv ru (by omega) X.prog X.w X.xe _ ⟨.bl _, H, I, rfl, q⟩
theorem gJ (hr : dO k X.A) : OpD X tb (compareOp .Eq) oEq := ⟨_, Lz hr, λ W x y v u d μ' Q ok dx dy ho h => by
 unfold oEq at ho
 split at ho
 .rename_i hc
  cases ho
  rw [Bool.and_eq_true] at hc
  exact ⟨_, _, pO ok dx hc.1.1, pO ok dy hc.1.2, hc.2, put ok h gD⟩
 .cases ho⟩
theorem xO (hr : dO k X.A) : OpD X tb (compareOp .NotEq) oNe := ⟨_, HQ hr, λ W x y v u d μ' Q ok dx dy ho h => by
 unfold oNe at ho
 split at ho
 .rename_i hc
  cases ho
  rw [Bool.and_eq_true] at hc
  exact ⟨_, _, pO ok dx hc.1.1, pO ok dy hc.1.2, hc.2, put ok h gD⟩
 .cases ho⟩
end
end L3
namespace L2
open PySem PySem.Spec PyProof.Rows
section
variable {prog : Program} {w : World} {A : Around} {E : Value -> Shared -> Prop} {s : Shared}
theorem oW {it l : Addr} {i : Nat} {items} {x : Value} {Q : Value -> Shared -> Prop} (hit : s.heap.IsTupleIter it l i) (hl : s.heap.IsTuple l items) (hx : items[i]? = some x)
  (hQ : ∀ h', h'.IsTupleIter it l (i + 1) -> Heap.SameBut it s.heap h' -> Q x { s with heap := h' }) : wpAny (model prog w) A (Builtin.SmallTypes.nextOf (.ref it)) Q E s := by
 obtain ⟨o, ho, hc, hd⟩ := id hit
 obtain ⟨ol, hol, _, nl, hdl⟩ := hl
 unfold Builtin.SmallTypes.nextOf
 refine wpAny_bind (wpAny_callSpecial?_slot (name := Str.ofString "__next__") hit.typeIs F.slot_tuple_iterator_next
  (wpAny_call_entry F.slot_tuple_iterator_next hit.typeIs F.entry_tuple_iterator_next ?_ (F.args_tuple_iterator_next_1 _)))
 show wpAny _ _ (field (.ref it) 0 >>= _) _ _ s
 refine wpAny_bind (wpAny_field ho hd (x := .ref l) rfl ?_)
 show wpAny _ _ (if (Value.ref l == Value.none) = true then _ else _) _ _ s
 rw [if_neg (show ¬ ((Value.ref l == Value.none) = true) from Bool.false_ne_true)]
 show wpAny _ _ (field (.ref it) 1 >>= _) _ _ s
 refine wpAny_bind (wpAny_field ho hd (x := .int i 0) rfl ?_)
 show wpAny _ _ (seqItems? (.ref l) >>= _) _ _ s
 refine wpAny_bind (wpAny_seqItems hol hdl ?_)
 simp only [Int.toNat_natCast, hx]
 refine wpAny_bind (wpAny_setField ho hd (by simp) (wpAny_pure ⟨x, rfl, wpAny_pure (hQ _ ?_ (Heap.SameBut.update ..))⟩))
 exact ⟨_, Heap.get?_update_self _ ho (Obj.isFreed_of_fields (Obj.data_mapFields hd _)), (Obj.cls_mapFields ..).trans hc, by
  rw [Obj.data_mapFields hd]; simp [rawInt]⟩
theorem qu {it l : Addr} {i : Nat} {items} {Q : Value -> Shared -> Prop} (hh : A.handled = none) (hit : s.heap.IsTupleIter it l i) (hl : s.heap.IsTuple l items) (hx : items[i]? = none)
  (hE : ∀ h' e, Heap.ExtBut it s.heap h' -> (∃ o, h'.get? e = some o /\ o.cls = .type "StopIteration") -> E (.ref e) { s with heap := h' }) : wpAny (model prog w) A (Builtin.SmallTypes.nextOf (.ref it)) Q E s := by
 obtain ⟨o, ho, hc, hd⟩ := id hit
 obtain ⟨ol, hol, _, nl, hdl⟩ := hl
 unfold Builtin.SmallTypes.nextOf
 refine wpAny_bind (wpAny_callSpecial?_slot (name := Str.ofString "__next__") hit.typeIs F.slot_tuple_iterator_next
  (wpAny_call_entry F.slot_tuple_iterator_next hit.typeIs F.entry_tuple_iterator_next ?_ (F.args_tuple_iterator_next_1 _)))
 show wpAny _ _ (field (.ref it) 0 >>= _) _ _ s
 refine wpAny_bind (wpAny_field ho hd (x := .ref l) rfl ?_)
 show wpAny _ _ (if (Value.ref l == Value.none) = true then _ else _) _ _ s
 rw [if_neg (show ¬ ((Value.ref l == Value.none) = true) from Bool.false_ne_true)]
 show wpAny _ _ (field (.ref it) 1 >>= _) _ _ s
 refine wpAny_bind (wpAny_field ho hd (x := .int i 0) rfl ?_)
 show wpAny _ _ (seqItems? (.ref l) >>= _) _ _ s
 refine wpAny_bind (wpAny_seqItems hol hdl ?_)
 simp only [Int.toNat_natCast, hx]
 refine wpAny_bind (wpAny_rule (wpAny_bind (wpAny_setField ho hd (by simp) ?_)))
 show wpAny _ _ (newExc (.type "StopIteration") [] >>= _) _ _ _
 refine wpAny_bind ?_
 simp only [newExc, newTuple]
 refine wpAny_bind (wpAny_newObj_type ?_ (by size_fits))
 refine wpAny_bind (m := firstArgMember _ _) (wpAny_of_eq (a := Value.none) (by first | rfl | (simp only [firstArgMember]; rfl)) ?_)
 refine wpAny_newObj_type ?_ (by size_fits)
 simp only [raiseNew]
 refine wpAny_bind (wpAny_handled ?_)
 first | rw [show A.in1.handled = none from hh] | rw [hh]
 refine wpAny_bind (wpAny_pure (wpAny_throw ?_))
 exact hE _ _ (((Heap.SameBut.update ..).extBut.push _).push _) ⟨_, Heap.get?_push_size _ rfl, rfl⟩
end
def gh (k : Bool) (h : Heap) (it l : Addr) (i : Nat) : Prop := if k = true then h.IsTupleIter it l i else h.IsListIter it l i
def jK (k : Bool) (h : Heap) (l : Addr) (xs : Array Value) : Prop := if k = true then h.IsTuple l xs else h.IsList l xs
section
variable {prog : Program} {w : World} {A : Around} {E : Value -> Shared -> Prop} {s : Shared} {k : Bool} {it l : Addr} {i : Nat} {xs : Array Value} {h h' : Heap}
theorem gh.obj (x : gh k h it l i) : ∃ o, h.get? it = some o /\ (∀ v, o.data ≠ .cell v) /\ (o.cls = .type "tuple_iterator" ∨ o.cls = .type "list_iterator") := by
 cases k
 .obtain ⟨o, e, c, d⟩ : h.IsListIter it l i := x
  exact ⟨o, e, (λ v z => by rw [d] at z; cases z), .inr c⟩
 .obtain ⟨o, e, c, d⟩ : h.IsTupleIter it l i := x
  exact ⟨o, e, (λ v z => by rw [d] at z; cases z), .inl c⟩
theorem gh.at' (x : gh k h it l i) (hk : ∀ o, h.get? it = some o -> h'.get? it = some o) : gh k h' it l i := by
 cases k
 .obtain ⟨o, e, c, d⟩ : h.IsListIter it l i := x
  exact (⟨o, hk o e, c, d⟩ : h'.IsListIter it l i)
 .obtain ⟨o, e, c, d⟩ : h.IsTupleIter it l i := x
  exact (⟨o, hk o e, c, d⟩ : h'.IsTupleIter it l i)
theorem jK.at' (x : jK k h l xs) (hk : ∀ o, h.get? l = some o -> h'.get? l = some o) : jK k h' l xs := by
 cases k
 .obtain ⟨o, e, c⟩ : h.IsList l xs := x
  exact (⟨o, hk o e, c⟩ : h'.IsList l xs)
 .obtain ⟨o, e, c⟩ : h.IsTuple l xs := x
  exact (⟨o, hk o e, c⟩ : h'.IsTuple l xs)
theorem jo {x : Value} {Q : Value -> Shared -> Prop} (hit : gh k s.heap it l i) (hl : jK k s.heap l xs) (hx : xs[i]? = some x)
  (hQ : ∀ h', gh k h' it l (i + 1) -> Heap.SameBut it s.heap h' -> Q x { s with heap := h' }) : wpAny (model prog w) A (Builtin.SmallTypes.nextOf (.ref it)) Q E s := by
 cases k
 .exact wpAny_nextOf_list_item hit hl hx hQ
 .exact oW hit hl hx hQ
theorem nA {Q : Value -> Shared -> Prop} (hh : A.handled = none) (hit : gh k s.heap it l i) (hl : jK k s.heap l xs) (hx : xs[i]? = none)
  (hE : ∀ h' e, Heap.ExtBut it s.heap h' -> (∃ o, h'.get? e = some o /\ o.cls = .type "StopIteration") -> E (.ref e) { s with heap := h' }) : wpAny (model prog w) A (Builtin.SmallTypes.nextOf (.ref it)) Q E s := by
 cases k
 .exact wpAny_nextOf_list_end hh hit hl hx hE
 .exact qu hh hit hl hx hE
end
structure ZA (z TI TO i1 i2 : Addr) : Prop where
 TIz : TI ≠ z
 TOz : TO ≠ z
 i1z : i1 ≠ z
 i2z : i2 ≠ z
 TITO : TI ≠ TO
 TIi1 : TI ≠ i1
 TIi2 : TI ≠ i2
 TOi1 : TO ≠ i1
 TOi2 : TO ≠ i2
 i12 : i1 ≠ i2
section
variable {prog : Program} {w : World} {A : Around} {E : Value -> Shared -> Prop} {s : Shared}
theorem Dz {z TI TO i1 i2 l1 l2 : Addr} {c1 c2 : Bool} {k1 k2 : Nat} {xs ys : Array Value} {x y a b : Value} {Q : Value -> Shared -> Prop} (D : ZA z TI TO i1 i2)
  (l1z : l1 ≠ z) (l2z : l2 ≠ z) (l2i1 : l2 ≠ i1) (l2TO : l2 ≠ TO)
  (hz : IsZip s.heap z TI TO .none) (hTI : IsPair s.heap TI (.ref i1) (.ref i2)) (hTO : IsPair s.heap TO a b)
  (h1 : gh c1 s.heap i1 l1 k1) (h2 : gh c2 s.heap i2 l2 k2) (hl1 : jK c1 s.heap l1 xs) (hl2 : jK c2 s.heap l2 ys) (hx : xs[k1]? = some x) (hy : ys[k2]? = some y)
  (hQ : ∀ h', IsZip h' z TI TO (rawInt s.heap.objs.size) -> IsPair h' TO x y -> gh c1 h' i1 l1 (k1 + 1) -> gh c2 h' i2 l2 (k2 + 1) -> IsPair h' s.heap.objs.size x y -> h'.objs.size = s.heap.objs.size + 1 ->
   (∀ c o, c ≠ z -> c ≠ TO -> c ≠ i1 -> c ≠ i2 -> s.heap.get? c = some o -> h'.get? c = some o) -> Q (.ref s.heap.objs.size) { s with heap := h' }) :
  wpAny (model prog w) A (Builtin.«zip.__next__» ⟨[.ref z], []⟩) (λ fin s' => ∃ v, fin = .done (.ret v) /\ Q v s') E s := by
 show wpAny _ _ (field (.ref z) 2 >>= _) _ _ _
 refine wpAny_bind (wpAny_field hz rfl (x := .bool false) rfl ?_)
 show wpAny _ _ (field (.ref z) 3 >>= _) _ _ _
 refine wpAny_bind (wpAny_field hz rfl (x := .ref TI) rfl ?_)
 refine wpAny_bind (wpAny_seqItems hTI rfl ?_)
 show wpAny _ _ (Builtin.SmallTypes.ownedTupleIsFree (.ref z) >>= _) _ _ _
 refine wpAny_bind ?_
 unfold Builtin.SmallTypes.ownedTupleIsFree
 refine wpAny_bind (wpAny_field hz rfl (x := .none) rfl (wpAny_pure ?_))
 simp only [if_true]
 refine wpAny_bind (wpAny_rule ?_)
 refine wpAny_bind (wpAny_field hz rfl (x := .ref TO) rfl ?_)
 refine wpAny_bind (wpAny_setField_rec hz (by simp) λ h₁ hz₁ hs₁ => ?_)
 replace hz₁ : IsZip h₁ z TI TO .ellipsis := hz₁
 refine wpAny_bind ?_
 simp only [List.zipIdx_cons, List.zipIdx_nil, List.forIn_cons, List.forIn_nil]
 refine wpAny_bind (wpAny_bind (wpAny_onRaise ?_))
 show wpAny _ _ (Builtin.SmallTypes.nextOf (.ref i1) >>= _) _ _ _
 refine wpAny_bind (jo (h1.at' λ o e => hs₁.extBut _ _ D.i1z e) (hl1.at' λ o e => hs₁.extBut _ _ l1z e) hx λ h₂ h1₂ hs₂ => wpAny_pure ?_)
 have hTO₂ : IsPair h₂ TO a b := hs₂.extBut _ _ D.TOi1 (hs₁.extBut _ _ D.TOz hTO)
 refine wpAny_bind (wpAny_seqItems hTO₂ rfl ?_)
 refine wpAny_bind (wpAny_updateSeq_pair hTO₂ λ h₃ hTO₃ hs₃ => ?_)
 replace hTO₃ : IsPair h₃ TO x b := hTO₃
 refine wpAny_bind (wpAny_letGo (wpAny_pure ?_))
 refine wpAny_bind (wpAny_bind (wpAny_onRaise ?_))
 show wpAny _ _ (Builtin.SmallTypes.nextOf (.ref i2) >>= _) _ _ _
 refine wpAny_bind (jo (h2.at' λ o e => hs₃.extBut _ _ D.TOi2.symm (hs₂.extBut _ _ D.i12.symm (hs₁.extBut _ _ D.i2z e))) (hl2.at' λ o e => hs₃.extBut _ _ l2TO (hs₂.extBut _ _ l2i1 (hs₁.extBut _ _ l2z e))) hy λ h₄ h2₄ hs₄ => wpAny_pure ?_)
 have hTO₄ : IsPair h₄ TO x b := hs₄.extBut _ _ D.TOi2 hTO₃
 refine wpAny_bind (wpAny_seqItems hTO₄ rfl ?_)
 refine wpAny_bind (wpAny_updateSeq_pair hTO₄ λ h₅ hTO₅ hs₅ => ?_)
 replace hTO₅ : IsPair h₅ TO x y := hTO₅
 refine wpAny_bind (wpAny_letGo (wpAny_pure (wpAny_pure ?_)))
 refine wpAny_bind (wpAny_seqItems hTO₅ rfl ?_)
 refine wpAny_bind (wpAny_newTuple ?_)
 have hsz : h₅.objs.size = s.heap.objs.size := by rw [hs₅.1, hs₄.1, hs₃.1, hs₂.1, hs₁.1]
 have hz₅ : IsZip h₅ z TI TO .ellipsis := hs₅.extBut _ _ D.TOz.symm (hs₄.extBut _ _ D.i2z.symm (hs₃.extBut _ _ D.TOz.symm (hs₂.extBut _ _ D.i1z.symm hz₁)))
 have hk₅ : ∀ c o, c ≠ z -> c ≠ TO -> c ≠ i1 -> c ≠ i2 -> s.heap.get? c = some o -> h₅.get? c = some o := λ c o q1 q2 q3 q4 e =>
  hs₅.extBut _ _ q2 (hs₄.extBut _ _ q4 (hs₃.extBut _ _ q2 (hs₂.extBut _ _ q3 (hs₁.extBut _ _ q1 e))))
 have h1₅ : gh c1 h₅ i1 l1 (k1 + 1) := h1₂.at' λ o e => hs₅.extBut _ _ D.TOi1.symm (hs₄.extBut _ _ D.i12 (hs₃.extBut _ _ D.TOi1.symm e))
 have h2₅ : gh c2 h₅ i2 l2 (k2 + 1) := h2₄.at' λ o e => hs₅.extBut _ _ D.TOi2.symm e
 have hzlt : z < h₅.objs.size := Heap.lt_size hz₅
 show wpAny _ _ (Builtin.SmallTypes.ownedTupleHandOut (.ref z) (.ref h₅.objs.size) >>= _) _ _ _
 refine wpAny_bind ?_
 unfold Builtin.SmallTypes.ownedTupleHandOut
 have hz₆ : IsZip (h₅.push { cls := .type "tuple", data := .seq #[x, y] }) z TI TO .ellipsis := Heap.get?_push_of_some _ hz₅
 refine wpAny_bind (wpAny_setField_rec hz₆ (by simp) λ h₇ hz₇ hs₇ => ?_)
 replace hz₇ : IsZip h₇ z TI TO (rawInt h₅.objs.size) := hz₇
 refine wpAny_setField_rec hz₇ (by simp) λ h₈ hz₈ hs₈ => ?_
 replace hz₈ : IsZip h₈ z TI TO (rawInt h₅.objs.size) := hz₈
 have up : ∀ c o, c ≠ z -> h₅.get? c = some o -> h₈.get? c = some o := λ c o q1 e => hs₈.extBut _ _ q1 (hs₇.extBut _ _ q1 (Heap.get?_push_of_some _ e))
 have hT₈ : IsPair h₈ h₅.objs.size x y := hs₈.extBut _ _ (Nat.ne_of_gt hzlt) (hs₇.extBut _ _ (Nat.ne_of_gt hzlt) (Heap.get?_push_size _ rfl))
 have hz8 : h₈.objs.size = h₅.objs.size + 1 := by rw [hs₈.1, hs₇.1, Heap.size_push]
 rw [hsz] at hz₈ hT₈ hz8
 refine wpAny_pure ⟨_, rfl, ?_⟩
 show Q (.ref h₅.objs.size) _
 rw [hsz]
 exact hQ h₈ hz₈ (up _ _ D.TOz hTO₅) (h1₅.at' λ o e => up _ o D.i1z e) (h2₅.at' λ o e => up _ o D.i2z e) hT₈ hz8 λ c o q1 q2 q3 q4 e => up c o q1 (hk₅ c o q1 q2 q3 q4 e)
theorem GQ {z TI TO i1 i2 l1 l2 : Addr} {c1 c2 : Bool} {k1 k2 : Nat} {xs ys : Array Value} {a b : Value} {Q : PySem.Fin -> Shared -> Prop} (hh : A.handled = none) (D : ZA z TI TO i1 i2)
  (l1z : l1 ≠ z) (l2z : l2 ≠ z) (l2i1 : l2 ≠ i1) (l2TO : l2 ≠ TO)
  (hz : IsZip s.heap z TI TO .none) (hTI : IsPair s.heap TI (.ref i1) (.ref i2)) (hTO : IsPair s.heap TO a b)
  (h1 : gh c1 s.heap i1 l1 k1) (h2 : gh c2 s.heap i2 l2 k2) (hl1 : jK c1 s.heap l1 xs) (hl2 : jK c2 s.heap l2 ys) (hend : xs[k1]? = none ∨ ys[k2]? = none)
  (hE : ∀ h' e, (∀ c o, c ≠ z -> c ≠ TO -> c ≠ i1 -> c ≠ i2 -> s.heap.get? c = some o -> h'.get? c = some o) -> (∃ o, h'.get? e = some o /\ o.cls = .type "StopIteration") -> E (.ref e) { s with heap := h' }) :
  wpAny (model prog w) A (Builtin.«zip.__next__» ⟨[.ref z], []⟩) Q E s := by
 show wpAny _ _ (field (.ref z) 2 >>= _) _ _ _
 refine wpAny_bind (wpAny_field hz rfl (x := .bool false) rfl ?_)
 show wpAny _ _ (field (.ref z) 3 >>= _) _ _ _
 refine wpAny_bind (wpAny_field hz rfl (x := .ref TI) rfl ?_)
 refine wpAny_bind (wpAny_seqItems hTI rfl ?_)
 show wpAny _ _ (Builtin.SmallTypes.ownedTupleIsFree (.ref z) >>= _) _ _ _
 refine wpAny_bind ?_
 unfold Builtin.SmallTypes.ownedTupleIsFree
 refine wpAny_bind (wpAny_field hz rfl (x := .none) rfl (wpAny_pure ?_))
 simp only [if_true]
 refine wpAny_bind (wpAny_rule ?_)
 refine wpAny_bind (wpAny_field hz rfl (x := .ref TO) rfl ?_)
 refine wpAny_bind (wpAny_setField_rec hz (by simp) λ h₁ hz₁ hs₁ => ?_)
 replace hz₁ : IsZip h₁ z TI TO .ellipsis := hz₁
 refine wpAny_bind ?_
 simp only [List.zipIdx_cons, List.zipIdx_nil, List.forIn_cons, List.forIn_nil]
 refine wpAny_bind (wpAny_bind (wpAny_onRaise ?_))
 show wpAny _ _ (Builtin.SmallTypes.nextOf (.ref i1) >>= _) _ _ _
 cases hx : xs[k1]? with
 | none =>
  refine wpAny_bind (nA hh (h1.at' λ o e => hs₁.extBut _ _ D.i1z e) (hl1.at' λ o e => hs₁.extBut _ _ l1z e) hx λ h₂ e hs₂ he => ?_)
  obtain ⟨oe, hoe, hce⟩ := he
  have hz₂ : IsZip h₂ z TI TO .ellipsis := hs₂ _ _ D.i1z.symm hz₁
  have hez : e ≠ z := λ x => by subst x; rw [hz₂] at hoe; cases hoe; simp at hce
  exact wpAny_setField_rec hz₂ (by simp) λ h₃ _ hs₃ => hE h₃ e (λ c o q1 _ q3 _ x => hs₃.extBut _ _ q1 (hs₂ _ _ q3 (hs₁.extBut _ _ q1 x))) ⟨oe, hs₃.extBut _ _ hez hoe, hce⟩
 | some x =>
  have hy : ys[k2]? = none := by rcases hend with h | h; rw [hx] at h; cases h; exact h
  refine wpAny_bind (jo (h1.at' λ o e => hs₁.extBut _ _ D.i1z e) (hl1.at' λ o e => hs₁.extBut _ _ l1z e) hx λ h₂ h1₂ hs₂ => wpAny_pure ?_)
  have hTO₂ : IsPair h₂ TO a b := hs₂.extBut _ _ D.TOi1 (hs₁.extBut _ _ D.TOz hTO)
  refine wpAny_bind (wpAny_seqItems hTO₂ rfl ?_)
  refine wpAny_bind (wpAny_updateSeq_pair hTO₂ λ h₃ hTO₃ hs₃ => ?_)
  refine wpAny_bind (wpAny_letGo (wpAny_pure ?_))
  refine wpAny_bind (wpAny_bind (wpAny_onRaise ?_))
  show wpAny _ _ (Builtin.SmallTypes.nextOf (.ref i2) >>= _) _ _ _
  refine wpAny_bind (nA hh (h2.at' λ o e => hs₃.extBut _ _ D.TOi2.symm (hs₂.extBut _ _ D.i12.symm (hs₁.extBut _ _ D.i2z e))) (hl2.at' λ o e => hs₃.extBut _ _ l2TO (hs₂.extBut _ _ l2i1 (hs₁.extBut _ _ l2z e))) hy λ h₄ e hs₄ he => ?_)
  obtain ⟨oe, hoe, hce⟩ := he
  have hz₄ : IsZip h₄ z TI TO .ellipsis := hs₄ _ _ D.i2z.symm (hs₃.extBut _ _ D.TOz.symm (hs₂.extBut _ _ D.i1z.symm hz₁))
  have hez : e ≠ z := λ x => by subst x; rw [hz₄] at hoe; cases hoe; simp at hce
  exact wpAny_setField_rec hz₄ (by simp) λ h₅ _ hs₅ => hE h₅ e (λ c o q1 q2 q3 q4 x => hs₅.extBut _ _ q1 (hs₄ _ _ q4 (hs₃.extBut _ _ q2 (hs₂.extBut _ _ q3 (hs₁.extBut _ _ q1 x))))) ⟨oe, hs₅.extBut _ _ hez hoe, hce⟩
end
section
variable {prog : Program} {w : World} {A : Around} {E : Value -> Shared -> Prop} {s : Shared}
theorem pJ {z TI TO i1 i2 l1 l2 : Addr} {c1 c2 : Bool} {k1 k2 : Nat} {xs ys : Array Value} {x y a b : Value} {Q : Option Value -> Shared -> Prop} (D : ZA z TI TO i1 i2)
  (l1z : l1 ≠ z) (l2z : l2 ≠ z) (l2i1 : l2 ≠ i1) (l2TO : l2 ≠ TO)
  (hz : IsZip s.heap z TI TO .none) (hTI : IsPair s.heap TI (.ref i1) (.ref i2)) (hTO : IsPair s.heap TO a b)
  (h1 : gh c1 s.heap i1 l1 k1) (h2 : gh c2 s.heap i2 l2 k2) (hl1 : jK c1 s.heap l1 xs) (hl2 : jK c2 s.heap l2 ys) (hx : xs[k1]? = some x) (hy : ys[k2]? = some y)
  (hQ : ∀ h', IsZip h' z TI TO (rawInt s.heap.objs.size) -> IsPair h' TO x y -> gh c1 h' i1 l1 (k1 + 1) -> gh c2 h' i2 l2 (k2 + 1) -> IsPair h' s.heap.objs.size x y -> h'.objs.size = s.heap.objs.size + 1 ->
   (∀ c o, c ≠ z -> c ≠ TO -> c ≠ i1 -> c ≠ i2 -> s.heap.get? c = some o -> h'.get? c = some o) -> Q (some (.ref s.heap.objs.size)) { s with heap := h' }) :
  wpAny (model prog w) A (pyNext (.ref z)) Q E s := by
 have hT : s.TypeIs (.ref z) "zip" := ⟨_, hz, rfl⟩
 unfold pyNext
 exact wpAny_bind (wpAny_attempt (wpAny_callSpecial?_slot (name := Str.ofString "__next__") hT F.slot_zip_next
  (wpAny_call_entry F.slot_zip_next hT F.entry_zip_next
   (Dz D l1z l2z l2i1 l2TO hz hTI hTO h1 h2 hl1 hl2 hx hy λ h' a1 a2 a3 a4 a5 a6 a7 => wpAny_pure (hQ h' a1 a2 a3 a4 a5 a6 a7)) (F.args_zip_next_1 _))))
theorem qN {z TI TO i1 i2 l1 l2 : Addr} {c1 c2 : Bool} {k1 k2 : Nat} {xs ys : Array Value} {a b : Value} {Q : Option Value -> Shared -> Prop} (hh : A.handled = none) (D : ZA z TI TO i1 i2)
  (l1z : l1 ≠ z) (l2z : l2 ≠ z) (l2i1 : l2 ≠ i1) (l2TO : l2 ≠ TO)
  (hz : IsZip s.heap z TI TO .none) (hTI : IsPair s.heap TI (.ref i1) (.ref i2)) (hTO : IsPair s.heap TO a b)
  (h1 : gh c1 s.heap i1 l1 k1) (h2 : gh c2 s.heap i2 l2 k2) (hl1 : jK c1 s.heap l1 xs) (hl2 : jK c2 s.heap l2 ys) (hend : xs[k1]? = none ∨ ys[k2]? = none)
  (hQ : ∀ h', (∀ c o, c ≠ z -> c ≠ TO -> c ≠ i1 -> c ≠ i2 -> s.heap.get? c = some o -> h'.get? c = some o) -> Q none { s with heap := h' }) : wpAny (model prog w) A (pyNext (.ref z)) Q E s := by
 have hT : s.TypeIs (.ref z) "zip" := ⟨_, hz, rfl⟩
 unfold pyNext
 refine wpAny_bind (wpAny_attempt (wpAny_callSpecial?_slot (name := Str.ofString "__next__") hT F.slot_zip_next
  (wpAny_call_entry F.slot_zip_next hT F.entry_zip_next (GQ hh D l1z l2z l2i1 l2TO hz hTI hTO h1 h2 hl1 hl2 hend λ h' e hk he => ?_) (F.args_zip_next_1 _))))
 obtain ⟨o, ho, hc⟩ := he
 refine wpAny_bind (wpAny_isInstance (T := "StopIteration") (b := true) ⟨o, ho, hc⟩ isSubtype_stop ?_)
 exact wpAny_pure (hQ _ hk)
def itTy (k : Bool) : String := if k = true then "tuple_iterator" else "list_iterator"
abbrev nu (k : Bool) (l : Addr) : Obj := { cls := .type (itTy k), data := .fields #[.ref l, .int 0 0] }
theorem vq {k : Bool} {l : Addr} {xs : Array Value} {Q : Value -> Shared -> Prop} (hl : jK k s.heap l xs) (hQ : Q (.ref s.heap.objs.size) { s with heap := s.heap.push (nu k l) }) : wpAny (model prog w) A (pyIter (.ref l)) Q E s := by
 cases k
 .exact wpAny_pyIter_list hl hQ
 .exact wpAny_pyIter_tuple hl hQ
end
abbrev zH2 (h : Heap) (c1 c2 : Bool) (l1 l2 : Addr) : Heap := (h.push (nu c1 l1)).push (nu c2 l2)
abbrev zH3 (h : Heap) (c1 c2 : Bool) (l1 l2 : Addr) : Heap := (zH2 h c1 c2 l1 l2).push { cls := .type "tuple", data := .seq #[.ref h.objs.size, .ref (h.push (nu c1 l1)).objs.size] }
abbrev zH4 (h : Heap) (c1 c2 : Bool) (l1 l2 : Addr) : Heap := (zH3 h c1 c2 l1 l2).push { cls := .type "tuple", data := .seq #[.none, .none] }
abbrev zH5 (h : Heap) (c1 c2 : Bool) (l1 l2 : Addr) : Heap := (zH4 h c1 c2 l1 l2).push { cls := .type "zip", data := .fields #[.none, .bool false, .bool false, .ref (zH2 h c1 c2 l1 l2).objs.size, .ref (zH3 h c1 c2 l1 l2).objs.size] }
theorem Fy (c1 c2 : Bool) (l1 l2 : Addr) (xs ys : Array Value) :
  Meets (Builtin.«zip.__new__» ⟨[.type "zip", .ref l1, .ref l2], []⟩) (λ _ R s => jK c1 s.heap l1 xs /\ jK c2 s.heap l2 ys /\
   R (.ok (.ret (.ref (zH4 s.heap c1 c2 l1 l2).objs.size))) { s with heap := zH5 s.heap c1 c2 l1 l2 }) :=
 .of_wp λ prog w A R s h => by
  obtain ⟨hp, g, d, tk, os⟩ := s; obtain ⟨hl1, hl2, h⟩ := h
  have hsub := sub_zip
  have hL1 : jK c1 (Shared.heap ⟨hp, g, d, tk, os⟩) l1 xs := hl1
  have hL2 : jK c2 (Shared.heap ⟨hp.push (nu c1 l1), g, d, tk, os⟩) l2 ys := hl2.at' λ o e => Heap.get?_push_of_some _ e
  wp_walk using vq hL1, vq hL2
  exact ⟨_, rfl, h⟩
section
variable {prog : Program} {w : World} {A : Around} {E : Value -> Shared -> Prop} {s : Shared}
theorem gh.new (k : Bool) (h : Heap) (l : Addr) : gh k (h.push (nu k l)) h.objs.size l 0 := by
 cases k
 .exact (⟨nu false l, Heap.get?_push_size _ rfl, rfl, rfl⟩ : Heap.IsListIter _ _ _ 0)
 .exact (⟨nu true l, Heap.get?_push_size _ rfl, rfl, rfl⟩ : Heap.IsTupleIter _ _ _ 0)
theorem Dy {c1 c2 : Bool} {l1 l2 : Addr} {xs ys : Array Value} {Q : Value -> Shared -> Prop} (hl1 : jK c1 s.heap l1 xs) (hl2 : jK c2 s.heap l2 ys)
  (h : ∀ h', IsZip h' (s.heap.objs.size + 4) (s.heap.objs.size + 2) (s.heap.objs.size + 3) .none -> IsPair h' (s.heap.objs.size + 2) (.ref s.heap.objs.size) (.ref (s.heap.objs.size + 1)) ->
   IsPair h' (s.heap.objs.size + 3) .none .none -> gh c1 h' s.heap.objs.size l1 0 -> gh c2 h' (s.heap.objs.size + 1) l2 0 -> h'.objs.size = s.heap.objs.size + 5 ->
   (∀ c o, s.heap.get? c = some o -> h'.get? c = some o) -> Q (.ref (s.heap.objs.size + 4)) { s with heap := h' }) :
  wpAny (model prog w) A (call (.type "zip") [.ref l1, .ref l2]) Q E s := by
 refine callType_new F.called_zip (by decide) (F.typeCall_zip_2 _ _) (F.newCall_zip_2 _ _) (λ obj => F.args_object_init_3 obj _ _) F.entry_zip_new
  (Fy c1 c2 l1 l2 xs ys) ⟨hl1, hl2, ?_⟩
 have z1 : (s.heap.push (nu c1 l1)).objs.size = s.heap.objs.size + 1 := Heap.size_push ..
 have z2 : (zH2 s.heap c1 c2 l1 l2).objs.size = s.heap.objs.size + 2 := by rw [Heap.size_push, z1]
 have z3 : (zH3 s.heap c1 c2 l1 l2).objs.size = s.heap.objs.size + 3 := by rw [Heap.size_push, z2]
 have z4 : (zH4 s.heap c1 c2 l1 l2).objs.size = s.heap.objs.size + 4 := by rw [Heap.size_push, z3]
 have z5 : (zH5 s.heap c1 c2 l1 l2).objs.size = s.heap.objs.size + 5 := by rw [Heap.size_push, z4]
 have g5 : (zH5 s.heap c1 c2 l1 l2).get? (zH4 s.heap c1 c2 l1 l2).objs.size = some _ := Heap.get?_push_size _ rfl
 have g4 : (zH5 s.heap c1 c2 l1 l2).get? (zH3 s.heap c1 c2 l1 l2).objs.size = some _ := Heap.get?_push_of_some _ (Heap.get?_push_size _ rfl)
 have g3 : (zH5 s.heap c1 c2 l1 l2).get? (zH2 s.heap c1 c2 l1 l2).objs.size = some _ := Heap.get?_push_of_some _ (Heap.get?_push_of_some _ (Heap.get?_push_size _ rfl))
 have g2 : gh c2 (zH5 s.heap c1 c2 l1 l2) (s.heap.push (nu c1 l1)).objs.size l2 0 := (gh.new c2 _ l2).at' λ o e => Heap.get?_push_of_some _ (Heap.get?_push_of_some _ (Heap.get?_push_of_some _ e))
 have g1 : gh c1 (zH5 s.heap c1 c2 l1 l2) s.heap.objs.size l1 0 := (gh.new c1 _ l1).at' λ o e => Heap.get?_push_of_some _ (Heap.get?_push_of_some _ (Heap.get?_push_of_some _ (Heap.get?_push_of_some _ e)))
 show _ /\ _
 rw [z2, z3, z4] at g5
 rw [z1, z2] at g3
 rw [z3] at g4
 rw [z1] at g2
 rw [z4]
 exact ⟨⟨_, g5, rfl⟩, h _ g5 g3 g4 g1 g2 z5 λ c o x =>
  Heap.get?_push_of_some _ (Heap.get?_push_of_some _ (Heap.get?_push_of_some _ (Heap.get?_push_of_some _ (Heap.get?_push_of_some _ x))))⟩
end
def SqB (c : Bool) (K : PySem.W.Frag) (H : Hp) (a : Addr) (xs : List V) : Prop := if c = true then SqT K H a xs else SqL K H a xs
section
variable {X : Cx} {pins : List (Addr × Obj)} {σ : L2.St} {H H' : Hp} {s : Shared} {h' : Heap}
theorem Inv.sqB {c : Bool} {a : Addr} {xs : List V} (I : Inv X pins σ H s) (h : SqB c X.K H a xs) : ∃ its : List Value, Vals xs its /\ jK c s.heap a its.toArray /\ xs.length <= sizeLine := by
 cases c
 .obtain ⟨its, r, p, hz⟩ := I.list (show SqL X.K H a xs from h)
  exact ⟨its, r, p.isList, hz⟩
 .obtain ⟨its, r, p, hz⟩ := I.tuple (show SqT X.K H a xs from h)
  exact ⟨its, r, p, hz⟩
theorem Inv.sqB_inj {c : Bool} {a : Addr} {xs ys : List V} (I : Inv X pins σ H s) (h : SqB c X.K H a xs) (h' : SqB c X.K H a ys) : xs = ys := by
 cases c
 .exact I.list_inj (show SqL X.K H a xs from h) h'
 .exact I.tuple_inj (show SqT X.K H a xs from h) h'
theorem Inv.sqB_ne {c : Bool} {a b : Addr} {xs : List V} (I : Inv X pins σ H s) (h : SqB c X.K H a xs) (f : kW X pins H b) : a ≠ b := by
 have key : (∃ o, H a = some o) ∨ ∃ o, X.K.lookup a = some o := by
  cases c
  .rcases (show SqL X.K H a xs from h) with (h | ⟨o, h⟩) | ⟨o, _, _, h, _⟩
   .exact .inl ⟨_, h⟩
   .exact .inl ⟨_, h⟩
   .exact .inr ⟨_, h⟩
  .rcases (show SqT X.K H a xs from h) with (h | ⟨o, h⟩) | ⟨o, _, _, h, _⟩
   .exact .inl ⟨_, h⟩
   .exact .inl ⟨_, h⟩
   .exact .inr ⟨_, h⟩
 intro z
 subst z
 rcases key with ⟨o, e⟩ | ⟨o, e⟩
 .rw [f.1] at e; cases e
 .have e' := I.ok.mod.kin a o e
  rcases f.2.2.2.1 with q | q
  .exact I.ok.noex a o e' q
  .exact absurd (Nat.lt_of_lt_of_le (Heap.lt_size (I.ok.bs a o e').1) q) (Nat.lt_irrefl _)
theorem Inv.turnedL {t' : Nat} {fp : List Addr} (I : Inv X pins σ H s) (k : ∀ b o, b ∉ fp -> s.heap.get? b = some o -> h'.get? b = some o) (hf : ∀ b ∈ fp, kW X pins H b) : Inv X pins σ H { s with heap := h', toks := t' } := by
 have nit : ∀ b u, H b = some u -> b ∉ fp := λ b u e z => by rw [(hf b z).1] at e; cases e
 refine I.step (g' := s.gens) (d' := s.drawn) (ch := fp) (λ b hb => ?_) (λ b o _ _ hc e _ => k b o hc e) (λ b o _ _ hc e _ => ⟨o.slots, k b o hc e⟩) (λ _ _ _ _ n => n)
  (λ b o hc e => ⟨o, k b o hc e⟩) (λ _ _ e => e) (λ _ _ _ e => e) (λ b ps e => ⟨#[], by rw [e]; simp⟩) (λ m hm => ?_) (λ b u e => ?_) I.bare.again
 .obtain ⟨f0, f1, f2, f3, f4, f5⟩ := hf b hb
  exact ⟨f3, f1, f4, f5⟩
 .obtain ⟨o, es, ep, ho, r⟩ := hm
  exact ⟨o, es, ep, k _ o (λ z => (hf _ z).2.1 rfl) ho, r⟩
 .refine (I.hok b u e).stay (λ c v hc q => k c v ?_ q) (λ _ q => q) λ _ _ q => q
  rcases hc with z | z
  .rw [z]; exact nit b u e
  .exact nit c _ z
end
def Itz (K : PySem.W.Frag) (c1 c2 : Bool) (a1 a2 : Addr) : It :=
 ⟨λ i H => (∃ xs x, SqB c1 K H a1 xs /\ xs[i]? = some x) /\ ∃ ys y, SqB c2 K H a2 ys /\ ys[i]? = some y,
  λ i H v H' => ∃ p x y, v = .ref p /\ H p = none /\ H' = upd H p (.tup [x, y]) /\ (∀ xs, SqB c1 K H a1 xs -> xs[i]? = some x) /\ ∀ ys, SqB c2 K H a2 ys -> ys[i]? = some y,
  λ i H => ∃ xs ys, SqB c1 K H a1 xs /\ SqB c2 K H a2 ys /\ (xs.length <= i ∨ ys.length <= i)⟩
def ZSt (c1 c2 : Bool) (z TI TO i1 i2 a1 a2 : Addr) (i : Nat) (h : Heap) : Prop :=
 IsZip h z TI TO .none /\ IsPair h TI (.ref i1) (.ref i2) /\ (∃ a b, IsPair h TO a b) /\ gh c1 h i1 a1 i /\ gh c2 h i2 a2 i
theorem Eg {h : Heap} {o u : Obj} {b : Addr} (e : (h.push o).get? b = some u) (hb : b ≠ h.objs.size) : h.get? b = some u := by
 unfold Heap.get? at e ⊢
 have hp : (h.push o).objs[b]? = h.objs[b]? := by
  show (h.objs.push o)[b]? = h.objs[b]?
  rw [Array.getElem?_push, if_neg hb]
 rw [hp] at e
 exact e
theorem Hq {P : Program} {w : World} {K : PySem.W.Frag} {elts : List Expr} {kk : Nat} {pos : Pos} (c1 c2 : Bool) (z TI TO i1 i2 a1 a2 : Addr) (D : ZA z TI TO i1 i2) :
  Turn P w K (.Tuple elts kk pos) (Itz K c1 c2 a1 a2) [z, TI, TO, i1, i2] z (ZSt c1 c2 z TI TO i1 i2 a1 a2) where
 mem := by simp
 obj := λ i h st b hb => by
  obtain ⟨hz, hTI, ⟨a, b', hTO⟩, h1, h2⟩ := st
  simp only [List.mem_cons, List.not_mem_nil, or_false] at hb
  rcases hb with rfl | rfl | rfl | rfl | rfl
  .exact ⟨_, hz, λ v q => by cases q⟩
  .exact ⟨_, hTI, λ v q => by cases q⟩
  .exact ⟨_, hTO, λ v q => by cases q⟩
  .obtain ⟨o, e, d, _⟩ := h1.obj; exact ⟨o, e, d⟩
  .obtain ⟨o, e, d, _⟩ := h2.obj; exact ⟨o, e, d⟩
 keep := λ i h h' st k => by
  obtain ⟨hz, hTI, ⟨a, b', hTO⟩, h1, h2⟩ := st
  exact ⟨k z (by simp) _ hz, k TI (by simp) _ hTI, ⟨a, b', k TO (by simp) _ hTO⟩, h1.at' λ o e => k i1 (by simp) o e, h2.at' λ o e => k i2 (by simp) o e⟩
 item := by
  intro X hP hw hK hc i pins s σ H E I hf st hg
  subst hP hw hK
  obtain ⟨hz, hTI, ⟨a, b', hTO⟩, h1, h2⟩ := st
  obtain ⟨⟨xs, x, hx, ex⟩, ys, y, hy, ey⟩ := hg
  obtain ⟨its1, r1, p1, z1⟩ := I.sqB hx
  obtain ⟨its2, r2, p2, z2⟩ := I.sqB hy
  obtain ⟨u1, eu1, ru1⟩ := r1.get ex
  obtain ⟨u2, eu2, ru2⟩ := r2.get ey
  have fz := hf z (by simp)
  have fTO := hf TO (by simp)
  have fi1 := hf i1 (by simp)
  have ltz : z < s.heap.objs.size := Heap.lt_size hz
  have ltTI : TI < s.heap.objs.size := Heap.lt_size hTI
  have ltTO : TO < s.heap.objs.size := Heap.lt_size hTO
  have lti1 : i1 < s.heap.objs.size := let ⟨_, e, _⟩ := h1.obj; Heap.lt_size e
  have lti2 : i2 < s.heap.objs.size := let ⟨_, e, _⟩ := h2.obj; Heap.lt_size e
  refine pJ D (I.sqB_ne hx fz) (I.sqB_ne hy fz) (I.sqB_ne hy fi1) (I.sqB_ne hy fTO) hz hTI hTO h1 h2 p1 p2 (x := u1) (y := u2) (by simpa using eu1) (by simpa using eu2) λ h' q1 q2 q3 q4 q5 q6 q7 => ⟨_, rfl, ?_⟩
  refine wpAny_letOwnedTupleGo_zip q1 λ h2' y1 y2 => ?_
  have hpn : H s.heap.objs.size = none := I.hok.fresh (Nat.le_refl _)
  have IA : Inv X pins σ (upd H s.heap.objs.size (.tup [x, y])) { s with heap := s.heap.push { cls := .type "tuple", data := .seq #[u1, u2] } } :=
   I.laid (t' := s.toks) (o := .tup [x, y]) (λ b ob q => Heap.get?_push_of_some _ q) (Nat.le_refl _) ⟨by show 2 <= sizeLine; decide, [u1, u2], .cons ru1 (.cons ru2 .nil), IsTup.new _ _⟩
  have hne : ∀ b ∈ [z, TI, TO, i1, i2], b ≠ s.heap.objs.size := λ b hb => by
   simp only [List.mem_cons, List.not_mem_nil, or_false] at hb
   rcases hb with rfl | rfl | rfl | rfl | rfl
   .exact Nat.ne_of_lt ltz
   .exact Nat.ne_of_lt ltTI
   .exact Nat.ne_of_lt ltTO
   .exact Nat.ne_of_lt lti1
   .exact Nat.ne_of_lt lti2
  have hf' : ∀ b ∈ [z, TI, TO, i1, i2], kW X pins (upd H s.heap.objs.size (.tup [x, y])) b := λ b hb => by
   obtain ⟨f0, f1⟩ := hf b hb
   exact ⟨by rw [aU (hne b hb)]; exact f0, f1⟩
  have IB : Inv X pins σ (upd H s.heap.objs.size (.tup [x, y])) { s with heap := h2' } := by
   refine Inv.turnedL (s := { s with heap := s.heap.push { cls := .type "tuple", data := .seq #[u1, u2] } }) (t' := s.toks) (fp := [z, TI, TO, i1, i2]) IA (λ b o hb e => ?_) hf'
   simp only [List.mem_cons, List.not_mem_nil, or_false, not_or] at hb
   obtain ⟨b1, b2, b3, b4, b5⟩ := hb
   by_cases hs : b = s.heap.objs.size
   .subst hs
    have e' : some ({ cls := .type "tuple", data := .seq #[u1, u2] } : Obj) = some o := (Heap.get?_push_size s.heap rfl).symm.trans e
    cases e'
    exact y2.extBut _ _ b1 q5
   .exact y2.extBut _ _ b1 (q7 b o b1 b3 b4 b5 (Eg e hs))
  refine ⟨.ref s.heap.objs.size, _, IB, rfl, ⟨_, x, y, rfl, hpn, rfl, λ zs hzs => by rw [I.sqB_inj hzs hx]; exact ex, λ zs hzs => by rw [I.sqB_inj hzs hy]; exact ey⟩, ?_, λ b hb => (hf' b hb).1⟩
  exact ⟨y1, y2.extBut _ _ D.TIz (q7 _ _ D.TIz D.TITO D.TIi1 D.TIi2 hTI), ⟨_, _, y2.extBut _ _ D.TOz q2⟩, q3.at' λ o e => y2.extBut _ _ D.i1z e, q4.at' λ o e => y2.extBut _ _ D.i2z e⟩
 done := by
  intro X hP hw hK hc i pins s σ H E I hf st hg
  subst hP hw hK
  obtain ⟨hz, hTI, ⟨a, b', hTO⟩, h1, h2⟩ := st
  obtain ⟨xs, ys, hx, hy, hend⟩ := hg
  obtain ⟨its1, r1, p1, z1⟩ := I.sqB hx
  obtain ⟨its2, r2, p2, z2⟩ := I.sqB hy
  have fz := hf z (by simp)
  have fTO := hf TO (by simp)
  have fi1 := hf i1 (by simp)
  have l1 := r1.length
  have l2 := r2.length
  refine qN (I.ok.hd hc) D (I.sqB_ne hx fz) (I.sqB_ne hy fz) (I.sqB_ne hy fi1) (I.sqB_ne hy fTO) hz hTI hTO h1 h2 p1 p2 ?_ λ h' q => ⟨rfl, I.turnedL (t' := s.toks) (fp := [z, TI, TO, i1, i2]) (λ b o hb e => ?_) hf⟩
  .rcases hend with h | h
   .exact .inl (by simp; omega)
   .exact .inr (by simp; omega)
  .simp only [List.mem_cons, List.not_mem_nil, or_false, not_or] at hb
   exact q b o hb.1 hb.2.2.1 hb.2.2.2.1 hb.2.2.2.2 e
 self := λ _ _ _ _ _ st h => wpAny_pyIter_zip st.1 h
def iZip (K : PySem.W.Frag) (ta : TA) : TI := λ σ H R => ta σ H λ vs H1 => ∃ a1 a2 c1 c2, vs = [.ref a1, .ref a2] /\ (∃ xs, SqB c1 K H1 a1 xs) /\ (∃ ys, SqB c2 K H1 a2 ys) /\ R (Itz K c1 c2 a1 a2) H1
section
variable {X : Cx}
theorem Nr {a b : Expr} {ta : TA} {p pos p' : Pos} {elts : List Expr} {kk : Nat} (hg : Gl X "zip") (hm : X.mg "zip" = none) (ha : PA X [a, b] ta) (hs : starEach [a, b] X.env = [(false, eval a X.env), (false, eval b X.env)] := by rfl) (hs2 : starEach [b] X.env = [(false, eval b X.env)] := by rfl) :
  PI X (.Tuple elts kk p') (.Call (.Name "zip" p) [a, b] [] pos) (iZip X.K ta) := by
 intro pins s σ H R I h
 refine Call_ (lz I hg hm boot_zip (PyProof.Rows.callWith_type1 (thn (ha pos pins s σ H _ I h) λ us s1 ⟨vs, H1, I1, r1, q1⟩ => ?_) (by rw [hs, hs2]) (by rw [hs2]; rfl)))
 obtain ⟨a1, a2, c1, c2, rfl, ⟨xs, hx⟩, ⟨ys, hy⟩, q⟩ := q1
 obtain ⟨u, v, rfl, ru, rv⟩ := vals2 r1
 cases ru
 cases rv
 obtain ⟨its1, _, p1, _⟩ := I1.sqB hx
 obtain ⟨its2, _, p2, _⟩ := I1.sqB hy
 refine Dy p1 p2 λ h' g1 g2 g3 g4 g5 g6 g7 => ?_
 refine wpAny_pyIter_zip g1 ?_
 refine ⟨_, [s1.heap.objs.size + 4, s1.heap.objs.size + 2, s1.heap.objs.size + 3, s1.heap.objs.size, s1.heap.objs.size + 1], _, _, H1, rfl, I1.kept (t' := s1.toks) g7, Hq c1 c2 _ _ _ _ _ a1 a2 ?_, ⟨g1, g2, ⟨_, _, g3⟩, g4, g5⟩, λ b hb => ?_, q⟩
 .constructor <;> first | exact Nat.ne_of_lt (by omega) | exact Nat.ne_of_gt (by omega)
 .have hb' : s1.heap.objs.size <= b := by
   simp only [List.mem_cons, List.not_mem_nil, or_false] at hb
   rcases hb with q | q | q | q | q <;> rw [q] <;> first | exact Nat.le_add_right _ _ | exact Nat.le_refl _
  exact I1.fpOk hb' (I1.hok.fresh hb')
end
end L2
namespace L3
open PySem PySem.Spec PyProof.Rows L2
def bL : D -> Mu -> Option (List D)
 | .tup ds, _ => some ds
 | .lst ds, _ => some ds
 | .ro ds, _ => some ds
 | .cell n, μ => match μ[n]? with
  | some (some ds) => some ds
  | _ => none
 | _, _ => none
def wB : D -> Bool
 | .tup _ => true
 | _ => false
section
variable {K : PySem.W.Frag} {tb : List Addr}
theorem jW {W : Wd} {x : D} {v : V} {ds : List D} (ok : WOk K tb W) (h : Den K tb W x v) (e : bL x W.mu = some ds) : ∃ a xs, v = .ref a /\ SqB (wB x) K W.H a xs /\ cG K tb W ds xs := by
 cases x with
 | tup es => cases e; obtain ⟨a, xs, rfl, q, r⟩ := iB h; exact ⟨a, xs, rfl, SqT.fz q, r⟩
 | lst es => cases e; obtain ⟨a, xs, rfl, q, r⟩ := jJ h; exact ⟨a, xs, rfl, SqL.fz q, r⟩
 | ro es => cases e; obtain ⟨a, xs, rfl, q, r⟩ := uT h; exact ⟨a, xs, rfl, SqL.fz q, r⟩
 | cell n =>
  obtain ⟨a, rfl, q⟩ := gU h
  have e' : (match W.mu[n]? with | some (some ds) => some ds | _ => none) = some ds := e
  cases e2 : W.mu[n]? with
  | none => rw [e2] at e'; cases e'
  | some o =>
   cases o with
   | none => rw [e2] at e'; cases e'
   | some es =>
    rw [e2] at e'
    cases e'
    obtain ⟨xs, e3, r⟩ := ok.cont n a ds q e2
    exact ⟨a, xs, rfl, SqL.of e3, r⟩
 | _ => cases e
theorem SqB.or {c : Bool} {H : Hp} {a : Addr} {xs : List V} (h : SqB c K H a xs) : SqL K H a xs ∨ SqT K H a xs := by
 cases c
 .exact .inl h
 .exact .inr h
end
theorem Ig {K : PySem.W.Frag} {tb : List Addr} {W : Wd} {ds : List D} {xs : List V} {i : Int} {d : D} (r : cG K tb W ds xs) (h : atI ds i = some d) : ∃ v, atI xs i = some v /\ Den K tb W d v := by
 unfold atI at h ⊢
 rw [<- aF.length r]
 cases e : ixN ds.length i with
 | none => rw [e] at h; cases h
 | some j =>
  rw [e] at h
  exact aF.get r h
def oIx : O2 := λ x y μ => match y with
 | .int i => (bL x μ).bind λ ds => (atI ds i).map λ d => (d, μ)
 | _ => none
def cg : O1' := λ x μ => match x with
 | .str y => if y.length <= sizeLine then some (.int y.length, μ) else none
 | _ => (bL x μ).map λ ds => (.int ds.length, μ)
def qP : O1' := λ x μ => match x with
 | .int i => some (.int (if i < 0 then -i else i), μ)
 | _ => none
def dG : O1' := λ x μ => match x with
 | .int i => some (.int (-i), μ)
 | _ => none
def mj (op : O2) : ON := λ xs μ => match xs with
 | [x, y] => op x y μ
 | _ => none
theorem Ay {op : O2} {xs : List D} {μ : Mu} {r : D × Mu} (h : mj op xs μ = some r) : ∃ x y, xs = [x, y] /\ op x y μ = some r := by
 unfold mj at h
 split at h
 .exact ⟨_, _, rfl, h⟩
 .cases h
def nq : O2 := λ x y μ => match x, y with
 | .int i, .int j => some (.int (if j < i then j else i), μ)
 | _, _ => none
def cW : ON := λ xs μ => match xs with
 | [x] => (bL x μ).map λ ds => (.tup ds, μ)
 | _ => none
def CG (T : String) : D -> Option Bool
 | .non => some false
 | .bl _ => some (T == "bool" || T == "int")
 | .int _ => some (T == "int")
 | .str _ => some (T == "str")
 | .tup _ => some (T == "tuple")
 | .lst _ => some (T == "list")
 | .ro _ => some (T == "list")
 | .dic _ => some (T == "dict")
 | .cell _ => none
def jt (T : String) : O1' := λ x μ => match x with
 | .cell n => match μ[n]? with
  | some (some _) => some (.bl (T == "list"), μ)
  | _ => none
 | _ => (CG T x).map λ k => (.bl k, μ)
section
variable {X : Cx} {tb : List Addr} {a b e : Expr} {fa fb f : EF} {fs : AF} {p pos : Pos}
theorem bJ (ha : PD X tb a fa) (hb : PD X tb b fb) (hs : Cq b := by intro _ _; rfl) : PD X tb (.Subscript a b pos) (M2 fa fb oIx) :=
 zY (λ ta tb' ha hb => Qf Lx ha hb hs) (λ W x y v u d μ' Q ok dx dy ho h => by
  cases y with
  | int i =>
   obtain ⟨ds, e1, e2⟩ := Option.bind_eq_some_iff.mp (show ((bL x W.mu).bind λ ds => (atI ds i).map λ d => (d, W.mu)) = some (d, μ') from ho)
   obtain ⟨d0, e3, e4⟩ := Option.map_eq_some_iff.mp e2
   cases e4
   rw [bF dy]
   obtain ⟨a, xs, rfl, q, r⟩ := jW ok dx e1
   obtain ⟨v, ev, dv⟩ := Ig r e3
   rcases SqB.or q with q | q
   .exact .inl ⟨a, xs, i, v, rfl, rfl, q, ev, put ok h dv⟩
   .exact .inr (.inl ⟨a, xs, i, v, rfl, rfl, q, ev, put ok h dv⟩)
  | _ => cases ho) ha hb
theorem iz (ha : PD X tb a fa) : PD X tb (.UnaryOp .USub a pos) (M1 fa dG) :=
 Pb (λ ta ha => QL Pz ha) (λ W x v d μ' Q ok dx ho h => by
  cases x with
  | int i => cases ho; rw [bF dx]; exact ⟨i, rfl, put ok h dH⟩
  | _ => cases ho) ha
def bj (op : O1') : ON := λ xs μ => match xs with
 | [x] => op x μ
 | _ => none
theorem nM {op : O1'} {xs : List D} {μ : Mu} {r : D × Mu} (h : bj op xs μ = some r) : ∃ x, xs = [x] /\ op x μ = some r := by
 unfold bj at h
 split at h
 .exact ⟨_, rfl, h⟩
 .cases h
theorem yw {xs : List D} {μ : Mu} {r : D × Mu} (h : cW xs μ = some r) : ∃ x, xs = [x] /\ cW [x] μ = some r := by
 unfold cW at h
 split at h
 .exact ⟨_, rfl, h⟩
 .cases h
theorem fY (hm : X.mg "len" = none) (ha : PAD X tb [a] fs) (hg : Gl X "len" := by rfl) (he : starEach [a] X.env = (false, eval a X.env) :: starEach [] X.env := by rfl) : PD X tb (.Call (.Name "len" p) [a] [] pos) (MC fs (bj cg)) :=
 zH (λ ta ha => jY (vZ.or wG) hg hm PySem.boot_len ha (by decide) (by decide) he (by rfl)) (λ W xs vs d μ' Q ok r ho h => by
  obtain ⟨x, rfl, ho⟩ := nM ho
  obtain ⟨v, rfl, dv⟩ := aF.one r
  have gen : ∀ ds, bL x W.mu = some ds -> some (D.int ds.length, W.mu) = some (d, μ') -> ((∃ p ys, [v] = [V.ref p] /\ (SqL X.K W.H p ys ∨ SqT X.K W.H p ys) /\ Q (.int ys.length) W.H) ∨ ∃ z, [v] = [V.str z] /\ z.length <= sizeLine /\ Q (.int z.length) W.H) := λ ds e1 e2 => by
   cases e2
   obtain ⟨a, xs, e, q, r⟩ := jW ok dv e1
   exact Or.inl ⟨a, xs, by rw [e], SqB.or q, by rw [<- aF.length r]; exact put ok h dH⟩
  cases x with
  | str y =>
   have ho' : (if y.length <= sizeLine then some (D.int y.length, W.mu) else none) = some (d, μ') := ho
   split at ho'
   .rename_i hz
    cases ho'
    rw [wZ dv]
    exact .inr ⟨y, rfl, hz, put ok h dH⟩
   .cases ho'
  | tup ds => exact gen ds rfl ho
  | lst ds => exact gen ds rfl ho
  | ro ds => exact gen ds rfl ho
  | cell n =>
   obtain ⟨ds, e1, e2⟩ := Option.map_eq_some_iff.mp (show (bL (.cell n) W.mu).map (λ ds => (D.int ds.length, W.mu)) = some (d, μ') from ho)
   exact gen ds e1 (congrArg some e2)
  | _ => cases ho) ha
theorem zQ (hm : X.mg "abs" = none) (ha : PAD X tb [a] fs) (hg : Gl X "abs" := by rfl) (he : starEach [a] X.env = (false, eval a X.env) :: starEach [] X.env := by rfl) : PD X tb (.Call (.Name "abs" p) [a] [] pos) (MC fs (bj qP)) :=
 zH (λ ta ha => jY Ek hg hm PyProof.Rows.boot_abs ha (by decide) (by decide) he (by rfl)) (λ W xs vs d μ' Q ok r ho h => by
  obtain ⟨x, rfl, ho⟩ := nM ho
  obtain ⟨v, rfl, dv⟩ := aF.one r
  cases x with
  | int i => cases ho; rw [bF dv]; exact ⟨i, rfl, put ok h dH⟩
  | _ => cases ho) ha
theorem Ce (hc : X.calm = true) (hm : X.mg "min" = none) (ha : PAD X tb [a, b] fs) (hg : Gl X "min" := by rfl) (he : starEach [a, b] X.env = (false, eval a X.env) :: starEach [b] X.env := by rfl) (hpl : (backTo pos (starEach [b] X.env)).any (·.1) = false := by rfl) : PD X tb (.Call (.Name "min" p) [a, b] [] pos) (MC fs (mj nq)) :=
 zH (λ ta ha => jY (CJ hc) hg hm PyProof.Rows.boot_min ha (by decide) (by decide) he hpl) (λ W xs vs d μ' Q ok r ho h => by
  obtain ⟨x, y, rfl, ho⟩ := Ay ho
  obtain ⟨u, v, rfl, du, dv⟩ := aF.two r
  cases x with
  | int i =>
   cases y with
   | int j =>
    cases ho
    rw [bF du, bF dv]
    exact ⟨i, j, rfl, put ok h dH⟩
   | _ => cases ho
  | _ => cases ho) ha
theorem lW (hm : X.mg "tuple" = none) (ha : PAD X tb [a] fs) (hg : Gl X "tuple" := by rfl) (he : starEach [a] X.env = (false, eval a X.env) :: starEach [] X.env := by rfl) : PD X tb (.Call (.Name "tuple" p) [a] [] pos) (MC fs cW) :=
 zH (λ ta ha => mQ uh hg hm PyProof.Rows.boot_tuple ha (by decide) (by decide) he (by rfl)) (λ W xs vs d μ' Q ok r ho h => by
  obtain ⟨x, rfl, ho⟩ := yw ho
  obtain ⟨v, rfl, dv⟩ := aF.one r
  obtain ⟨ds, e1, e2⟩ := Option.map_eq_some_iff.mp (show (bL x W.mu).map (λ ds => (D.tup ds, W.mu)) = some (d, μ') from ho)
  cases e2
  by_cases ht : ∃ es, x = .tup es
  .obtain ⟨es, rfl⟩ := ht
   cases e1
   obtain ⟨a, xs, rfl, q, r⟩ := iB dv
   exact ⟨a, xs, rfl, .inr ⟨SqT.fz q, put ok h dv⟩⟩
  .obtain ⟨a, xs, rfl, q, r⟩ := jW ok dv e1
   have hf : wB x = false := by cases x <;> first | rfl | exact absurd ⟨_, rfl⟩ ht
   rw [hf] at q
   exact ⟨a, xs, rfl, .inl ⟨q, λ l hl => ph ok h r hl⟩⟩) ha
def lOf (fs : AF) : LF := λ δ μ => (fs δ μ).bind λ r => match r.1 with
 | [x] => (bL x r.2).map λ ds => (ds, r.2)
 | _ => none
theorem xJ (hm : X.mg "list" = none) (ha : PAD X tb [a] fs) (hg : Gl X "list" := by rfl) (he : starEach [a] X.env = (false, eval a X.env) :: starEach [] X.env := by rfl) : PDN X tb (.Call (.Name "list" p) [a] [] pos) (lOf fs) :=
 dW (mQ vW hg hm PyProof.Rows.boot_list ha (by decide) (by decide) he (by rfl)) λ σ H Q zq1 => by
  obtain ⟨W, δ, ds, μ', e, ok, hd, hf, k⟩ := zq1
  unfold lOf at hf
  obtain ⟨⟨xs, μ1⟩, e1, e2⟩ := Option.bind_eq_some_iff.mp hf
  match xs, e1, e2 with
  | [x], e1, e2 =>
   obtain ⟨ds', e3, e4⟩ := Option.map_eq_some_iff.mp (show (bL x μ1).map (λ ds => (ds, μ1)) = some (ds, μ') from e2)
   cases e4
   refine ⟨W, δ, [x], _, e, ok, hd, e1, λ vs W1 ok1 l1 m1 d1 => ?_⟩
   obtain ⟨v, rfl, dv⟩ := aF.one d1
   obtain ⟨a, xs, rfl, q, r⟩ := jW ok1 dv (by rw [m1]; exact e3)
   exact ⟨a, xs, rfl, SqB.or q, λ l hl => k l xs W1 ok1 l1 m1 hl r⟩
theorem lu {T : Str} {tn : String} {pt : Pos} (hm : X.mg "isinstance" = none) (hmT : X.mg T = none) (hT : bootBuiltins T = some (.type tn)) (hmem : tn ∈ Iv) (ha : PD X tb a fa) (hg : Gl X "isinstance" := by rfl) (hgT : Gl X T := by rfl) (hn : T ≠ "__name__" := by decide) (hdb : (T == ("__debug__" : Str)) = false := by decide)
  (hs : starEach [a, .Name T pt] X.env = (false, eval a X.env) :: starEach [.Name T pt] X.env := by rfl) : PD X tb (.Call (.Name "isinstance" p) [a, .Name T pt] [] pos) (M1 fa (jt tn)) :=
 dW (jY Gb hg hm PyProof.Rows.boot_isinstance (pA ha (pA (JT hgT hmT hT (v := .ty tn) rfl hn hdb) vJ) hs) (by decide) (by decide) hs (by rfl)) λ σ H Q zq2 => by
  obtain ⟨W, δ, d, μ', e, ok, hd, hf, h⟩ := zq2
  unfold M1 at hf
  obtain ⟨⟨x, μ1⟩, e1, e2⟩ := Option.bind_eq_some_iff.mp hf
  refine ⟨W, δ, x, μ1, e, ok, hd, e1, λ v W1 ok1 l1 m1 d1 => ?_⟩
  have fin : ∀ k, Ot X.K tn v W1.H k -> some (D.bl k, μ1) = some (d, μ') -> ∃ x T k, [v, V.ty tn] = [x, .ty T] /\ T ∈ Iv /\ Ot X.K T x W1.H k /\ Q (.bl k) W1.H := λ k hk e => by
   cases e
   exact ⟨v, tn, k, rfl, hmem, hk, h _ W1 ok1 l1 m1 gD⟩
  cases x with
  | non => rw [Fz d1] at fin ⊢; exact fin _ rfl e2
  | bl b => rw [qG d1] at fin ⊢; exact fin _ rfl e2
  | int b => rw [bF d1] at fin ⊢; exact fin _ rfl e2
  | str b => rw [wZ d1] at fin ⊢; exact fin _ rfl e2
  | tup ds => obtain ⟨a, xs, rfl, q, r⟩ := iB d1; exact fin _ (.inr (.inl ⟨rfl, xs, SqT.fz q⟩)) e2
  | lst ds => obtain ⟨a, xs, rfl, q, r⟩ := jJ d1; exact fin _ (.inl ⟨rfl, xs, SqL.fz q⟩) e2
  | ro ds => obtain ⟨a, xs, rfl, q, r⟩ := uT d1; exact fin _ (.inl ⟨rfl, xs, SqL.fz q⟩) e2
  | dic ds => obtain ⟨a, xs, rfl, q, r⟩ := Mt d1; exact fin _ (.inr (.inr ⟨rfl, xs, (cY q).1⟩)) e2
  | cell n =>
   have e2' : (match μ1[n]? with | some (some _) => some (D.bl (tn == "list"), μ1) | _ => none) = some (d, μ') := e2
   obtain ⟨a, rfl, q⟩ := gU d1
   cases e4 : μ1[n]? with
   | none => rw [e4] at e2'; cases e2'
   | some o =>
    cases o with
    | none => rw [e4] at e2'; cases e2'
    | some ds =>
     rw [e4] at e2'
     obtain ⟨xs, ex, _⟩ := ok1.cont n a ds q (by rw [m1]; exact e4)
     exact fin _ (.inl ⟨rfl, xs, SqL.of ex⟩) e2'
def fX (μ : Mu) (n : Nat) : Bool := match μ[n]? with
 | some (some _) => true
 | _ => false
theorem xG {μ : Mu} {n : Nat} (h : fX μ n = true) : ∃ ds, μ[n]? = some (some ds) := by
 unfold fX at h
 split at h
 .exact ⟨_, by assumption⟩
 .cases h
def gw (fo : EF) (fs : AF) : EF := λ δ μ => (fo δ μ).bind λ r => (fs δ r.2).bind λ q => match r.1, q.1 with
 | .cell n, [y] => match q.2[n]? with
  | some (some ds) => if fX r.2 n = true /\ ds.length < sizeLine then some (.non, q.2.set n (some (ds ++ [y]))) else none
  | _ => none
 | _, _ => none
theorem gH {o : Expr} {fo : EF} {apos cpos : Pos} (ho : PD X tb o fo) (ha : PAD X tb [e] fs)
  (hbase : attributeBase o "append" X.env (eval o X.env) = eval o X.env := by rfl)
  (hfew : ((backTo cpos (starEach [e] X.env)).all (λ x => !x.1) && (backToKw cpos (keywordEach [] X.env)).all (λ x => x.1.isSome)
   && decide ([e].length + ([] : List Keyword).length + (if ([] : List Keyword).isEmpty then 0 else 1) < 30)) = true := by rfl)
  (hline : (apos.endLine == cpos.line) = true := by rfl) (hs : starEach [e] X.env = (false, eval e X.env) :: starEach [] X.env := by rfl) : PD X tb (.Call (.Attribute o "append" apos) [e] [] cpos) (gw fo fs) :=
 dW (KC PySem.F.plainAttrs_list PySem.F.slot_list_append PySem.F.type_list_append CP ho ha hbase hfew hline hs (by rfl)) λ σ H Q zq3 => by
  obtain ⟨W, δ, d, μ', e, ok, hd, hf, h⟩ := zq3
  unfold gw at hf
  obtain ⟨⟨x, μ1⟩, e1, hf⟩ := Option.bind_eq_some_iff.mp hf
  obtain ⟨⟨ys, μ2⟩, e2, hf⟩ := Option.bind_eq_some_iff.mp hf
  refine ⟨W, δ, x, μ1, e, ok, hd, e1, λ v W1 ok1 l1 m1 d1 => ?_⟩
  match x, ys, e1, e2, hf, d1 with
  | .cell n, [y], e1, e2, hf, d1 =>
   have hf' : (match μ2[n]? with | some (some ds) => if fX μ1 n = true /\ ds.length < sizeLine then some (D.non, μ2.set n (some (ds ++ [y]))) else none | _ => none) = some (d, μ') := hf
   cases e4 : μ2[n]? with
   | none => rw [e4] at hf'; cases hf'
   | some oo =>
    cases oo with
    | none => rw [e4] at hf'; cases hf'
    | some ds =>
     rw [e4] at hf'
     have hf'' : (if fX μ1 n = true /\ ds.length < sizeLine then some (D.non, μ2.set n (some (ds ++ [y]))) else none) = some (d, μ') := hf'
     split at hf''
     .rename_i hz
      cases hf''
      obtain ⟨a, rfl, q⟩ := gU d1
      obtain ⟨ds0, e5⟩ := xG hz.1
      obtain ⟨xs0, ex0, _⟩ := ok1.cont n a ds0 q (by rw [m1]; exact e5)
      refine ⟨.inl ⟨rfl, xs0, SqL.of ex0⟩, W1, δ, [y], μ2, rfl, ok1, hd.mono' l1, (by rw [m1]; exact e2), λ vs W2 ok2 l2 m2 d2 => ?_⟩
      obtain ⟨u, rfl, du⟩ := aF.one d2
      have q2 := l2.ad _ _ q
      have e6 : W2.mu[n]? = some (some ds) := by rw [m2]; exact e4
      obtain ⟨xs, ex, r⟩ := ok2.cont n a ds q2 e6
      refine ⟨a, xs, u, rfl, rfl, ex, by rw [<- aF.length r]; exact hz.2, ?_⟩
      obtain ⟨ok3, l3⟩ := ok2.write q2 e6 (aF.append r (aF.cons du aF.nil))
      exact h .non _ ok3 ((l1.trans l2).trans l3) (by rw [<- m2]) qY
     .cases hf''
def Ck (fo : EF) : EF := λ δ μ => (fo δ μ).bind λ r => match r.1 with
 | .cell n => match r.2[n]? with
  | some (some (y :: ds)) => some (y, r.2.set n (some ds))
  | _ => none
 | _ => none
theorem Kf {o : Expr} {fo : EF} {apos cpos p0 : Pos} {j} (ho : PD X tb o fo)
  (hbase : attributeBase o "pop" X.env (eval o X.env) = eval o X.env := by rfl)
  (hfew : ((backTo cpos (starEach [.Constant (.int 0) j p0] X.env)).all (λ x => !x.1) && (backToKw cpos (keywordEach [] X.env)).all (λ x => x.1.isSome)
   && decide ([Expr.Constant (.int 0) j p0].length + ([] : List Keyword).length + (if ([] : List Keyword).isEmpty then 0 else 1) < 30)) = true := by rfl)
  (hline : (apos.endLine == cpos.line) = true := by rfl) : PD X tb (.Call (.Attribute o "pop" apos) [.Constant (.int 0) j p0] [] cpos) (Ck fo) :=
 dW (KC PySem.F.plainAttrs_list PySem.F.slot_list_pop PySem.F.type_list_pop Gy ho (pA Hu vJ) hbase hfew hline (by rfl) (by rfl)) λ σ H Q zq4 => by
  obtain ⟨W, δ, d, μ', e, ok, hd, hf, h⟩ := zq4
  unfold Ck at hf
  obtain ⟨⟨x, μ1⟩, e1, hf⟩ := Option.bind_eq_some_iff.mp hf
  refine ⟨W, δ, x, μ1, e, ok, hd, e1, λ v W1 ok1 l1 m1 d1 => ?_⟩
  cases x with
  | cell n =>
   have hf' : (match μ1[n]? with | some (some (y :: ds)) => some (y, μ1.set n (some ds)) | _ => none) = some (d, μ') := hf
   cases e4 : μ1[n]? with
   | none => rw [e4] at hf'; cases hf'
   | some oo =>
    match oo, e4 with
    | none, e4 => rw [e4] at hf'; cases hf'
    | some [], e4 => rw [e4] at hf'; cases hf'
    | some (y :: ds), e4 =>
     rw [e4] at hf'
     have hf'' : some (y, μ1.set n (some ds)) = some (d, μ') := hf'
     cases hf''
     obtain ⟨a, rfl, q⟩ := gU d1
     have e6 : W1.mu[n]? = some (some (d :: ds)) := by rw [m1]; exact e4
     obtain ⟨xs, ex, r⟩ := ok1.cont n a _ q e6
     have r' : aF _ _ _ _ _ := r
     unfold aF at r'
     obtain ⟨u, us, rfl, du, r2⟩ := r'
     refine ⟨.inl ⟨rfl, _, SqL.of ex⟩, a, u :: us, 0, 0, u, rfl, rfl, ex, by decide, by decide, ?_, rfl, ?_⟩
     .simp [seqIndex?]
     .obtain ⟨ok3, l3⟩ := ok1.write q e6 r2
      exact h u _ ok3 (l1.trans l3) (by rw [<- m1]) (Den.mono' du l3)
  | _ => cases hf
theorem pdv (i : Nat) {x : Str} (hN : X.N[i]? = some x := by rfl) (hv : Vis X.env.scope x := by first | exact Or.inl rfl | exact Or.inr (Or.inl rfl) | exact Or.inr (Or.inr rfl)) (hd : (x == ("__debug__" : Str)) = false := by decide) (hcd : (x == ("__classdict__" : Str)) = false := by decide) : PD X tb (.Name x pos) (aq i) := Ob hN hv hd hcd
end
section
variable {X : Cx} {tb : List Addr} {a b e : Expr} {es : List Expr} {fa fb f : EF} {fs : AF} {p pos : Pos}
def kh : List D -> List D -> List D
 | x :: xs, y :: ys => .tup [x, y] :: kh xs ys
 | _, _ => []
theorem xK : ∀ {xs ys : List D} {i : Nat} {d : D}, (kh xs ys)[i]? = some d -> ∃ x y, d = .tup [x, y] /\ xs[i]? = some x /\ ys[i]? = some y
 | [], ys, i, d, h => by simp [kh] at h
 | x :: xs, [], i, d, h => by simp [kh] at h
 | x :: xs, y :: ys, 0, d, h => by
  have h' : some (D.tup [x, y]) = some d := by simpa [kh] using h
  cases h'
  exact ⟨x, y, rfl, rfl, rfl⟩
 | x :: xs, y :: ys, i + 1, d, h => by
  obtain ⟨u, v, e, e1, e2⟩ := xK (xs := xs) (ys := ys) (i := i) (by simpa [kh] using h)
  exact ⟨u, v, e, by simpa using e1, by simpa using e2⟩
theorem yO : ∀ (xs ys : List D), (kh xs ys).length = min xs.length ys.length
 | [], ys => by simp [kh]
 | x :: xs, [] => by simp [kh]
 | x :: xs, y :: ys => by simp [kh, yO xs ys]
def fU : D -> Option (List D)
 | .tup ds => some ds
 | .lst ds => some ds
 | .ro ds => some ds
 | _ => none
theorem Fo {K : PySem.W.Frag} {W : Wd} {x : D} {v : V} {ds : List D} (h : Den K tb W x v) (e : fU x = some ds) : ∃ a xs, v = .ref a /\ SqB (wB x) K (W.fz tb) a xs /\ cG K tb W ds xs := by
 cases x with
 | tup es => cases e; obtain ⟨a, xs, rfl, q, r⟩ := iB h; exact ⟨a, xs, rfl, q, r⟩
 | lst es => cases e; obtain ⟨a, xs, rfl, q, r⟩ := jJ h; exact ⟨a, xs, rfl, q, r⟩
 | ro es => cases e; obtain ⟨a, xs, rfl, q, r⟩ := uT h; exact ⟨a, xs, rfl, q, r⟩
 | _ => cases e
theorem lG {K : PySem.W.Frag} {c : Bool} {W0 W : Wd} {a : Addr} {xs : List V} (h : SqB c K (W0.fz tb) a xs) (l : Le tb W0 W) : SqB c K W.H a xs := by
 cases c
 .exact SqL.fz (SqL.mono l.same (show SqL K (W0.fz tb) a xs from h))
 .exact SqT.fz (SqT.mono l.same (show SqT K (W0.fz tb) a xs from h))
def yL (fs : AF) : IF := λ δ μ => (fs δ μ).bind λ r => match r.1 with
 | [x, y] => (fU x).bind λ xs => (fU y).map λ ys => (⟨kh xs ys, none⟩, r.2)
 | _ => none
theorem Bx {p' : Pos} {elts : List Expr} {kk : Nat} (hm : X.mg "zip" = none) (ha : PAD X tb [a, b] fs) (hg : Gl X "zip" := by rfl) (hs : starEach [a, b] X.env = [(false, eval a X.env), (false, eval b X.env)] := by rfl) (hs2 : starEach [b] X.env = [(false, eval b X.env)] := by rfl) :
  PID X tb (.Tuple elts kk p') (.Call (.Name "zip" p) [a, b] [] pos) (yL fs) :=
 HN (Nr hg hm ha hs hs2) λ σ H R zq4 => by
  obtain ⟨W, δ, S, μ', e, ok, hd, hf, h⟩ := zq4
  unfold yL at hf
  obtain ⟨⟨zs, μ1⟩, e1, hf⟩ := Option.bind_eq_some_iff.mp hf
  match zs, e1, hf with
  | [x, y], e1, hf =>
   obtain ⟨xs, e2, hf⟩ := Option.bind_eq_some_iff.mp (show ((fU x).bind λ xs => (fU y).map λ ys => ((⟨kh xs ys, none⟩ : Src), μ1)) = some (S, μ') from hf)
   obtain ⟨ys, e3, e4⟩ := Option.map_eq_some_iff.mp hf
   cases e4
   refine ⟨W, δ, [x, y], _, e, ok, hd, e1, λ vs W1 ok1 l1 m1 d1 => ?_⟩
   obtain ⟨u, v, rfl, du, dv⟩ := aF.two d1
   obtain ⟨a1, us, rfl, q1, r1⟩ := Fo du e2
   obtain ⟨a2, ws, rfl, q2, r2⟩ := Fo dv e3
   refine ⟨a1, a2, _, _, rfl, ⟨us, lG q1 (Le.refl _)⟩, ⟨ws, lG q2 (Le.refl _)⟩, h _ W1 ok1 l1 m1 ⟨λ i W2 d l ok2 _ ei => ?_, λ i W2 l ok2 _ hi => ?_⟩⟩
   .obtain ⟨x0, y0, rfl, ex, ey⟩ := xK ei
    obtain ⟨vx, evx, dvx⟩ := aF.get (cG.mono' r1 l) ex
    obtain ⟨vy, evy, dvy⟩ := aF.get (cG.mono' r2 l) ey
    refine ⟨⟨⟨us, vx, lG q1 l, evx⟩, ws, vy, lG q2 l, evy⟩, λ z H' ⟨p, x', y', ez, hp, eH, hx', hy'⟩ => ?_⟩
    have ex' := hx' us (lG q1 l)
    have ey' := hy' ws (lG q2 l)
    rw [evx] at ex'; cases ex'
    rw [evy] at ey'; cases ey'
    obtain ⟨ok3, l3, e3⟩ := ok2.alloc (o := .tup [vx, vy]) hp
    refine ⟨_, eH.symm, ok3, l3, rfl, ?_⟩
    rw [ez]
    show bu _ _ _ _ _
    unfold bu
    exact ⟨p, [vx, vy], rfl, .inl (.inl e3), cG.mono' (aF.cons dvx (aF.cons dvy aF.nil)) l3⟩
   .have hi' : min xs.length ys.length <= i := by rw [<- yO]; exact hi
    have l1' := aF.length r1
    have l2' := aF.length r2
    refine ⟨us, ws, lG q1 l, lG q2 l, ?_⟩
    omega
end
theorem Bl {K : PySem.W.Frag} {F : Hp} {ad : List Addr} : ∀ (ns : List Int), aF K F ad (ns.map D.int) (ns.map V.int)
 | [] => aF.nil
 | n :: ns => aF.cons (by unfold bu; rfl) (Bl ns)
theorem Cz {P : Program} {w : World} {K : PySem.W.Frag} {mg mb : Str -> Option Value} {k : Nat} {fa a : Addr} {fd : FuncData} {x : Str} {s₁ : Shared} {vs : List Value} {ns : List Int} {tb : List Addr} {φ : FF} {μ' : Mu}
  (KX : K.In s₁.heap) (hns : s₁.heap.Ns mainGlobals mg) (hb : s₁.heap.Ns builtinsNs mb) (hbb : ∀ x : Str, x ≠ "__name__" -> mb x = bootBuiltins x) (hlim : s₁.heap.NoLimit)
  (hbm : ∃ bm ob, mg "__builtins__" = some (.ref bm) /\ bm ≠ builtinsNs /\ s₁.heap.get? bm = some ob /\ ob.cls = .type "module" /\ ob.dict = some builtinsNs /\ ob.data = .plain) (hg : s₁.gens = #[])
  (ha : s₁.heap.get? a = some { cls := .type "list", data := .seq vs.toArray }) (hi : IntsAre vs ns) (hl : ns.length <= sizeLine) (hr : dO k callerA)
  (htb : ∀ P ∈ tb, ∃ c, PySem.W.CodeHd s₁.heap c P /\ s₁.heap.get? P = some (PySem.W.tabObj #[])) (hnt : PySem.W.noTabs K = true)
  (F : ∀ base : Heap, K.In base -> base.Ns mainGlobals mg -> qM P w K mg base CX0 k fa fd [x] (spD K tb 1 φ)) (hbind : ∀ (s : Shared) (u : Value), BindsTo s fd ⟨[u], []⟩ [(x, u)])
  (hsp : φ [.ro (ns.map .int)] [] = some (.bl true, μ')) :
  codeAny (model P w) callerA (.call (.ref fa) ⟨[.ref a], []⟩) (λ r s' => r = .ok (.ret (.bool true)) /\ OldK s₁.heap s'.heap /\ s'.os = s₁.os /\ AllBare s'.gens) s₁ := by
 have rv := qx hi
 have lenV := hi.length
 have hat : a ∉ tb := λ z => by
  obtain ⟨c, _, e⟩ := htb a z
  rw [ha] at e; cases e
 have hKt : ∀ P ∈ tb, K.lookup P = none := λ P hP => by
  cases q : K.lookup P with
  | none => rfl
  | some o =>
   obtain ⟨c, _, e⟩ := htb P hP
   have e2 := KX P o q
   rw [e] at e2
   cases e2
   have h2 := List.all_eq_true.mp hnt (P, _) (PySem.W.mem_of_lookupK q)
   exact absurd (show false = true from h2) Bool.false_ne_true
 have core : ∀ H : Hp, (∀ b, H b = none ∨ (b = a /\ ∃ o xs, H b = some (.frz o (.lst xs))) ∨ (b ∈ tb /\ H b = some (.tbl #[]))) -> SqL K H a (ns.map V.int) -> HOk P w H s₁.heap -> (∀ P ∈ tb, H P = some (.tbl #[])) -> (H a ≠ none -> K.lookup a = none) ->
   codeAny (model P w) callerA (.call (.ref fa) ⟨[.ref a], []⟩) (λ r s' => r = .ok (.ret (.bool true)) /\ OldK s₁.heap s'.heap /\ s'.os = s₁.os /\ AllBare s'.gens) s₁ := by
  intro H hO hS hok hT hK
  have base_of : ∀ {b : Addr} {o : Obj}, s₁.heap.get? b = some o -> H b = none -> (vN s₁.heap H).get? b = some o := λ e n => Hn e n
  have noH : ∀ {b : Addr} {o : Obj}, s₁.heap.get? b = some o -> o.cls ≠ .type "list" -> o.cls ≠ .none -> H b = none := λ {b o} e d1 d2 => by
   rcases hO b with z | ⟨rfl, _⟩ | ⟨z, _⟩
   .exact z
   .rw [ha] at e; cases e; exact absurd rfl d1
   .obtain ⟨c, _, e2⟩ := htb b z
    rw [e2] at e; cases e; exact absurd rfl d2
  have noA : ∀ {b : Addr} {o : Obj} {es : Array DictEntry} {ep : Nat}, s₁.heap.get? b = some o -> o.data = .dict es ep -> H b = none := λ {b o es ep} e d => by
   rcases hO b with z | ⟨rfl, _⟩ | ⟨z, _⟩
   .exact z
   .rw [ha] at e; cases e; cases d
   .obtain ⟨c, _, e2⟩ := htb b z
    rw [e2] at e; cases e; cases d
  have nsK : ∀ {b : Addr} {m : Str -> Option Value}, s₁.heap.Ns b m -> (vN s₁.heap H).Ns b m := λ {b m} ⟨o, es, ep, e, d, r⟩ => ⟨o, es, ep, base_of e (noA e d), d, r⟩
  have hKb : K.In (vN s₁.heap H) := λ b o e => base_of (KX b o e) (by
   rcases hO b with z | ⟨rfl, _, _, z⟩ | ⟨z, _⟩
   .exact z
   .rw [hK (by rw [z]; simp)] at e; cases e
   .rw [hKt b z] at e; cases e)
  have hM : Mod K mg (vN s₁.heap H) := ⟨hKb, nsK hns, ⟨mb, nsK hb, hbb⟩, (let ⟨mc, h1, h2⟩ := hlim; ⟨mc, nsK h1, h2⟩), (let ⟨bm, ob, h1, h2, h3, h4, r⟩ := hbm; ⟨bm, ob, h1, h2, base_of h3 (noH h3 (by rw [h4]; decide) (by rw [h4]; decide)), h4, r⟩)⟩
  have e0 : IK P w K mg (vN s₁.heap H) callerA [] s₁ H := ⟨rfl, hM, λ b o e => Jz e, Nat.le_of_eq (CQ _ _), trivial, λ b hb => absurd (show b ∈ ([] : List Addr) from hb) (by simp), hok, .of_eq hg⟩
  have okW : WOk K tb ⟨H, [], []⟩ := ⟨rfl, λ i a ds e => by simp at e, λ i j a ds es e => by simp at e, λ P hP => ⟨#[], hT P hP, TOk.nil⟩⟩
  have nlive : ∀ b, ¬ lY ([] : List Addr) ([] : Mu) b := λ b ⟨i, ds, e, _⟩ => by simp at e
  have fzA : Wd.fz tb ⟨H, [], []⟩ a = H a := nF (W := ⟨H, [], []⟩) (nlive a) hat
  have hden : Den K tb ⟨H, [], []⟩ (.ro (ns.map .int)) (.ref a) := by
   show bu _ _ _ _ _
   unfold bu
   refine ⟨a, _, rfl, ?_, Bl ns⟩
   rcases hS with (h | ⟨o, h⟩) | h
   .exact .inl (.inl (fzA.trans h))
   .exact .inl (.inr ⟨o, fzA.trans h⟩)
   .exact .inr h
  refine codeAny_mono ((F _ hKb (nsK hns)).run callerA [] s₁ H ⟨[.ref a], []⟩ [.ref a] [.ref a] (λ v _ => v = .bl true) (λ _ _ _ => False) hr e0 (hbind s₁ (.ref a)) (.cons rfl .nil)
   ⟨⟨H, [], []⟩, [.ro (ns.map .int)], _, _, rfl, okW, aF.cons hden aF.nil, rfl, hsp, λ v W' _ _ _ dv => qG dv⟩) λ r s' h => ?_
  cases r with
  | error e => exact False.elim h
  | ok fl =>
   cases fl with
   | next => exact False.elim h
   | brk => exact False.elim h
   | cont => exact False.elim h
   | ret u =>
    obtain ⟨v, H', os, bare, un, hok', r', q⟩ := h
    have q' : v = .bl true := q
    subst q'
    obtain rfl : u = Value.bool true := r'
    have old : ∀ b o, s₁.heap.get? b = some o -> asItWas s₁.heap s'.heap b o /\ ∃ o', s'.heap.get? b = some o' := λ b o e => by
     rcases hO b with z | ⟨rfl, ob, xs, z⟩ | ⟨hb, z⟩
     .have := un.keep b o e z (by intro z; exact absurd (show b ∈ ([] : List Addr) from z) (by simp)) (by simp)
      exact ⟨.inl this, o, this⟩
     .have z2 := un.frzs b ob _ z
      obtain ⟨e1, _⟩ := hok b _ z
      obtain ⟨e2, _⟩ := hok' b _ z2
      rw [e] at e1; cases e1
      exact ⟨.inl e2, _, e2⟩
     .obtain ⟨more, z2⟩ := un.tbls b _ z
      have e2 := hok' b _ z2
      obtain ⟨c, hd, hp⟩ := htb b hb
      rw [hp] at e; cases e
      have e3 : s'.heap.get? b = some { cls := .none, data := .fields (#[] ++ more) } := e2
      exact ⟨.inr (.inl ⟨(hd.tab hp).isCodeTable, rfl, #[], more, rfl, e3⟩), _, e3⟩
    exact ⟨rfl, ⟨λ b o e => (old b o e).1, λ b o e => (old b o e).2⟩, os, bare.bare⟩
 have tbOk : ∀ {H : Hp} {b : Addr}, b ∈ tb -> gV P w H s₁.heap b (.tbl #[]) := λ {H b} hb => by
  obtain ⟨c, _, e⟩ := htb b hb
  exact e
 classical
 cases hk : K.lookup a with
 | some o =>
  have e := KX a o hk
  rw [ha] at e
  cases e
  refine core (λ b => if b ∈ tb then some (.tbl #[]) else none) (λ b => ?_) (.inr ⟨_, vs.toArray, _, hk, rfl, rfl, rfl, by rw [List.size_toArray, lenV]; exact hl, by simpa using rv⟩) (λ b u z => ?_) (λ P hP => if_pos hP) λ z => absurd (if_neg hat) z
  .by_cases hb : b ∈ tb
   .exact .inr (.inr ⟨hb, if_pos hb⟩)
   .exact .inl (if_neg hb)
  .by_cases hb : b ∈ tb
   .have z' := (if_pos hb).symm.trans z
    cases z'
    exact tbOk hb
   .have z' := (if_neg hb).symm.trans z
    cases z'
 | none =>
  refine core (λ b => if b = a then some (.frz { cls := .type "list", data := .seq vs.toArray } (.lst (ns.map V.int))) else if b ∈ tb then some (.tbl #[]) else none) (λ b => ?_) (.inl (.inr ⟨{ cls := .type "list", data := .seq vs.toArray }, if_pos rfl⟩)) (λ b u z => ?_) (λ P hP => ?_) λ _ => hk
  .by_cases hb : b = a
   .exact .inr (.inl ⟨hb, _, _, if_pos hb⟩)
   .by_cases hb' : b ∈ tb
    .exact .inr (.inr ⟨hb', (if_neg hb).trans (if_pos hb')⟩)
    .exact .inl ((if_neg hb).trans (if_neg hb'))
  .by_cases hb : b = a
   .have z' := (if_pos hb).symm.trans z
    cases z'
    subst hb
    exact ⟨ha, by rw [List.length_map]; exact hl, vs, _, rv, ha⟩
   .have z1 := (if_neg hb).symm.trans z
    by_cases hb' : b ∈ tb
    .have z' := (if_pos hb').symm.trans z1
     cases z'
     exact tbOk hb'
    .have z' := (if_neg hb').symm.trans z1
     cases z'
  .have hne : P ≠ a := λ z => hat (z ▸ hP)
   exact (if_neg hne).trans (if_pos hP)
theorem GD {l : PySem.W.OpenLaw} {n k : Nat} {q : Program} {loose : List Str} {XP : (Str -> Option Value) -> Heap -> Prop} {YP : World -> Heap -> Prop} {d : DefRec} {K : Params -> PySem.W.Frag} {x : Str} {φ : FF}
  (hn : l.most = some n) (hn2 : n <= sizeLine) (hdf : d.params.defaults = []) (hr : dO k callerA)
  (hY : ∀ (w : World) (h : Heap), YP w h -> (K w.params).In h)
  (F : ∀ (w : World) (mg mb : Str -> Option Value) (mean : ExcName -> Option Value) (lo : List Str) (fa : Addr) (h : Heap), (K w.params).In h -> Top q lo mean mg mb h -> mg d.name = some (.ref fa) ->
   ∃ (fd : FuncData) (tb : List Addr), (∀ (s : Shared) (u : Value), BindsTo s fd ⟨[u], []⟩ [(x, u)]) /\ (∀ P ∈ tb, ∃ c, PySem.W.CodeHd h c P /\ h.get? P = some (PySem.W.tabObj #[])) /\ PySem.W.noTabs (K w.params) = true /\
    ∀ base : Heap, (K w.params).In base -> base.Ns mainGlobals mg -> qM l.prog w (K w.params) mg base CX0 k fa fd [x] (spD (K w.params) tb 1 φ))
  (hsp : ∀ (ns : List Int), ns.length <= n -> ∃ μ', φ [.ro (ns.map .int)] [] = some (.bl true, μ')) :
  PySem.W.WalkO q loose XP YP l.row.toRowW d [] (λ f vs => PySem.call f vs) := by
 refine Att.attach_call hn hdf λ w s₀ s₁ mg mb fa o pm cd doc a vs ns G Y ho hd hcd hmg hobj hints hlen hg => ?_
 have KX := hY w _ Y
 obtain ⟨fd, tb, hb, htb, hnt, hF⟩ := F w mg mb _ _ fa _ KX G.T hmg
 obtain ⟨μ', hs⟩ := hsp ns hlen
 exact Cz KX G.T.g G.T.b G.T.builtins G.T.nolimit G.T.bmain hg hobj hints (Nat.le_trans hlen hn2) hr htb hnt hF hb hs
end L3
namespace L2
open PySem PySem.Spec PyProof.Rows
section
variable {X : Cx} {tg iter elt : Expr} {ifs : List Expr} {wi : TI} {g : TG} {tt : TT} {te : TE} {own cap : List Str} {capI : List Nat} {scope : Scope} {pos : Pos}
theorem KD {i₀ : Nat} {x₀ : Str} {px₀ spos : Pos} (hN : X.N.Nodup) (hi₀ : X.N[i₀]? = some x₀) (hx₀ : Loc X.env.scope x₀) (hc : X.calm = true) (B : dI X own cap capI scope) (hown : ∀ x ∈ own, (x, NameKind.free) ∉ scope.names) (hi : PI X tg iter wi)
  (hg : ∀ cs C fp s2 H2, PG (cM X own cap scope cs C fp s2 H2) tg g) (ht : ∀ cs C fp s2 H2, PIf (cM X own cap scope cs C fp s2 H2) ifs tt) (he : ∀ cs C fp s2 H2, PE (cM X own cap scope cs C fp s2 H2) elt te)
  (hs : ∀ x, foldedSetIterable iter X.env x = pure x := by intro _; rfl) (hsw : swapsWith (.ListComp elt [⟨tg, iter, ifs, 0⟩] scope pos) (some (.Name x₀ px₀)) spos.line X.env = pure true := by rfl)
  (hf₀ : X.fn x₀ = true ∨ X.env.scope.names.lookup x₀ = some .local := by first | exact .inl rfl | exact .inr rfl | assumption) :
  PS X (.Assign [.Name x₀ px₀] (.ListComp elt [⟨tg, iter, ifs, 0⟩] scope pos) spos) (Ml (tLC own capI wi g tt te) (Hg i₀)) := by
 intro pins s σ H D I h
 rw [exec_Assign_Name_used _ _ _ _ hsw]
 refine wpAny_bind (wpAny_standAt (wpAny_bind ?_))
 show wpAny _ X.A (do let _ <- comprehension (.ListComp elt [⟨tg, iter, ifs, 0⟩] scope pos) scope X.env _ (newList []) false (eval iter X.env) (some (assign (.Name x₀ px₀) X.env))) _ _ s
 refine wpAny_bind (wpAny_mono (wpAny_comprehension_free (use := some (assign (.Name x₀ px₀) X.env)) (Q := λ _ s' => SP X pins D .next s') (cl := bT X.env scope.names []) rfl hs (iC (B.cells I)) B.kind (λ y hy e => cR B.nd (by rw [<- e]; exact hy)) ?_) (λ _ s' hq => wpAny_pure (wpAny_pure hq)) λ _ _ e => e)
 refine thn (hi pins s σ H _ I h) λ v s1 h1 => thn h1 λ itv s2 h2 => ?_
 obtain ⟨it, fp, tn, J, H2, e, I2, T, st2, f2, W, ⟨m0, w0⟩, turn⟩ := h2
 subst e
 refine wpAny_newObj_type (ni ?_)
 dsimp only
 generalize hl : s2.heap.objs.size = l
 generalize hh0 : s2.heap.push { cls := .type "list", dict := none, data := .seq ([] : List Value).toArray } = h0
 have hsz0 : h0.objs.size = l + 1 := by rw [<- hh0, Heap.size_push, hl]
 generalize hC : h0.objs.size = C
 generalize hh1 : pushCells (h0.push { cls := .type (if (some X.env).isSome = true then "dict" else "frame"), data := .dict #[] }) scope.names = h1
 have hl0 : h0.get? l = some (bW [] 0) := by rw [<- hh0, <- hl]; exact Heap.get?_push_size _ rfl
 have hk0 : ∀ b o, s2.heap.get? b = some o -> h0.get? b = some o := λ b o e => by rw [<- hh0]; exact Heap.get?_push_of_some _ e
 have hlC : l ≠ C := by rw [<- hC, hsz0]; exact Nat.ne_of_lt (Nat.lt_succ_self _)
 have hls : s2.heap.objs.size <= l := Nat.le_of_eq hl
 have hCs : s2.heap.objs.size <= C := by rw [<- hC, hsz0, hl]; exact Nat.le_succ _
 have ho2 : ∀ b ∈ fp, ∃ o, s2.heap.get? b = some o := λ b hb => let ⟨o, e, _⟩ := T.obj 0 _ st2 b hb; ⟨o, e⟩
 have hfl : ∀ b ∈ fp, b ≠ l /\ b ≠ C := λ b hb => let ⟨o, e⟩ := ho2 b hb; ⟨Nat.ne_of_lt (Nat.lt_of_lt_of_le (Heap.lt_size e) hls), Nat.ne_of_lt (Nat.lt_of_lt_of_le (Heap.lt_size e) hCs)⟩
 have hl1 : h1.get? l = some (bW [] 0) := by rw [<- hh1]; exact pushCells_keeps _ _ _ _ (Heap.get?_push_of_some _ hl0)
 have keep1 : ∀ b o, s2.heap.get? b = some o -> h1.get? b = some o := λ b o e => by rw [<- hh1]; exact pushCells_keeps _ _ _ _ (Heap.get?_push_of_some _ (hk0 b o e))
 generalize hcs : cellsFrom (C + 1) scope.names (bT X.env scope.names []) = cs
 have I0 : Inv (cM X own cap scope cs C fp s2 H2) [] (cJ own σ capI) H2 { s2 with heap := h1 } := by
  have q := I2.comp (tk := s2.toks) B hown f2 ho2 hk0 (by rw [hsz0, hl]; exact Nat.le_succ _) hC.symm hh1.symm
  rw [hcs] at q
  exact q
 have henv : (newEnv scope C X.env.globals cs X.env.qual none .none (some X.env) builtinsNs) = { compEnvC scope cs C X.env with scope := scope } := rfl
 have henv2 : ({ newEnv scope C X.env.globals cs X.env.qual none .none (some X.env) builtinsNs with scope := relabel scope X.env } : Env) = (cM X own cap scope cs C fp s2 H2).env := rfl
 generalize hX' : cM X own cap scope cs C fp s2 H2 = X' at I0 henv2
 have eP : X'.prog = X.prog := by rw [<- hX']; rfl
 have eW : X'.w = X.w := by rw [<- hX']; rfl
 have eK : X'.K = X.K := by rw [<- hX']; rfl
 have eA : X'.A = X.A := by rw [<- hX']; rfl
 have eFs : X'.fs = frs X.stack := by rw [<- hX']; rfl
 have eEx : X'.ex = fp := by rw [<- hX']; rfl
 have eS : X'.s₀ = s2 := by rw [<- hX']; rfl
 have eH : X'.H₀ = H2 := by rw [<- hX']; rfl
 have eL : X'.env.locals = C := by rw [<- hX']; rfl
 have eC : X'.calm = true := by rw [<- hX']; exact hc
 have eX : X'.xe = λ _ _ => False := by rw [<- hX']; rfl
 have ePn : X'.pn = [] := by rw [<- hX']; rfl
 have hg' : PG X' tg g := by rw [<- hX']; exact hg cs C fp s2 H2
 have ht' : PIf X' ifs tt := by rw [<- hX']; exact ht cs C fp s2 H2
 have he' : PE X' elt te := by rw [<- hX']; exact he cs C fp s2 H2
 have stat : ∀ {H' : Hp} {P : List (Addr × Obj)}, X'.Ok -> (∀ b ∈ fp, H' b = none) -> (∀ p ∈ P, p.1 = l) -> ∀ b ∈ fp, kW X' P H' b := λ {H' P} ok hn hP b hb => by
  refine ⟨hn b hb, ?_, ?_, .inl (by rw [eEx]; exact hb), ?_, λ p hp => ?_⟩
  .exact (ok.exf b (by rw [eEx]; exact hb)).1
  .exact ok.exfs b (by rw [eEx]; exact hb)
  .exact (ok.exf b (by rw [eEx]; exact hb)).2
  .rw [ePn, List.nil_append] at hp
   rw [hP p hp]
   exact Ne.symm (hfl b hb).1
 have lfs : X'.Ok -> l ∉ X'.fs := λ ok hz => by
  rw [eFs] at hz
  exact (Inv.nofs (X := X) I2 hls) ((List.mem_cons.mp (I2.stkSub l hz)).elim (λ z => absurd I2.lt (by rw [<- z, hl]; exact Nat.lt_irrefl _)) id)
 have pinL : ∀ {σ' : St} {H' : Hp} {s' : Shared} {us : List Value} {k : Nat}, Inv X' [] σ' H' s' -> s'.heap.get? l = some (bW us k) -> H' l = none -> Inv X' [(l, bW us k)] σ' H' s' := λ {σ' H' s' us k} I' e n =>
  I'.pins_of λ p hp => by
   obtain rfl : p = (l, bW us k) := by simpa using hp
   exact ⟨e, n, by rw [eL]; exact hlC, lfs I'.ok, λ v z => by cases z⟩
 have loop : ∀ s3 : Shared, s3 = { s2 with heap := h1 } -> codeAny (model X.prog X.w) X.A (.compLoop (.ListComp elt [⟨tg, iter, ifs, 0⟩] scope pos) 0 (.ref it) (.ref l) X'.env) (compPost (model X.prog X.w) X.A X.xe (some (assign (.Name x₀ px₀) X.env)) (λ _ s' => SP X pins D .next s') (.ref l) C) s3 := by
  rintro s3 rfl
  refine uK (E' := λ _ _ => False) (λ n s' => ∃ i ys us k H', Inv X' [] (cJ own σ capI) H' s' /\ tn i s'.heap /\ (∀ b ∈ fp, H' b = none) /\ W i n ys H' /\ Vals ys us /\ s'.heap.get? l = some (bW us k) /\ H' l = none /\ ys.length <= sizeLine) (λ _ _ z => z.elim) ?_ m0
   ⟨0, [], [], 0, H2, I0, T.keep _ _ _ st2 λ b _ o e => keep1 b o e, λ b hb => (f2 b hb).1, w0, .nil, hl1, I2.hok.fresh hls, Nat.zero_le _⟩
  rintro n s3 ⟨i, ys, us, k, H3, I3, st3, fr3, w3, v3, o3, n3, z3⟩
  have I3p := pinL I3 o3 n3
  have P1 : ∀ p ∈ [(l, bW us k)], p.1 = l := λ p hp => by
   obtain rfl : p = (l, bW us k) := by simpa using hp
   rfl
  rcases turn i n ys H3 w3 with ⟨stop, qn⟩ | ⟨go, hlt, step⟩
  .have q := T.done X' eP eW eK eC i _ s3 _ H3 (λ _ _ => False) I3p (stat I3.ok fr3 P1) st3 stop
   rw [eA] at q
   refine wpAny_mono q (λ r s4 ⟨hr, I4⟩ => ?_) λ _ _ z => z
   subst hr
   have pl := I4.pin (l, bW us k) (by simp)
   obtain ⟨m4, hn4, _⟩ := I4.loc
   rw [eL] at hn4
   have fC : H3 C = none := by have := I4.free; rw [eL] at this; exact this
   have IE : Inv X pins σ (upd H3 l (.lst ys)) s4 := by
    have := I2.compEnd f2 eP eW eFs eEx eS eH eL I4 hls hlC hCs pl.1 n3 v3 z3 (Heap.SameBut.refl C s4.heap)
    exact this
   show wpAny _ X.A (assign (.Name x₀ px₀) X.env (.ref l)) _ _ s4
   refine wpAny_assign_Name (uF IE hN hi₀ hx₀ (v := .ref l) rfl (λ s5 I5 ⟨a, sa, ha⟩ => ?_) hf₀)
   have hnL : C ≠ X.env.locals := Nat.ne_of_gt (Nat.lt_of_lt_of_le I2.lt hCs)
   have hnc : ∀ y c, X.env.cells.lookup y = some c -> c ≠ C := λ y c e => by
    obtain ⟨v, q⟩ := I2.cell y c e
    exact Nat.ne_of_lt (Nat.lt_of_lt_of_le q.lt hCs)
   have haC : C ≠ a := by
    rcases ha with q | q
    .rw [q]; exact hnL
    .exact Ne.symm (hnc _ _ q)
   obtain ⟨o4, es4, ep4, ho4, r4⟩ := hn4
   refine ⟨m4, ⟨o4, es4, ep4, (sa.2 C haC).trans ho4, r4⟩, λ h' sb => ⟨_, _, ?_, qn l n3⟩⟩
   refine I5.turned (t' := s5.toks) (it := C) (λ b o hb e => (sb.2 b hb).trans e) (by rw [aU (Ne.symm hlC)]; exact fC) hnL (.inr (Nat.le_trans I2.sz hCs)) hnc λ p hp => ?_
   exact Nat.ne_of_lt (Nat.lt_of_lt_of_le (Heap.lt_size (I2.pin p hp).1) hCs)
  .have q := T.item X' eP eW eK eC i _ s3 _ H3 (λ _ _ => False) I3p (stat I3.ok fr3 P1) st3 go
   rw [eA] at q
   refine wpAny_mono q (λ r s4 ⟨u, hr, h4⟩ => ?_) λ _ _ z => z
   subst hr
   refine wpAny_mono h4 (λ _ s5 ⟨x, H5, I5, r5, y5, st5, fr5⟩ => ?_) λ _ _ z => z
   have I5' := I5.pinned (stat I5.ok fr5 P1) (T.obj _ _ st5)
   have a1 := hg' _ s5 _ H5 x u _ I5' r5 (step x H5 y5)
   rw [eP, eW, eA, eX] at a1
   refine wpAny_mono a1 (λ _ s6 ⟨σ6, H6, I6, ft6, q6⟩ => ?_) λ _ _ z => z
   have a2 := ht' _ s6 σ6 H6 _ I6 q6
   rw [eP, eW, eA, eX] at a2
   refine wpAny_mono a2 (λ ok s7 ⟨H7, I7, q7⟩ => ?_) λ _ _ z => z
   have back : ∀ {H8 : Hp} {s8 : Shared}, Inv X' ([(l, bW us k)] ++ qw fp s5.heap) σ6 H8 s8 -> Inv X' [] (cJ own σ capI) H8 s8 /\ tn (i + 1) s8.heap /\ (∀ b ∈ fp, H8 b = none) /\ s8.heap.get? l = some (bW us k) /\ H8 l = none := λ {H8 s8} I8 => by
    have pl := I8.pin (l, bW us k) (by simp)
    refine ⟨(I8.weak ft6.1.symm ft6.2).pins_of λ p hp => absurd hp (by simp), T.keep _ _ _ st5 λ b hb o e => ?_, λ b hb => ?_, pl.1, pl.2.1⟩
    .exact (I8.pin (b, o) (List.mem_append_right _ (List.mem_append_right _ (fu hb e)))).1
    .obtain ⟨o, e, d⟩ := T.obj _ _ st5 b hb
     exact (I8.pin (b, o) (List.mem_append_right _ (List.mem_append_right _ (fu hb e)))).2.1
   cases ok with
   | false =>
    rw [if_neg Bool.false_ne_true]
    rw [if_neg Bool.false_ne_true] at q7
    obtain ⟨m', hm, w7⟩ := q7
    obtain ⟨I8, st8, fr8, o8, n8⟩ := back I7
    exact ⟨m', hm, i + 1, ys, us, k, H7, I8, st8, fr8, w7, v3, o8, n8, z3⟩
   | true =>
    rw [if_pos rfl]
    rw [if_pos rfl] at q7
    have a3 := he' _ s7 σ6 H7 _ I7 q7
    rw [eP, eW, eA, eX] at a3
    refine wpAny_mono a3 (λ yv s8 ⟨y, H8, I8', r8, m', hm, w8⟩ => ?_) λ _ _ z => z
    obtain ⟨I8, st8, fr8, o8, n8⟩ := back I8'
    refine append_at (hsz := by show us.toArray.size <= sizeLine; rw [List.size_toArray, <- v3.length]; exact z3) o8 λ h9 sb9 o9 => ?_
    have I9 : Inv X' [] (cJ own σ capI) H8 { s8 with heap := h9 } := I8.turned (t' := s8.toks) (λ b o hb e => (sb9.2 b hb).trans e) n8 (by rw [eL]; exact hlC) (.inr (by rw [eS]; exact hls)) (λ x c e => by
     rintro rfl
     obtain ⟨v', ho', hd', hd''⟩ := I8.cell x c e
     rw [o8] at hd'
     cases hd'
     cases hd'') (λ p hp => by rw [ePn] at hp; exact absurd hp (by simp))
    refine ⟨m', hm, i + 1, ys ++ [y], us ++ [yv], k + 1, H8, I9, T.keep _ _ _ st8 λ b hb o e => (sb9.2 b (hfl b hb).1).trans e, fr8, w8, v3.append (.cons r8 .nil), ?_, n8, ?_⟩
    .rw [o9]
     simp [bW]
    .rw [List.length_append]
     exact hlt
 have T0 := T.keep 0 s2.heap h1 st2 λ b _ o e => keep1 b o e
 rw [henv2]
 exact codeAny_compStart_list (loop _ rfl) (T.self X.A 0 _ _ _ T0 (loop _ rfl))
end
end L2
namespace L3
open PySem PySem.Spec PyProof.Rows L2
section
variable {X : Cx} {tb : List Addr} {e tg iter elt : Expr} {f : EF} {pos : Pos}
theorem BJ {fi : IF} {h : GF} {tt : TF} {fe : EF} {own : List Str} {capI ts : List Nat} {σ : SV} {H : Hp} {Q : VK} (hts : ∀ i ∈ ts, i < own.length) (hx : tDN X.K tb (lLC own capI fi h tt fe) σ H Q) :
  tLC own capI (tDI X.K tb fi) (tDG X.K tb ts h) (tDT X.K tb tt) (tD X.K tb fe) σ H Q := by
  obtain ⟨W, δ, ds, μ', e, ok, hd, hf, k⟩ := hx
  unfold lLC at hf
  obtain ⟨⟨S, μ1⟩, e1, e2⟩ := Option.bind_eq_some_iff.mp hf
  split at e2
  .rename_i hz
   refine ⟨W, δ, S, μ1, e, ok, hd, e1, λ J W1 ok1 l1 m1 io => ?_⟩
   refine ⟨λ i m ys H2 => m = S.items.length - i /\ i <= S.items.length /\ ys.length <= i /\ ∃ W2 zs rs, W2.H = H2 /\ WOk X.K tb W2 /\ Le tb W1 W2 /\ cG X.K tb W2 zs ys /\ lcL S h tt fe (dD own δ capI) (S.items.drop i) W2.mu = some (rs, μ') /\ zs ++ rs = ds,
    ⟨S.items.length, rfl, Nat.zero_le _, Nat.zero_le _, W1, [], ds, rfl, ok1, Le.refl _, aF.nil, by rw [m1]; exact e2, rfl⟩, ?_⟩
   rintro i m ys H2 ⟨hm, hi', hy, W2, zs, rs, rfl, ok2, l2, d2, hn, hzs⟩
   by_cases hlt : i < S.items.length
   .right
    have hdr : S.items.drop i = S.items[i] :: S.items.drop (i + 1) := List.drop_eq_getElem_cons hlt
    rw [hdr] at hn
    unfold lcL at hn
    split at hn
    .rename_i hok
     obtain ⟨δ3, e3, hn⟩ := Option.bind_eq_some_iff.mp hn
     obtain ⟨⟨kk, μ4⟩, e4, hn⟩ := Option.bind_eq_some_iff.mp hn
     obtain ⟨go, yl⟩ := io.go i W2 S.items[i] l2 ok2 hok (by simp [hlt])
     refine ⟨go, Nat.lt_of_lt_of_le (Nat.lt_of_le_of_lt hy hlt) hz, λ x H' y => ?_⟩
     obtain ⟨W3, rfl, ok3, l3, m3, d3⟩ := yl x H' y
     refine ⟨W3, dD own δ capI, S.items[i], δ3, rfl, ok3, (qW hd).mono' ((l1.trans l2).trans l3), d3, (by rw [m3]; exact e3), λ σ3 d3' hl3 ht3 => ⟨fits_of hts hl3 ht3, ?_⟩⟩
     refine ⟨W3, δ3, kk, μ4, rfl, ok3, d3', (by rw [m3]; exact e4), λ W4 ok4 l4 m4 => ?_⟩
     cases kk with
     | false =>
      rw [if_neg Bool.false_ne_true]
      exact ⟨S.items.length - (i + 1), by omega, rfl, hlt, by omega, W4, zs, rs, rfl, ok4, (l2.trans l3).trans l4, cG.mono' d2 (l3.trans l4), by rw [m4]; exact hn, hzs⟩
     | true =>
      rw [if_pos rfl]
      have hn' : ((fe δ3 μ4).bind λ y => (lcL S h tt fe (dD own δ capI) (S.items.drop (i + 1)) y.2).bind λ ys => some (y.1 :: ys.1, ys.2)) = some (rs, μ') := hn
      obtain ⟨⟨yd, μ5⟩, e5, hn'⟩ := Option.bind_eq_some_iff.mp hn'
      obtain ⟨⟨rs', μ6⟩, e6, e7⟩ := Option.bind_eq_some_iff.mp hn'
      cases e7
      refine ⟨W4, δ3, yd, μ5, rfl, ok4, d3'.mono' l4, (by rw [m4]; exact e5), λ v W5 ok5 l5 m5 d5 => ?_⟩
      refine ⟨S.items.length - (i + 1), by omega, rfl, hlt, by rw [List.length_append]; simp; omega, W5, zs ++ [yd], rs', rfl, ok5, ((l2.trans l3).trans l4).trans l5, aF.append (cG.mono' d2 ((l3.trans l4).trans l5)) (aF.cons d5 aF.nil), by rw [m5]; exact e6, by rw [List.append_assoc]; exact hzs⟩
    .cases hn
   .left
    have hdr : S.items.drop i = [] := List.drop_of_length_le (by omega)
    rw [hdr] at hn
    unfold lcL at hn
    split at hn
    .rename_i hok
     cases hn
     rw [List.append_nil] at hzs
     subst hzs
     exact ⟨io.stop i W2 l2 ok2 hok (by omega), λ l hl => k l ys W2 ok2 (l1.trans l2) rfl hl d2⟩
    .cases hn
  .cases e2
theorem BZ {i : Nat} {x : Str} {px spos : Pos} {ifs : List Expr} {fi : IF} {h : GF} {tt : TF} {fe : EF} {own cap : List Str} {capI ts : List Nat} {scope : Scope} (hN : X.N.Nodup) (hc : X.calm = true) (B : dI X own cap capI scope) (hown : ∀ x ∈ own, (x, NameKind.free) ∉ scope.names) (hi : PID X tb tg iter fi)
  (hg : ∀ cs C fp s2 H2, PGD (cM X own cap scope cs C fp s2 H2) tb tg ts h) (ht : ∀ cs C fp s2 H2, Jf (cM X own cap scope cs C fp s2 H2) tb ifs tt) (he : ∀ cs C fp s2 H2, PD (cM X own cap scope cs C fp s2 H2) tb elt fe)
  (hts : ∀ i ∈ ts, i < own.length := by decide) (hs : ∀ x, foldedSetIterable iter X.env x = pure x := by intro _; rfl) (hi₀ : X.N[i]? = some x := by rfl) (hx₀ : Loc X.env.scope x := by first | exact Or.inl rfl | exact Or.inr rfl)
  (hsw : swapsWith (.ListComp elt [⟨tg, iter, ifs, 0⟩] scope pos) (some (.Name x px)) spos.line X.env = pure true := by rfl)
  (hf₀ : X.fn x = true ∨ X.env.scope.names.lookup x = some .local := by first | exact .inl rfl | exact .inr rfl | assumption) :
  PSD X tb (.Assign [.Name x px] (.ListComp elt [⟨tg, iter, ifs, 0⟩] scope pos) spos) (aY i (mFz (lLC own capI fi h tt fe))) :=
 lM (KD (g := tDG X.K tb ts h) (tt := tDT X.K tb tt) (te := tD X.K tb fe) hN hi₀ hx₀ hc B hown hi hg ht he hs hsw hf₀) λ E σ H zq1 => by
  obtain ⟨W, δ, fl, δ', μ', e, ok, hd, hf, k⟩ := zq1
  unfold aY at hf
  obtain ⟨⟨d, μ1⟩, e1, e2⟩ := Option.bind_eq_some_iff.mp hf
  cases e2
  unfold mFz at e1
  obtain ⟨⟨ds, μ2⟩, e3, e4⟩ := Option.bind_eq_some_iff.mp e1
  cases e4
  refine BJ hts ⟨W, δ, ds, _, e, ok, hd, e3, λ p vs W1 ok1 l1 m1 hp r => ?_⟩
  exact jD (Q := λ v H => E.nx (σ.set i (some v)) H) ok1 (λ v W' ok' l' m' d' => k _ W' ok' (l1.trans l') (m'.trans m1) ((hd.mono' (l1.trans l')).set d')) r hp
theorem Km {i : Nat} {x : Str} {px spos : Pos} {ifs : List Expr} {fi : IF} {h : GF} {tt : TF} {fe : EF} {own cap : List Str} {capI ts : List Nat} {scope : Scope} (hN : X.N.Nodup) (hc : X.calm = true) (B : dI X own cap capI scope) (hown : ∀ x ∈ own, (x, NameKind.free) ∉ scope.names) (hi : PID X tb tg iter fi)
  (hg : ∀ cs C fp s2 H2, PGD (cM X own cap scope cs C fp s2 H2) tb tg ts h) (ht : ∀ cs C fp s2 H2, Jf (cM X own cap scope cs C fp s2 H2) tb ifs tt) (he : ∀ cs C fp s2 H2, PD (cM X own cap scope cs C fp s2 H2) tb elt fe)
  (hts : ∀ i ∈ ts, i < own.length := by decide) (hs : ∀ x, foldedSetIterable iter X.env x = pure x := by intro _; rfl) (hi₀ : X.N[i]? = some x := by rfl) (hx₀ : Loc X.env.scope x := by first | exact Or.inl rfl | exact Or.inr rfl)
  (hsw : swapsWith (.ListComp elt [⟨tg, iter, ifs, 0⟩] scope pos) (some (.Name x px)) spos.line X.env = pure true := by rfl)
  (hf₀ : X.fn x = true ∨ X.env.scope.names.lookup x = some .local := by first | exact .inl rfl | exact .inr rfl | assumption) :
  PSD X tb (.Assign [.Name x px] (.ListComp elt [⟨tg, iter, ifs, 0⟩] scope pos) spos) (aY i (jw (lLC own capI fi h tt fe))) :=
 lM (KD (g := tDG X.K tb ts h) (tt := tDT X.K tb tt) (te := tD X.K tb fe) hN hi₀ hx₀ hc B hown hi hg ht he hs hsw hf₀) λ E σ H zq2 => by
  obtain ⟨W, δ, fl, δ', μ', e, ok, hd, hf, k⟩ := zq2
  unfold aY at hf
  obtain ⟨⟨d, μ1⟩, e1, e2⟩ := Option.bind_eq_some_iff.mp hf
  cases e2
  unfold jw at e1
  obtain ⟨⟨ds, μ2⟩, e3, e4⟩ := Option.bind_eq_some_iff.mp e1
  cases e4
  refine BJ hts ⟨W, δ, ds, μ2, e, ok, hd, e3, λ p vs W1 ok1 l1 m1 hp r => ?_⟩
  obtain ⟨ok2, l2, d2⟩ := ok1.new hp r
  exact k _ _ ok2 (l1.trans l2) (by show W1.mu ++ [some ds] = _; rw [m1]) ((hd.mono' (l1.trans l2)).set (by rw [<- m1]; exact d2))
end
theorem Kl {P : Program} {w : World} {K : PySem.W.Frag} {mg : Str -> Option Value} {base : Heap} {tb : List Addr} {x qual : Str} {st : Stmt} {f : Addr} {fd : FuncData} {T : Addr} {N ps : List Str} {n k : Nat} {g : SF} (F : dR K x qual st f fd T) (KB : K.In base) (S : aZ N ps (aP st)) (hps : ps.length = n)
  (hbody : ∀ (c : Addr) (A : Around) (outer : List Env) (s : Shared) (H : Hp) (E : XK), PySem.W.CodeHd base c T -> dO k (A.deeper (envOfC qual (aP st) s.heap.objs.size f (.ref c))) ->
   ut (zT CX0 P w K mg base N qual (aP st) f (.ref c) A outer s H E).nox tb (jb st) g) : qM P w K mg base CX0 (k + 1) f fd ps (spD K tb n (aK N.length g)) := by
 obtain ⟨oc, od, kV, doc, pm, an, c, ct, osl, rfl, lk, hcd, hhd⟩ := F.ex
 refine Lh lk hcd S (λ vs H Q E ⟨W, ds, d, μ', e, ok, dl, hl, _⟩ => by rw [<- aF.length dl, hl, hps]) λ A outer s H vs Q E hr hsp => ?_
 obtain ⟨W, ds, d, μ', e, ok, dl, hl, hf, k⟩ := hsp
 refine ⟨_, (hbody c A outer s H E (hhd base KB) hr).nox, ?_⟩
 unfold aK at hf
 obtain ⟨⟨fl, δ', μ1⟩, e1, e2⟩ := Option.bind_eq_some_iff.mp hf
 refine ⟨W, _, fl, δ', μ1, e, ok, ?_, e1, λ σ' W' ok' l' m' d' => ?_⟩
 .have hlen := aF.length dl
  refine ⟨by unfold L2.start; simp [hlen], λ i y q => ?_⟩
  unfold L2.start
  by_cases hi : i < ds.length
  .rw [List.getElem?_append_left (by simpa using hi), List.getElem?_map] at q
   cases q2 : ds[i]? with
   | none => rw [q2] at q; cases q
   | some z =>
    rw [q2] at q
    cases q
    obtain ⟨v, ev, dv⟩ := aF.get dl q2
    exact ⟨v, by rw [List.getElem?_append_left (by rw [List.length_map, <- hlen]; exact hi), List.getElem?_map, ev]; rfl, dv⟩
  .rw [List.getElem?_append_right (by simpa using hi), List.getElem?_replicate] at q
   split at q <;> cases q
 .cases fl with
  | nx => cases e2; exact k .non W' ok' l' m' qY
  | rt d0 => cases e2; exact λ v dv => k v W' ok' l' m' dv
  | bk => cases e2
  | ct => cases e2
def vQ (vs : Array Value) : Bool := (match vs.getD 18 .none with | .str _ _ => true | _ => false) && (match vs.getD 7 .none with | .int _ _ => true | _ => false) &&
 (match vs.getD 9 .none with | .bool _ => true | _ => false) && (match vs.getD 10 .none with | .int _ _ => true | _ => false)
theorem Dt {K : PySem.W.Frag} {c P : Addr} {dd : Option Addr} {vs : Array Value} {sl : Array (Option Value)} (lc : K.lookup c = some ⟨.type "code", dd, .fields vs, sl⟩) (p : vs[11]? = some (.ref P)) (q : vQ vs = true) (ne : (c != P) = true) : PySem.W.codeHdIn K c P = true := by
 unfold PySem.W.codeHdIn
 rw [lc]
 unfold vQ at q
 simp only [Bool.and_eq_true] at q ⊢
 obtain ⟨⟨⟨q1, q2⟩, q3⟩, q4⟩ := q
 refine ⟨⟨⟨⟨⟨?_, q1⟩, q2⟩, q3⟩, q4⟩, ne⟩
 rw [p]
 exact beq_self_eq_true P
theorem Ka {K : PySem.W.Frag} {x qual : Str} {st : Stmt} {f c P : Addr} {oc : Value} {od an : Option Addr} {osl : Array (Option Value)} {kV doc pm ct : Value} {dd : Option Addr} {vs : Array Value} {sl : Array (Option Value)}
  (l : K.lookup f = some ⟨oc, od, .func (PySem.W.fnOf x qual (lr st) (jb st) (aP st) .none kV doc pm an (.ref c) ct), osl⟩) (hc : PySem.W.codeIn K (.ref c) qual = true) (k : PySem.W.keepIn K (.ref f) = true)
  (lc : K.lookup c = some ⟨.type "code", dd, .fields vs, sl⟩) (p : vs[11]? = some (.ref P)) (q : vQ vs = true) (ne : (c != P) = true) : dR K x qual st f (PySem.W.fnOf x qual (lr st) (jb st) (aP st) .none kV doc pm an (.ref c) ct) P :=
 ⟨⟨oc, od, kV, doc, pm, an, c, ct, osl, rfl, l, hc, λ h X => PySem.W.codeHd_of_K X (Dt lc p q ne)⟩, k⟩
theorem MN {K : PySem.W.Frag} {x : Str} {f c P : Addr} {oc oc' : Value} {od dd : Option Addr} {fd : FuncData} {osl sl : Array (Option Value)} {vs : Array Value} (a : PySem.W.nsIn K mainGlobals x = some (some (.ref f))) (l : K.lookup f = some ⟨oc, od, .func fd, osl⟩) (hc : fd.code = .ref c)
  (lc : K.lookup c = some ⟨oc', dd, .fields vs, sl⟩) (p : vs[11]? = some (.ref P)) : PySem.W.tabIn K x = some (c, P) := by
 unfold PySem.W.tabIn
 rw [a]
 simp only [l, hc, lc, p]
theorem wN {q : Program} {lo : List Str} {mean : ExcName -> Option Value} {mg mb : Str -> Option Value} {h : Heap} {K : PySem.W.Frag} {x : Str} {c P : Addr} (T : Top q lo mean mg mb h) (X : K.In h) (hr : ((recsOf q).find? (λ e => e.name == x)).isSome = true) (ht : PySem.W.tabIn K x = some (c, P)) : PySem.W.CodeHd h c P /\ h.get? P = some (PySem.W.tabObj #[]) := by
 obtain ⟨d, hd⟩ := Option.isSome_iff_exists.mp hr
 exact PySem.W.tab_of T X hd ht
end L3
namespace L2
open PySem PySem.Spec PyProof.Rows HT
section
variable {prog : Program} {w : World} {A : Around} {E : Value -> Shared -> Prop} {s : Shared}
theorem mX {t sl : Addr} {items : Array Value} {vl vu : Value} {lo hi : Option Int} {Q : Value -> Shared -> Prop} (ht : IsTup s.heap t items) (hs : s.heap.IsSliceOf sl vl vu .none) (pl : IsPart vl lo) (pu : IsPart vu hi)
  (hw : sIx items.size 0 lo = 0 /\ sIx items.size items.size hi = items.size) (h : Q (.ref t) s) : wpAny (model prog w) A (getItem (.ref t) (.ref sl)) Q E s := by
 obtain ⟨os, hos, hcs, hds⟩ := id hs
 have hTs : s.TypeIs (.ref sl) "slice" := ⟨os, hos, hcs⟩
 unfold getItem
 try with_reducible refine wpAny_holding ?_
 first | refine wpAny_bind (wpAny_pure ?_) | skip
 refine wpAny_bind (wpAny_sequenceKey ht.typeIs (by decide) ?_)
 refine wpAny_bind (wpAny_callSpecial?_slot (name := Str.ofString "__getitem__") ht.typeIs PyProof.Rows.slot_tuple_getitem
  (wpAny_call_entry PyProof.Rows.slot_tuple_getitem ht.typeIs entry_tuple_getitem ?_ (args_tuple_getitem _ _)))
 show wpAny _ _ (Builtin.Tuple.tupleItemsOf (.ref t) >>= _) _ _ s
 refine wpAny_bind (tupleItemsOf_ ht ?_)
 refine wpAny_bind (wpAny_typeOf hTs ?_)
 rw [if_pos (by decide)]
 refine wpAny_bind (kj hs pl pu ?_)
 have hyes : (((sIx items.size 0 lo : Nat) : Int) == 0 && (1 : Int) == 1 && (sIx items.size items.size hi - sIx items.size 0 lo) == items.size) = true := by
  rw [hw.1, hw.2]
  simp
 show wpAny _ _ (if (((sIx items.size 0 lo : Nat) : Int) == 0 && (1 : Int) == 1 && (sIx items.size items.size hi - sIx items.size 0 lo) == items.size) = true then _ else _) _ _ s
 rw [if_pos hyes]
 refine wpAny_bind (m := Builtin.Tuple.tupleIsExact (.ref t)) (wpAny_bind (wpAny_typeOf ht.typeIs (wpAny_pure ?_)))
 rw [if_pos (by decide)]
 refine wpAny_bind (wpAny_rule ?_)
 first
  | exact wpAny_pure ⟨_, rfl, wpAny_pure h⟩
  | exact wpAny_bind (wpAny_pure (wpAny_pure ⟨_, rfl, wpAny_pure h⟩))
  | exact wpAny_pure (wpAny_pure h)
end
section
variable {X : Cx}
def rSlW (K : PySem.W.Frag) : V -> Option Int -> Option Int -> Hp -> VK -> Prop := λ x lo hi H Q => ∃ a xs, x = .ref a /\ SqT K H a xs /\
 (HT.sIx xs.length 0 lo = 0 /\ HT.sIx xs.length xs.length hi = xs.length) /\ Q (.ref a) H
theorem JK : SlR X (rSlW X.K) := by
 intro pins s σ H x v vl vu lo hi sl Q I rx hs pl pu h
 obtain ⟨a, xs, rfl, hx, hw, q⟩ := h
 cases rx
 obtain ⟨its, r, ht, hz⟩ := I.tuple hx
 have hlen : its.toArray.size = xs.length := by rw [List.size_toArray]; exact r.length.symm
 refine ⟨"tuple", _, PyProof.Rows.slot_tuple_getitem.lookup, ht.typeIs, ?_⟩
 exact mX ht hs pl pu (by rw [hlen]; exact hw) ⟨.ref a, H, I, rfl, q⟩
end
end L2
namespace L3
open PySem PySem.Spec PyProof.Rows L2
abbrev PF := En -> Mu -> Option (Option Int × Mu)
def tDO (K : PySem.W.Frag) (tb : List Addr) (f : PF) : TO := λ σ H Q => ∃ W δ i μ', W.H = H /\ WOk K tb W /\ iW K tb W δ σ /\ f δ W.mu = some (i, μ') /\ ∀ W', WOk K tb W' -> Le tb W W' -> W'.mu = μ' -> Q i W'.H
def POD (X : Cx) (tb : List Addr) (e : Option Expr) (f : PF) : Prop := PO X e (tDO X.K tb f)
theorem Lk {X : Cx} {e : Option Expr} {t t' : TO} (h : PO X e t) (k : ∀ σ H Q, t' σ H Q -> t σ H Q) : PO X e t' := λ pins s σ H Q I hq => h pins s σ H Q I (k σ H Q hq)
def fNo : PF := λ _ μ => some (none, μ)
def fAt (f : EF) : PF := λ δ μ => (f δ μ).bind λ r => match r.1 with
 | .int i => some (some i, r.2)
 | _ => none
def cutD (ds : List D) (lo hi : Option Int) : List D := (ds.drop (HT.sIx ds.length 0 lo)).take (HT.sIx ds.length ds.length hi - HT.sIx ds.length 0 lo)
def oSl (x : D) (lo hi : Option Int) (μ : Mu) : Option (D × Mu) := match x with
 | .tup ds => some (.tup (cutD ds lo hi), μ)
 | .lst ds => some (.lst (cutD ds lo hi), μ)
 | .ro ds => some (.lst (cutD ds lo hi), μ)
 | .cell n => match μ[n]? with
  | some (some ds) => some (.lst (cutD ds lo hi), μ)
  | _ => none
 | _ => none
def mSl (f : EF) (fl fh : PF) : EF := λ δ μ => (f δ μ).bind λ r => (fl δ r.2).bind λ l => (fh δ l.2).bind λ u => oSl r.1 l.1 u.1 u.2
section
variable {X : Cx} {tb : List Addr} {e : Expr} {lo hi : Option Expr} {f : EF} {fl fh : PF} {pos p2 : Pos}
theorem kE : POD X tb none fNo := Lk Js λ σ H Q zq1 => by
 obtain ⟨W, δ, i, μ', e, ok, hd, hf, h⟩ := zq1
 subst e; cases hf
 exact h W ok (Le.refl _) rfl
theorem jZ (h : PD X tb e f) : POD X tb (some e) (fAt f) := Lk (IW h) λ σ H Q zq2 => by
 obtain ⟨W, δ, i, μ', e, ok, hd, hf, h⟩ := zq2
 unfold fAt at hf
 obtain ⟨⟨x, μ1⟩, e1, e2⟩ := Option.bind_eq_some_iff.mp hf
 cases x with
 | int j =>
  cases e2
  exact ⟨W, δ, _, _, e, ok, hd, e1, λ v W1 ok1 l1 m1 d1 => ⟨j, bF d1, h W1 ok1 l1 m1⟩⟩
 | _ => cases e2
theorem mz {K : PySem.W.Frag} {W : Wd} {ds : List D} {vs : List V} {l h : Option Int} (r : cG K tb W ds vs) : cG K tb W (cutD ds l h) (yW vs l h) := by
 unfold cutD yW
 rw [<- aF.length r]
 exact aF.take _ (aF.drop _ r)
theorem my (he : PD X tb e f) (hl : POD X tb lo fl) (hh : POD X tb hi fh) : PD X tb (.Subscript e (.Slice lo hi none p2) pos) (mSl f fl fh) :=
 dW (yU (Py.or (JK.or Bu)) he hl hh) λ σ H Q zq3 => by
  obtain ⟨W, δ, d, μ', e, ok, hd, hf, h⟩ := zq3
  unfold mSl at hf
  obtain ⟨⟨x, μ1⟩, e1, hf⟩ := Option.bind_eq_some_iff.mp hf
  obtain ⟨⟨l, μ2⟩, e2, hf⟩ := Option.bind_eq_some_iff.mp hf
  obtain ⟨⟨u, μ3⟩, e3, hf⟩ := Option.bind_eq_some_iff.mp hf
  refine ⟨W, δ, x, μ1, e, ok, hd, e1, λ v W1 ok1 l1 m1 d1 => ⟨W1, δ, l, μ2, rfl, ok1, hd.mono' l1, (by rw [m1]; exact e2), λ W2 ok2 l2 m2 => ⟨W2, δ, u, μ3, rfl, ok2, hd.mono' (l1.trans l2), (by rw [m2]; exact e3), λ W3 ok3 l3 m3 => ?_⟩⟩⟩
  have d3 := Den.mono' d1 (l2.trans l3)
  have k : ∀ v W', WOk X.K tb W' -> Le tb W3 W' -> W'.mu = W3.mu -> Den X.K tb W' d v -> W3.mu = μ' -> Q v W'.H := λ v W' ok' l' m' d' q => h v W' ok' (((l1.trans l2).trans l3).trans l') (m'.trans q) d'
  cases x with
  | tup ds =>
   obtain ⟨a, xs, rfl, q, r⟩ := iB d3
   cases hf
   by_cases hw : HT.sIx ds.length 0 l = 0 /\ HT.sIx ds.length ds.length u = ds.length
   .have e : cutD ds l u = ds := by unfold cutD; rw [hw.1, hw.2]; simp
    exact .inr (.inl ⟨a, xs, rfl, SqT.fz q, by rw [<- aF.length r]; exact hw, k (.ref a) W3 ok3 (Le.refl _) rfl (by rw [e]; exact d3) m3⟩)
   .exact .inl ⟨a, xs, rfl, SqT.fz q, by rw [<- aF.length r]; exact hw, λ p hp => ph ok3 (λ v W' ok' l' m' d' => k v W' ok' l' m' d' m3) (mz r) hp⟩
  | lst ds =>
   obtain ⟨a, xs, rfl, q, r⟩ := jJ d3
   cases hf
   exact .inr (.inr ⟨a, xs, rfl, SqL.fz q, λ p hp => jD ok3 (λ v W' ok' l' m' d' => k v W' ok' l' m' d' m3) (mz r) hp⟩)
  | ro ds =>
   obtain ⟨a, xs, rfl, q, r⟩ := uT d3
   cases hf
   exact .inr (.inr ⟨a, xs, rfl, SqL.fz q, λ p hp => jD ok3 (λ v W' ok' l' m' d' => k v W' ok' l' m' d' m3) (mz r) hp⟩)
  | cell n =>
   obtain ⟨a, rfl, q⟩ := gU d3
   have hf : (match μ3[n]? with | some (some ds) => some (D.lst (cutD ds l u), μ3) | _ => none) = some (d, μ') := hf
   cases e4 : μ3[n]? with
   | none => rw [e4] at hf; cases hf
   | some o =>
    rw [e4] at hf
    cases o with
    | none => cases hf
    | some ds =>
     cases hf
     obtain ⟨xs, ex, r⟩ := ok3.cont n a ds q (by rw [m3]; exact e4)
     exact .inr (.inr ⟨a, xs, rfl, SqL.of ex, λ p hp => jD ok3 (λ v W' ok' l' m' d' => k v W' ok' l' m' d' m3) (mz r) hp⟩)
  | _ => cases hf
end
theorem Dp {zs : List V} {ws : List Value} (r : Vals zs ws) : ∀ (π : List Nat), Vals (π.map λ i => zs.getD i .non) (π.map λ i => ws.getD i .none)
 | [] => .nil
 | i :: π => by
  refine .cons ?_ (Dp r π)
  show L2.RelV (zs.getD i V.non) (ws.getD i Value.none)
  cases e : zs[i]? with
  | none =>
   have e2 := Vals.none_of r e
   rw [List.getD_eq_getElem?_getD, List.getD_eq_getElem?_getD, e, e2]
   rfl
  | some v =>
   obtain ⟨u, e2, rv⟩ := Vals.get r e
   rw [List.getD_eq_getElem?_getD, List.getD_eq_getElem?_getD, e, e2]
   exact rv
theorem tG {K : PySem.W.Frag} {tb : List Addr} {W : Wd} {ds : List D} {vs : List V} (r : cG K tb W ds vs) : ∀ (π : List Nat), cG K tb W (π.map λ i => ds.getD i .non) (π.map λ i => vs.getD i .non)
 | [] => aF.nil
 | i :: π => by
  refine aF.cons ?_ (tG r π)
  show bu K (Wd.fz tb W) W.ad (ds.getD i D.non) (vs.getD i V.non)
  have hl := aF.length r
  cases e : ds[i]? with
  | none =>
   have e2 : vs[i]? = none := by
    rw [List.getElem?_eq_none_iff] at e ⊢
    omega
   rw [List.getD_eq_getElem?_getD, List.getD_eq_getElem?_getD, e, e2]
   exact qY
  | some v =>
   obtain ⟨u, e2, rv⟩ := aF.get r e
   rw [List.getD_eq_getElem?_getD, List.getD_eq_getElem?_getD, e, e2]
   exact rv
section
variable {X : Cx} {tb : List Addr} {e : Expr} {es : List Expr} {f : EF} {fs fk : AF} {x : Str} {n k : Nat} {φ : FF} {p pos kpos : Pos} {kws : List Keyword} {ks : List Str} {π : List Nat} {nm : Option Str}
def MK (fs fk : AF) (π : List Nat) (φ : FF) : EF := λ δ μ => (fs δ μ).bind λ r => (fk δ r.2).bind λ q => φ (r.1 ++ π.map λ i => q.1.getD i .non) q.2
end
theorem Di {X : Cx} : gZ X (.type "range") (λ xs H Q => ∃ j, xs = [.int j] /\ ∀ p, H p = none -> Q (.ref p) (upd H p (.rng 0 j))) := by
 intro pins s σ H xs us Q I r h
 obtain ⟨j, rfl, q⟩ := h
 obtain ⟨u, rfl, ⟨t, rfl⟩⟩ := vals1 r
 exact call_range_1 ⟨.ref s.heap.objs.size, _, I.laid (a := s.heap.objs.size) (o := .rng 0 j) (λ b o e => Heap.get?_push_of_some _ e) (Nat.le_refl _) ⟨_, _, _, Heap.get?_push_size _ rfl⟩, rfl, q _ (I.hok.fresh (Nat.le_refl _))⟩
def Ft (lo : Int) (n : Nat) : List V := (List.range n).map λ (k : Nat) => V.int (lo + (k : Int))
theorem uO {lo : Int} : ∀ {acc : List Value} {n k : Nat}, acc.length = n -> (∀ j v, acc[j]? = some v -> ∃ t, v = Value.int (lo + ((k + j : Nat) : Int)) t) -> Vals ((List.range' k n).map λ (i : Nat) => V.int (lo + (i : Int))) acc
 | [], n, k, e, _ => by cases e; exact .nil
 | v :: r, n, k, e, h => by
  cases e
  rw [List.length_cons, List.range'_succ, List.map_cons]
  refine .cons ?_ (uO rfl λ j u hu => ?_)
  .obtain ⟨t, q⟩ := h 0 v rfl
   exact ⟨t, by simpa using q⟩
  .obtain ⟨t, q⟩ := h (j + 1) u hu
   exact ⟨t, by rw [q]; congr 2; omega⟩
theorem uo {X : Cx} (hc : X.calm = true) : gZ X (.type "list") (λ xs H Q => ∃ p i j, xs = [.ref p] /\ H p = some (.rng i j) /\ (-(2 ^ 62) <= i /\ i < 2 ^ 62 /\ -(2 ^ 62) <= j /\ j < 2 ^ 62) /\ (j - i).toNat <= sizeLine /\ ∀ l, H l = none -> Q (.ref l) (upd H l (.lst (Ft i (j - i).toNat)))) := by
 intro pins s σ H xs us Q I r h
 obtain ⟨p, i, j, rfl, hp, ⟨h1, h2, h3, h4⟩, hz, q⟩ := h
 obtain ⟨u, rfl, rx⟩ := vals1 r
 cases rx
 obtain ⟨t, u, v, ho⟩ := I.hok p _ hp
 have hn : Builtin.Range.rangeSize i j 1 = ((j - i).toNat : Nat) := by rw [rangeSize_one]; split <;> omega
 refine call_list_range (I.ok.hd hc) ho (small_one h1 h2 h3 h4) hn (by rw [sizeLine_eq] at hz; omega) λ h' tk acc' c' kp e it => ?_
 obtain ⟨e1, e2⟩ := it
 have hv : Vals (Ft i (j - i).toNat) acc'.toList := by
  unfold Ft
  rw [List.range_eq_range']
  refine uO (by simpa using e1) λ k v hk => ?_
  obtain ⟨t, q⟩ := e2 k v (by simpa using hk)
  exact ⟨t, by rw [q]; congr 1; first | done | omega⟩
 exact ⟨.ref s.heap.objs.size, _, I.laid (t' := tk) kp (Nat.le_refl _) (show gV X.prog X.w _ h' _ (.lst _) from ⟨by rw [hv.length]; simpa [e1] using hz, acc'.toList, c', hv, by rw [Array.toArray_toList]; exact e⟩), rfl, q _ (I.hok.fresh (Nat.le_refl _))⟩
def By (fs : AF) : LF := λ δ μ => (fs δ μ).bind λ r => match r.1 with
 | [.int j] => if -(2 ^ 62) <= j /\ j < 2 ^ 62 /\ j.toNat <= sizeLine then some (cT 0 j.toNat, r.2) else none
 | _ => none
theorem Bs {K : PySem.W.Frag} {F : Hp} {ad : List Addr} {lo : Int} : ∀ (l : List Nat), aF K F ad (l.map λ (k : Nat) => D.int (lo + (k : Int))) (l.map λ (k : Nat) => V.int (lo + (k : Int)))
 | [] => aF.nil
 | k :: l => aF.cons (by unfold bu; rfl) (Bs l)
section
variable {X : Cx} {tb : List Addr} {a b : Expr} {fs : AF} {p p2 pos pos2 : Pos}
theorem Fi (hc : X.calm = true) (hm : X.mg "list" = none) (hm2 : X.mg "range" = none) (ha : PAD X tb [a] fs) (hg : Gl X "list" := by rfl) (hg2 : Gl X "range" := by rfl) (he : starEach [a] X.env = (false, eval a X.env) :: starEach [] X.env := by rfl)
  (he2 : starEach [.Call (.Name "range" p2) [a] [] pos2] X.env = (false, eval (.Call (.Name "range" p2) [a] [] pos2) X.env) :: starEach [] X.env := by rfl) :
  PDN X tb (.Call (.Name "list" p) [.Call (.Name "range" p2) [a] [] pos2] [] pos) (By fs) :=
 dW (mQ (uo hc) hg hm PyProof.Rows.boot_list (pA (mQ Di hg2 hm2 PyProof.Rows.boot_range ha (by decide) (by decide) he (by rfl)) vJ he2) (by decide) (by decide) he2 (by rfl)) λ σ H Q zq3 => by
  obtain ⟨W, δ, ds, μ', e, ok, hd, hf, k⟩ := zq3
  unfold By at hf
  obtain ⟨⟨xs, μ1⟩, e1, e2⟩ := Option.bind_eq_some_iff.mp hf
  match xs, e1, e2 with
  | [.int j], e1, e2 =>
   have e2' : (if -(2 ^ 62) <= j /\ j < 2 ^ 62 /\ j.toNat <= sizeLine then some (cT 0 j.toNat, μ1) else none) = some (ds, μ') := e2
   split at e2'
   .rename_i hj
    cases e2'
    refine ⟨W, δ, [.int j], _, e, ok, hd, e1, λ vs W1 ok1 l1 m1 d1 => ?_⟩
    obtain ⟨v, rfl, dv⟩ := aF.one d1
    rw [bF dv]
    refine ⟨j, rfl, λ q hq => ?_⟩
    obtain ⟨ok2, l2, eq⟩ := ok1.alloc (o := .rng 0 j) hq
    refine ⟨q, 0, j, rfl, dw, ⟨by omega, by omega, by omega, by omega⟩, by simpa using hj.2.2, λ l hl => ?_⟩
    have := k l (Ft 0 (j - 0).toNat) _ ok2 (l1.trans l2) m1 hl (by simpa [cT, Ft] using Bs (List.range j.toNat) (lo := 0))
    exact this
   .cases e2'
end
def mW (f : EF) : EF := λ δ μ => (f δ μ).bind λ r => match r.1 with
 | .cell n => (r.2.getD n none).map λ ds => (.lst ds, r.2.set n none)
 | d => some (d, r.2)
theorem oA {X : Cx} {tb : List Addr} {e : Expr} {f : EF} (h : PD X tb e f) : PD X tb e (mW f) :=
 dW h λ σ H Q zq1 => by
  obtain ⟨W, δ, d, μ', e, ok, hd, hf, k⟩ := zq1
  unfold mW at hf
  obtain ⟨⟨x, μ1⟩, e1, e2⟩ := Option.bind_eq_some_iff.mp hf
  refine ⟨W, δ, x, μ1, e, ok, hd, e1, λ v W1 ok1 l1 m1 d1 => ?_⟩
  cases x with
  | cell n =>
   obtain ⟨ds, e3, e4⟩ := Option.map_eq_some_iff.mp e2
   cases e4
   obtain ⟨a, rfl, ea⟩ := gU d1
   have em : W1.mu[n]? = some (some ds) := by
    rw [m1]
    rw [List.getD_eq_getElem?_getD] at e3
    cases q : μ1[n]? with
    | none => rw [q] at e3; cases e3
    | some z => rw [q] at e3; exact congrArg some e3
   obtain ⟨ok2, l2, d2⟩ := ok1.freeze ea em
   exact k _ ⟨W1.H, W1.ad, W1.mu.set n none⟩ ok2 (l1.trans l2) (by show W1.mu.set n none = _; rw [m1]) d2
  | _ => cases e2; exact k v W1 ok1 l1 m1 d1
mutual
def cLt (m : Nat) : D -> Bool
 | .tup ds => lX m ds
 | .lst ds => lX m ds
 | .ro ds => lX m ds
 | .dic kvs => xm m kvs
 | .cell n => decide (n < m)
 | _ => true
def lX (m : Nat) : List D -> Bool
 | [] => true
 | d :: ds => cLt m d && lX m ds
def xm (m : Nat) : List (Key × D) -> Bool
 | [] => true
 | p :: ds => cLt m p.2 && xm m ds
end
section
variable {K : PySem.W.Frag} {F F' : Hp} {ad : List Addr} {m : Nat}
mutual
theorem bu.cut (s : lF F F') : ∀ (d : D) (v : V), cLt m d = true -> bu K F ad d v -> bu K F' (ad.take m) d v
 | .non, v, _, h => by unfold bu at h ⊢; exact h
 | .bl _, v, _, h => by unfold bu at h ⊢; exact h
 | .int _, v, _, h => by unfold bu at h ⊢; exact h
 | .str _, v, _, h => by unfold bu at h ⊢; exact h
 | .tup ds, v, c, h => by
  unfold bu at h ⊢; unfold cLt at c
  obtain ⟨a, xs, e, q, r⟩ := h
  exact ⟨a, xs, e, SqT.mono s q, aF.cut s ds xs c r⟩
 | .lst ds, v, c, h => by
  unfold bu at h ⊢; unfold cLt at c
  obtain ⟨a, xs, e, q, r⟩ := h
  exact ⟨a, xs, e, s _ _ q, aF.cut s ds xs c r⟩
 | .ro ds, v, c, h => by
  unfold bu at h ⊢; unfold cLt at c
  obtain ⟨a, xs, e, q, r⟩ := h
  exact ⟨a, xs, e, SqL.mono s q, aF.cut s ds xs c r⟩
 | .dic kvs, v, c, h => by
  unfold bu at h ⊢; unfold cLt at c
  obtain ⟨a, ps, e, q, r⟩ := h
  exact ⟨a, ps, e, s _ _ q, iM.cut s kvs ps c r⟩
 | .cell n, v, c, h => by
  unfold bu at h ⊢; unfold cLt at c
  obtain ⟨a, e, q⟩ := h
  exact ⟨a, e, by rw [List.getElem?_take_of_lt (by simpa using c)]; exact q⟩
theorem aF.cut (s : lF F F') : ∀ (ds : List D) (vs : List V), lX m ds = true -> aF K F ad ds vs -> aF K F' (ad.take m) ds vs
 | [], vs, _, h => by unfold aF at h ⊢; exact h
 | d :: ds, vs, c, h => by
  unfold aF at h ⊢; unfold lX at c
  have c := (Bool.and_eq_true _ _).mp c
  obtain ⟨u, us, e, p, r⟩ := h
  exact ⟨u, us, e, bu.cut s d u c.1 p, aF.cut s ds us c.2 r⟩
theorem iM.cut (s : lF F F') : ∀ (ds : List (Key × D)) (vs : List (Key × V)), xm m ds = true -> iM K F ad ds vs -> iM K F' (ad.take m) ds vs
 | [], vs, _, h => by unfold iM at h ⊢; exact h
 | p :: ds, vs, c, h => by
  unfold iM at h ⊢; unfold xm at c
  have c := (Bool.and_eq_true _ _).mp c
  obtain ⟨u, us, e, ⟨p1, p2⟩, r⟩ := h
  exact ⟨u, us, e, ⟨p1, bu.cut s p.2 u.2 c.1 p2⟩, iM.cut s ds us c.2 r⟩
end
end
def cOk (m : Nat) (μ : Mu) : Bool := μ.all λ o => match o with
 | some ds => lX m ds
 | none => true
theorem WOk.cut {K : PySem.W.Frag} {tb : List Addr} {W : Wd} {m : Nat} (ok : WOk K tb W) (c : cOk m (W.mu.take m) = true) :
  WOk K tb ⟨W.H, W.ad.take m, W.mu.take m⟩ /\ lF (W.fz tb) (Wd.fz tb ⟨W.H, W.ad.take m, W.mu.take m⟩) := by
 have lv : ∀ b, lY (W.ad.take m) (W.mu.take m) b -> lY W.ad W.mu b := λ b zq2 => by
  obtain ⟨i, es, e1, e2⟩ := zq2
  have h1 : i < m := by have := (List.getElem?_eq_some_iff.mp e1).1; simp at this; omega
  rw [List.getElem?_take_of_lt h1] at e1 e2
  exact ⟨i, es, e1, e2⟩
 have sm : lF (W.fz tb) (Wd.fz tb ⟨W.H, W.ad.take m, W.mu.take m⟩) := λ b u e => by
  obtain ⟨e1, e2, e3⟩ := cY e
  have q := nF (tb := tb) (W := ⟨W.H, W.ad.take m, W.mu.take m⟩) (b := b) (λ z => e2 (lv b z)) e3
  rw [q]; exact e1
 refine ⟨⟨by simp [ok.len], λ i a ds e1 e2 => ?_, λ i j a ds es e1 e2 e3 e4 => ?_, ok.tab⟩, sm⟩
 .have h1 : i < m := by have := (List.getElem?_eq_some_iff.mp e1).1; simp at this; omega
  have cd : lX m ds = true := by
   have := List.all_eq_true.mp c (some ds) (List.mem_of_getElem? e2)
   exact this
  have e1' : (W.ad.take m)[i]? = some a := e1
  have e2' : (W.mu.take m)[i]? = some (some ds) := e2
  rw [List.getElem?_take_of_lt h1] at e1' e2'
  obtain ⟨xs, e, r⟩ := ok.cont i a ds e1' e2'
  exact ⟨xs, e, aF.cut sm ds xs cd r⟩
 .have h1 : i < m := by have := (List.getElem?_eq_some_iff.mp e1).1; simp at this; omega
  have h2 : j < m := by have := (List.getElem?_eq_some_iff.mp e2).1; simp at this; omega
  have e1' : (W.ad.take m)[i]? = some a := e1
  have e2' : (W.ad.take m)[j]? = some a := e2
  have e3' : (W.mu.take m)[i]? = some (some ds) := e3
  have e4' : (W.mu.take m)[j]? = some (some es) := e4
  rw [List.getElem?_take_of_lt h1] at e1' e3'
  rw [List.getElem?_take_of_lt h2] at e2' e4'
  exact ok.inj i j a ds es e1' e2' e3' e4'
def trunc (φ : FF) : FF := λ ds μ => (φ ds μ).bind λ r => if (cLt μ.length r.1 && cOk μ.length (r.2.take μ.length)) = true then some (r.1, r.2.take μ.length) else some r
theorem FI.trunc {P : Program} {w : World} {K : PySem.W.Frag} {mg : Str -> Option Value} {base : Heap} {tb : List Addr} {x : Str} {n k : Nat} {φ : FF} (F : FI P w K mg base tb x n k φ) : FI P w K mg base tb x n k (trunc φ) := by
 obtain ⟨f, fd, ps, h1, h2⟩ := F.is
 refine ⟨f, fd, ps, h1.imp λ vs H Q E ⟨W, ds, d, μ', e, ok, dl, hl, hf, k⟩ => ?_, h2⟩
 unfold L3.trunc at hf
 obtain ⟨⟨d1, μ1⟩, e1, e2⟩ := Option.bind_eq_some_iff.mp hf
 split at e2
 .rename_i hc
  have hc := (Bool.and_eq_true _ _).mp hc
  cases e2
  refine ⟨W, ds, d1, μ1, e, ok, dl, hl, e1, λ v W' ok' l' m' d' => ?_⟩
  obtain ⟨ok2, sm⟩ := ok'.cut (m := W.mu.length) (by rw [m']; exact hc.2)
  exact k v ⟨W'.H, W'.ad.take W.mu.length, W'.mu.take W.mu.length⟩ ok2 ⟨l'.same.trans sm, λ i x q => by
   have hi : i < W.mu.length := by rw [<- ok.len]; exact (List.getElem?_eq_some_iff.mp q).1
   show (W'.ad.take W.mu.length)[i]? = some x
   rw [List.getElem?_take_of_lt hi]; exact l'.ad i x q⟩ (by show W'.mu.take _ = _; rw [m']) (bu.cut sm d1 v hc.1 d')
 .cases e2
  exact ⟨W, ds, d, μ', e, ok, dl, hl, e1, k⟩
theorem fM {φ : FF} {ds : List D} {μ μ' : Mu} {d : D} (h : φ ds μ = some (d, μ')) (hl : μ'.length = μ.length) : trunc φ ds μ = some (d, μ') := by
 unfold trunc
 rw [h]
 simp only [Option.bind_some]
 rw [<- hl, List.take_length]
 split <;> rfl
theorem kJ {φ : FF} {ds : List D} {μ : Mu} {d : D} (h : φ ds μ = some (d, μ)) : trunc φ ds μ = some (d, μ) := fM h rfl
def Ii (x : D) (μ : Mu) : Option (D × Mu) := (bL x μ).map λ ds => (if wB x then .tup ds.reverse else .lst ds.reverse, μ)
def Qp (f : EF) : EF := M1 f Ii
theorem yI {K : PySem.W.Frag} {F : Hp} {ad : List Addr} : ∀ {ds : List D} {vs : List V} {d : D} {v : V} (j : Nat), aF K F ad ds vs -> bu K F ad d v -> aF K F ad (ds.set j d) (vs.set j v)
 | [], vs, d, v, j, r, h => by
  unfold aF at r
  subst r
  exact aF.nil
 | x :: ds, vs, d, v, j, r, h => by
  unfold aF at r
  obtain ⟨u, us, rfl, p, r⟩ := r
  cases j with
  | zero => exact aF.cons h r
  | succ j => exact aF.cons p (yI j r h)
def yF (x o i : D) (μ : Mu) : Option Mu := match o, i with
 | .cell n, .int k => match μ[n]? with
  | some (some ds) => (ixN ds.length k).map λ j => μ.set n (some (ds.set j x))
  | _ => none
 | _, _ => none
def rY (f fo fi : EF) : SF := λ δ μ => (f δ μ).bind λ r => (fo δ r.2).bind λ o => (fi δ o.2).bind λ i => (yF r.1 o.1 i.1 i.2).map λ μ' => (.nx, δ, μ')
theorem wk {X : Cx} {tb : List Addr} {o i e : Expr} {f fo fi : EF} {pos pos' : Pos} (he : PD X tb e f) (ho : PD X tb o fo) (hi : PD X tb i fi)
  (ha : ∀ v, assign (.Subscript o i pos') X.env v = (do
   let ov <- holding [v] (eval o X.env)
   let iv <- holding [v, ov] (eval i X.env)
   standAt pos'
   holding [v, ov, iv] (setItem ov iv v)
   release [v, ov, iv] []) := by intro _; rfl)
  (hs : swapsWithSole [.Subscript o i pos'] e pos.line X.env = pure false := by rfl) (hw : swappedStores [.Subscript o i pos'] e X.env = pure none := by rfl)
  (h1 : (assignEach [.Subscript o i pos'] X.env).map (·.2) = [assign (.Subscript o i pos') X.env] := by rfl) : PSD X tb (.Assign [.Subscript o i pos'] e pos) (rY f fo fi) :=
 lM (Ej he (Mg ho hi set_list ha) hs hw h1) λ E σ H zq1 => by
  obtain ⟨W, δ, fl, δ', μ', e, ok, hd, hf, h⟩ := zq1
  unfold rY at hf
  obtain ⟨⟨x, μ1⟩, e1, hf⟩ := Option.bind_eq_some_iff.mp hf
  obtain ⟨⟨c, μ2⟩, e2, hf⟩ := Option.bind_eq_some_iff.mp hf
  obtain ⟨⟨k, μ3⟩, e3, hf⟩ := Option.bind_eq_some_iff.mp hf
  obtain ⟨μ4, e4, e5⟩ := Option.map_eq_some_iff.mp hf
  cases e5
  refine ⟨W, δ, x, μ1, e, ok, hd, e1, λ v W1 ok1 l1 m1 d1 => ⟨W1, δ, c, μ2, rfl, ok1, hd.mono' l1, (by rw [m1]; exact e2), λ u W2 ok2 l2 m2 d2 => ⟨W2, δ, k, μ3, rfl, ok2, hd.mono' (l1.trans l2), (by rw [m2]; exact e3), λ y W3 ok3 l3 m3 d3 => ?_⟩⟩⟩
  have d2 := Den.mono' d2 l3
  have d1 := Den.mono' d1 (l2.trans l3)
  cases c with
  | cell n =>
   cases k with
   | int k =>
    have e4' : (match μ3[n]? with | some (some ds) => (ixN ds.length k).map λ j => μ3.set n (some (ds.set j x)) | _ => none) = some μ' := e4
    cases e6 : μ3[n]? with
    | none => rw [e6] at e4'; cases e4'
    | some oo =>
     cases oo with
     | none => rw [e6] at e4'; cases e4'
     | some ds =>
      rw [e6] at e4'
      obtain ⟨j, e7, e8⟩ := Option.map_eq_some_iff.mp e4'
      obtain ⟨a, rfl, q⟩ := gU d2
      have e6 : W3.mu[n]? = some (some ds) := by rw [m3]; exact e6
      obtain ⟨xs, ex, r⟩ := ok3.cont n a ds q e6
      refine ⟨a, xs, k, j, rfl, bF d3, ex, by rw [<- aF.length r]; exact e7, ?_⟩
      obtain ⟨ok4, l4⟩ := ok3.write q e6 (yI j r d1)
      exact h _ _ ok4 (((l1.trans l2).trans l3).trans l4) (by rw [<- e8, <- m3]) (hd.mono' (((l1.trans l2).trans l3).trans l4))
   | _ => cases e4
  | _ => cases e4
def eqF : D -> D -> Bool
 | .non, .non => true
 | .bl a, .bl b => a == b
 | .bl a, .int b => (if a then 1 else 0) == b
 | .int a, .bl b => a == (if b then 1 else 0)
 | .int a, .int b => a == b
 | .str a, .str b => a == b
 | _, _ => false
def inF (x : D) (ds : List D) : Bool := ds.any λ y => eqF y x
open PySem.SeqAt
theorem Fv {X : Cx} {k : Nat} (hr : dO k X.A) : OpR X (compareOp .NotEq) (λ v u H Q => ∃ a b xs ys, v = .ref a /\ u = .ref b /\ SqL X.K H a xs /\ SqL X.K H b ys /\ xs.length ≠ ys.length /\ Q (.bl true) H) := by
 intro pins s σ H v u vv uu Q I rv ru h
 obtain ⟨a, b, xs, ys, rfl, rfl, hx, hy, hl, q⟩ := h
 have hun := hr.un
 cases rv
 cases ru
 obtain ⟨its0, iv0, pl0, hz0⟩ := I.list hx
 obtain ⟨its1, iv1, pl1, hz1⟩ := I.list hy
 have hl' : its0.length ≠ its1.length := by rw [<- iv0.length, <- iv1.length]; exact hl
 exact RcNeAt.lists_lengths (A := X.A) pl0.isList pl1.isList (by simpa using hl') (by omega) X.prog X.w X.xe _ ⟨.bl true, H, I, rfl, q⟩
def Bd : O2 := λ x y μ => match x, y with
 | .lst ds, .lst [] => some (.bl (!ds.isEmpty), μ)
 | x, y => oNe x y μ
theorem Ax {x y : D} {μ : Mu} : Bd x y μ = oNe x y μ ∨ ∃ d ds, x = .lst (d :: ds) /\ y = .lst [] /\ Bd x y μ = some (.bl true, μ) := by
 unfold Bd
 split
 .rename_i ds
  cases ds with
  | nil => left; unfold oNe rsv; simp [cD, cV, gC, gF, eqD, iK]
  | cons d ds => exact .inr ⟨d, ds, rfl, rfl, rfl⟩
 .exact .inl rfl
theorem Mf {X : Cx} {tb : List Addr} {k : Nat} (hr : dO k X.A) : OpD X tb (compareOp .NotEq) Bd := ⟨_, (HQ hr).or (Fv hr), λ W x y v u d μ' Q ok dx dy ho h => by
 rcases Ax (x := x) (y := y) (μ := W.mu) with e | ⟨d', ds, rfl, rfl, e⟩
 .rw [e] at ho
  unfold oNe at ho
  split at ho
  .rename_i hc
   cases ho
   rw [Bool.and_eq_true] at hc
   exact .inl ⟨_, _, pO ok dx hc.1.1, pO ok dy hc.1.2, hc.2, put ok h gD⟩
  .cases ho
 .rw [e] at ho
  cases ho
  obtain ⟨a, xs, rfl, q, r⟩ := jJ dx
  obtain ⟨b, ys, rfl, q2, r2⟩ := jJ dy
  refine .inr ⟨a, b, xs, ys, rfl, rfl, SqL.fz q, SqL.fz q2, ?_, put ok h gD⟩
  have h1 := aF.length r
  have h2 := aF.length r2
  simp at h1 h2
  omega⟩
def lSl (f : EF) (fl fh : PF) : LF := λ δ μ => (f δ μ).bind λ r => (fl δ r.2).bind λ l => (fh δ l.2).bind λ u => match r.1 with
 | .lst ds => some (L3.cutD ds l.1 u.1, u.2)
 | .ro ds => some (L3.cutD ds l.1 u.1, u.2)
 | _ => none
theorem CW {X : Cx} {tb : List Addr} {e : Expr} {lo hi : Option Expr} {f : EF} {fl fh : PF} {pos p2 : Pos} (he : PD X tb e f) (hl : POD X tb lo fl) (hh : POD X tb hi fh) : PDN X tb (.Subscript e (.Slice lo hi none p2) pos) (lSl f fl fh) :=
 dW (yU Bu he hl hh) λ σ H Q zq1 => by
  obtain ⟨W, δ, ds, μ', e, ok, hd, hf, h⟩ := zq1
  unfold lSl at hf
  obtain ⟨⟨x, μ1⟩, e1, hf⟩ := Option.bind_eq_some_iff.mp hf
  obtain ⟨⟨l, μ2⟩, e2, hf⟩ := Option.bind_eq_some_iff.mp hf
  obtain ⟨⟨u, μ3⟩, e3, hf⟩ := Option.bind_eq_some_iff.mp hf
  refine ⟨W, δ, x, μ1, e, ok, hd, e1, λ v W1 ok1 l1 m1 d1 => ⟨W1, δ, l, μ2, rfl, ok1, hd.mono' l1, (by rw [m1]; exact e2), λ W2 ok2 l2 m2 => ⟨W2, δ, u, μ3, rfl, ok2, hd.mono' (l1.trans l2), (by rw [m2]; exact e3), λ W3 ok3 l3 m3 => ?_⟩⟩⟩
  have d3 := Den.mono' d1 (l2.trans l3)
  cases x with
  | lst es =>
   obtain ⟨a, xs, rfl, q, r⟩ := jJ d3
   cases hf
   exact ⟨a, xs, rfl, SqL.fz q, λ p hp => h p _ W3 ok3 ((l1.trans l2).trans l3) m3 hp (mz r)⟩
  | ro es =>
   obtain ⟨a, xs, rfl, q, r⟩ := uT d3
   cases hf
   exact ⟨a, xs, rfl, SqL.fz q, λ p hp => h p _ W3 ok3 ((l1.trans l2).trans l3) m3 hp (mz r)⟩
  | _ => cases hf
def xx (fa fb : EF) : LF := λ δ μ => (fa δ μ).bind λ r => (fb δ r.2).bind λ q => match r.1, q.1 with
 | .lst xs, .int k => if -(2 ^ 63) <= k /\ k < 2 ^ 63 /\ xs.length * k.toNat <= sizeLine then some ((List.replicate k.toNat xs).flatten, q.2) else none
 | _, _ => none
theorem JW {X : Cx} {tb : List Addr} {a b : Expr} {fa fb : EF} {pos : Pos} (ha : PD X tb a fa) (hb : PD X tb b fb) : PDN X tb (.BinOp a .Mult b pos) (xx fa fb) :=
 dW (Lf Fx ha hb) λ σ H Q zq2 => by
  obtain ⟨W, δ, ds, μ', e, ok, hd, hf, h⟩ := zq2
  unfold xx at hf
  obtain ⟨⟨x, μ1⟩, e1, hf⟩ := Option.bind_eq_some_iff.mp hf
  obtain ⟨⟨y, μ2⟩, e2, hf⟩ := Option.bind_eq_some_iff.mp hf
  refine ⟨W, δ, x, μ1, e, ok, hd, e1, λ v W1 ok1 l1 m1 d1 => ⟨W1, δ, y, μ2, rfl, ok1, hd.mono' l1, (by rw [m1]; exact e2), λ u W2 ok2 l2 m2 d2 => ?_⟩⟩
  have d1 := Den.mono' d1 l2
  cases x with
  | lst xs =>
   cases y with
   | int k =>
    have hf' : (if -(2 ^ 63) <= k /\ k < 2 ^ 63 /\ xs.length * k.toNat <= sizeLine then some ((List.replicate k.toNat xs).flatten, μ2) else none) = some (ds, μ') := hf
    split at hf'
    .rename_i hz
     cases hf'
     obtain ⟨c, us, rfl, q1, r1⟩ := mD d1
     rw [bF d2]
     exact ⟨c, k, us, rfl, rfl, (cY q1).1, hz.1, hz.2.1, by rw [<- aF.length r1]; exact hz.2.2, λ p hp => h p _ W2 ok2 (l1.trans l2) m2 hp (rn r1 _)⟩
    .cases hf'
   | _ => cases hf
  | _ => cases y <;> cases hf
def sr : D -> Mu -> Option (List D)
 | .lst ds, _ => some ds
 | .cell n, μ => (μ[n]?).join
 | _, _ => none
theorem uC {K : PySem.W.Frag} {tb : List Addr} {W : Wd} {x : D} {v : V} {ds : List D} (ok : WOk K tb W) (h : Den K tb W x v) (e : sr x W.mu = some ds) : ∃ a xs, v = .ref a /\ W.H a = some (.lst xs) /\ cG K tb W ds xs := by
 cases x with
 | lst es =>
  cases e
  obtain ⟨a, xs, rfl, q, r⟩ := mD h
  exact ⟨a, xs, rfl, (cY q).1, r⟩
 | cell n =>
  obtain ⟨a, rfl, q⟩ := gU h
  have e : (W.mu[n]?).join = some ds := e
  cases e2 : W.mu[n]? with
  | none => rw [e2] at e; cases e
  | some o =>
   rw [e2] at e
   have e : o = some ds := e
   subst e
   obtain ⟨xs, ex, r⟩ := ok.cont n a ds q e2
   exact ⟨a, xs, rfl, ex, r⟩
 | _ => cases e
theorem us1 {α : Type} {P : List α -> Prop} (h : ∀ a, P [a]) : ∀ us : List α, us.length = 1 -> P us
 | [a], _ => h a
theorem us2 {α : Type} {P : List α -> Prop} (h : ∀ a b, P [a, b]) : ∀ us : List α, us.length = 2 -> P us
 | [a, b], _ => h a b
theorem us3 {α : Type} {P : List α -> Prop} (h : ∀ a b c, P [a, b, c]) : ∀ us : List α, us.length = 3 -> P us
 | [a, b, c], _ => h a b c
theorem us4 {α : Type} {P : List α -> Prop} (h : ∀ a b c d, P [a, b, c, d]) : ∀ us : List α, us.length = 4 -> P us
 | [a, b, c, d], _ => h a b c d
structure Got (K : PySem.W.Frag) (x : Str) (st : Stmt) (f c P : Addr) (fd : FuncData) : Prop where
 F : dR K x x st f fd P
 m : PySem.W.nsIn K mainGlobals x = some (some (.ref f))
 t : PySem.W.tabIn K x = some (c, P)
 e : ∃ kV dc pm an ct, fd = PySem.W.fnOf x x (lr st) (jb st) (aP st) .none kV dc pm an (.ref c) ct
theorem Mj {K : PySem.W.Frag} {x : Str} {st : Stmt} {f c P : Addr} {oc : Value} {od an : Option Addr} {osl : Array (Option Value)} {kV doc pm ct : Value} {dd : Option Addr} {vs : Array Value} {sl : Array (Option Value)} (a : PySem.W.nsIn K mainGlobals x = some (some (.ref f)))
  (l : K.lookup f = some ⟨oc, od, .func (PySem.W.fnOf x x (lr st) (jb st) (aP st) .none kV doc pm an (.ref c) ct), osl⟩) (hc : PySem.W.codeIn K (.ref c) x = true) (k : PySem.W.keepIn K (.ref f) = true)
  (lc : K.lookup c = some ⟨.type "code", dd, .fields vs, sl⟩) (p : vs[11]? = some (.ref P)) (q : vQ vs = true) (ne : (c != P) = true) : ∃ f c P fd, Got K x st f c P fd :=
 ⟨f, c, P, _, Ka l hc k lc p q ne, a, MN a l rfl lc p, kV, doc, pm, an, ct, rfl⟩
end L3
namespace L2
open PySem PySem.Spec PyProof.Rows PySem.W
def uw {α : Type} (f : Nat -> Nat -> Bool) : KasT α -> α
 | .ret a => a
 | .ask i j k => uw f (k (f i j))
def dq {α : Type} (n : Nat) (R : α -> Prop) : KasT α -> Prop
 | .ret a => R a
 | .ask i j k => i < n /\ j < n /\ ∀ b, dq n R (k b)
theorem dq.bind {α β : Type} {n : Nat} {R : α -> Prop} {R' : β -> Prop} {f : α -> KasT β} (hf : ∀ a, R a -> dq n R' (f a)) : ∀ {t : KasT α}, dq n R t -> dq n R' (t.bind f)
 | .ret a, h => hf a h
 | .ask i j k, h => ⟨h.1, h.2.1, λ b => dq.bind hf (h.2.2 b)⟩
theorem dq.run {α : Type} {n : Nat} {R : α -> Prop} {f : Nat -> Nat -> Bool} : ∀ {t : KasT α}, dq n R t -> R (uw f t)
 | .ret a, h => h
 | .ask i j k, h => show R (uw f (k (f i j))) from dq.run (t := k (f i j)) (h.2.2 (f i j))
theorem dq.wp {α : Type} {n : Nat} {R : α -> Prop} {f : Nat -> Nat -> Bool} {cmp : Nat -> Nat -> (Bool -> Shared -> Prop) -> Shared -> Prop} {s : Shared} (hc : ∀ i j (C : Bool -> Shared -> Prop), i < n -> j < n -> C (f i j) s -> cmp i j C s) {Q : α -> Shared -> Prop} :
  ∀ {t : KasT α}, dq n R t -> Q (uw f t) s -> t.kasWp cmp Q s
 | .ret a, _, q => q
 | .ask i j k, h, q => hc i j _ h.1 h.2.1 (dq.wp hc (h.2.2 (f i j)) q)
def eQ (n : Nat) (p : Array Nat) : Prop := p.toList.Perm (List.range n)
theorem eQ.getD {n : Nat} {p : Array Nat} (h : eQ n p) (h0 : 0 < n) (k : Nat) : p.getD k 0 < n := by
 unfold Array.getD
 split
 .rename_i hk
  have : p.getInternal k hk ∈ p.toList := by
   show p[k] ∈ p.toList
   simp
  exact List.mem_range.mp (h.mem_iff.mp this)
 .exact h0
theorem eQ.of {n : Nat} {p q : Array Nat} (h : eQ n p) (e : q.Perm p) : eQ n q := (Array.perm_iff_toList_perm.mp e).trans h
theorem eQ.rev {n : Nat} {p : Array Nat} (h : eQ n p) (i j : Nat) : eQ n (kas_rev p i j) := h.of (mirror_perm _ _ _ _)
theorem uc {n : Nat} {p : Array Nat} (hp : eQ n p) (h0 : 0 < n) : ∀ (f k : Nat), dq n (λ _ => True) (kas_asc p f k)
 | 0, k => trivial
 | f + 1, k => ⟨hp.getD h0 _, hp.getD h0 _, λ b => by
  cases b
  .exact uc hp h0 f (k + 1)
  .exact trivial⟩
theorem mH {n : Nat} (h0 : 0 < n) : ∀ (f : Nat) (p : Array Nat) (k q : Nat), eQ n p -> dq n (λ r => eQ n r.1) (kas_desc f p k q)
 | 0, p, k, q, hp => hp
 | f + 1, p, k, q, hp => ⟨hp.getD h0 _, hp.getD h0 _, λ b => by
  cases b
  .refine ⟨hp.getD h0 _, hp.getD h0 _, λ c => ?_⟩
   cases c
   .exact mH h0 f p (k + 1) (q + 1) hp
   .exact hp
  .show dq n _ (if true = true then (if q > 0 then kas_desc f (kas_rev p (k - (q + 1)) k) (k + 1) 0 else kas_desc f p (k + 1) 0) else _)
   rw [if_pos rfl]
   split
   .exact mH h0 f _ (k + 1) 0 (hp.rev _ _)
   .exact mH h0 f p (k + 1) 0 hp⟩
theorem ud {n : Nat} (h0 : 0 < n) {p : Array Nat} (hp : eQ n p) (a b : Nat) : dq n (λ r => eQ n r.2) (kas_tail3 a b p) := by
 unfold kas_tail3
 refine dq.bind (R := λ _ => True) (λ m _ => ?_) (uc (hp.rev _ _) h0 _ _)
 exact hp.rev 0 a
theorem mZ {n : Nat} (h0 : 0 < n) {p : Array Nat} (hp : eQ n p) (a b : Nat) : dq n (λ r => eQ n r.2) (kas_descPart a b p) :=
 dq.bind (λ r hr => by
  split
  .exact ud h0 (eQ.rev hr _ _) _ _
  .exact ud h0 hr _ _) (mH h0 _ p _ _ hp)
theorem Aj {n : Nat} (h0 : 0 < n) {p : Array Nat} (hp : eQ n p) (a : Nat) : dq n (λ r => eQ n r.2) (kas_count a p) :=
 dq.bind (λ m _ => by
  split
  .exact hp
  .split
   .refine ⟨hp.getD h0 _, hp.getD h0 _, λ c => ?_⟩
    cases c
    .exact mZ h0 (hp.rev _ _) _ _
    .exact hp
   .exact mZ h0 hp _ _) (uc hp h0 _ _)
theorem nT {n : Nat} (h0 : 0 < n) {p : Array Nat} (hp : eQ n p) (k : Nat) : ∀ (f l r : Nat), dq n (λ _ => True) (kas_place p k f l r)
 | 0, l, r => trivial
 | f + 1, l, r => by
  unfold kas_place
  split
  .exact trivial
  .refine ⟨hp.getD h0 _, hp.getD h0 _, λ c => ?_⟩
   cases c
   .exact nT h0 hp k f _ _
   .exact nT h0 hp k f _ _
theorem zj {n : Nat} (h0 : 0 < n) : ∀ (f : Nat) (p : Array Nat) (k : Nat), eQ n p -> dq n (eQ n) (kas_bin f p k)
 | 0, p, k, hp => hp
 | f + 1, p, k, hp => dq.bind (λ l _ => zj h0 f _ (k + 1) (hp.of (bubble_perm _ _ _))) (nT h0 hp k _ _ _)
theorem qj {n : Nat} (h0 : 0 < n) : dq n (eQ n) (kas_sort n) :=
 dq.bind (λ r hr => by
  split
  .exact zj h0 _ _ _ hr
  .exact hr) (Aj h0 (show (List.range n).Perm (List.range n) from List.Perm.refl _) n)
def ju (f : Nat -> Nat -> Bool) (n : Nat) : List Nat := if 2 <= n then (uw f (kas_sort n)).toList else List.range n
theorem pW (f : Nat -> Nat -> Bool) (n : Nat) : (ju f n).Perm (List.range n) := by
 unfold ju
 split
 .exact dq.run (qj (by omega))
 .exact List.Perm.refl _
theorem jA (f : Nat -> Nat -> Bool) (n : Nat) : (ju f n).length = n := by
 rw [(pW f n).length_eq, List.length_range]
theorem range_getD {α : Type} (z : α) (vs : List α) : (List.range vs.length).map (λ i => vs.getD i z) = vs := by
 apply List.ext_getElem?
 intro i
 rw [List.getElem?_map]
 by_cases h : i < vs.length
 .rw [List.getElem?_range h]
  simp [h]
 .rw [List.getElem?_eq_none (by simpa using h), List.getElem?_eq_none (by simpa using h)]
  rfl
section
variable {prog : Program} {w : World} {A : Around} {E : Value -> Shared -> Prop} {s : Shared} {a : Addr} {vs : List Value} {f : Nat -> Nat -> Bool}
def Cmp (prog : Program) (w : World) (A : Around) (vs : List Value) (f : Nat -> Nat -> Bool) (s : Shared) : Prop :=
 wpAny (model prog w) A (keyKind' vs.toArray) (λ κ s' => s' = s /\ ∀ i j (C : Bool -> Shared -> Prop), i < vs.length -> j < vs.length -> C (f i j) s -> kas_ask prog w A κ vs i j C s) (λ _ _ => False) s
theorem DG {n : Nat} {P : PySem.Fin -> Shared -> Prop} (ho : s.heap.get? a = some (seqObj "list" vs.toArray n)) (h64 : vs.length < 64)
  (hk : 2 <= vs.length -> ∀ h', (∀ b o, b ≠ a -> s.heap.get? b = some o -> h'.get? b = some o) -> Cmp prog w A vs f { s with heap := h' })
  (h : ∀ h' c, (∀ b o, b ≠ a -> s.heap.get? b = some o -> h'.get? b = some o) -> h'.get? a = some (seqObj "list" ((ju f vs.length).map λ i => vs.getD i Value.none).toArray c) -> P (.done (.ret .none)) { s with heap := h' }) :
  wpAny (model prog w) A (Builtin.«list.sort» ⟨[.ref a], []⟩) P E s := by
 have upd1 := λ (g : Heap) (q : Array Value -> Array Value) => Heap.SameBut.update g a (Obj.mapSeq q)
 have e1 := get?_update_seq ho λ _ => (#[] : Array Value)
 generalize hc1 : (if (#[] : Array Value).size == vs.toArray.size then n else n + 1) = c1 at e1
 rw [list_sort_plain]
 refine wpAny_bind (listItems_at ho rfl ?_)
 refine wpAny_bind (listUpdate_at ho rfl ?_ (by rw [List.size_toArray, sizeLine_eq]; omega) (Nat.zero_le _))
 refine wpAny_bind (seqEpoch_at e1 rfl ?_)
 refine wpAny_bind (wpAny_newTuple ?_ (by show vs.length <= _; rw [sizeLine_eq]; omega))
 refine wpAny_bind (wpAny_newList ?_ (Nat.zero_le _))
 refine wpAny_holding ?_
 generalize hg : ((s.heap.update a (Obj.mapSeq λ _ => (#[] : Array Value))).push (seqObj "tuple" vs.toArray 0)).push (seqObj "list" #[] 0) = g
 have kg : ∀ b o, b ≠ a -> s.heap.get? b = some o -> g.get? b = some o := λ b o hb e => by
  rw [<- hg]
  exact Heap.get?_push_of_some _ (Heap.get?_push_of_some _ (((upd1 s.heap _).2 b hb).trans e))
 have ag : g.get? a = some (seqObj "list" #[] c1) := by
  rw [<- hg]
  exact Heap.get?_push_of_some _ (Heap.get?_push_of_some _ e1)
 have fin : ∀ (out : Array Value), out.size = vs.length -> out = ((ju f vs.length).map λ i => vs.getD i Value.none).toArray -> P (.done (.ret .none)) { s with heap := g.update a (Obj.mapSeq λ _ => out) } := λ out hsz ho' => by
  have e2 := get?_update_seq ag λ _ => out
  rw [ho'] at e2 ⊢
  exact h _ _ (λ b o hb e => ((upd1 g _).2 b hb).trans (kg b o hb e)) e2
 show wpAny (model prog w) A _ P E { s with heap := g }
 dsimp only
 by_cases h2 : vs.toArray.size < 2
 .rw [if_pos h2, if_pos h2]
  refine wpAny_bind (wpAny_pure ?_)
  rw [StateT.run_pure]
  refine wpAny_bind (wpAny_pure ?_)
  dsimp only
  have hz : (vs.toArray.zip vs.toArray).map (λ p => p.2) = vs.toArray := by
   apply Array.toList_inj.mp
   rw [Array.toList_map]
   simp [List.map_snd_zip]
  have hA : (arrOf (SortSt.mk' general' (vs.toArray.zip vs.toArray) #[] 7 none)).map (·.2) = vs.toArray := hz
  rw [hA]
  refine wpAny_bind (seqEpoch_at ag rfl ?_)
  refine wpAny_bind (listUpdate_at ag rfl ?_ (Nat.zero_le _) (by rw [List.size_toArray, sizeLine_eq]; omega))
  simp only [bne_self_eq_false, Bool.false_eq_true, if_false]
  refine wpAny_pure (fin _ (by simp) ?_)
  rw [List.size_toArray] at h2
  unfold ju
  rw [if_neg (by omega), range_getD]
 .rw [if_neg h2, if_neg h2]
  rw [List.size_toArray] at h2
  refine wpAny_bind (wpAny_mono (hk (by omega) g kg) (λ κ s' hs => ?_) λ _ _ x => x.elim)
  obtain ⟨rfl, hask⟩ := hs
  have good : (kas_sort vs.length).kasWp (kas_ask prog w A κ vs) (λ p s' => p = uw f (kas_sort vs.length) /\ s' = { s with heap := g }) { s with heap := g } :=
   dq.wp (n := vs.length) (f := f) (R := eQ vs.length) (λ i j C hi hj hC => hask i j C hi hj hC) (qj (by omega)) ⟨rfl, rfl⟩
  refine wpAny_bind (wpAny_mono (kat_run (Q := λ st' s' => s' = { s with heap := g } /\ failedOf st' = none /\ (arrOf st').map (·.2) = List.toArray ((uw f (kas_sort vs.length)).toList.map λ i => vs.getD i Value.none)) rfl (by omega) h64 (λ p st' s' a1 a2 a3 a4 => ⟨a4.2, a3, by rw [<- a4.1]; exact kat_snds rfl a2⟩) good) ?_ λ _ _ e => e)
  rintro ⟨⟨⟩, st'⟩ s' ⟨rfl, hf, har⟩
  dsimp only
  rw [har]
  have hlen : (List.toArray ((uw f (kas_sort vs.length)).toList.map λ i => vs.getD i Value.none)).size = vs.length := by
   have := jA f vs.length
   unfold ju at this
   rw [if_pos (by omega)] at this
   rw [List.size_toArray, List.length_map, this]
  refine wpAny_bind (seqEpoch_at ag rfl ?_)
  refine wpAny_bind (listUpdate_at ag rfl ?_ (Nat.zero_le _) (Nat.le_trans (Nat.le_of_eq hlen) (by rw [sizeLine_eq]; omega)))
  rw [hf]
  simp only [bne_self_eq_false, Bool.false_eq_true, if_false]
  refine wpAny_pure (fin _ hlen ?_)
  unfold ju
  rw [if_pos (by omega)]
theorem Ao {l : Addr} {Q : Value -> Shared -> Prop} (hl : s.heap.IsList l vs.toArray) (h64 : vs.length < 64)
  (hk : 2 <= vs.length -> ∀ h', (∀ b o, s.heap.get? b = some o -> h'.get? b = some o) -> Cmp prog w A.in1.in1 vs f { s with heap := h' })
  (h : ∀ D h' c, (∀ b o, s.heap.get? b = some o -> h'.get? b = some o) -> s.heap.objs.size <= D -> h'.get? D = some (seqObj "list" ((ju f vs.length).map λ i => vs.getD i Value.none).toArray c) -> Q (.ref D) { s with heap := h' }) :
  wpAny (model prog w) A (call (.builtin "sorted") [.ref l]) Q E s := by
 refine Calls.call_function_entry kind_sorted plain_sorted entry_sorted (args_sorted1 _) ?_
 unfold Builtin.«sorted»
 refine wpAny_bind (m := checkCount "sorted" 1 1 _) (wpAny_pure ?_)
 refine wpAny_bind (collect_list hl ?_ (by rw [sizeLine_eq]; omega))
 refine wpAny_bind (wpAny_newList ?_ (by rw [sizeLine_eq]; omega))
 generalize hg1 : (s.heap.push (seqObj "list" #[] 0)).update s.heap.objs.size (Obj.mapSeq (· ++ vs.toArray)) = g1
 have k1 : ∀ b o, s.heap.get? b = some o -> g1.get? b = some o := λ b o q => by
  rw [<- hg1, Heap.get?_update_ne _ _ _ _ (Nat.ne_of_lt (Heap.lt_size q)), Heap.get?_push_ne _ _ _ (Nat.ne_of_lt (Heap.lt_size q))]
  exact q
 have z1 : g1.objs.size = s.heap.objs.size + 1 := by rw [<- hg1, Heap.size_update, size_push']
 have k2 : ∀ b o, s.heap.get? b = some o -> (g1.push (seqObj "list" vs.toArray 0)).get? b = some o := λ b o q => Heap.get?_push_of_some _ (k1 b o q)
 have o2 : (g1.push (seqObj "list" vs.toArray 0)).get? g1.objs.size = some (seqObj "list" vs.toArray 0) := Heap.get?_push_size _ rfl
 show wpAny _ _ _ _ _ { s with heap := g1.push (seqObj "list" vs.toArray 0) }
 have hle : s.heap.objs.size <= g1.objs.size := by omega
 generalize g1.push (seqObj "list" vs.toArray 0) = g2 at *
 generalize g1.objs.size = D at *
 refine wpAny_bind (wpAny_holding (wpAny_call_entry slot_list_sort ⟨_, o2, rfl⟩ entry_list_sort ?body (args_list_sort _)))
 case body =>
  have ne : ∀ b o, s.heap.get? b = some o -> b ≠ D := λ b o q => Nat.ne_of_lt (Nat.lt_of_lt_of_le (Heap.lt_size q) hle)
  refine DG (s := { s with heap := g2 }) (f := f) o2 h64 (λ h2 h' k' => hk h2 h' λ b o q => k' b o (ne b o q) (k2 b o q)) λ h' c k' e' => ⟨_, rfl, ?_⟩
  exact wpAny_pure ⟨_, rfl, h D h' c (λ b o q => k' b o (ne b o q) (k2 b o q)) hle e'⟩
end
theorem sJ : ∀ {a b : List Int}, a.Perm b -> a.Pairwise (· <= ·) -> b.Pairwise (· <= ·) -> a = b
 | [], b, p, _, _ => (List.nil_perm.mp p).symm
 | x :: a, b, p, ha, hb => by
  cases b with
  | nil => exact absurd p.length_eq (by simp)
  | cons y b =>
   obtain ⟨hx, ha'⟩ := List.pairwise_cons.mp ha
   obtain ⟨hy, hb'⟩ := List.pairwise_cons.mp hb
   have e : x = y := by
    have m1 : x ∈ y :: b := p.mem_iff.mp (by simp)
    have m2 : y ∈ x :: a := p.mem_iff.mpr (by simp)
    rcases List.mem_cons.mp m1 with z | z
    .exact z
    .rcases List.mem_cons.mp m2 with w | w
     .exact w.symm
     .exact Int.le_antisymm (hx y w) (hy x z)
   subst e
   rw [sJ (List.Perm.cons_inv p) ha' hb']
theorem mO : ∀ {ns : List Int} {us : List Value}, Vals (ns.map V.int) us -> IntsAre us ns
 | [], _, .nil => .nil
 | n :: ns, _, .cons ⟨t, e⟩ r => by subst e; exact .cons n t (mO r)
theorem Ac {h : Heap} {a b : Addr} {o : Obj} {g : Obj -> Obj} (hb : b < a) (e : h.get? b = some o) : (h.update a g).get? b = some o := by
 rw [Heap.get?_update_ne _ _ _ _ (Nat.ne_of_lt hb)]; exact e
theorem rD {h : Heap} {vs : List Value} {out : Array Value} {b : Addr} {o : Obj} (e : h.get? b = some o) : (sortedAll h vs out).get? b = some o := by
 have hb := Heap.lt_size e
 unfold sortedAll sortedHeap
 exact Ac (Nat.lt_succ_of_lt hb) (Heap.get?_push_of_some _ (Heap.get?_push_of_some _ (Ac (Nat.lt_succ_of_lt hb) (Heap.get?_push_of_some _ (Ac hb (Heap.get?_push_of_some _ e))))))
theorem sortedAll_at {h : Heap} {vs : List Value} {out : Array Value} : ∃ c, (sortedAll h vs out).get? (h.objs.size + 1) = some (seqObj "list" out c) := by
 unfold sortedAll
 generalize hg : (h.push (seqObj "list" #[] 0)).update h.objs.size (Obj.mapSeq (· ++ vs.toArray)) = g
 have hz : g.objs.size = h.objs.size + 1 := by rw [<- hg, Heap.size_update, size_push']
 have e0 : (g.push (seqObj "list" vs.toArray 0)).get? (h.objs.size + 1) = some (seqObj "list" vs.toArray 0) := by rw [<- hz]; exact Heap.get?_push_size _ rfl
 unfold sortedHeap
 have e1 := get?_update_seq e0 λ _ => (#[] : Array Value)
 exact ⟨_, get?_update_seq (Heap.get?_push_of_some _ (Heap.get?_push_of_some _ e1)) λ _ => out⟩
theorem An {X : Cx} : gZ X (.builtin "sorted") (λ xs H Q => ∃ a ns, xs = [.ref a] /\ SqL X.K H a (ns.map V.int) /\ ns.length < 64 /\ ∀ p, H p = none -> Q (.ref p) (upd H p (.lst ((sortI ns).map V.int)))) := by
 intro pins s σ H xs us Q I r h
 obtain ⟨a, ns, rfl, hq, h64, q⟩ := h
 obtain ⟨u, rfl, rx⟩ := vals1 r
 cases rx
 obtain ⟨its, r', pl, hz⟩ := I.list hq
 have hI := mO r'
 have hl := r'.length
 rw [List.length_map] at hl hz
 refine sorted_ints pl.isList hI (by omega) λ out ns' i1 p1 o1 => ?_
 have e := sJ (p1.trans (sortI_perm ns).symm) o1 (sortI_rises ns)
 subst e
 obtain ⟨c, ec⟩ := sortedAll_at (h := s.heap) (vs := its) (out := out)
 have hlen : (sortI ns).length = ns.length := (sortI_perm ns).length_eq
 refine ⟨.ref (s.heap.objs.size + 1), _, I.laid (t' := s.toks) (λ b o e => rD e) (Nat.le_succ _) (show gV X.prog X.w _ _ _ (.lst ((sortI ns).map V.int)) from ⟨by rw [List.length_map, hlen]; exact hz, out.toList, c, qx i1, ?_⟩), rfl, q _ (I.hok.fresh (Nat.le_succ _))⟩
 rw [ec]
def Hk (h : Heap) (v : Value) (ks : List Int) : Prop := ∃ a o its n, v = .ref a /\ h.get? a = some o /\ o.cls = .type "tuple" /\ o.data = .seq (List.toArray its) n /\ IntsAre its ks
theorem zg {prog : Program} {w : World} {A : Around} {Q : Bool -> Shared -> Prop} {s : Shared} {fin : Bool} : ∀ {xs ys : List Value} {ms ns : List Int}, IntsAre xs ms -> IntsAre ys ns -> ms.length = ns.length -> ∀ (i : Nat) (k : Bool), fin = false -> Q (HT.lexLt ms ns) s -> KatLex prog w A k fin Q (xs.zip ys) i s
 | _, _, _, _, .nil, .nil, _, i, k, hf, h => by rw [hf]; exact h
 | _, _, _, _, .nil, .cons _ _ _, hl, _, _, _, _ => by cases hl
 | _, _, _, _, .cons _ _ _, .nil, hl, _, _, _, _ => by cases hl
 | _, _, _, _, .cons (vs := xs) (ns := ms) m t h1, .cons (vs := ys) (ns := ns) n u h2, hl, i, k, hf, h => by
  refine kat_cons (wpAny_eqBool_int ?_)
  unfold KatGo
  rw [HT.lexLt_cons] at h
  by_cases e : m = n
  .rw [if_pos e] at h
   rw [if_pos (by simpa using e)]
   exact zg h1 h2 (by simpa using hl) (i + 1) k hf h
  .rw [if_neg e] at h
   rw [if_neg (by simpa using e)]
   cases hb : (k && i == 0) with
   | true => exact oneLt_int h
   | false => exact kat_one _ _ (lt_int h)
theorem Hb {prog : Program} {w : World} {A : Around} {vs : List Value} {kss : List (List Int)} {s : Shared} {d : Nat} (hl : vs.length = kss.length) (h2 : 2 <= vs.length) (ht : ∀ i, i < vs.length -> Hk s.heap (vs.getD i .none) (kss.getD i [])) (hd : ∀ ks ∈ kss, ks.length = d + 1) :
  Cmp prog w A vs (λ i j => HT.lexLt (kss.getD i []) (kss.getD j [])) s := by
 have hdk : ∀ i, i < vs.length -> (kss.getD i []).length = d + 1 := λ i hi => by
  have : kss.getD i [] = kss[i] := by simp [List.getD, hl ▸ hi]
  rw [this]; exact hd _ (List.getElem_mem _)
 have firsts : ∀ (k : Nat) (us : List Value), us = vs.drop (vs.length - k) -> k <= vs.length -> ∃ fs : List Value, KatTups s.heap us fs /\ fs.length = k /\ ∀ v ∈ fs, ∃ n t, v = .int n t := by
  intro k
  induction k with
  | zero => intro us e _; subst e; exact ⟨[], by simp [KatTups], rfl, by simp⟩
  | succ k ih =>
   intro us e hk
   have hlt : vs.length - (k + 1) < vs.length := by omega
   obtain ⟨fs, f1, f2, f3⟩ := ih (vs.drop (vs.length - k)) rfl (by omega)
   rw [List.drop_eq_getElem_cons hlt] at e
   rw [show vs.length - (k + 1) + 1 = vs.length - k by omega] at e
   obtain ⟨a, o, its, n, ev, ho, hc, hdt, hi⟩ := ht _ hlt
   have ev' : vs[vs.length - (k + 1)] = .ref a := by rw [<- ev]; simp [List.getD, hlt]
   rw [ev'] at e
   subst e
   have hlen := hdk _ hlt
   generalize kss.getD (vs.length - (k + 1)) [] = ks at *
   cases hi with
   | nil => cases hlen
   | cons m t h1 =>
    rename_i r1 r2
    exact ⟨.int m t :: fs, KatTups.cons ho hc hdt (by simp) f1, by simp [f2], λ v hv => by
     rcases List.mem_cons.mp hv with z | z
     .exact ⟨m, t, z⟩
     .exact f3 v z⟩
 obtain ⟨fs, f1, f2, f3⟩ := firsts vs.length vs (by simp) (Nat.le_refl _)
 refine kat_kind (T := .type "int") f1 (by omega) (λ v hv => ?_) rfl ⟨rfl, λ i j C hi hj hC => ?_⟩
 .obtain ⟨n, t, rfl⟩ := f3 v hv
  exact Looks.of_pure rfl
 .obtain ⟨a, o, its, n, ev, ho, hc, hdt, hI⟩ := ht i hi
  obtain ⟨a', o', its', n', ev', ho', hc', hdt', hI'⟩ := ht j hj
  have e1 := hdk i hi
  have e2 := hdk j hj
  have l1 := hI.length
  have l2 := hI'.length
  show wpAny _ _ (keyLt' _ (vs.getD i Value.none) (vs.getD j Value.none)) C _ s
  rw [ev, ev']
  refine kat_lt ho hdt ho' hdt' ?_
  simp only [List.toList_toArray]
  exact zg hI hI' (by omega) 0 _ (by rw [List.size_toArray, List.size_toArray]; exact decide_eq_false (by omega)) hC
theorem oZ : ∀ {xs : List V} {us : List Value}, Vals xs us -> ∀ i, RelV (xs.getD i .non) (us.getD i .none)
 | _, _, .nil, i => by simp [RelV]
 | _, _, .cons r t, 0 => r
 | _, _, .cons r t, i + 1 => oZ t i
theorem rG {xs : List V} {us : List Value} (r : Vals xs us) : ∀ (is : List Nat), Vals (is.map λ i => xs.getD i .non) (is.map λ i => us.getD i .none)
 | [] => .nil
 | i :: is => .cons (oZ r i) (rG r is)
theorem zO {X : Cx} : gZ X (.builtin "sorted") (λ xs H Q => ∃ (a : Addr) (ys : List V) (kss : List (List Int)) (d : Nat), xs = [.ref a] /\ SqL X.K H a ys /\ ys.length < 64 /\ ys.length = kss.length /\ (∀ ks ∈ kss, ks.length = d + 1) /\ (∀ i, i < ys.length -> ∃ p, ys.getD i .non = .ref p /\ SqT X.K H p ((kss.getD i []).map V.int)) /\
  ∀ p, H p = none -> Q (.ref p) (upd H p (.lst ((ju (λ i j => HT.lexLt (kss.getD i []) (kss.getD j [])) ys.length).map λ i => ys.getD i .non)))) := by
 intro pins s σ H xs us Q I r h
 obtain ⟨a, ys, kss, d, rfl, hq, h64, hl, hd, ht, q⟩ := h
 obtain ⟨u, rfl, rx⟩ := vals1 r
 cases rx
 obtain ⟨its, r', pl, hz⟩ := I.list hq
 have hlen := r'.length
 have tups : ∀ i, i < its.length -> Hk s.heap (its.getD i .none) (kss.getD i []) := λ i hi => by
  obtain ⟨p, ep, hT⟩ := ht i (by omega)
  have rl := oZ r' i
  rw [ep] at rl
  have e : its.getD i .none = .ref p := rl
  obtain ⟨us, ru, ⟨o, ho, hc, n, hdt⟩, _⟩ := I.tuple hT
  exact ⟨p, o, us, n, e, ho, hc, hdt, mO ru⟩
 refine Ao (f := λ i j => HT.lexLt (kss.getD i []) (kss.getD j [])) pl.isList (by omega) (λ h2 h' k' => ?_) λ D h' c k' hD ec => ?_
 .refine Hb (d := d) (by omega) h2 (λ i hi => ?_) hd
  obtain ⟨p, o, us, n, e1, e2, e3⟩ := tups i hi
  exact ⟨p, o, us, n, e1, k' _ _ e2, e3⟩
 .refine ⟨.ref D, _, I.laid (t' := s.toks) k' hD (show gV X.prog X.w _ _ _ (.lst ((ju (λ i j => HT.lexLt (kss.getD i []) (kss.getD j [])) ys.length).map λ i => ys.getD i .non)) from ⟨by rw [List.length_map, jA]; exact hz, _, c, ?_, ec⟩), rfl, q _ (I.hok.fresh hD)⟩
  rw [<- hlen]
  exact rG r' _
end L2
namespace L3
open PySem PySem.Spec PyProof.Rows L2
def mY : List D -> Option (List Int)
 | [] => some []
 | .int i :: r => (mY r).map (i :: ·)
 | _ => none
def BW : List D -> Option (List (List Int))
 | [] => some []
 | .tup es :: r => (mY es).bind λ ks => (BW r).map (ks :: ·)
 | _ => none
def QG (kss : List (List Int)) : Bool := kss.all λ ks => ks.length == (kss.headD []).length - 1 + 1
def uN (ds : List D) : Option (List D) := if ds.length < 64 then match mY ds with
  | some ns => some ((PySem.W.sortI ns).map .int)
  | none => match BW ds with
   | some kss => if QG kss = true then some ((ju (λ i j => HT.lexLt (kss.getD i []) (kss.getD j [])) ds.length).map λ i => ds.getD i .non) else none
   | none => none
 else none
theorem pB : ∀ {ds : List D} {ns : List Int}, mY ds = some ns -> ds = ns.map .int
 | [], ns, h => by cases h; rfl
 | d :: r, ns, h => by
  cases d with
  | int i =>
   obtain ⟨ms, e, rfl⟩ := Option.map_eq_some_iff.mp (show (mY r).map (i :: ·) = some ns from h)
   rw [pB e]; rfl
  | _ => cases h
theorem tE : ∀ (ns : List Int), mY (ns.map .int) = some ns
 | [] => rfl
 | n :: ns => by
  show (mY (ns.map .int)).map (n :: ·) = _
  rw [tE ns]; rfl
theorem yR : ∀ {ds : List D} {kss : List (List Int)}, BW ds = some kss -> ds = kss.map λ ks => .tup (ks.map .int)
 | [], kss, h => by cases h; rfl
 | d :: r, kss, h => by
  cases d with
  | tup es =>
   obtain ⟨ks, e1, h⟩ := Option.bind_eq_some_iff.mp (show (mY es).bind (λ ks => (BW r).map (ks :: ·)) = some kss from h)
   obtain ⟨ms, e, rfl⟩ := Option.map_eq_some_iff.mp h
   rw [yR e, pB e1]; rfl
  | _ => cases h
theorem vG {K : PySem.W.Frag} {tb : List Addr} {W : Wd} : ∀ (ns : List Int), cG K tb W (ns.map .int) (ns.map V.int)
 | [] => aF.nil
 | n :: ns => aF.cons dH (vG ns)
theorem oK {K : PySem.W.Frag} {tb : List Addr} {W : Wd} : ∀ {ns : List Int} {xs : List V}, cG K tb W (ns.map .int) xs -> xs = ns.map V.int
 | [], xs, h => by
  have := aF.length h
  cases xs with
  | nil => rfl
  | cons a b => cases this
 | n :: ns, xs, h => by
  cases xs with
  | nil => have := aF.length h; cases this
  | cons a b =>
   obtain ⟨u, us, e, h1, h2⟩ : ∃ u us, a :: b = u :: us /\ bu K (Wd.fz tb W) W.ad (.int n) u /\ aF K (Wd.fz tb W) W.ad (ns.map .int) us := by unfold cG aF at h; exact h
   cases e
   rw [bF h1, oK h2]; rfl
def yE (fs : AF) : LF := λ δ μ => (fs δ μ).bind λ r => match r.1 with
 | [x] => (sr x r.2).bind λ ds => (uN ds).map λ es => (es, r.2)
 | _ => none
theorem Gf {X : Cx} {tb : List Addr} {a : Expr} {fs : AF} {p pos : Pos} (hm : X.mg "sorted" = none) (ha : PAD X tb [a] fs) (hg : Gl X "sorted" := by rfl) (he : starEach [a] X.env = (false, eval a X.env) :: starEach [] X.env := by rfl) : PDN X tb (.Call (.Name "sorted" p) [a] [] pos) (yE fs) :=
 dW (jY (An.or zO) hg hm PyProof.Rows.boot_sorted ha (by decide) (by decide) he (by rfl)) λ σ H Q zq1 => by
  obtain ⟨W, δ, ds, μ', e, ok, hd, hf, k⟩ := zq1
  unfold yE at hf
  obtain ⟨⟨xs, μ1⟩, e1, e2⟩ := Option.bind_eq_some_iff.mp hf
  match xs, e1, e2 with
  | [x], e1, e2 =>
   obtain ⟨es, e3, e4⟩ := Option.bind_eq_some_iff.mp (show (sr x μ1).bind (λ ds => (uN ds).map λ es => (es, μ1)) = some (ds, μ') from e2)
   obtain ⟨os, e5, e6⟩ := Option.map_eq_some_iff.mp e4
   cases e6
   refine ⟨W, δ, [x], _, e, ok, hd, e1, λ vs W1 ok1 l1 m1 d1 => ?_⟩
   obtain ⟨v, rfl, dv⟩ := aF.one d1
   obtain ⟨a, ys, rfl, q, r⟩ := uC ok1 dv (by rw [m1]; exact e3)
   have hlen := aF.length r
   unfold uN at e5
   split at e5
   .rename_i h64
    split at e5
    .rename_i ns hn
     cases e5
     have := pB hn
     subst this
     have hy := oK r
     subst hy
     exact .inl ⟨a, ns, rfl, SqL.of q, by simpa using h64, λ l hl => k l _ W1 ok1 l1 m1 hl (vG _)⟩
    .split at e5
     .rename_i kss hk
      split at e5
      .rename_i hev
       cases e5
       have hk' := yR hk
       have hkl : es.length = kss.length := by rw [hk']; simp
       refine .inr ⟨a, ys, kss, (kss.headD []).length - 1, rfl, SqL.of q, by omega, by omega, λ ks h => ?_, λ i hi => ?_, λ l hl => ?_⟩
       .have := List.all_eq_true.mp hev ks h
        simpa using this
       .have hi' : i < es.length := by omega
        have hik : i < kss.length := by omega
        obtain ⟨u, eu, du⟩ := aF.get r (List.getElem?_eq_getElem hi')
        have e7 : es[i] = .tup ((kss.getD i []).map .int) := by
         have : kss.getD i [] = kss[i] := by simp [List.getD, hik]
         rw [this]
         simp [hk']
        rw [e7] at du
        obtain ⟨b, zs, rfl, qb, rb⟩ := iB du
        have hz := oK rb
        subst hz
        refine ⟨b, ?_, SqT.fz qb⟩
        rw [List.getD_eq_getElem?_getD, eu]; rfl
       .rw [hlen] at k
        exact k l _ W1 ok1 l1 m1 hl (tG r _)
      .cases e5
     .cases e5
   .cases e5
end L3
namespace L2
open PySem PySem.Spec PyProof.Rows PySem.W
abbrev Az (X : Cx) (scope : Scope) (q : Str) (C f : Addr) (code : Value) : Env := newEnv scope C mainGlobals (bT X.env scope.names []) q (some f) code none builtinsNs
def oN (X : Cx) (A' : Around) (x : Str) (cap : List Str) (scope : Scope) (q : Str) (f : Addr) (code : Value) (s : Shared) (H : Hp) : Cx where
 prog := X.prog
 w := X.w
 K := X.K
 mg := X.mg
 base := X.base
 A := A'.deeper (Az X scope q s.heap.objs.size f code)
 N := [x] ++ cap
 s₀ := s
 H₀ := H
 env := Az X scope q s.heap.objs.size f code
 outer := X.stack
 stack := Az X scope q s.heap.objs.size f code :: X.stack
 ex := []
 fn := λ y => y == x
 calm := true
 pn := []
 xe := λ _ _ => False
section
variable {X : Cx} {pins : List (Addr × Obj)} {σ : St} {H : Hp} {s : Shared} {x : Str} {cap : List Str} {capI : List Nat} {scope : Scope}
theorem Inv.lam {A' : Around} {h1 : Heap} {q : Str} {f : Addr} {code u : Value} {y : V} {tk : Nat} (I : Inv X pins σ H s) (B : dI X [x] cap capI scope) (hx : scope.names.lookup x = some .local) (hown : (x, NameKind.free) ∉ scope.names) (hnc : ∀ y ∈ scope.names, y.2 ≠ .cell)
  (hcx : x ∉ cap) (keep : ∀ b o, s.heap.get? b = some o -> h1.get? b = some o) (hm : h1.Ns s.heap.objs.size (λ z => [(x, u)].reverse.lookup z)) (hAf : A'.frames = some X.stack) (hAh : A'.handled = none) (ry : RelV y u) :
  Inv (oN X A' x cap scope q f code s H) [] (some y :: jQ σ capI) H { s with heap := h1, toks := tk } := by
 have clo_old : ∀ p ∈ bT X.env scope.names [], X.env.cells.lookup p.1 = some p.2 := λ p hp => (jR hp).elim (λ z => by simp at z) id
 have old_lt : ∀ z c, X.env.cells.lookup z = some c -> c < s.heap.objs.size := λ z c e => let ⟨v, q⟩ := I.cell z c e; q.lt
 have csm : ∀ z c, (bT X.env scope.names []).lookup z = some c -> X.env.cells.lookup z = some c /\ c < s.heap.objs.size := λ z c e => by
  have q := clo_old _ (PySem.mem_of_lookup e)
  exact ⟨q, old_lt _ _ q⟩
 have fresh : H s.heap.objs.size = none := I.hok.fresh (Nat.le_refl _)
 have noA : ∀ b : Addr, b ∉ (oN X A' x cap scope q f code s H).ex := λ b z => absurd (show b ∈ ([] : List Addr) from z) (by simp)
 refine ⟨⟨I.ok.mod, B.kind, rfl, rfl, Nat.le_refl _, ?_, ?_, ?_, λ _ => hAh, Around.frames_deeper hAf, .inr ⟨rfl, rfl⟩, λ b z => absurd z (noA b), I.bs, Nat.le_trans I.ok.bsz I.sz, λ b _ _ => noA b, λ b z => absurd z (noA b), I.stack, I.stkFree⟩, rfl, GK.refl I.bare.bare, Un.kept keep, ?_, ?_, fresh, ?_, ?_, I.hok.kept keep, ?_⟩
 .intro y z c e1 e2
  exact I.ok.inj y z c (csm y c e1).1 (csm z c e2).1
 .intro y hy
  have hy' : scope.names.lookup y = some .cell ∨ scope.names.lookup y = some .free := hy
  rcases hy' with e | e
  .exact absurd rfl (hnc _ (PySem.mem_of_lookup e))
  .have q := PySem.mem_of_lookup e
   obtain ⟨c, hc⟩ := B.cells I _ q rfl
   exact ⟨c, jn hc (.inl q)⟩
 .intro z c hz e
  exfalso
  have hz : z = x := by simpa [oN] using hz
  subst hz
  have q : (bT X.env scope.names []).lookup z = none := by
   rw [mK λ k hk => by rintro rfl; exact hown hk]; rfl
  have e' : (bT X.env scope.names []).lookup z = some c := e
  rw [q] at e'; cases e'
 .obtain ⟨m', hn, hl⟩ := I.loc
  refine ⟨_, hm, λ i z v e1 e2 hv => ?_⟩
  cases i with
  | zero =>
   have e1 : some x = some z := e1
   cases e1
   have e2 : some (some y) = some (some v) := e2
   cases e2
   exact ⟨u, ry, .inl ⟨hx, by simp⟩⟩
  | succ i =>
   have e1' : cap[i]? = some z := e1
   have e2' : (jQ σ capI)[i]? = some (some v) := e2
   obtain ⟨i0, q1, q2⟩ := qg e2'
   obtain ⟨y', q3, q4, q5⟩ := B.caps.get q1
   rw [e1'] at q3
   cases q3
   have hxf : (z, NameKind.free) ∈ scope.names := B.cfr z (List.mem_of_getElem? e1')
   have vis : Vis X.env.scope z := by
    rcases q5 with q5 | q5
    .exact .inr (.inl q5)
    .exact .inr (.inr q5)
   obtain ⟨w, rw', lk⟩ := hl i0 z v q4 q2 vis
   refine ⟨w, rw', .inr ⟨.inr (cR B.nd hxf), ?_⟩⟩
   rcases lk with ⟨k, _⟩ | ⟨_, c, ec, hc⟩
   .rcases q5 with q5 | q5 <;> rw [k] at q5 <;> cases q5
   .exact ⟨c, jn ec (.inl hxf), hc.keeps keep⟩
 .intro z c e
  obtain ⟨v, q⟩ := I.cell z c (csm z c e).1
  exact ⟨v, q.keeps keep⟩
 .intro z c e
  exact I.freeC z c (csm z c e).1
 .intro p hp
  exact absurd (show p ∈ ([] : List (Addr × Obj)) from hp) (by simp)
 .show (some y :: jQ σ capI).length = ([x] ++ cap).length
  unfold jQ
  rw [List.length_cons, List.length_map, B.caps.length, List.length_append]
  simp [Nat.add_comm]
end
abbrev Li (qual : Str) (params : Arguments) (body : Expr) (scope : Scope) (cl : List (Str × Addr)) (pm cv ct : Value) : FuncData := kla_fn "<lambda>" qual params body scope cl pm cv ct
theorem Dv {prog : Program} {w : World} {A : Around} {R : Result -> Shared -> Prop} {s : Shared} {a c : Addr} {args : Args} {o oc : Obj} {fd : FuncData} {body : Expr} {vs : Array Value} {u : Value} (hroom : A.depth < recursionLimit) (ho : s.heap.get? a = some o) (hd' : o.data = .func fd)
  (hco : fd.scope.isCoroutine = false) (hgen : fd.scope.isGenerator = false) (hbody : fd.body = .expr body) (hc : fd.code = .ref c) (hoc : s.heap.get? c = some oc) (hdc : oc.data = .fields vs) (hu : vs[1]? = some u)
  (h : ∀ q : Str, wpAny (model prog w) A.in1 (bindArgs fd args) (λ binds s₁ =>
   wpAny (model prog w) A.in1 (newFunctionEnv fd.scope fd.globals fd.closure binds q (some a) fd.code none fd.builtins)
    (λ env s₂ => s₂.heap.NoLimit /\ codeAny (model prog w) A (.expr body env) R s₂) (λ e s' => R (.error e) s') s₁) (λ e s' => R (.error e) s') s) :
  codeAny (model prog w) A (.call (.ref a) args) R s := by
 refine codeAny_of_tree ?_
 show wpAny _ A.in1 (callAny (.ref a) args) _ _ s
 simp only [callAny]
 refine wpAny_bind (wpAny_load ho ?_)
 simp only [hd', callFunction, hco, hgen, hbody, hc]
 rw [hc] at h
 refine wpAny_bind (m := field (.ref c) 1) (wpAny_field hoc hdc hu ?_)
 have go : ∀ q : Str, wpAny (model prog w) A.in1 (do
   let env <- newFunctionEnv fd.scope fd.globals fd.closure (<- bindArgs fd args) q (some a) (.ref c) none fd.builtins
   enterFrame
   again (.expr body env)) (λ fin s' => match fin with
    | .done f => R (.ok f) s'
    | .again c' => c'.quiet = true /\ codeAny (model prog w) A c' R s') (λ e s' => R (.error e) s') s := λ q =>
  wpAny_bind (wpAny_mono (h q) (λ binds s₁ h₁ => wpAny_bind (wpAny_mono h₁ (λ env s₂ h₂ => wpAny_bind (wpAny_enterFrame h₂.1 hroom (wpAny_pure (And.intro rfl h₂.2)))) λ _ _ h' => h')) λ _ _ h' => h')
 cases u with
 | str q t => exact wpAny_bind (wpAny_pure (go _))
 | _ => exact wpAny_bind (wpAny_pure (go _))
section
variable {X : Cx} {pins : List (Addr × Obj)} {σ : St} {H : Hp} {s : Shared} {x : Str} {cap : List Str} {capI : List Nat} {scope : Scope} {params : Arguments} {body : Expr} {te : TE} {k : Nat}
structure Br (X : Cx) (x : Str) (cap : List Str) (capI : List Nat) (scope : Scope) (params : Arguments) (body : Expr) : Prop where
 blk : dI X [x] cap capI scope
 par : scope.names.lookup x = some .local
 own : (x, NameKind.free) ∉ scope.names
 noc : ∀ y ∈ scope.names, y.2 ≠ .cell
 ncap : x ∉ cap
 co : scope.isCoroutine = false
 gen : scope.isGenerator = false
 dflt : defaultsOf params X.env = ([], [])
 bind : ∀ (qual : Str) (cl : List (Str × Addr)) (pm cv ct u : Value), bindArgs (Li qual params body scope cl pm cv ct) ⟨[u], []⟩ = pure [(x, u)]
abbrev sZ (X : Cx) (qual : Str) (params : Arguments) (body : Expr) (scope : Scope) (pm cv ct : Value) : Obj := { cls := .type "function", data := .func (Li qual params body scope (bT X.env scope.names []) pm cv ct) }
theorem Jc {f : Addr} {qual : Str} {pm cv ct u : Value} {y : V} {Q : VK} (hr : dO (k + 1) X.A) (hc : X.calm = true) (L : Br X x cap capI scope params body)
  (he : ∀ q f code s H, PE (oN X X.A.in1.in1 x cap scope q f code s H) body te) (I : Inv X pins σ H s) (ho : s.heap.get? f = some (sZ X qual params body scope pm cv ct)) (hcv : vY H cv) (ry : RelV y u) (hq : te (some y :: jQ σ capI) H Q) :
  wpAny (model X.prog X.w) X.A.in1.in1 (call (.ref f) [u]) (EP X pins σ Q) (λ _ _ => False) s := by
 obtain ⟨c, oc, vs, w, rfl, hc1, hc2, hc3⟩ := hcv
 have hoc : s.heap.get? c = some oc := (I.hok c _ hc1).1
 obtain ⟨a1, a2⟩ := wX I hc (A' := X.A.in1.in1) rfl rfl
 have hdp := hr.dp
 refine wpAny_call (Dv (show X.A.depth < recursionLimit by omega) ho rfl L.co L.gen rfl rfl hoc hc2 hc3 λ q => ?_)
 rw [L.bind]
 refine wpAny_pure (wpAny_newFunctionEnv L.noc (λ z hz => by rw [List.mem_singleton.mp hz]; exact L.par) (λ h₁ hns hsb => ?_) L.blk.kind)
 have keep : ∀ b o, s.heap.get? b = some o -> h₁.get? b = some o := λ b o e => hsb.extBut b o (Nat.ne_of_lt (Heap.lt_size e)) (Heap.get?_push_of_some _ e)
 refine ⟨I.nolimit.keeps keep, ?_⟩
 have J := I.lam (A' := X.A.in1.in1) (q := q) (f := f) (code := .ref c) (tk := s.toks + [(x, u)].length) L.blk L.par L.own L.noc L.ncap keep hns a2 a1 ry
 exact kla_codeExpr (wpAny_mono (he q f (.ref c) s H [] _ _ H Q J hq) (λ v s' ⟨v', H', J', rv, qv⟩ => I.after ⟨v', H', J'.os, J'.bare, J'.base, J'.hok, rv, qv⟩) λ _ _ z => z.elim)
theorem Gd {c P : Addr} {ps : Array Value} {pos : Pos} {A : Around} {E : Value -> Shared -> Prop} {Q : Value -> Shared -> Prop} (L : Br X x cap capI scope params body) (I : Inv X pins σ H s) (hcode : X.env.code = .ref c) (hd : CodeHd X.base c P) (hP : H P = some (.tbl ps)) (ht : TOk H ps)
  (h : ∀ f s' H' ps' pm cv ct, Bc s.heap.objs.size P ps ps' H H' -> Inv X (pins ++ [(f, sZ X (X.env.qual ++ "<lambda>") params body scope pm cv ct)]) σ H' s' -> vY H' cv -> Q (.ref f) s') :
  wpAny (model X.prog X.w) A (eval (.Lambda params body scope pos) X.env) Q E s := by
 have hd' : CodeHd s.heap c P := hd.keeps I.bk
 have oP : s.heap.get? P = some (tabObj ps) := I.hok P _ hP
 have nb : ∀ b o, X.base.get? b = some o -> b ≠ P := λ b o e z => by
  have := (I.bs b o e).2
  rw [z, hP] at this; cases this
 obtain ⟨og, es, ep, eg, edg, _⟩ := id I.mod.glob
 obtain ⟨bm, ob, b1, b2, b3, b4, b5, b6⟩ := I.mod.bmain
 have hbG : bm ≠ mainGlobals := λ z => by
  rw [z, eg] at b3; cases b3; rw [edg] at b6; cases b6
 have hBA : s.heap.BuiltinsAt X.mg P := ⟨bm, ob, b1, b2, hbG, nb _ _ b3, I.bk _ _ b3, b4, b5, b6⟩
 have hcl := iC (L.blk.cells I)
 have hg := I.mod.glob.keeps I.bk
 have fin : ∀ {H' : Hp} {h' : Heap} {tk : Nat} {ps' : Array Value} {pm cv ct : Value}, Bc s.heap.objs.size P ps ps' H H' -> Inv X pins σ H' { s with heap := h', toks := tk } -> vY H' cv ->
   Q (.ref h'.objs.size) { s with heap := h'.push (sZ X (X.env.qual ++ "<lambda>") params body scope pm cv ct), toks := tk } := λ {H' h' tk ps' pm cv ct} hG I' hcv => by
  have I2 : Inv X pins σ H' { s with heap := h'.push (sZ X (X.env.qual ++ "<lambda>") params body scope pm cv ct), toks := tk } := I'.kept (t' := tk) λ b o e => Heap.get?_push_of_some _ e
  refine h _ _ H' ps' pm cv ct hG (I2.more λ p hp => ?_) hcv
  rw [List.mem_singleton.mp hp]
  exact ⟨Heap.get?_push_size _ rfl, I'.hok.fresh (Nat.le_refl _), Nat.ne_of_gt I'.lt, I'.nofs (Nat.le_refl _), λ v => by intro z; cases z⟩
 refine kla_eval L.dflt ?_
 cases hnf : codeAmong pos ps.toList with
 | some cv =>
  refine kla_makeFunctionHit hcl I.ok.glob hg hcode hd' oP ht.1 hnf hBA λ ctv h' tk hk hsz => ?_
  exact fin ⟨hP, ⟨#[], by simp⟩, ht, λ _ _ _ e => e, λ _ _ e => e⟩ (I.kept hk) (ht.2 _ _ hnf)
 | none =>
  refine kla_makeFunction hcl I.ok.glob hg hcode hd' oP ht.1 hnf (nb _ _ eg) hBA λ c' ctv h' tk hx hge hlt hrec htb => ?_
  obtain ⟨c2, oc, vs, t, e2, hoc, hdd, hv⟩ := hrec
  cases e2
  refine vz I hP ht hge hoc hdd hv (λ b o hb e => hx b o hb e) htb λ hG I' => fin hG I' ⟨c', oc, vs, _, rfl, dw, hdd, hv⟩
end
theorem FZ {X : Cx} {x : Str} {cap : List Str} {scope : Scope} {q : Str} {f : Addr} {code : Value} {s : Shared} {H : Hp} : ∀ k, dO (k + 1) X.A -> dO k (oN X X.A.in1.in1 x cap scope q f code s H).A := λ k r =>
 ⟨r.hd, by have := r.dp; show X.A.depth + 1 + 3 * k + 5 < _; omega, by have := r.un; show X.A.units + 1 + 1 + 3 + 16 * k + 200 < _; omega⟩
section
variable {X : Cx} {pins : List (Addr × Obj)} {σ : St} {H : Hp} {s : Shared}
theorem Inv.trackNew {c : Addr} {o : Obj} {u : HO} (I : Inv X pins σ H s) (ho : s.heap.get? c = some o) (hn : H c = none) (hnew : X.s₀.heap.objs.size <= c) (hL : c ≠ X.env.locals) (hc : ∀ x d, X.env.cells.lookup x = some d -> d ≠ c) (hp : ∀ p ∈ X.pn ++ pins, p.1 ≠ c)
  (new : gV X.prog X.w (upd H c u) s.heap c u) : Inv X pins σ (upd H c u) s := by
 have ne : ∀ b u, H b = some u -> b ≠ c := λ b u e z => by rw [z, hn] at e; cases e
 refine ⟨I.ok, I.os, I.bare, ⟨I.base.keep, I.base.slot, λ b ob e n hx => ?_, I.base.there, λ b xs e => ?_, λ b ob u e => ?_, λ b ps e => ?_⟩, I.loc, I.cell, ?_, λ x d e => ?_, λ p hp' => ?_, λ a u e => ?_, I.len⟩
 .rw [aU (Nat.ne_of_lt (Nat.lt_of_lt_of_le (Heap.lt_size e) hnew))]; exact I.base.free b ob e n hx
 .have q := I.base.tups b xs e
  rw [aU (ne _ _ q)]; exact q
 .have q := I.base.frzs b ob u e
  rw [aU (ne _ _ q)]; exact q
 .obtain ⟨more, q⟩ := I.base.tbls b ps e
  exact ⟨more, by rw [aU (ne _ _ q)]; exact q⟩
 .rw [aU (Ne.symm hL)]; exact I.free
 .rw [aU (hc x d e)]; exact I.freeC x d e
 .obtain ⟨a, b, r⟩ := I.pin p hp'
  exact ⟨a, by rw [aU (hp p hp')]; exact b, r⟩
 .by_cases z : a = c
  .subst z
   rw [dw] at e; cases e
   exact new
  .rw [aU z] at e
   exact (I.hok a u e).stay (λ b v _ q => q) (λ b q => by rw [aU (ne _ _ q)]; exact q) λ b xs q => by rw [aU (ne _ _ q)]; exact q
structure New (X : Cx) (pins : List (Addr × Obj)) (a : Addr) : Prop where
 s0 : X.s₀.heap.objs.size <= a
 loc : a ≠ X.env.locals
 fs : a ∉ X.fs
 cel : ∀ x d, X.env.cells.lookup x = some d -> d ≠ a
 pin : ∀ p ∈ X.pn ++ pins, p.1 ≠ a
theorem Inv.newA (I : Inv X pins σ H s) {a : Addr} (h : s.heap.objs.size <= a) : New X pins a :=
 ⟨Nat.le_trans I.sz h, Nat.ne_of_gt (Nat.lt_of_lt_of_le I.lt h), I.nofs h, λ x d e => by
  obtain ⟨v, o, e2, _⟩ := I.cell x d e
  exact Nat.ne_of_lt (Nat.lt_of_lt_of_le (Heap.lt_size e2) h), λ p hp => Nat.ne_of_lt (Nat.lt_of_lt_of_le (Heap.lt_size (I.pin p hp).1) h)⟩
theorem Inv.chg {h' : Heap} {a : Addr} {tk : Nat} (I : Inv X pins σ H s) (N : New X pins a) (hn : H a = none) (k : ∀ b o, b ≠ a -> s.heap.get? b = some o -> h'.get? b = some o) : Inv X pins σ H { s with heap := h', toks := tk } :=
 I.turned k hn N.loc (.inr N.s0) N.cel N.pin
theorem Ad {A : Around} {E : Value -> Shared -> Prop} {P : PySem.Fin -> Shared -> Prop} {D f : Addr} {n : Nat} {xs : List V} {vs : List Value} {W : Nat -> List Int -> Hp -> Prop} (hA : A = X.A.in1.in1) (I : Inv X pins σ H s) (N : New X pins D) (ho : s.heap.get? D = some (seqObj "list" vs.toArray n)) (hn : H D = none) (r : Vals xs vs) (h64 : xs.length < 64) (w0 : W 0 [] H)
  (turn : ∀ (i : Nat) (y : V) (u : Value) (kz : List Int) (Hi : Hp) (s' : Shared) (own : List (Addr × Obj)), xs[i]? = some y -> RelV y u -> W i kz Hi -> Inv X (pins ++ own) σ Hi s' -> wpAny (model X.prog X.w) X.A.in1.in1 (call (.ref f) [u]) (EP X (pins ++ own) σ λ v H' => ∃ k, v = .int k /\ W (i + 1) (kz ++ [k]) H') (λ _ _ => False) s')
  (h : ∀ kz H' s', W xs.length kz H' -> H' D = none -> Inv X pins σ (upd H' D (.lst ((ju (λ i j => decide (kz.getD i 0 < kz.getD j 0)) xs.length).map λ i => xs.getD i .non))) s' -> P (.done (.ret .none)) s') :
  wpAny (model X.prog X.w) A (ksk_tree D (.ref f) false) P E s := by
 subst hA
 have hl := r.length
 have e1 := get?_update_seq ho λ _ => (#[] : Array Value)
 generalize hc1 : (if (#[] : Array Value).size == vs.toArray.size then n else n + 1) = c1 at e1
 have upd1 := λ (a : Addr) (g : Heap) (q : Array Value -> Array Value) => Heap.SameBut.update g a (Obj.mapSeq q)
 unfold ksk_tree
 refine wpAny_bind (listItems_at ho rfl ?_)
 refine wpAny_bind (listUpdate_at ho rfl ?_ (by rw [List.size_toArray, sizeLine_eq]; omega) (Nat.zero_le _))
 refine wpAny_bind (seqEpoch_at e1 rfl ?_)
 refine wpAny_bind (wpAny_newTuple ?_ (by show vs.length <= _; rw [sizeLine_eq]; omega))
 refine wpAny_bind (wpAny_newList ?_ (Nat.zero_le _))
 refine wpAny_holding ?_
 have I1 : Inv X pins σ H { s with heap := s.heap.update D (Obj.mapSeq λ _ => (#[] : Array Value)), toks := s.toks } := I.chg N hn λ b o hb e => ((upd1 D s.heap _).2 b hb).trans e
 generalize hg4 : (s.heap.update D (Obj.mapSeq λ _ => (#[] : Array Value))).push (seqObj "tuple" vs.toArray 0) = g4
 have I4 : Inv X pins σ H { s with heap := g4, toks := s.toks } := I1.kept (h' := g4) λ b o e => by rw [<- hg4]; exact Heap.get?_push_of_some _ e
 have o4 : g4.get? D = some (seqObj "list" #[] c1) := by rw [<- hg4]; exact Heap.get?_push_of_some _ e1
 show wpAny (model X.prog X.w) X.A.in1.in1 (ksk_rest D (.ref f) false vs.toArray c1 (.ref g4.objs.size)) P E { s with heap := g4.push (seqObj "list" #[] 0) }
 have NK : New X pins g4.objs.size := I4.newA (Nat.le_refl _)
 have hDK : D ≠ g4.objs.size := Nat.ne_of_lt (Heap.lt_size o4)
 have nK : H g4.objs.size = none := I4.hok.fresh (Nat.le_refl _)
 have I5 : Inv X pins σ H { s with heap := g4.push (seqObj "list" #[] 0), toks := s.toks } := I4.kept (h' := g4.push (seqObj "list" #[] 0)) λ b o e => Heap.get?_push_of_some _ e
 have o5 : (g4.push (seqObj "list" #[] 0)).get? D = some (seqObj "list" #[] c1) := Heap.get?_push_of_some _ o4
 have k5 : (g4.push (seqObj "list" #[] 0)).get? g4.objs.size = some (seqObj "list" #[] 0) := Heap.get?_push_size _ rfl
 generalize g4.objs.size = kS at *
 generalize g4.push (seqObj "list" #[] 0) = g5 at *
 have pinIt : ∀ {Hi : Hp} {s' : Shared} {kA : Array Value} {e : Nat}, Inv X pins σ Hi s' -> s'.heap.get? kS = some (seqObj "list" kA e) -> s'.heap.get? D = some (seqObj "list" #[] c1) -> Hi kS = none -> Hi D = none -> Inv X (pins ++ [(kS, seqObj "list" kA e), (D, seqObj "list" #[] c1)]) σ Hi s' := λ {Hi s' kA e} J q1 q2 q3 q4 => J.more λ p hp => by
  rcases List.mem_cons.mp hp with z | z
  .rw [z]; exact ⟨q1, q3, NK.loc, NK.fs, λ v => by intro z; cases z⟩
  .rw [List.mem_singleton.mp z]; exact ⟨q2, q4, N.loc, N.fs, λ v => by intro z; cases z⟩
 unfold ksk_rest
 refine wpAny_bind (wpAny_rule ?_)
 rw [List.forIn_toArray]
 refine wpAny_bind (ksk_fold (λ i s' => ∃ Hi kz kA e, Inv X (pins ++ [(kS, seqObj "list" kA e), (D, seqObj "list" #[] c1)]) σ Hi s' /\ W i kz Hi /\ IntsAre kA.toList kz /\ kz.length = i) vs 0 _ ⟨H, [], #[], 0, pinIt I5 k5 o5 nK hn, w0, .nil, rfl⟩ ?step ?done)
 case step =>
  rintro j v s' hv ⟨Hi, kz, kA, e, J, w, hk, hkl⟩
  simp only [Nat.zero_add] at w hkl ⊢
  obtain ⟨y, hy, ry⟩ : ∃ y, xs[j]? = some y /\ RelV y v := by
   have hj : j < vs.length := (List.getElem?_eq_some_iff.mp hv).1
   have hj' : j < xs.length := by omega
   have rl := oZ r j
   refine ⟨xs[j], List.getElem?_eq_getElem hj', ?_⟩
   have a1 : xs.getD j V.non = xs[j] := by simp [List.getD, hj']
   have a2 : vs.getD j Value.none = v := by simp [List.getD, hv]
   rw [a1, a2] at rl
   exact rl
  have hj : j < xs.length := (List.getElem?_eq_some_iff.mp hy).1
  refine wpAny_bind (wpAny_attempt (wpAny_mono (turn j y v kz Hi s' _ hy ry w J) (λ u s2 hu => ?_) λ _ _ z => z.elim))
  obtain ⟨z, H2, J2, rz, m, hz, w2⟩ := hu
  subst hz
  obtain ⟨t, rfl⟩ := rz
  have pk := J2.pin (kS, seqObj "list" kA e) (by simp)
  have pd := J2.pin (D, seqObj "list" #[] c1) (by simp)
  have hkA : kA.size <= 64 := by
   have := hk.length
   rw [Array.length_toList] at this
   omega
  have s1 := upd1 kS s2.heap (·.push (.int m t))
  have q1 := get?_update_seq pk.1 (·.push (.int m t))
  try dsimp only
  refine wpAny_bind (listUpdate_at pk.1 rfl ?_ (by rw [sizeLine_eq]; omega) (Nat.le_trans (Nat.le_of_eq (Array.size_push ..)) (by rw [sizeLine_eq]; omega)))
  have ea : (kA.push (Value.int m t)).toList = kA.toList ++ [Value.int m t] := by simp
  have J3 : Inv X pins σ H2 s2 := J2.unpinned
  refine wpAny_pure ⟨rfl, H2, kz ++ [m], kA.push (.int m t), _, pinIt (J3.chg (tk := s2.toks) NK pk.2.1 λ b o hb e => (s1.2 b hb).trans e) q1 ((s1.2 D hDK).trans pd.1) pk.2.1 pd.2.1, w2, by rw [ea]; exact ksk_snoc hk, by simp [hkl]⟩
 case done =>
  rintro s' ⟨Hi, kz, kA, e, J, w, hk, hkl⟩
  rw [Nat.zero_add, <- hl] at w
  have hkl : kz.length = xs.length := by omega
  have pk := J.pin (kS, seqObj "list" kA e) (by simp)
  have pd := J.pin (D, seqObj "list" #[] c1) (by simp)
  have J3 : Inv X pins σ Hi s' := J.unpinned
  have hkA : kA.size = vs.length := by
   have := hk.length
   rw [Array.length_toList] at this
   omega
  try dsimp only
  refine wpAny_bind (listItems_at pk.1 rfl ?_)
  have tail : ∀ st : SortSt, failedOf st = none -> (arrOf st).map (·.2) = (((ju (λ i j => decide (kz.getD i 0 < kz.getD j 0)) xs.length).map λ i => vs.getD i Value.none).toArray) -> wpAny (model X.prog X.w) X.A.in1.in1 (ksk_tail D false c1 (.ref kS) st) P E s' := λ st hf har => by
   have s1 := upd1 kS s'.heap λ _ => (#[] : Array Value)
   have q1 := (s1.2 D hDK).trans pd.1
   have hsz : ((ju (λ i j => decide (kz.getD i 0 < kz.getD j 0)) xs.length).map λ i => vs.getD i Value.none).toArray.size = vs.length := by rw [List.size_toArray, List.length_map, jA, hl]
   unfold ksk_tail
   rw [har]
   try dsimp only
   refine wpAny_bind (listUpdate_at pk.1 rfl ?_ (by rw [hkA, sizeLine_eq]; omega) (Nat.zero_le _))
   refine wpAny_bind (wpAny_letGo ?_)
   refine wpAny_bind (seqEpoch_at q1 rfl ?_)
   have s2 := upd1 D (s'.heap.update kS (Obj.mapSeq λ _ => (#[] : Array Value))) λ _ => ((ju (λ i j => decide (kz.getD i 0 < kz.getD j 0)) xs.length).map λ i => vs.getD i Value.none).toArray
   have q2 := get?_update_seq q1 λ _ => ((ju (λ i j => decide (kz.getD i 0 < kz.getD j 0)) xs.length).map λ i => vs.getD i Value.none).toArray
   refine wpAny_bind (listUpdate_at q1 rfl ?_ (Nat.zero_le _) (Nat.le_trans (Nat.le_of_eq hsz) (by rw [sizeLine_eq]; omega)))
   rw [hf]
   simp only [bne_self_eq_false, Bool.false_eq_true, if_false]
   have J4 : Inv X pins σ Hi { s' with heap := s'.heap.update kS (Obj.mapSeq λ _ => (#[] : Array Value)), toks := s'.toks } := J3.chg NK pk.2.1 λ b o hb e => (s1.2 b hb).trans e
   have J5 := J4.chg (tk := s'.toks) N pd.2.1 λ b o hb e => (s2.2 b hb).trans e
   refine wpAny_pure (h kz Hi _ w pd.2.1 (J5.trackNew q2 pd.2.1 N.s0 N.loc N.cel N.pin ⟨by rw [List.length_map, jA, sizeLine_eq]; omega, _, _, rG r _, q2⟩))
  unfold ksk_end
  try dsimp only
  simp only [Bool.false_eq_true, if_false]
  by_cases h2 : vs.toArray.size < 2
  .rw [if_pos h2, if_pos h2]
   refine wpAny_bind (wpAny_pure ?_)
   rw [StateT.run_pure]
   refine wpAny_bind (wpAny_pure ?_)
   try dsimp only
   refine tail _ rfl ?_
   rw [List.size_toArray] at h2
   unfold ju
   rw [if_neg (by omega), hl, range_getD]
   show (kA.zip vs.toArray).map (λ p => p.2) = vs.toArray
   apply Array.toList_inj.mp
   rw [Array.toList_map, ksk_zip, List.map_snd_zip (by simp [hkA])]
  .rw [if_neg h2, if_neg h2]
   rw [List.size_toArray] at h2
   rw [ksk_kind hk (by omega)]
   refine wpAny_bind (wpAny_pure ?_)
   have hkt : kA.toList.length = vs.length := by rw [Array.length_toList, hkA]
   have good : (kas_sort vs.length).kasWp (kas_ask X.prog X.w X.A.in1.in1 oneType' kA.toList) (λ p s'' => p = uw (λ i j => decide (kz.getD i 0 < kz.getD j 0)) (kas_sort vs.length) /\ s'' = s') s' :=
    dq.wp (n := vs.length) (R := eQ vs.length) (λ i j C hi hj hC => by
     obtain ⟨t1, g1⟩ := hk.get i (kz.getD i 0) (by simp [List.getD, hkl, <- hl, show i < xs.length by omega])
     obtain ⟨t2, g2⟩ := hk.get j (kz.getD j 0) (by simp [List.getD, hkl, <- hl, show j < xs.length by omega])
     show wpAny _ _ (keyLt' _ (kA.toList.getD i Value.none) (kA.toList.getD j Value.none)) C _ s'
     have f1 : kA.toList.getD i Value.none = .int (kz.getD i 0) t1 := by
      show (kA.toList[i]?).getD Value.none = _
      rw [g1]; rfl
     have f2 : kA.toList.getD j Value.none = .int (kz.getD j 0) t2 := by
      show (kA.toList[j]?).getD Value.none = _
      rw [g2]; rfl
     rw [f1, f2]
     exact kat_lt_int hC) (qj (by omega)) ⟨rfl, rfl⟩
   have run := kat_run (E := E) (Q := λ st' s'' => s'' = s' /\ failedOf st' = none /\ (arrOf st').map (·.2) = List.toArray ((uw (λ i j => decide (kz.getD i 0 < kz.getD j 0)) (kas_sort vs.length)).toList.map λ i => vs.getD i Value.none)) hkt (by omega) (by omega) (λ p st' s'' a1 a2 a3 a4 => ⟨a4.2, a3, by rw [<- a4.1]; exact kat_snds hkt a2⟩) good
   rw [Array.toArray_toList] at run
   refine wpAny_bind (wpAny_mono run ?_ λ _ _ e => e)
   rintro ⟨⟨⟩, st'⟩ s'' ⟨rfl, hf, har⟩
   try dsimp only
   refine tail st' hf ?_
   rw [har]
   unfold ju
   rw [if_pos (by omega), hl]
end
def Ae (kz : List Int) (xs : List V) : List V := (ju (λ i j => decide (kz.getD i 0 < kz.getD j 0)) xs.length).map λ i => xs.getD i .non
def Nx (P : Addr) (capI : List Nat) (ta te : TE) : TE := λ σ H Q => ta σ H λ v H1 => ∃ (a : Addr) (xs : List V) (ps : Array Value), v = .ref a /\ H1 a = some (.lst xs) /\ xs.length < 64 /\ H1 P = some (.tbl ps) /\ TOk H1 ps /\
 ∀ lo H2 ps', Bc lo P ps ps' H1 H2 -> ∃ W : Nat -> List Int -> Hp -> Prop, W 0 [] H2 /\ (∀ i kz Hi, W i kz Hi -> (∀ c o, H2 c = some (.frz o (.own 0)) -> Hi c = some (.frz o (.own 0))) /\ ∀ y, xs[i]? = some y -> te (some y :: jQ σ capI) Hi λ v H' => ∃ k, v = .int k /\ W (i + 1) (kz ++ [k]) H') /\
  ∀ kz H', W xs.length kz H' -> ∀ p, H' p = none -> Q (.ref p) (upd H' p (.lst (Ae kz xs)))
theorem Hv {X : Cx} {x : Str} {cap : List Str} {capI : List Nat} {scope : Scope} {params : Arguments} {body e : Expr} {ta te : TE} {k : Nat} {P : Addr} {p pos lpos kpos : Pos} (hc : X.calm = true) (hr : dO (k + 1) X.A) (hm : X.mg "sorted" = none) (L : Br X x cap capI scope params body) (htb : ∃ c, X.env.code = .ref c /\ CodeHd X.base c P) (ha : PE X e ta)
  (he : ∀ q f code s H, (∀ k, dO (k + 1) X.A -> dO k (oN X X.A.in1.in1 x cap scope q f code s H).A) -> PE (oN X X.A.in1.in1 x cap scope q f code s H) body te) (hg : Gl X "sorted" := by rfl) (hs : starEach [e] X.env = (false, eval e X.env) :: starEach [] X.env := by rfl) :
  PE X (.Call (.Name "sorted" p) [e] [⟨some "key", .Lambda params body scope lpos, kpos⟩] pos) (Nx P capI ta te) := by
 intro pins s σ H Q I h
 obtain ⟨c, hcode, hhd⟩ := htb
 refine wpAny_Call_Name_kw (lz I hg hm PyProof.Rows.boot_sorted ?_ (by decide) (by decide))
 refine PyProof.Rows.callWith_kw (rm (thn (ha pins s σ H _ I h) λ u s1 hu => ?_) hs) (by rw [hs]; rfl) (by rw [hs]; rfl)
 obtain ⟨v, H1, I1, r1, a, xs, ps, rfl, hal, h64, hP, ht, hW⟩ := hu
 cases r1
 show wpAny _ _ (evalAll [(do let v <- eval (.Lambda params body scope lpos) X.env; standAt pos; pure v)]) _ _ s1
 refine wpAny_evalAll_cons (wpAny_bind (Gd L I1 hcode hhd hP ht λ f s2 H2 ps' pm cv ct hG I2 hcv => wpAny_bind (wpAny_standAt (wpAny_pure (wpAny_evalAll_nil ?_)))))
 show wpAny _ _ (call (.builtin "sorted") [.ref a] [(Str.ofString "key", .ref f)]) _ _ s2
 obtain ⟨W, w0, wt, wf⟩ := hW _ H2 ps' hG
 have hal2 : H2 a = some (.lst xs) := hG.keep a _ (yD hal hP (by intro z; cases z)) hal
 obtain ⟨hz, its, n, r, hlen, hobj⟩ := I2.lstM hal2
 refine call_function_entry_kw kind_sorted plain_sorted entry_sorted (ksk_s1 _ _) ?_
 unfold Builtin.«sorted»
 refine wpAny_bind (m := checkCount "sorted" 1 1 _) (wpAny_pure ?_)
 refine wpAny_bind (collect_list (vs := its) ⟨_, hobj, rfl, n, rfl⟩ ?_ (by rw [sizeLine_eq]; omega))
 refine wpAny_bind (wpAny_newList ?_ (by rw [sizeLine_eq]; omega))
 generalize hg1 : (s2.heap.push (seqObj "list" #[] 0)).update s2.heap.objs.size (Obj.mapSeq (· ++ its.toArray)) = g1
 have k1 : ∀ b o, s2.heap.get? b = some o -> g1.get? b = some o := λ b o q => by
  rw [<- hg1, Heap.get?_update_ne _ _ _ _ (Nat.ne_of_lt (Heap.lt_size q)), Heap.get?_push_ne _ _ _ (Nat.ne_of_lt (Heap.lt_size q))]
  exact q
 have z1 : g1.objs.size = s2.heap.objs.size + 1 := by rw [<- hg1, Heap.size_update, size_push']
 have k2 : ∀ b o, s2.heap.get? b = some o -> (g1.push (seqObj "list" its.toArray 0)).get? b = some o := λ b o q => Heap.get?_push_of_some _ (k1 b o q)
 have o2 : (g1.push (seqObj "list" its.toArray 0)).get? g1.objs.size = some (seqObj "list" its.toArray 0) := Heap.get?_push_size _ rfl
 show wpAny _ _ _ _ _ { s2 with heap := g1.push (seqObj "list" its.toArray 0) }
 have hle : s2.heap.objs.size <= g1.objs.size := by omega
 generalize g1.push (seqObj "list" its.toArray 0) = g2 at *
 generalize g1.objs.size = D at *
 have I3 := I2.kept (t' := s2.toks) k2
 refine wpAny_bind (wpAny_holding (wpAny_call_entry_kw slot_list_sort ⟨_, o2, rfl⟩ entry_list_sort ?body (ksk_l1 _ _)))
 case body =>
  show wpAny (model X.prog X.w) X.A.in1.in1 (Builtin.«list.sort» ⟨[.ref D], [(Str.ofString "key", .ref f)]⟩) _ _ _
  rw [ksk_t1]
  refine Ad (W := W) rfl I3 (I2.newA hle) o2 (I2.hok.fresh hle) r h64 w0 (λ i y u kz Hi s' own hy ry w J => ?_) λ kz H' s' w hD J => ⟨_, rfl, ?_⟩
  .obtain ⟨hfz, hte⟩ := wt i kz Hi w
   obtain ⟨c', oc, vs', w', e1, e2, e3⟩ := id hcv
   exact Jc hr hc L (λ q f code s H => he q f code s H FZ) J (J.pin (f, sZ X (X.env.qual ++ "<lambda>") params body scope pm cv ct) (by simp)).1 ⟨c', oc, vs', w', e1, hfz _ _ e2, e3⟩ ry (hte y hy)
  .exact wpAny_pure ⟨_, rfl, .ref D, _, J.unpinned, rfl, wf kz H' w D hD⟩
end L2
namespace L3
open PySem PySem.Spec PyProof.Rows L2
def oM : List eN -> Mu -> Option (List Int × Mu)
 | [], μ => some ([], μ)
 | t :: r, μ => (t μ).bind λ x => match x.1 with
  | .int j => (oM r x.2).map λ q => (j :: q.1, q.2)
  | _ => none
def mF (kz : List Int) (ds : List D) : List D := (ju (λ i j => decide (kz.getD i 0 < kz.getD j 0)) ds.length).map λ i => ds.getD i .non
def sY (own : List Str) (capI : List Nat) (f fe : EF) : LF := λ δ μ => (f δ μ).bind λ r => (sr r.1 r.2).bind λ ds => if ds.length < 64 then (oM (ds.map (thG (hName 0) fe (dD own δ capI))) r.2).map λ q => (mF q.1 ds, q.2) else none
theorem Dk {X : Cx} {tb : List Addr} {x : Str} {cap : List Str} {capI : List Nat} {scope : Scope} {params : Arguments} {body e : Expr} {f fe : EF} {k : Nat} {P : Addr} {p pos lpos kpos : Pos} (hc : X.calm = true) (hr : dO (k + 1) X.A) (hm : X.mg "sorted" = none) (L : Br X x cap capI scope params body) (hP : P ∈ tb) (htb : ∃ c, X.env.code = .ref c /\ PySem.W.CodeHd X.base c P) (ha : PD X tb e f)
  (he : ∀ q f code s H, (∀ k, dO (k + 1) X.A -> dO k (oN X X.A.in1.in1 x cap scope q f code s H).A) -> PD (oN X X.A.in1.in1 x cap scope q f code s H) tb body fe) (hg : Gl X "sorted" := by rfl) (hs : starEach [e] X.env = (false, eval e X.env) :: starEach [] X.env := by rfl) :
  PDN X tb (.Call (.Name "sorted" p) [e] [⟨some "key", .Lambda params body scope lpos, kpos⟩] pos) (sY [x] capI f fe) :=
 dW (Hv (te := tD X.K tb fe) hc hr hm L htb ha he hg hs) λ σ H Q zq1 => by
  obtain ⟨W, δ, ds, μ', e, ok, hd, hf, kk⟩ := zq1
  unfold sY at hf
  obtain ⟨⟨v0, μ1⟩, e1, hf⟩ := Option.bind_eq_some_iff.mp hf
  obtain ⟨es, e2, hf⟩ := Option.bind_eq_some_iff.mp hf
  split at hf
  .rename_i h64
   obtain ⟨⟨kz, μ2⟩, e3, e4⟩ := Option.map_eq_some_iff.mp hf
   cases e4
   refine ⟨W, δ, v0, μ1, e, ok, hd, e1, λ v W1 ok1 l1 m1 d1 => ?_⟩
   obtain ⟨a, xs, rfl, q, r⟩ := uC ok1 d1 (by rw [m1]; exact e2)
   have hlen := aF.length r
   obtain ⟨ps, ep, tp⟩ := ok1.tab P hP
   refine ⟨a, xs, ps, rfl, q, by omega, ep, tp, λ lo H2 ps' hG => ?_⟩
   obtain ⟨ok2, l2⟩ := ok1.tbl hP ep hG
   refine ⟨λ i zs Hi => ∃ W3, W3.H = Hi /\ WOk X.K tb W3 /\ Le tb ⟨H2, W1.ad, W1.mu⟩ W3 /\ ∃ rest, oM ((es.drop i).map (thG (hName 0) fe (dD [x] δ capI))) W3.mu = some (rest, μ2) /\ zs ++ rest = kz, ⟨⟨H2, W1.ad, W1.mu⟩, rfl, ok2, Le.refl _, kz, by rw [List.drop_zero, <- e3, <- m1], rfl⟩, ?_, ?_⟩
   .rintro i zs Hi ⟨W3, rfl, ok3, l3, rest, ek, hz⟩
    refine ⟨λ c o hco => ?_, λ y hy => ?_⟩
    .have nl : ¬ lY W1.ad W1.mu c := λ z => by
      obtain ⟨ys, e⟩ := ok2.live z
      have e : H2 c = some (.lst ys) := e
      rw [hco] at e; cases e
     have nt : c ∉ tb := λ z => by
      obtain ⟨qs, e, _⟩ := ok2.tab c z
      have e : H2 c = some (.tbl qs) := e
      rw [hco] at e; cases e
     have q1 : Wd.fz tb ⟨H2, W1.ad, W1.mu⟩ c = some (.frz o (.own 0)) := (nF (W := ⟨H2, W1.ad, W1.mu⟩) nl nt).trans hco
     exact (cY (l3.same c _ q1)).1
    .obtain ⟨d0, ed, dd⟩ := aF.get' r hy
     have hi : i < es.length := (List.getElem?_eq_some_iff.mp ed).1
     have ed' : es[i] = d0 := (List.getElem?_eq_some_iff.mp ed).2
     rw [List.drop_eq_getElem_cons hi, List.map_cons, ed'] at ek
     unfold oM at ek
     obtain ⟨⟨w, μ3⟩, e5, e6⟩ := Option.bind_eq_some_iff.mp ek
     unfold thG at e5
     obtain ⟨δ1, e7, e8⟩ := Option.bind_eq_some_iff.mp e5
     cases e7
     cases w with
     | int j =>
      obtain ⟨⟨rs, μ4⟩, e9, e10⟩ := Option.map_eq_some_iff.mp (show (oM _ μ3).map (λ q => (j :: q.1, q.2)) = some (rest, μ2) from e6)
      cases e10
      have l13 : Le tb W1 W3 := l2.trans l3
      refine ⟨W3, (dD [x] δ capI).set 0 (some d0), .int j, μ3, rfl, ok3, ((qW (own := [x]) (capI := capI) hd).mono' (l1.trans l13)).set (i := 0) (Den.mono' dd l13), e8, λ v W4 ok4 l4 m4 d4 => ⟨j, bF d4, W4, rfl, ok4, l3.trans l4, rs, by rw [m4]; exact e9, by rw [List.append_assoc]; exact hz⟩⟩
     | _ => cases e6
   .rintro zs Hi ⟨W3, rfl, ok3, l3, rest, ek, hz⟩ p hp
    rw [List.drop_of_length_le (by omega)] at ek
    cases ek
    rw [List.append_nil] at hz
    subst hz
    have l13 : Le tb W1 W3 := l2.trans l3
    have hb : cG X.K tb W3 (mF zs es) (Ae zs xs) := by
     unfold mF Ae
     rw [hlen]
     exact tG (cG.mono' r l13) _
    exact kk p _ W3 ok3 (l1.trans l13) rfl hp hb
  .cases hf
end L3
namespace L2
open PySem PySem.Spec PyProof.Rows
theorem Dg {X : Cx} (hc : X.calm = true) : gZ X (.builtin "max") (λ xs H Q => ∃ (a : Addr) (ns : List Int), xs = [.ref a] /\ SqL X.K H a (ns.map V.int) /\ 0 < ns.length /\ ∀ M, M ∈ ns -> (∀ a ∈ ns, a <= M) -> Q (.int M) H) := by
 intro pins s σ H xs us Q I r h
 obtain ⟨a, ns, rfl, hq, hne, q⟩ := h
 obtain ⟨u, rfl, rx⟩ := vals1 r
 cases rx
 obtain ⟨its, r', pl, hz⟩ := I.list hq
 have hi := mO r'
 have hl := pl.isList
 obtain ⟨xs, e⟩ := hi.allInts.items
 have hns : ns = xs.toList.map (·.1) := by rw [<- hi.numsOf, <- nums_intItems, <- e]
 have hsz : 0 < xs.size := by
  have h3 := hne; rw [hns, List.length_map, Array.length_toList] at h3; exact h3
 rw [e] at hl
 refine max_intList (I.ok.hd hc) hl hsz λ v h' tk hv hk => ?_
 obtain ⟨t, rfl⟩ := intItems_at hv
 obtain ⟨h1, h2⟩ := argBest_gt (numAt xs) (xs.size - 1)
 refine ⟨.int _, H, I.kept hk, ⟨t, rfl⟩, q _ ?_ λ a ha => ?_⟩
 .rw [hns, numAt_eq]; exact getD_mem (by rw [List.length_map, Array.length_toList]; omega)
 .rw [hns] at ha
  obtain ⟨j, hj, rfl⟩ := mem_getD ha
  rw [List.length_map, Array.length_toList] at hj
  rw [<- numAt_eq]; exact h2 j (by omega)
end L2
namespace L3
open PySem PySem.Spec PyProof.Rows L2
def lJ : List Int -> Int
 | [] => 0
 | [n] => n
 | n :: m :: ns => max n (lJ (m :: ns))
theorem Cp : ∀ {ns : List Int} {M : Int}, M ∈ ns -> (∀ a ∈ ns, a <= M) -> M = lJ ns
 | [n], M, h, _ => List.mem_singleton.mp h
 | n :: m :: ns, M, h, k => by
  unfold lJ
  rcases List.mem_cons.mp h with z | z
  .subst z
   have hm : lJ (m :: ns) <= M := by
    have : ∀ (l : List Int), l ≠ [] -> lJ l ∈ l := by
     intro l
     induction l with
     | nil => exact λ h => absurd rfl h
     | cons a l ih =>
      intro _
      cases l with
      | nil => simp [lJ]
      | cons b l =>
       unfold lJ
       have := ih (by simp)
       by_cases hab : a <= lJ (b :: l)
       .rw [Int.max_eq_right hab]; exact List.mem_cons_of_mem _ this
       .rw [Int.max_eq_left (by omega)]; simp
    exact k _ (List.mem_cons_of_mem _ (this _ (by simp)))
   rw [Int.max_eq_left hm]
  .have e := Cp z λ a ha => k a (List.mem_cons_of_mem _ ha)
   rw [<- e]
   rw [Int.max_eq_right (k n (by simp))]
def BP : O1' := λ x μ => match x with
 | .lst ds => match mY ds with
  | some (n :: ns) => some (.int (lJ (n :: ns)), μ)
  | _ => none
 | _ => none
theorem Gw {ns : List Int} {μ : Mu} (h : ns ≠ []) : BP (.lst (ns.map .int)) μ = some (.int (lJ ns), μ) := by
 unfold BP
 cases ns with
 | nil => exact absurd rfl h
 | cons n ns =>
  have := tE (n :: ns)
  simp only [this]
theorem JC {X : Cx} {tb : List Addr} {a : Expr} {fs : AF} {p pos : Pos} (hc : X.calm = true) (hm : X.mg "max" = none) (ha : PAD X tb [a] fs) (hg : Gl X "max" := by rfl) (he : starEach [a] X.env = (false, eval a X.env) :: starEach [] X.env := by rfl) : PD X tb (.Call (.Name "max" p) [a] [] pos) (MC fs (bj BP)) :=
 zH (λ ta ha => jY (Dg hc) hg hm PyProof.Rows.boot_max ha (by decide) (by decide) he (by rfl)) (λ W xs vs d μ' Q ok r ho h => by
  obtain ⟨x, rfl, ho⟩ := nM ho
  obtain ⟨v, rfl, dv⟩ := aF.one r
  cases x with
  | lst ds =>
   have ho : (match mY ds with | some (n :: ns) => some (D.int (lJ (n :: ns)), W.mu) | _ => none) = some (d, μ') := ho
   split at ho
   .rename_i n ns hi
    cases ho
    have hds := pB hi
    obtain ⟨a, xs, e, q, r⟩ := jW ok dv rfl
    rw [hds] at r
    have hx := oK r
    subst hx
    exact ⟨a, n :: ns, by rw [e], (show SqL X.K W.H a _ from q), by simp, λ M h1 h2 => by rw [Cp h1 h2]; exact put ok h dH⟩
   .cases ho
  | _ => cases ho) ha
end L3
set_option maxHeartbeats 4000000
namespace LG
open PySem PySem.Spec PyProof.Rows L2 L3
noncomputable def dX : SF := bA (jB (M1 (aq 0) (jt "int")) (pg (M1 (aq 0) (jt "bool"))))
noncomputable def dm (bD : FF) : SF := bA (jB (M1 (aq 0) (jt "tuple")) (FT (qJ ["part"] [] (dJ (aq 0)) (hName 0) (MC (aa (aq 0) (aB)) bD))))
noncomputable def gQ : SF := aO (aY 2 (M2 (M2 (M2 (M2 (M2 (aq 0) (mC (.int 2147483647)) oMod) (mC (.int 48271)) bC) (M2 (M2 (mC (.int 7919)) (aq 1) bC) (aq 1) bC) bw) (mC (.int 104729)) bw) (mC (.int 2147483647)) oMod)) (bA (M2 (M2 (aq 2) (aq 2) bC) (mC (.int 2147483629)) oMod))
noncomputable def mx (aX : FF) : SF := aO (aY 1 (jw (pU (aB)))) (aO (fZ (bQ (aa (MC (aa (MC (aa (aq 0) (aB)) (bj cg)) (aa (mC (.int 63)) (aB))) (mj nq)) (aB))) (hName 2) (aO (aY 3 (MC (aa (M2 (aq 0) (aq 2) oIx) (aB)) (bj qP))) (aO (sIf (toB (M2 (aq 3) (M2 (mC (.int 10)) (mC (.int 18)) zx) oLt)) (fZ (bQ (aa (mC (.int 12)) (aB))) (hName 4) (fJ (gw (aq 1) (aa (MC (aa (MC (aa (aq 3) (aa (M2 (M2 (mC (.int 3)) (aq 4) bC) (mC (.int 1)) bw) (aB))) aX) (aa (M2 (M2 (aq 4) (aq 2) bw) (mC (.int 2)) bw) (aB))) aX) (aB))))) (bU)) (aO (lK (lH (toB (M2 (aq 3) (M2 (mC (.int 10)) (mC (.int 18)) zx) oGe)) (toB (M2 (MC (aa (aq 1) (aB)) (bj cg)) (mC (.int 900)) oLt))) (aO (fJ (gw (aq 1) (aa (M2 (aq 3) (mC (.int 2147483629)) oMod) (aB)))) (aY 3 (M2 (aq 3) (mC (.int 2147483629)) oDiv)))) (sIf (toB (M2 (aq 3) (mC (.int 2147483629)) oGe)) (fJ (gw (aq 1) (aa (M2 (aq 3) (mC (.int 2147483629)) oMod) (aB)))) (bU)))))) (bA (aq 1)))
noncomputable def eU : SF := aO (sIf (toB (M2 (aq 0) (MC (aB) oLst) oEq)) (bA (mC (.int 0))) (bU)) (bA (Ck (aq 0)))
noncomputable def nW : SF := aO (lK (toB (M2 (aq 1) (mC (.int 0)) oNe)) (yc 0 1 (aa (aq 1) (aa (M2 (aq 0) (aq 1) oMod) (aB))))) (bA (MC (aa (aq 0) (aB)) (bj qP)))
noncomputable def dN (cX : FF) : SF := aO (aY 2 (aq 1)) (aO (fZ (dJ (aq 0)) (hName 3) (aY 2 (MC (aa (aq 2) (aa (aq 3) (aB))) cX))) (aO (sIf (toB (M2 (aq 1) (mC (.int 0)) oLt)) (aY 2 (M2 (mC (.int 0)) (MC (aa (aq 2) (aB)) (bj qP)) cu)) (bU)) (bA (M2 (MC (aa (mFz (lLC ["_law_number"] [2] (dJ (aq 0)) (hName 0) (bI) (M2 (aq 0) (aq 1) oDiv))) (aB)) cW) (MC (aa (M2 (aq 1) (aq 2) oDiv) (aB)) oTup) bw))))
noncomputable def lO : SF := bA (jB (M1 (aq 0) (jt "int")) (pg (M1 (aq 0) (jt "bool"))))
noncomputable def mR : SF := bA (jB (M1 (aq 0) (jt "bool")) (M2 (aq 0) (aq 1) oEq))
noncomputable def Bj (φ_Lput φ_Lodd : FF) : SF := aO (aY 2 (M2 (M2 (aq 1) (mC (.int 16)) oDiv) (MC (aa (aq 0) (aB)) (bj cg)) oMod)) (aO (aY 3 (MC (aa (mSl (aq 0) (fNo) (fAt (M1 (mC (.int 1)) dG))) (aa (mSl (aq 0) (fAt (mC (.int 1))) (fNo)) (aa (M2 (aq 0) (MC (aa (mC (.int 1)) (aB)) oTup) bw) (aa (M2 (aq 0) (MC (aa (mC (.int 0)) (aB)) oTup) bw) (aa (mFz (lOf (aa (aq 0) (aB)))) (aa (MC (aa (mFz (lLC ["_law_one"] [] (dJ (aq 0)) (hName 0) (bI) (M2 (mC (.int 3)) (aq 0) bC))) (aB)) cW) (aa (MC (aa (aq 0) (aB)) oTup) (aB)))))))) oLst)) (aO (aY 3 (M2 (aq 3) (MC (aa (MC (aa (mFz (lLC ["_law_one"] [] (dJ (aq 0)) (hName 0) (bI) (M2 (mC (.int 0)) (aq 0) cu))) (aB)) cW) (aa (M2 (mSl (aq 0) (fNo) (fAt (M1 (mC (.int 1)) dG))) (MC (aa (mC (.int 0)) (aB)) oTup) bw) (aa (M2 (mSl (aq 0) (fNo) (fAt (M1 (mC (.int 1)) dG))) (MC (aa (M2 (mC (.int 0)) (M2 (aq 0) (M1 (mC (.int 1)) dG) oIx) cu) (aB)) oTup) bw) (aa (M2 (mSl (aq 0) (fNo) (fAt (M1 (mC (.int 1)) dG))) (MC (aa (mC (.bl true)) (aB)) oTup) bw) (aB))))) oLst) bw)) (aO (aY 3 (M2 (aq 3) (MC (aa (MC (aa (mFz (lLC ["_law_one"] [] (dJ (aq 0)) (hName 0) (bI) (M2 (mC (.int 2)) (aq 0) bC))) (aB)) cW) (aa (Qp (aq 0)) (aa (MC (aa (mFz (lLC ["_law_one"] [0] (dJ (aq 0)) (hName 0) (bI) (M2 (M2 (aq 1) (M1 (mC (.int 1)) dG) oIx) (aq 0) bC))) (aB)) cW) (aB)))) oLst) bw)) (bA (M2 (M2 (aq 3) (MC (aa (MC (aa (aq 0) (aa (aq 2) (aa (MC (aa (M2 (aq 1) (mC (.int 64)) oDiv) (aB)) φ_Lodd) (aB)))) φ_Lput) (aa (MC (aa (aq 0) (aa (aq 2) (aa (M2 (aq 1) (mC (.int 64)) oDiv) (aB)))) φ_Lput) (aB))) oLst) bw) (M2 (aq 1) (mC (.int 16)) oMod) oIx)))))
noncomputable def gf : SF := aO (sIf (toB (M2 (aq 1) (mC (.int 0)) oEq)) (bA (MC (aa (M2 (M2 (aq 0) (mC (.int 20001)) oMod) (mC (.int 10000)) cu) (aa (M2 (mC (.int 1)) (M2 (M2 (aq 0) (mC (.int 20001)) oDiv) (mC (.int 60)) oMod) bw) (aB))) oTup)) (bU)) (aO (sIf (toB (M2 (aq 1) (mC (.int 1)) oEq)) (bA (MC (aa (M2 (M2 (aq 0) (mC (.int 5)) oMod) (mC (.int 2)) cu) (aa (mC (.int 1)) (aB))) oTup)) (bU)) (aO (sIf (toB (M2 (aq 1) (mC (.int 2)) oEq)) (bA (MC (aa (M2 (M2 (aq 0) (mC (.int 11)) oMod) (mC (.int 5)) cu) (aa (M2 (mC (.int 1)) (M2 (M2 (aq 0) (mC (.int 11)) oDiv) (mC (.int 3)) oMod) bw) (aB))) oTup)) (bU)) (aO (sIf (toB (M2 (aq 1) (mC (.int 3)) oEq)) (bA (MC (aa (M2 (aq 2) (M2 (MC (aa (mC (.int 0)) (aa (mC (.int 0)) (aa (mC (.int 1)) (aa (mC (.int 40)) (aB))))) oLst) (M2 (aq 0) (mC (.int 4)) oMod) oIx) bw) (aa (mC (.int 1)) (aB))) oTup)) (bU)) (bA (MC (aa (M2 (M2 (aq 0) (mC (.int 2)) oMod) (M2 (mC (.int 1)) (M2 (aq 2) (mC (.int 7)) oMod) bw) bC) (aa (mC (.int 1)) (aB))) oTup)))))
noncomputable def iT (aX ie aL : FF) : SF := aO (aY 4 (jw (pU (aB)))) (aO (aY 5 (mC (.int 1))) (aO (fZ (bQ (aa (aq 1) (aB))) (hName 6) (aO (xy (MC (aa (MC (aa (aq 0) (aa (M2 (aq 6) (mC (.int 1)) bw) (aB))) aX) (aa (aq 2) (aa (M2 (aq 3) (aq 6) bw) (aB)))) ie) (jX 2 (bY (hName 7) (bY (hName 8) (jU))))) (aO (sIf (toB (M2 (aq 6) (mC (.int 0)) oEq)) (aY 5 (aq 8)) (bU)) (fJ (gw (aq 4) (aa (aq 7) (aB))))))) (bA (MC (aa (mW (aq 4)) (aa (aq 5) (aB))) aL))))
noncomputable def ir (aJ aL : FF) : SF := aO (aY 3 (mFz (lLC ["_law_k"] [0] (bQ (aa (aq 1) (aB))) (hName 0) (bI) (M2 (M2 (MC (aa (aq 1) (aB)) aJ) (mC (.int 41)) oMod) (mC (.int 20)) cu)))) (aO (aY 4 (mFz (lLC ["_law_k"] [0] (bQ (aa (aq 1) (aB))) (hName 0) (bI) (M2 (M2 (MC (aa (aq 1) (aB)) aJ) (mC (.int 7)) oMod) (mC (.int 3)) cu)))) (aO (aY 5 (jw (pU (aB)))) (aO (fZ (bQ (aa (aq 2) (aB))) (hName 6) (aO (aY 7 (M2 (M2 (MC (aa (aq 0) (aB)) aJ) (mC (.int 13)) oMod) (mC (.int 6)) cu)) (fJ (gw (aq 5) (aa (MC (aa (mFz (lLC ["_law_k"] [3, 7, 4] (bQ (aa (aq 1) (aB))) (hName 0) (bI) (M2 (M2 (aq 1) (aq 0) oIx) (M2 (aq 2) (M2 (aq 3) (aq 0) oIx) bC) bw))) (aa (mC (.int 1)) (aB))) aL) (aB)))))) (bA (mW (aq 5))))))
noncomputable def qX (aJ aL : FF) : SF := aO (yc 3 4 (aa (M2 (M2 (MC (aa (aq 0) (aB)) aJ) (mC (.int 5)) oMod) (mC (.int 2)) cu) (aa (M2 (M2 (MC (aa (aq 0) (aB)) aJ) (mC (.int 5)) oMod) (mC (.int 2)) cu) (aB)))) (aO (aY 5 (jw (pU (aB)))) (aO (fZ (bQ (aa (aq 2) (aB))) (hName 6) (aO (aY 7 (MC (aa (aq 0) (aB)) aJ)) (aO (aY 8 (jw (lSl (MC (aa (M2 (M2 (aq 7) (mC (.int 9)) oMod) (mC (.int 4)) cu) (aa (M2 (M2 (M2 (aq 7) (mC (.int 9)) oDiv) (mC (.int 9)) oMod) (mC (.int 4)) cu) (aa (M2 (M2 (M2 (aq 7) (mC (.int 81)) oDiv) (mC (.int 9)) oMod) (mC (.int 4)) cu) (aB)))) oLst) (fNo) (fAt (aq 1))))) (aO (sIf (toB (M2 (aq 1) (mC (.int 1)) oGt)) (rY (M2 (M2 (aq 3) (M2 (aq 8) (mC (.int 0)) oIx) bC) (M2 (aq 4) (M2 (aq 8) (M2 (aq 1) (mC (.int 2)) cu) oIx) bC) bw) (aq 8) (M1 (mC (.int 1)) dG)) (bU)) (fJ (gw (aq 5) (aa (MC (aa (mW (aq 8)) (aa (mC (.int 1)) (aB))) aL) (aB)))))))) (bA (mW (aq 5)))))
noncomputable def jd (aJ eY jm bB : FF) : SF := aO (aY 3 (MC (aa (aq 0) (aB)) aJ)) (aO (aY 4 (M2 (M2 (aq 3) (mC (.int 9)) oDiv) (M2 (aq 2) (mC (.int 1)) bw) oMod)) (aO (aY 5 (M2 (aq 3) (mC (.int 9)) oMod)) (aO (sIf (toB (M2 (aq 5) (mC (.int 5)) oEq)) (bA (MC (aa (aq 0) (aa (aq 1) (aa (aq 4) (aB)))) eY)) (bU)) (aO (sIf (toB (M2 (aq 5) (mC (.int 6)) oEq)) (bA (MC (aa (aq 0) (aa (aq 1) (aa (aq 4) (aB)))) jm)) (bU)) (aO (sIf (toB (M2 (aq 5) (mC (.int 7)) oEq)) (bA (M2 (MC (aa (MC (aa (aq 3) (aa (aq 1) (aa (mC (.int 2)) (aa (mC (.int 0)) (aB))))) bB) (aB)) oLst) (aq 4) bC)) (bU)) (aO (aY 6 (jw (pU (aB)))) (aO (fZ (bQ (aa (aq 4) (aB))) (hName 7) (aO (aY 8 (MC (aa (aq 0) (aB)) aJ)) (sIf (lH (toB (M2 (aq 5) (mC (.int 8)) oEq)) (lH (toB (M2 (aq 6) (MC (aB) oLst) Bd)) (toB (M2 (M2 (aq 8) (mC (.int 3)) oMod) (mC (.int 0)) oEq)))) (fJ (gw (aq 6) (aa (M2 (aq 6) (M2 (M2 (aq 8) (mC (.int 3)) oDiv) (MC (aa (aq 6) (aB)) (bj cg)) oMod) oIx) (aB)))) (fJ (gw (aq 6) (aa (MC (aa (M2 (aq 8) (mC (.int 7)) oDiv) (aa (aq 1) (aa (M2 (M2 (aq 5) (mC (.int 8)) oMod) (mC (.int 5)) oMod) (aa (M2 (M2 (aq 8) (mC (.int 5)) oMod) (mC (.int 30)) bC) (aB))))) bB) (aB))))))) (bA (mW (aq 6))))))))))
noncomputable def rK (φ_common_divisor : FF) : SF := aO (aY 1 (MC (aa (aq 0) (aB)) φ_common_divisor)) (bA (Ew (qJ ["number"] [1] (dJ (aq 0)) (hName 0) (M2 (aq 0) (aq 1) oDiv))))
noncomputable def uD (aJ aX : FF) : SF := aO (aY 2 (MC (aa (aq 0) (aB)) aJ)) (aO (aY 3 (mFz (sY ["_law_k"] [2] (aq 1) (MC (aa (aq 1) (aa (M2 (aq 0) (mC (.int 3)) bw) (aB))) aX)))) (aO (aY 4 (mFz (yE (aa (mSl (aq 3) (fNo) (fAt (M2 (mC (.int 1)) (M2 (aq 2) (MC (aa (mC (.int 4)) (aa (MC (aa (aq 3) (aB)) (bj cg)) (aB))) (mj nq)) oMod) bw))) (aB))))) (bA (MC (aa (mFz (lLC ["_law_k"] [2] (dJ (aq 4)) (hName 0) (bI) (MC (aa (aq 0) (aa (M2 (mC (.int 1)) (M2 (MC (aa (aq 1) (aa (M2 (aq 0) (mC (.int 60)) bw) (aB))) aX) (M2 (MC (aa (mC (.int 3)) (aa (mC (.int 7)) (aa (mC (.int 1000)) (aB)))) oLst) (M2 (M2 (aq 1) (mC (.int 4)) oDiv) (mC (.int 3)) oMod) oIx) oMod) bw) (aB))) oTup))) (aB)) cW))))
noncomputable def cL : SF := bA (DK (qJ ["one", "other"] [] (yL (aa (aq 0) (aa (aq 1) (aB)))) (jX 2 (bY (hName 0) (bY (hName 1) (jU)))) (M2 (aq 0) (aq 1) bC)))
noncomputable def Er (cX aL : FF) : SF := aO (aY 2 (mC (.int 1))) (aO (fZ (dJ (aq 1)) (jX 2 (bY (hName 3) (bY (hName 4) (jU)))) (aY 2 (M2 (M2 (aq 2) (M2 (M2 (aq 0) (aq 3) oIx) (M1 (mC (.int 1)) dG) oIx) bC) (MC (aa (aq 2) (aa (M2 (M2 (aq 0) (aq 3) oIx) (M1 (mC (.int 1)) dG) oIx) (aB))) cX) oDiv))) (aO (aY 5 (jw (xx (MC (aa (mC (.int 0)) (aB)) oLst) (M2 (MC (aa (M2 (aq 0) (M2 (M2 (aq 1) (mC (.int 0)) oIx) (mC (.int 0)) oIx) oIx) (aB)) (bj cg)) (mC (.int 1)) cu)))) (aO (aY 6 (mC (.int 0))) (aO (fZ (dJ (aq 1)) (jX 2 (bY (hName 3) (bY (hName 4) (jU)))) (aO (aY 6 (M2 (aq 6) (aq 4) bw)) (fZ (bQ (aa (MC (aa (aq 5) (aB)) (bj cg)) (aB))) (hName 7) (aO (aY 8 (M2 (M2 (aq 4) (M2 (M2 (aq 0) (aq 3) oIx) (aq 7) oIx) bC) (M2 (aq 2) (M2 (M2 (aq 0) (aq 3) oIx) (M1 (mC (.int 1)) dG) oIx) oDiv) bC)) (rY (M2 (M2 (aq 5) (aq 7) oIx) (aq 8) bw) (aq 5) (aq 7)))))) (bA (MC (aa (mW (aq 5)) (aa (M2 (aq 2) (aq 6) bC) (aB))) aL))))))
noncomputable def uJ (aL : FF) : SF := aO (aY 3 (M2 (M2 (M2 (aq 0) (M1 (mC (.int 1)) dG) oIx) (M2 (aq 1) (M1 (mC (.int 1)) dG) oIx) bC) (M2 (aq 2) (M1 (mC (.int 1)) dG) oIx) bC)) (aO (aY 4 (jw (pU (aB)))) (aO (fZ (bQ (aa (M2 (MC (aa (aq 0) (aB)) (bj cg)) (mC (.int 1)) cu) (aB))) (hName 5) (aO (aY 6 (M2 (M2 (aq 0) (aq 5) oIx) (M2 (aq 3) (M2 (aq 0) (M1 (mC (.int 1)) dG) oIx) oDiv) bC)) (aO (aY 6 (M2 (aq 6) (M2 (M2 (aq 1) (aq 5) oIx) (M2 (aq 3) (M2 (aq 1) (M1 (mC (.int 1)) dG) oIx) oDiv) bC) bw)) (fJ (gw (aq 4) (aa (M2 (aq 6) (M2 (M2 (aq 2) (aq 5) oIx) (M2 (aq 3) (M2 (aq 2) (M1 (mC (.int 1)) dG) oIx) oDiv) bC) cu) (aB))))))) (bA (MC (aa (mW (aq 4)) (aa (aq 3) (aB))) aL))))
noncomputable def jh : SF := bA (jB (M1 (aq 1) (jt "tuple")) (M2 (MC (aa (aq 1) (aB)) (bj cg)) (aq 0) oEq))
noncomputable def je (iy cQ bD : FF) : SF := aO (sIf (jM (ql (MC (aa (mC (.int 2)) (aa (aq 1) (aB))) iy))) (bA (mC (.bl false))) (bU)) (aO (xy (aq 1) (jX 2 (bY (hName 2) (bY (hName 3) (jU))))) (bA (jB (MC (aa (aq 2) (aB)) cQ) (jB (M2 (MC (aa (aq 2) (aB)) (bj cg)) (aq 0) oEq) (MC (aa (aq 3) (aB)) bD)))))
noncomputable def jg (gn : FF) : SF := bA (jB (MC (aa (aq 0) (aa (aq 1) (aB))) gn) (Ag (oR (M2 (aq 1) (mC (.int 0)) oIx))))
noncomputable def gK (bO : FF) : SF := aO (xy (aq 0) (jX 2 (bY (hName 2) (bY (hName 3) (jU))))) (bA (M2 (MC (aa (aq 2) (aa (mSl (aq 1) (fNo) (fAt (M1 (mC (.int 1)) dG))) (aB))) bO) (M2 (aq 3) (M2 (aq 1) (M1 (mC (.int 1)) dG) oIx) bC) oGt))
noncomputable def dh (fB dB : FF) : SF := aO (sIf (ul (jM (ql (MC (aa (M2 (MC (aa (aq 1) (aB)) (bj cg)) (mC (.int 1)) cu) (aa (aq 2) (aB))) fB))) (jM (ql (MC (aa (aq 2) (aa (aq 1) (aB))) dB)))) (bA (mC (.bl false))) (bU)) (bA (pg (Ag (qJ ["point"] [2] (dJ (aq 0)) (hName 0) (MC (aa (aq 1) (aa (aq 0) (aB))) dB)))))
noncomputable def yp (φ_Larrow_mix φ_mix_of φ_Lsame : FF) : SF := aO (aY 2 (MC (aa (aq 0) (aa (aq 1) (aB))) φ_Larrow_mix)) (aO (aY 3 (MC (aa (mFz (lLC ["_law_k", "_law_share"] [] (dJ (aq 1)) (jX 2 (bY (hName 0) (bY (hName 1) (jU)))) (bI) (MC (aa (aq 0) (aa (M2 (mC (.int 12)) (aq 1) bC) (aB))) oTup))) (aB)) cW)) (bA (jB (MC (aa (MK (aB) (aa (aq 0) (aa (aq 1) (aB))) [0, 1] φ_mix_of) (aa (aq 2) (aB))) φ_Lsame) (MC (aa (MC (aa (aq 0) (aa (aq 3) (aB))) φ_mix_of) (aa (aq 2) (aB))) φ_Lsame))))
noncomputable def rM (cX aL : FF) : SF := aO (aY 2 (mC (.int 1))) (aO (fZ (dJ (aq 1)) (jX 2 (bY (hName 3) (bY (hName 4) (jU)))) (aY 2 (M2 (M2 (aq 2) (M2 (M2 (aq 0) (aq 3) oIx) (M1 (mC (.int 1)) dG) oIx) bC) (MC (aa (aq 2) (aa (M2 (M2 (aq 0) (aq 3) oIx) (M1 (mC (.int 1)) dG) oIx) (aB))) cX) oDiv))) (aO (aY 5 (jw (xx (MC (aa (mC (.int 0)) (aB)) oLst) (M2 (MC (aa (M2 (aq 0) (M2 (M2 (aq 1) (mC (.int 0)) oIx) (mC (.int 0)) oIx) oIx) (aB)) (bj cg)) (mC (.int 1)) cu)))) (aO (aY 6 (mC (.int 0))) (aO (fZ (dJ (aq 1)) (jX 2 (bY (hName 3) (bY (hName 4) (jU)))) (aO (aY 6 (M2 (aq 6) (aq 4) bw)) (fZ (bQ (aa (MC (aa (aq 5) (aB)) (bj cg)) (aB))) (hName 7) (aO (aY 8 (M2 (aq 4) (M2 (M2 (aq 0) (aq 3) oIx) (aq 7) oIx) bC)) (rY (M2 (M2 (aq 5) (aq 7) oIx) (M2 (aq 8) (M2 (aq 2) (M2 (M2 (aq 0) (aq 3) oIx) (M1 (mC (.int 1)) dG) oIx) oDiv) bC) bw) (aq 5) (aq 7)))))) (bA (MC (aa (mW (aq 5)) (aa (M2 (aq 2) (aq 6) bC) (aB))) aL))))))
noncomputable def gk (aJ aX : FF) : SF := aO (aY 2 (MC (aa (aq 0) (aB)) aJ)) (aO (aY 3 (mFz (sY ["_law_k"] [2] (aq 1) (MC (aa (aq 1) (aa (M2 (aq 0) (mC (.int 3)) bw) (aB))) aX)))) (aO (aY 4 (mFz (yE (aa (mSl (aq 3) (fNo) (fAt (M2 (mC (.int 1)) (M2 (aq 2) (MC (aa (mC (.int 4)) (aa (MC (aa (aq 3) (aB)) (bj cg)) (aB))) (mj nq)) oMod) bw))) (aB))))) (aO (aY 5 (M2 (MC (aa (mC (.int 3)) (aa (mC (.int 7)) (aa (mC (.int 1000)) (aB)))) oLst) (M2 (M2 (aq 2) (mC (.int 4)) oDiv) (mC (.int 3)) oMod) oIx)) (bA (MC (aa (mFz (lLC ["_law_k"] [2, 5] (dJ (aq 4)) (hName 0) (bI) (MC (aa (aq 0) (aa (M2 (mC (.int 1)) (M2 (MC (aa (aq 1) (aa (M2 (aq 0) (mC (.int 60)) bw) (aB))) aX) (aq 2) oMod) bw) (aB))) oTup))) (aB)) cW)))))
noncomputable def lR (aL : FF) : SF := aO (aY 2 (M2 (aq 1) (M2 (MC (aa (aq 0) (aB)) (bj cg)) (mC (.int 1)) cu) oMod)) (aO (aY 3 (M2 (MC (aa (mC (.int 1000)) (aa (mC (.int 1)) (aa (mC (.int 3)) (aa (mC (.int 1000000)) (aB))))) oLst) (M2 (M2 (aq 1) (mC (.int 3)) oDiv) (mC (.int 4)) oMod) oIx)) (aO (aY 4 (jw (lLC ["_law_one"] [3] (dJ (mSl (aq 0) (fNo) (fAt (M1 (mC (.int 1)) dG)))) (hName 0) (bI) (M2 (aq 0) (aq 1) bC)))) (aO (rY (M2 (M2 (aq 4) (aq 2) oIx) (M2 (M2 (MC (aa (mC (.int 1)) (aa (M1 (mC (.int 1)) dG) (aB))) oLst) (M2 (M2 (aq 1) (mC (.int 12)) oDiv) (mC (.int 2)) oMod) oIx) (M2 (aq 0) (M1 (mC (.int 1)) dG) oIx) bC) bw) (aq 4) (aq 2)) (bA (MC (aa (mW (aq 4)) (aa (M2 (M2 (aq 0) (M1 (mC (.int 1)) dG) oIx) (aq 3) bC) (aB))) aL)))))
noncomputable def cU (fK aJ bB : FF) : SF := aO (aY 3 (MC (aa (aq 0) (aa (aq 1) (aa (aq 2) (aB)))) fK)) (aO (sIf (toB (M2 (aq 3) (MC (aB) oLst) oEq)) (bA (MC (aa (MC (aa (MC (aa (aq 0) (aB)) aJ) (aa (aq 1) (aa (mC (.int 2)) (aa (mC (.int 0)) (aB))))) bB) (aB)) oLst)) (bU)) (bA (aq 3)))
noncomputable def qK (aJ aL : FF) : SF := aO (yc 3 4 (aa (M2 (M2 (MC (aa (aq 0) (aB)) aJ) (mC (.int 5)) oMod) (mC (.int 2)) cu) (aa (M2 (M2 (MC (aa (aq 0) (aB)) aJ) (mC (.int 5)) oMod) (mC (.int 2)) cu) (aB)))) (aO (aY 5 (jw (pU (aB)))) (aO (fZ (bQ (aa (aq 2) (aB))) (hName 6) (aO (aY 7 (MC (aa (aq 0) (aB)) aJ)) (aO (aY 8 (jw (lSl (MC (aa (M2 (M2 (aq 7) (mC (.int 9)) oMod) (mC (.int 4)) cu) (aa (M2 (M2 (M2 (aq 7) (mC (.int 9)) oDiv) (mC (.int 9)) oMod) (mC (.int 4)) cu) (aa (M2 (M2 (M2 (aq 7) (mC (.int 81)) oDiv) (mC (.int 9)) oMod) (mC (.int 4)) cu) (aB)))) oLst) (fNo) (fAt (aq 1))))) (aO (sIf (toB (M2 (aq 1) (mC (.int 1)) oGt)) (rY (M2 (M2 (aq 3) (M2 (aq 8) (mC (.int 0)) oIx) bC) (M2 (aq 4) (M2 (aq 8) (M2 (aq 1) (mC (.int 2)) cu) oIx) bC) bw) (aq 8) (M1 (mC (.int 1)) dG)) (bU)) (fJ (gw (aq 5) (aa (MC (aa (mW (aq 8)) (aa (mC (.int 1)) (aB))) aL) (aB)))))))) (bA (mW (aq 5)))))
noncomputable def pG (aL : FF) : SF := aO (aY 2 (M2 (aq 1) (M2 (MC (aa (aq 0) (aB)) (bj cg)) (mC (.int 1)) cu) oMod)) (aO (aY 3 (M2 (MC (aa (mC (.int 1000)) (aa (mC (.int 1)) (aa (mC (.int 3)) (aa (mC (.int 1000000)) (aB))))) oLst) (M2 (M2 (aq 1) (mC (.int 3)) oDiv) (mC (.int 4)) oMod) oIx)) (aO (aY 4 (jw (lLC ["_law_one"] [3] (dJ (mSl (aq 0) (fNo) (fAt (M1 (mC (.int 1)) dG)))) (hName 0) (bI) (M2 (aq 0) (aq 1) bC)))) (aO (rY (M2 (M2 (aq 4) (aq 2) oIx) (M2 (M2 (MC (aa (mC (.int 1)) (aa (M1 (mC (.int 1)) dG) (aB))) oLst) (M2 (M2 (aq 1) (mC (.int 12)) oDiv) (mC (.int 2)) oMod) oIx) (M2 (aq 0) (M1 (mC (.int 1)) dG) oIx) bC) bw) (aq 4) (aq 2)) (bA (MC (aa (mW (aq 4)) (aa (M2 (M2 (aq 0) (M1 (mC (.int 1)) dG) oIx) (aq 3) bC) (aB))) aL)))))
noncomputable def gR (aJ bB fG jH gM : FF) : SF := aO (aY 3 (MC (aa (aq 0) (aB)) aJ)) (aO (sIf (ul (toB (M2 (aq 1) (MC (aB) oLst) oEq)) (toB (M2 (M2 (aq 3) (mC (.int 6)) oMod) (mC (.int 0)) oEq))) (bA (MC (aa (M2 (aq 3) (mC (.int 6)) oDiv) (aa (aq 2) (aa (M2 (M2 (aq 3) (mC (.int 6)) oDiv) (mC (.int 3)) oMod) (aa (mC (.int 0)) (aB))))) bB)) (bU)) (aO (sIf (toB (M2 (M2 (aq 3) (mC (.int 6)) oMod) (mC (.int 1)) oEq)) (bA (M2 (aq 1) (M2 (M2 (aq 3) (mC (.int 6)) oDiv) (MC (aa (aq 1) (aB)) (bj cg)) oMod) oIx)) (bU)) (aO (aY 4 (MC (aa (aq 1) (aa (MC (aa (aq 0) (aa (mFz (By (aa (MC (aa (aq 1) (aB)) (bj cg)) (aB)))) (aB))) fG) (aB))) jH)) (aO (sIf (toB (M2 (M2 (aq 3) (mC (.int 6)) oMod) (mC (.int 4)) oLt)) (bA (aq 4)) (bU)) (bA (MC (aa (aq 4) (aa (M2 (aq 3) (mC (.int 6)) oDiv) (aB))) gM))))))
noncomputable def lZ : SF := bA (MC (aa (DK (oR (mFz (lLC ["_law_one", "_law_other"] [] (yL (aa (aq 0) (aa (aq 1) (aB)))) (jX 2 (bY (hName 0) (bY (hName 1) (jU)))) (bI) (M2 (aq 0) (aq 1) bC))))) (aa (M2 (aq 1) (M1 (mC (.int 1)) dG) oIx) (aB))) oTup)
noncomputable def jO : SF := bA (M2 (M2 (M2 (aq 0) (mC (.int 0)) oIx) (M2 (aq 1) (mC (.int 1)) oIx) bC) (M2 (M2 (aq 1) (mC (.int 0)) oIx) (M2 (aq 0) (mC (.int 1)) oIx) bC) oLt)
noncomputable def il (fO : FF) : SF := aO (sIf (ul (jM (ql (M1 (aq 1) (jt "tuple")))) (ul (toB (M2 (MC (aa (aq 1) (aB)) (bj cg)) (mC (.int 2)) oNe)) (jM (ql (MC (aa (M2 (aq 1) (mC (.int 1)) oIx) (aB)) fO))))) (bA (mC (.bl false))) (bU)) (aO (sIf (ul (jM (ql (M1 (M2 (aq 1) (mC (.int 0)) oIx) (jt "tuple")))) (toB (M2 (MC (aa (M2 (aq 1) (mC (.int 0)) oIx) (aB)) (bj cg)) (aq 0) oNe))) (bA (mC (.bl false))) (bU)) (bA (FT (oR (mFz (lLC ["_law_number"] [] (dJ (M2 (aq 1) (mC (.int 0)) oIx)) (hName 0) (bI) (MC (aa (aq 0) (aB)) fO)))))))
noncomputable def jf (cN ik : FF) : SF := bA (pg (Ag (oR (mFz (lLC ["_law_spot_here"] [0] (dJ (aq 1)) (hName 0) (bI) (MC (aa (MC (aa (M2 (aq 1) (mC (.int 1)) oIx) (aa (mC (.int 1)) (aB))) oTup) (aa (MC (aa (M2 (aq 1) (mC (.int 0)) oIx) (aa (aq 0) (aB))) cN) (aB))) ik))))))
noncomputable def km (eZ fj : FF) : SF := aO (sIf (ul (jM (ql (MC (aa (M2 (MC (aa (aq 1) (aB)) (bj cg)) (mC (.int 1)) cu) (aa (aq 2) (aB))) eZ))) (jM (ql (Ag (oR (mFz (lLC ["_law_number"] [] (dJ (M2 (aq 2) (mC (.int 0)) oIx)) (hName 0) (bI) (M2 (aq 0) (mC (.int 0)) oNe)))))))) (bA (mC (.bl false))) (bU)) (bA (jB (MC (aa (aq 2) (aa (aq 0) (aB))) fj) (pg (MC (aa (aq 2) (aa (MC (aa (aq 1) (aB)) oLst) (aB))) fj))))
noncomputable def iw (cN : FF) : SF := aO (aY 2 (mFz (lLC ["_law_spot_here"] [0] (dJ (aq 1)) (hName 0) (bI) (MC (aa (aq 1) (aa (aq 0) (aB))) cN)))) (bA (MC (aa (mFz (lLC ["_law_top", "_law_bottom"] [] (dJ (aq 2)) (jX 2 (bY (hName 0) (bY (hName 1) (jU)))) (bI) (M2 (mC (.int 0)) (M2 (M2 (mC (.int 0)) (aq 0) cu) (aq 1) oDiv) cu))) (aB)) (bj BP)))
noncomputable def oH (aJ aX : FF) : SF := aO (aY 2 (MC (aa (aq 0) (aB)) aJ)) (aO (aY 3 (M2 (MC (aa (mC (.int 2)) (aa (mC (.int 5)) (aa (mC (.int 1000)) (aa (mC (.int 1000000)) (aB))))) oLst) (M2 (aq 2) (mC (.int 4)) oMod) oIx)) (bA (MC (aa (mFz (lLC ["_law_k"] [2, 3] (bQ (aa (aq 1) (aB))) (hName 0) (bI) (M2 (M2 (MC (aa (M2 (aq 1) (mC (.int 4)) oDiv) (aa (M2 (aq 0) (mC (.int 1)) bw) (aB))) aX) (M2 (M2 (mC (.int 2)) (aq 2) bC) (mC (.int 1)) bw) oMod) (aq 2) cu))) (aB)) cW)))
noncomputable def iI : SF := aO (xy (aq 0) (jX 2 (bY (hName 2) (bY (hName 3) (jU))))) (aO (aY 4 (MC (aa (MC (aa (MC (aa (mFz (lLC ["_law_one"] [] (dJ (aq 2)) (hName 0) (bI) (mC (.int 0)))) (aB)) cW) (aa (aq 3) (aB))) oTup) (aa (MC (aa (M2 (aq 2) (MC (aa (mC (.int 0)) (aB)) oTup) bw) (aa (aq 3) (aB))) oTup) (aa (MC (aa (mSl (aq 2) (fNo) (fAt (M1 (mC (.int 1)) dG))) (aa (aq 3) (aB))) oTup) (aa (MC (aa (mFz (lOf (aa (aq 2) (aB)))) (aa (aq 3) (aB))) oTup) (aa (MC (aa (aq 2) (aa (aq 3) (aB))) oLst) (aB)))))) oLst)) (aO (aY 4 (M2 (aq 4) (MC (aa (MC (aa (MC (aa (mFz (lLC ["_law_one"] [] (dJ (aq 2)) (hName 0) (bI) (M2 (mC (.int 0)) (aq 0) cu))) (aB)) cW) (aa (M2 (mC (.int 0)) (aq 3) cu) (aB))) oTup) (aa (MC (aa (aq 2) (aa (aq 3) (aa (mC (.int 0)) (aB)))) oTup) (aa (MC (aa (aq 2) (aa (M2 (aq 3) (mC (.int 0)) oEq) (aB))) oTup) (aa (MC (aa (M2 (MC (aa (mC (.bl true)) (aB)) oTup) (mSl (aq 2) (fAt (mC (.int 1))) (fNo)) bw) (aa (aq 3) (aB))) oTup) (aa (MC (aa (aq 2) (aB)) oTup) (aB)))))) oLst) bw)) (bA (M2 (aq 4) (M2 (aq 1) (mC (.int 10)) oMod) oIx))))
noncomputable def dC (cN aJ aL : FF) : SF := aO (aY 4 (DK (oR (mFz (lLC ["_law_one"] [] (dJ (aq 1)) (hName 0) (bI) (M2 (aq 0) (aq 0) bC)))))) (aO (sIf (toB (M2 (aq 4) (mC (.int 0)) oEq)) (bA (aq 3)) (bU)) (aO (xy (MC (aa (aq 1) (aa (aq 3) (aB))) cN) (jX 2 (bY (hName 5) (bY (hName 6) (jU))))) (aO (aY 7 (M2 (MC (aa (aq 0) (aB)) aJ) (mC (.int 3)) oMod)) (aO (aY 8 (M2 (M2 (mC (.int 1000)) (M2 (M2 (aq 2) (aq 6) bC) (aq 5) cu) bC) (aq 7) bw)) (aO (aY 9 (mFz (lLC ["_law_k"] [3, 4, 1, 8] (bQ (aa (MC (aa (aq 1) (aB)) (bj cg)) (aB))) (hName 0) (bI) (M2 (M2 (M2 (mC (.int 1000)) (M2 (aq 1) (aq 0) oIx) bC) (aq 2) bC) (M2 (M2 (aq 3) (aq 0) oIx) (aq 4) bC) bw)))) (bA (MC (aa (aq 9) (aa (M2 (M2 (mC (.int 1000)) (aq 4) bC) (aq 6) bC) (aB))) aL)))))))
noncomputable def kZ (gO bR iJ : FF) : SF := bA (MC (aa (MC (aa (aq 0) (aa (aq 1) (aa (aq 2) (aB)))) bR) (aa (MC (aa (aq 0) (aa (aq 1) (aa (aq 2) (aB)))) gO) (aB))) iJ)
noncomputable def qt (gG aJ bZ jF dU iR fH fV iQ : FF) : SF := aO (aY 1 (MC (aa (aq 0) (aB)) gG)) (aO (fZ (bQ (aa (mC (.int 4)) (aB))) (hName 2) (aO (aY 3 (M2 (mC (.int 1)) (M2 (MC (aa (aq 1) (aB)) aJ) (mC (.int 3)) oMod) bw)) (aO (aY 4 (MC (aa (aq 1) (aa (aq 3) (aa (M2 (MC (aa (mC (.int 6)) (aa (mC (.int 14)) (aB))) oLst) (M2 (aq 2) (mC (.int 2)) oMod) oIx) (aB)))) bZ)) (aO (aY 5 (mFz (lOf (aa (aq 4) (aB))))) (aO (aY 6 (MC (aa (aq 1) (aa (aq 3) (aB))) jF)) (aO (aY 7 (MC (aa (aq 6) (aa (aq 4) (aB))) dU)) (aO (aY 8 (MC (aa (M2 (aq 4) (mC (.int 0)) oIx) (aa (MC (aa (aq 1) (aa (aq 6) (aa (aq 7) (aa (M2 (aq 4) (M1 (mC (.int 1)) dG) oIx) (aB))))) fH) (aa (MC (aa (aq 1) (aa (aq 4) (aa (aq 3) (aB)))) iR) (aB)))) oLst)) (aO (fZ (dJ (aq 8)) (hName 9) (aO (fZ (dJ (MC (aa (aq 7) (aa (M2 (aq 7) (mC (.int 1)) bw) (aa (M2 (aq 7) (mC (.int 1)) cu) (aB)))) oLst)) (hName 10) (sIf (jM (ql (MC (aa (aq 4) (aa (aq 9) (aa (MC (aa (aq 6) (aa (aq 10) (aB))) oTup) (aB)))) fV))) (bA (mC (.bl false))) (bU))) (sIf (jM (ql (MC (aa (aq 4) (aa (aq 9) (aa (MC (aa (MC (aa (aq 6) (aa (aq 7) (aB))) oTup) (aa (MC (aa (aq 1) (aB)) aJ) (aB))) iQ) (aB)))) fV))) (bA (mC (.bl false))) (bU)))) (sIf (toB (M2 (aq 4) (aq 5) oNe)) (bA (mC (.bl false))) (bU)))))))))) (bA (mC (.bl true))))
noncomputable def oF (cX aL : FF) : SF := aO (aY 2 (mC (.int 1))) (aO (fZ (dJ (aq 1)) (jX 2 (bY (hName 3) (bY (hName 4) (jU)))) (aY 2 (M2 (M2 (aq 2) (M2 (M2 (aq 0) (aq 3) oIx) (M1 (mC (.int 1)) dG) oIx) bC) (MC (aa (aq 2) (aa (M2 (M2 (aq 0) (aq 3) oIx) (M1 (mC (.int 1)) dG) oIx) (aB))) cX) oDiv))) (aO (aY 5 (jw (xx (MC (aa (mC (.int 0)) (aB)) oLst) (M2 (MC (aa (M2 (aq 0) (M2 (M2 (aq 1) (mC (.int 0)) oIx) (mC (.int 0)) oIx) oIx) (aB)) (bj cg)) (mC (.int 1)) cu)))) (aO (aY 6 (mC (.int 0))) (aO (fZ (dJ (aq 1)) (jX 2 (bY (hName 3) (bY (hName 4) (jU)))) (aO (aY 6 (M2 (aq 6) (aq 4) bw)) (fZ (bQ (aa (MC (aa (aq 5) (aB)) (bj cg)) (aB))) (hName 7) (aO (aY 8 (M2 (aq 4) (M2 (M2 (aq 0) (aq 3) oIx) (aq 7) oIx) bC)) (rY (M2 (M2 (aq 5) (aq 7) oIx) (M2 (aq 8) (M2 (aq 2) (M2 (M2 (aq 0) (aq 3) oIx) (M1 (mC (.int 1)) dG) oIx) oDiv) bC) bw) (aq 5) (aq 7)))))) (bA (MC (aa (mW (aq 5)) (aa (M2 (aq 2) (aq 6) bC) (aB))) aL))))))
end LG
namespace Lk24
open PySem PySem.Spec PyProof.Rows L2 L3 LG
def top (i : Nat) : Stmt := PySem.Challenge.pw_heapsmeet_k24_without_by_clauses.main.body.getD i (.Pass ⟨0, 0, 0, 0⟩)
structure BI (K : PySem.W.Frag) (mg : Str -> Option Value) : Prop where
 b_abs : mg "abs" = none
 b_all : mg "all" = none
 b_any : mg "any" = none
 b_bool : mg "bool" = none
 b_int : mg "int" = none
 b_isinstance : mg "isinstance" = none
 b_len : mg "len" = none
 b_list : mg "list" = none
 b_max : mg "max" = none
 b_min : mg "min" = none
 b_range : mg "range" = none
 b_sorted : mg "sorted" = none
 b_sum : mg "sum" = none
 b_tuple : mg "tuple" = none
 b_zip : mg "zip" = none
variable {P : Program} {w : World} {K : PySem.W.Frag} {mg : Str -> Option Value} {base : Heap} {tb : List Addr} {f Tb : Addr} {fd : FuncData}
abbrev sI : Stmt := top 11
theorem uM : aZ ["_law_cell", "_law_k", "_law_number"] ["_law_cell", "_law_k"] (aP sI) := ⟨rfl, rfl, rfl, by decide +kernel, rfl, by decide +kernel, by decide +kernel⟩
theorem DY (T : BI K mg) (F : dR K "_law_mixed" "_law_mixed" sI f fd Tb) (KB : K.In base) (hmg : mg "_law_mixed" = some (.ref f)) : FI P w K mg base tb "_law_mixed" 2 (0 + 1) (aK 3 (gQ)) :=
 cH F KB hmg uM rfl (λ _ _ _ _ _ _ => us2 λ _ _ => rfl) λ c A outer s H E hcd hr => by
  have nd := uM.nd
  refine aC ?_ (aG (aR (aD bh (aD bM (pdv 2) (pdv 2)) aA)))
  refine aV (i := 2) nd ?_
  refine aD bh ?_ aA
  refine aD bN ?_ aA
  exact aD bN (aD bM (aD bh (pdv 0) aA) aA) (aD bM (aD bM aA (pdv 1)) (pdv 1))
abbrev rF : Stmt := top 12
theorem vf : aZ ["_law_script", "_law_drawn", "_law_k", "_law_cell", "_law_j"] ["_law_script"] (aP rF) := ⟨rfl, rfl, rfl, by decide +kernel, rfl, by decide +kernel, by decide +kernel⟩
theorem Dh {aX : FF} (T : BI K mg) (F : dR K "_law_draws" "_law_draws" rF f fd Tb) (KB : K.In base) (hmg : mg "_law_draws" = some (.ref f)) (F_Lmixed : FI P w K mg base tb "_law_mixed" 2 1 aX) : FI P w K mg base tb "_law_draws" 1 (1 + 1) (aK 5 (mx aX)) :=
 cH F KB hmg vf rfl (λ _ _ _ _ _ _ => us1 λ _ => rfl) λ c A outer s H E hcd hr => by
  have nd := vf.nd
  refine aC (aV (i := 1) nd (lw (oJ au))) ?_
  refine aC ?_ (aG (aR (pdv 1)))
  refine fW (ts := [2]) PassesOwn.never rfl ?_ (aQ (i := 2) nd) ?_
  refine cC T.b_range ?_
  refine ao ?_ au
  refine Ce rfl T.b_min ?_
  exact ao (fY T.b_len (ao (pdv 0) au)) (ao aA au)
  refine aC (aV (i := 3) nd (zQ T.b_abs (ao (bJ (pdv 0) (pdv 2)) au))) ?_
  refine aC ?_ ?_
  refine cA (bH xu (pdv 3) (aD Es aA aA)) ?_ bz
  refine aG ?_
  refine fW (ts := [4]) PassesOwn.never rfl (cC T.b_range (ao aA au)) (aQ (i := 4) nd) ?_
  refine aG ?_
  refine iU ?_
  refine gH (pdv 1) ?_
  refine ao ?_ au
  refine aM F_Lmixed (hr.mono (by decide)) ?_ (az (az aN))
  refine ao ?_ (ao (aD bN (aD bN (pdv 4) (pdv 2)) aA) au)
  refine aM F_Lmixed (hr.mono (by decide)) ?_ (az (az aN))
  exact ao (pdv 3) (ao (aD bN (aD bM aA (pdv 4)) aA) au)
  refine aC ?_ ?_
  refine vg PassesOwn.never ?_ ?_
  refine oE ?_
  exact vX (bH Lj (pdv 3) (aD Es aA aA)) (zf (bH xu (fY T.b_len (ao (pdv 1) au)) aA))
  refine aC ?_ (aG (aV (i := 3) nd (aD dF (pdv 3) aA)))
  exact iU (gH (pdv 1) (ao (aD bh (pdv 3) aA) au))
  refine aG ?_
  refine cA (bH Lj (pdv 3) aA) ?_ bz
  refine aG ?_
  exact iU (gH (pdv 1) (ao (aD bh (pdv 3) aA) au))
abbrev xf : Stmt := top 13
theorem ym : aZ ["_law_drawn"] ["_law_drawn"] (aP xf) := ⟨rfl, rfl, rfl, by decide +kernel, rfl, by decide +kernel, by decide +kernel⟩
theorem Gj (T : BI K mg) (F : dR K "_law_next" "_law_next" xf f fd Tb) (KB : K.In base) (hmg : mg "_law_next" = some (.ref f)) : FI P w K mg base tb "_law_next" 1 (0 + 1) (aK 1 (eU)) :=
 cH F KB hmg ym rfl (λ _ _ _ _ _ _ => us1 λ _ => rfl) λ c A outer s H E hcd hr => by
  have nd := ym.nd
  refine aC ?_ (aG (aR (Kf (pdv 0))))
  exact cA (bH (gJ hr) (pdv 0) (dM au)) (aG (aR aA)) bz
abbrev zF : Stmt := top 14
theorem Bt : aZ ["_law_one", "_law_other"] ["_law_one", "_law_other"] (aP zF) := ⟨rfl, rfl, rfl, by decide +kernel, rfl, by decide +kernel, by decide +kernel⟩
theorem JB (T : BI K mg) (F : dR K "_law_gcd" "_law_gcd" zF f fd Tb) (KB : K.In base) (hmg : mg "_law_gcd" = some (.ref f)) : FI P w K mg base tb "_law_gcd" 2 (0 + 1) (aK 2 (nW)) :=
 cH F KB hmg Bt rfl (λ _ _ _ _ _ _ => us2 λ _ _ => rfl) λ c A outer s H E hcd hr => by
  have nd := Bt.nd
  refine aC ?_ (aG (aR (zQ T.b_abs (ao (pdv 0) au))))
  refine vg PassesOwn.never (bH (xO hr) (pdv 1) aA) ?_
  refine aG ?_
  exact Bo (i := 0) (j := 1) rfl nd (ao (pdv 1) (ao (aD bh (pdv 0) (pdv 1)) au))
abbrev pK : Stmt := top 15
theorem rT : aZ ["_law_numbers", "_law_bottom", "_law_common", "_law_number"] ["_law_numbers", "_law_bottom"] (aP pK) := ⟨rfl, rfl, rfl, by decide +kernel, rfl, by decide +kernel, by decide +kernel⟩
theorem Al {cX : FF} (T : BI K mg) (F : dR K "_law_lowest" "_law_lowest" pK f fd Tb) (KB : K.In base) (hmg : mg "_law_lowest" = some (.ref f)) (F_Lgcd : FI P w K mg base tb "_law_gcd" 2 1 cX) : FI P w K mg base tb "_law_lowest" 2 (1 + 1) (aK 4 (dN cX)) :=
 cH F KB hmg rT rfl (λ _ _ _ _ _ _ => us2 λ _ _ => rfl) λ c A outer s H E hcd hr => by
  have nd := rT.nd
  refine aC (aV (i := 2) nd (pdv 1)) ?_
  refine aC ?_ ?_
  refine fW (ts := [3]) PassesOwn.never rfl (cZ (pdv 0)) (aQ (i := 3) nd) ?_
  refine aG ?_
  exact aV (i := 2) nd (aM F_Lgcd (hr.mono (by decide)) (ao (pdv 2) (ao (pdv 3) au)) (az (az aN)))
  refine aC ?_ ?_
  refine cA (bH xu (pdv 1) aA) ?_ bz
  exact aG (aV (i := 2) nd (aD cO aA (zQ T.b_abs (ao (pdv 2) au))))
  refine aG ?_
  refine aR ?_
  refine aD bN ?_ (dg (ao (aD dF (pdv 1) (pdv 2)) au))
  refine lW T.b_tuple ?_
  refine ao ?_ au
  refine dZ ?_
  refine gW (own := ["_law_number"]) (cap := ["_law_common"]) (capI := [2]) (ts := [0]) rfl ⟨rfl, by decide +kernel, ⟨⟨rfl, by first | exact Or.inl rfl | exact Or.inr rfl⟩, trivial⟩, by decide +kernel, by decide +kernel⟩ (by decide +kernel) (cZ (pdv 0)) (λ cs C fp s2 H2 => aQ (i := 0) (show (["_law_number", "_law_common"] : List Str).Nodup by decide +kernel)) ?_ ?_
  intro cs C fp s2 H2
  exact cI
  intro cs C fp s2 H2
  exact aD dF (pdv 0) (pdv 1)
abbrev oh : Stmt := top 18
theorem qz : aZ ["_law_drawn", "_law_directions", "_law_many", "_law_start", "_law_step", "_law_found", "_law_j", "_law_turn"] ["_law_drawn", "_law_directions", "_law_many"] (aP oh) := ⟨rfl, rfl, rfl, by decide +kernel, rfl, by decide +kernel, by decide +kernel⟩
theorem zb {aJ aL : FF} (T : BI K mg) (F : dR K "_law_on_line" "_law_on_line" oh f fd Tb) (KB : K.In base) (hmg : mg "_law_on_line" = some (.ref f)) (F_Lnext : FI P w K mg base tb "_law_next" 1 1 aJ) (F_Llowest : FI P w K mg base tb "_law_lowest" 2 2 aL) : FI P w K mg base tb "_law_on_line" 3 (2 + 1) (aK 8 (ir aJ aL)) :=
 cH F KB hmg qz rfl (λ _ _ _ _ _ _ => us3 λ _ _ _ => rfl) λ c A outer s H E hcd hr => by
  have nd := qz.nd
  refine aC ?_ ?_
  refine aV (i := 3) nd ?_
  refine dZ ?_
  refine gW (own := ["_law_k"]) (cap := ["_law_drawn"]) (capI := [0]) (ts := [0]) rfl ⟨rfl, by decide +kernel, ⟨⟨rfl, by first | exact Or.inl rfl | exact Or.inr rfl⟩, trivial⟩, by decide +kernel, by decide +kernel⟩ (by decide +kernel) (cC T.b_range (ao (pdv 1) au)) (λ cs C fp s2 H2 => aQ (i := 0) (show (["_law_k", "_law_drawn"] : List Str).Nodup by decide +kernel)) ?_ ?_
  intro cs C fp s2 H2
  exact cI
  intro cs C fp s2 H2
  refine aD cO ?_ aA
  exact aD bh (aM F_Lnext (hr.mono (by decide)) (ao (pdv 1) au) (az aN)) aA
  refine aC ?_ ?_
  refine aV (i := 4) nd ?_
  refine dZ ?_
  refine gW (own := ["_law_k"]) (cap := ["_law_drawn"]) (capI := [0]) (ts := [0]) rfl ⟨rfl, by decide +kernel, ⟨⟨rfl, by first | exact Or.inl rfl | exact Or.inr rfl⟩, trivial⟩, by decide +kernel, by decide +kernel⟩ (by decide +kernel) (cC T.b_range (ao (pdv 1) au)) (λ cs C fp s2 H2 => aQ (i := 0) (show (["_law_k", "_law_drawn"] : List Str).Nodup by decide +kernel)) ?_ ?_
  intro cs C fp s2 H2
  exact cI
  intro cs C fp s2 H2
  refine aD cO ?_ aA
  exact aD bh (aM F_Lnext (hr.mono (by decide)) (ao (pdv 1) au) (az aN)) aA
  refine aC (aV (i := 5) nd (lw (oJ au))) ?_
  refine aC ?_ (aG (aR (oA (pdv 5))))
  refine fW (ts := [6]) PassesOwn.never rfl (cC T.b_range (ao (pdv 2) au)) (aQ (i := 6) nd) ?_
  refine aC ?_ ?_
  refine aV (i := 7) nd ?_
  refine aD cO ?_ aA
  exact aD bh (aM F_Lnext (hr.mono (by decide)) (ao (pdv 0) au) (az aN)) aA
  refine aG ?_
  refine iU ?_
  refine gH (pdv 5) ?_
  refine ao ?_ au
  refine aM F_Llowest (hr.mono (by decide)) ?_ (az (az aN))
  refine ao ?_ (ao aA au)
  refine dZ ?_
  refine gW (own := ["_law_k"]) (cap := ["_law_start", "_law_turn", "_law_step"]) (capI := [3, 7, 4]) (ts := [0]) rfl ⟨rfl, by decide +kernel, ⟨⟨rfl, by first | exact Or.inl rfl | exact Or.inr rfl⟩, ⟨⟨rfl, by first | exact Or.inl rfl | exact Or.inr rfl⟩, ⟨⟨rfl, by first | exact Or.inl rfl | exact Or.inr rfl⟩, trivial⟩⟩⟩, by decide +kernel, by decide +kernel⟩ (by decide +kernel) (cC T.b_range (ao (pdv 1) au)) (λ cs C fp s2 H2 => aQ (i := 0) (show (["_law_k", "_law_start", "_law_turn", "_law_step"] : List Str).Nodup by decide +kernel)) ?_ ?_
  intro cs C fp s2 H2
  exact cI
  intro cs C fp s2 H2
  exact aD bN (bJ (pdv 1) (pdv 0)) (aD bM (pdv 2) (bJ (pdv 3) (pdv 0)))
abbrev vV : Stmt := top 19
theorem yr : aZ ["_law_drawn", "_law_directions", "_law_many", "_law_first", "_law_second", "_law_found", "_law_j", "_law_number", "_law_row_here"] ["_law_drawn", "_law_directions", "_law_many"] (aP vV) := ⟨rfl, rfl, rfl, by decide +kernel, rfl, by decide +kernel, by decide +kernel⟩
theorem Ff {aJ aL : FF} (T : BI K mg) (F : dR K "_law_flat" "_law_flat" vV f fd Tb) (KB : K.In base) (hmg : mg "_law_flat" = some (.ref f)) (F_Lnext : FI P w K mg base tb "_law_next" 1 1 aJ) (F_Llowest : FI P w K mg base tb "_law_lowest" 2 2 aL) : FI P w K mg base tb "_law_flat" 3 (2 + 1) (aK 9 (qK aJ aL)) :=
 cH F KB hmg yr rfl (λ _ _ _ _ _ _ => us3 λ _ _ _ => rfl) λ c A outer s H E hcd hr => by
  have nd := yr.nd
  refine aC ?_ ?_
  refine Bo (i := 3) (j := 4) rfl nd ?_
  refine ao ?_ ?_
  refine aD cO ?_ aA
  exact aD bh (aM F_Lnext (hr.mono (by decide)) (ao (pdv 0) au) (az aN)) aA
  refine ao ?_ au
  refine aD cO ?_ aA
  exact aD bh (aM F_Lnext (hr.mono (by decide)) (ao (pdv 0) au) (az aN)) aA
  refine aC (aV (i := 5) nd (lw (oJ au))) ?_
  refine aC ?_ (aG (aR (oA (pdv 5))))
  refine fW (ts := [6]) PassesOwn.never rfl (cC T.b_range (ao (pdv 2) au)) (aQ (i := 6) nd) ?_
  refine aC ?_ ?_
  exact aV (i := 7) nd (aM F_Lnext (hr.mono (by decide)) (ao (pdv 0) au) (az aN))
  refine aC ?_ ?_
  refine aV (i := 8) nd ?_
  refine lw ?_
  refine CW ?_ kE (jZ (pdv 1))
  refine dM ?_
  refine ao (aD cO (aD bh (pdv 7) aA) aA) ?_
  refine ao (aD cO (aD bh (aD dF (pdv 7) aA) aA) aA) ?_
  exact ao (aD cO (aD bh (aD dF (pdv 7) aA) aA) aA) au
  refine aC ?_ ?_
  refine cA (bH Ln (pdv 1) aA) ?_ bz
  refine aG ?_
  refine wk ?_ (pdv 8) (iz aA)
  exact aD bN (aD bM (pdv 3) (bJ (pdv 8) aA)) (aD bM (pdv 4) (bJ (pdv 8) (aD cO (pdv 1) aA)))
  refine aG ?_
  refine iU ?_
  refine gH (pdv 5) ?_
  exact ao (aM F_Llowest (hr.mono (by decide)) (ao (oA (pdv 8)) (ao aA au)) (az (az aN))) au
abbrev tu : Stmt := top 16
theorem uX : aZ ["_law_number", "_law_kind", "_law_base"] ["_law_number", "_law_kind", "_law_base"] (aP tu) := ⟨rfl, rfl, rfl, by decide +kernel, rfl, by decide +kernel, by decide +kernel⟩
theorem CV (T : BI K mg) (F : dR K "_law_place" "_law_place" tu f fd Tb) (KB : K.In base) (hmg : mg "_law_place" = some (.ref f)) : FI P w K mg base tb "_law_place" 3 (0 + 1) (aK 3 (gf)) :=
 cH F KB hmg uX rfl (λ _ _ _ _ _ _ => us3 λ _ _ _ => rfl) λ c A outer s H E hcd hr => by
  have nd := uX.nd
  refine aC ?_ ?_
  refine cA (bH (gJ hr) (pdv 1) aA) ?_ bz
  refine aG ?_
  refine aR ?_
  refine dg ?_
  refine ao (aD cO (aD bh (pdv 0) aA) aA) ?_
  exact ao (aD bN aA (aD bh (aD dF (pdv 0) aA) aA)) au
  refine aC ?_ ?_
  refine cA (bH (gJ hr) (pdv 1) aA) ?_ bz
  refine aG ?_
  refine aR ?_
  refine dg ?_
  exact ao (aD cO (aD bh (pdv 0) aA) aA) (ao aA au)
  refine aC ?_ ?_
  refine cA (bH (gJ hr) (pdv 1) aA) ?_ bz
  refine aG ?_
  refine aR ?_
  refine dg ?_
  refine ao (aD cO (aD bh (pdv 0) aA) aA) ?_
  exact ao (aD bN aA (aD bh (aD dF (pdv 0) aA) aA)) au
  refine aC ?_ ?_
  refine cA (bH (gJ hr) (pdv 1) aA) ?_ bz
  refine aG ?_
  refine aR ?_
  refine dg ?_
  refine ao ?_ (ao aA au)
  refine aD bN (pdv 2) ?_
  refine bJ ?_ (aD bh (pdv 0) aA)
  refine dM ?_
  exact ao aA (ao aA (ao aA (ao aA au)))
  refine aG ?_
  refine aR ?_
  refine dg ?_
  refine ao ?_ (ao aA au)
  exact aD bM (aD bh (pdv 0) aA) (aD bN aA (aD bh (pdv 2) aA))
abbrev rC : Stmt := top 17
theorem uR : aZ ["_law_number", "_law_directions", "_law_kind", "_law_base", "_law_numbers", "_law_bottom", "_law_k", "_law_top", "_law_under"] ["_law_number", "_law_directions", "_law_kind", "_law_base"] (aP rC) := ⟨rfl, rfl, rfl, by decide +kernel, rfl, by decide +kernel, by decide +kernel⟩
theorem Eb {aX ie aL : FF} (T : BI K mg) (F : dR K "_law_point" "_law_point" rC f fd Tb) (KB : K.In base) (hmg : mg "_law_point" = some (.ref f)) (F_Lmixed : FI P w K mg base tb "_law_mixed" 2 1 aX) (F_Lplace : FI P w K mg base tb "_law_place" 3 1 ie) (F_Llowest : FI P w K mg base tb "_law_lowest" 2 2 aL) : FI P w K mg base tb "_law_point" 4 (2 + 1) (aK 9 (iT aX ie aL)) :=
 cH F KB hmg uR rfl (λ _ _ _ _ _ _ => us4 λ _ _ _ _ => rfl) λ c A outer s H E hcd hr => by
  have nd := uR.nd
  refine aC (aV (i := 4) nd (lw (oJ au))) ?_
  refine aC (aV (i := 5) nd aA) ?_
  refine aC ?_ ?_
  refine fW (ts := [6]) PassesOwn.never rfl (cC T.b_range (ao (pdv 1) au)) (aQ (i := 6) nd) ?_
  refine aC ?_ ?_
  refine oX (ts := [7, 8]) ?_ (iD rfl (bG (aQ (i := 7) nd) (bG (aQ (i := 8) nd) gj)))
  refine aM F_Lplace (hr.mono (by decide)) ?_ (az (az (az aN)))
  refine ao ?_ (ao (pdv 2) (ao (aD bN (pdv 3) (pdv 6)) au))
  exact aM F_Lmixed (hr.mono (by decide)) (ao (pdv 0) (ao (aD bN (pdv 6) aA) au)) (az (az aN))
  refine aC ?_ (aG (iU (gH (pdv 4) (ao (pdv 7) au))))
  exact cA (bH (gJ hr) (pdv 6) aA) (aG (aV (i := 5) nd (pdv 8))) bz
  refine aG ?_
  exact aR (aM F_Llowest (hr.mono (by decide)) (ao (oA (pdv 4)) (ao (pdv 5) au)) (az (az aN)))
abbrev pP : Stmt := top 20
theorem rP : aZ ["_law_drawn", "_law_directions", "_law_most", "_law_number", "_law_many", "_law_kind", "_law_found", "_law_j", "_law_one"] ["_law_drawn", "_law_directions", "_law_most"] (aP pP) := ⟨rfl, rfl, rfl, by decide +kernel, rfl, by decide +kernel, by decide +kernel⟩
theorem Aw {aJ eY jm bB : FF} (T : BI K mg) (F : dR K "_law_points" "_law_points" pP f fd Tb) (KB : K.In base) (hmg : mg "_law_points" = some (.ref f)) (F_Lnext : FI P w K mg base tb "_law_next" 1 1 aJ) (F_Lon_line : FI P w K mg base tb "_law_on_line" 3 3 eY) (F_Lflat : FI P w K mg base tb "_law_flat" 3 3 jm) (F_Lpoint : FI P w K mg base tb "_law_point" 4 3 bB) : FI P w K mg base tb "_law_points" 3 (3 + 1) (aK 9 (jd aJ eY jm bB)) :=
 cH F KB hmg rP rfl (λ _ _ _ _ _ _ => us3 λ _ _ _ => rfl) λ c A outer s H E hcd hr => by
  have nd := rP.nd
  refine aC ?_ ?_
  exact aV (i := 3) nd (aM F_Lnext (hr.mono (by decide)) (ao (pdv 0) au) (az aN))
  refine aC ?_ ?_
  exact aV (i := 4) nd (aD bh (aD dF (pdv 3) aA) (aD bN (pdv 2) aA))
  refine aC (aV (i := 5) nd (aD bh (pdv 3) aA)) ?_
  refine aC ?_ ?_
  refine cA (bH (gJ hr) (pdv 5) aA) ?_ bz
  refine aG ?_
  refine aR ?_
  exact aM F_Lon_line (hr.mono (by decide)) (ao (pdv 0) (ao (pdv 1) (ao (pdv 4) au))) (az (az (az aN)))
  refine aC ?_ ?_
  refine cA (bH (gJ hr) (pdv 5) aA) ?_ bz
  refine aG ?_
  refine aR ?_
  exact aM F_Lflat (hr.mono (by decide)) (ao (pdv 0) (ao (pdv 1) (ao (pdv 4) au))) (az (az (az aN)))
  refine aC ?_ ?_
  refine cA (bH (gJ hr) (pdv 5) aA) ?_ bz
  refine aG ?_
  refine aR ?_
  refine aD bM ?_ (pdv 4)
  refine dM ?_
  refine ao ?_ au
  refine aM F_Lpoint (hr.mono (by decide)) ?_ (az (az (az (az aN))))
  exact ao (pdv 3) (ao (pdv 1) (ao aA (ao aA au)))
  refine aC (aV (i := 6) nd (lw (oJ au))) ?_
  refine aC ?_ (aG (aR (oA (pdv 6))))
  refine fW (ts := [7]) PassesOwn.never rfl (cC T.b_range (ao (pdv 4) au)) (aQ (i := 7) nd) ?_
  refine aC ?_ ?_
  exact aV (i := 8) nd (aM F_Lnext (hr.mono (by decide)) (ao (pdv 0) au) (az aN))
  refine aG ?_
  refine cA ?_ ?_ ?_
  refine oE ?_
  refine vX (bH (gJ hr) (pdv 5) aA) ?_
  exact vX (bH (Mf hr) (pdv 6) (dM au)) (zf (bH (gJ hr) (aD bh (pdv 8) aA) aA))
  refine aG ?_
  refine iU ?_
  refine gH (pdv 6) ?_
  refine ao ?_ au
  refine bJ (pdv 6) ?_
  exact aD bh (aD dF (pdv 8) aA) (fY T.b_len (ao (pdv 6) au))
  refine aG ?_
  refine iU ?_
  refine gH (pdv 6) ?_
  refine ao ?_ au
  refine aM F_Lpoint (hr.mono (by decide)) ?_ (az (az (az (az aN))))
  refine ao (aD dF (pdv 8) aA) ?_
  refine ao (pdv 1) ?_
  exact ao (aD bh (aD bh (pdv 5) aA) aA) (ao (aD bM (aD bh (pdv 8) aA) aA) au)
abbrev jl : Stmt := top 29
theorem lD : aZ ["_law_drawn", "_law_directions", "_law_most", "_law_found"] ["_law_drawn", "_law_directions", "_law_most"] (aP jl) := ⟨rfl, rfl, rfl, by decide +kernel, rfl, by decide +kernel, by decide +kernel⟩
theorem qO {fK aJ bB : FF} (T : BI K mg) (F : dR K "_law_some_points" "_law_some_points" jl f fd Tb) (KB : K.In base) (hmg : mg "_law_some_points" = some (.ref f)) (F_Lpoints : FI P w K mg base tb "_law_points" 3 4 fK) (F_Lnext : FI P w K mg base tb "_law_next" 1 1 aJ) (F_Lpoint : FI P w K mg base tb "_law_point" 4 3 bB) : FI P w K mg base tb "_law_some_points" 3 (4 + 1) (aK 4 (cU fK aJ bB)) :=
 cH F KB hmg lD rfl (λ _ _ _ _ _ _ => us3 λ _ _ _ => rfl) λ c A outer s H E hcd hr => by
  have nd := lD.nd
  refine aC ?_ ?_
  refine aV (i := 3) nd ?_
  exact aM F_Lpoints (hr.mono (by decide)) (ao (pdv 0) (ao (pdv 1) (ao (pdv 2) au))) (az (az (az aN)))
  refine aC ?_ (aG (aR (pdv 3)))
  refine cA (bH (gJ hr) (pdv 3) (dM au)) ?_ bz
  refine aG ?_
  refine aR ?_
  refine dM ?_
  refine ao ?_ au
  refine aM F_Lpoint (hr.mono (by decide)) ?_ (az (az (az (az aN))))
  exact ao (aM F_Lnext (hr.mono (by decide)) (ao (pdv 0) au) (az aN)) (ao (pdv 1) (ao aA (ao aA au)))
abbrev zW : Stmt := top 34
theorem Bw : aZ ["_law_drawn", "_law_directions", "_law_number", "_law_size"] ["_law_drawn", "_law_directions"] (aP zW) := ⟨rfl, rfl, rfl, by decide +kernel, rfl, by decide +kernel, by decide +kernel⟩
theorem Jy {aJ aX : FF} (T : BI K mg) (F : dR K "_law_row" "_law_row" zW f fd Tb) (KB : K.In base) (hmg : mg "_law_row" = some (.ref f)) (F_Lnext : FI P w K mg base tb "_law_next" 1 1 aJ) (F_Lmixed : FI P w K mg base tb "_law_mixed" 2 1 aX) : FI P w K mg base tb "_law_row" 2 (1 + 1) (aK 4 (oH aJ aX)) :=
 cH F KB hmg Bw rfl (λ _ _ _ _ _ _ => us2 λ _ _ => rfl) λ c A outer s H E hcd hr => by
  have nd := Bw.nd
  refine aC ?_ ?_
  exact aV (i := 2) nd (aM F_Lnext (hr.mono (by decide)) (ao (pdv 0) au) (az aN))
  refine aC ?_ ?_
  refine aV (i := 3) nd ?_
  refine bJ ?_ (aD bh (pdv 2) aA)
  refine dM ?_
  exact ao aA (ao aA (ao aA (ao aA au)))
  refine aG ?_
  refine aR ?_
  refine lW T.b_tuple ?_
  refine ao ?_ au
  refine dZ ?_
  refine gW (own := ["_law_k"]) (cap := ["_law_number", "_law_size"]) (capI := [2, 3]) (ts := [0]) rfl ⟨rfl, by decide +kernel, ⟨⟨rfl, by first | exact Or.inl rfl | exact Or.inr rfl⟩, ⟨⟨rfl, by first | exact Or.inl rfl | exact Or.inr rfl⟩, trivial⟩⟩, by decide +kernel, by decide +kernel⟩ (by decide +kernel) (cC T.b_range (ao (pdv 1) au)) (λ cs C fp s2 H2 => aQ (i := 0) (show (["_law_k", "_law_number", "_law_size"] : List Str).Nodup by decide +kernel)) ?_ ?_
  intro cs C fp s2 H2
  exact cI
  intro cs C fp s2 H2
  refine aD cO ?_ (pdv 2)
  refine aD bh ?_ (aD bN (aD bM aA (pdv 2)) aA)
  refine aM F_Lmixed (hr.mono (by decide)) ?_ (az (az aN))
  exact ao (aD dF (pdv 1) aA) (ao (aD bN (pdv 0) aA) au)
abbrev Be : Stmt := top 25
theorem BV : aZ ["_law_row_here", "_law_spot_here"] ["_law_row_here", "_law_spot_here"] (aP Be) := ⟨rfl, rfl, rfl, by decide +kernel, rfl, by decide +kernel, by decide +kernel⟩
theorem Jt (T : BI K mg) (F : dR K "_law_sum" "_law_sum" Be f fd Tb) (KB : K.In base) (hmg : mg "_law_sum" = some (.ref f)) : FI P w K mg base tb "_law_sum" 2 (0 + 1) (aK 2 (lZ)) :=
 cH F KB hmg BV rfl (λ _ _ _ _ _ _ => us2 λ _ _ => rfl) λ c A outer s H E hcd hr => by
  have nd := BV.nd
  refine aG ?_
  refine aR ?_
  refine dg ?_
  refine ao ?_ (ao (bJ (pdv 1) (iz aA)) au)
  refine zy rfl T.b_sum ?_
  refine jc rfl ?_
  refine dZ ?_
  refine gW (own := ["_law_one", "_law_other"]) (cap := []) (capI := []) (ts := [0, 1]) rfl ⟨rfl, by decide +kernel, trivial, by decide +kernel, by decide +kernel⟩ (by decide +kernel) (Bx T.b_zip (ao (pdv 0) (ao (pdv 1) au))) (λ cs C fp s2 H2 => iD rfl (bG (aQ (i := 0) (show (["_law_one", "_law_other"] : List Str).Nodup by decide +kernel)) (bG (aQ (i := 1) (show (["_law_one", "_law_other"] : List Str).Nodup by decide +kernel)) gj))) ?_ ?_
  intro cs C fp s2 H2
  exact cI
  intro cs C fp s2 H2
  exact aD bM (pdv 0) (pdv 1)
abbrev nO : Stmt := top 33
theorem qF : aZ ["_law_row_here", "_law_spots", "_law_found"] ["_law_row_here", "_law_spots"] (aP nO) := ⟨rfl, rfl, rfl, by decide +kernel, rfl, by decide +kernel, by decide +kernel⟩
theorem yG {cN : FF} (T : BI K mg) (F : dR K "_law_ceiling" "_law_ceiling" nO f fd Tb) (KB : K.In base) (hmg : mg "_law_ceiling" = some (.ref f)) (F_Lsum : FI P w K mg base tb "_law_sum" 2 1 cN) : FI P w K mg base tb "_law_ceiling" 2 (1 + 1) (aK 3 (iw cN)) :=
 cH F KB hmg qF rfl (λ _ _ _ _ _ _ => us2 λ _ _ => rfl) λ c A outer s H E hcd hr => by
  have nd := qF.nd
  refine aC ?_ ?_
  refine BZ (i := 2) nd (own := ["_law_spot_here"]) (cap := ["_law_row_here"]) (capI := [0]) (ts := [0]) rfl ⟨rfl, by decide +kernel, ⟨⟨rfl, by first | exact Or.inl rfl | exact Or.inr rfl⟩, trivial⟩, by decide +kernel, by decide +kernel⟩ (by decide +kernel) (cZ (pdv 1)) (λ cs C fp s2 H2 => aQ (i := 0) (show (["_law_spot_here", "_law_row_here"] : List Str).Nodup by decide +kernel)) ?_ ?_
  intro cs C fp s2 H2
  exact cI
  intro cs C fp s2 H2
  exact aM F_Lsum (hr.mono (by decide)) (ao (pdv 1) (ao (pdv 0) au)) (az (az aN))
  refine aG ?_
  refine aR ?_
  refine JC rfl T.b_max ?_
  refine ao ?_ au
  refine dZ ?_
  refine gW (own := ["_law_top", "_law_bottom"]) (cap := []) (capI := []) (ts := [0, 1]) rfl ⟨rfl, by decide +kernel, trivial, by decide +kernel, by decide +kernel⟩ (by decide +kernel) (cZ (pdv 2)) (λ cs C fp s2 H2 => iD rfl (bG (aQ (i := 0) (show (["_law_top", "_law_bottom"] : List Str).Nodup by decide +kernel)) (bG (aQ (i := 1) (show (["_law_top", "_law_bottom"] : List Str).Nodup by decide +kernel)) gj))) ?_ ?_
  intro cs C fp s2 H2
  exact cI
  intro cs C fp s2 H2
  exact aD cO aA (aD dF (aD cO aA (pdv 0)) (pdv 1))
abbrev qd : Stmt := top 22
theorem tV : aZ ["_law_drawn", "_law_numbers", "_law_number", "_law_turn", "_law_some", "_law_size"] ["_law_drawn", "_law_numbers"] (aP qd) := ⟨rfl, rfl, rfl, by decide +kernel, rfl, by decide +kernel, by decide +kernel⟩
theorem zE {aJ aX : FF} (T : BI K mg) (F : dR K "_law_shares" "_law_shares" qd f fd Tb) (KB : K.In base) (hmg : mg "_law_shares" = some (.ref f)) (F_Lnext : FI P w K mg base tb "_law_next" 1 1 aJ) (F_Lmixed : FI P w K mg base tb "_law_mixed" 2 1 aX) (hT : Tb ∈ tb) : FI P w K mg base tb "_law_shares" 2 (2 + 1) (aK 6 (gk aJ aX)) :=
 cH F KB hmg tV rfl (λ _ _ _ _ _ _ => us2 λ _ _ => rfl) λ c A outer s H E hcd hr => by
  have nd := tV.nd
  refine aC ?_ ?_
  exact aV (i := 2) nd (aM F_Lnext (hr.mono (by decide)) (ao (pdv 0) au) (az aN))
  refine aC ?_ ?_
  refine aV (i := 3) nd ?_
  refine dZ ?_
  refine Dk (x := "_law_k") (cap := ["_law_number"]) (capI := [2]) rfl hr T.b_sorted ⟨⟨rfl, by decide +kernel, ⟨⟨rfl, by first | exact Or.inl rfl | exact Or.inr rfl⟩, trivial⟩, by decide +kernel, by decide +kernel⟩, rfl, by decide +kernel, by decide +kernel, by decide +kernel, rfl, rfl, rfl, λ _ _ _ _ _ _ => rfl⟩ hT ⟨c, rfl, hcd⟩ (pdv 1) ?_
  intro q f code s H hm
  have hg1 := hm _ hr
  exact aM F_Lmixed (hg1.mono (by decide)) (ao (pdv 1) (ao (aD bN (pdv 0) aA) au)) (az (az aN))
  refine aC ?_ ?_
  refine aV (i := 4) nd ?_
  refine dZ ?_
  refine Gf T.b_sorted ?_
  refine ao ?_ au
  refine my (pdv 3) kE ?_
  refine jZ ?_
  refine aD bN aA ?_
  refine aD bh (pdv 2) ?_
  refine Ce rfl T.b_min ?_
  exact ao aA (ao (fY T.b_len (ao (pdv 3) au)) au)
  refine aC ?_ ?_
  refine aV (i := 5) nd ?_
  refine bJ ?_ (aD bh (aD dF (pdv 2) aA) aA)
  exact dM (ao aA (ao aA (ao aA au)))
  refine aG ?_
  refine aR ?_
  refine lW T.b_tuple ?_
  refine ao ?_ au
  refine dZ ?_
  refine gW (own := ["_law_k"]) (cap := ["_law_number", "_law_size"]) (capI := [2, 5]) (ts := [0]) rfl ⟨rfl, by decide +kernel, ⟨⟨rfl, by first | exact Or.inl rfl | exact Or.inr rfl⟩, ⟨⟨rfl, by first | exact Or.inl rfl | exact Or.inr rfl⟩, trivial⟩⟩, by decide +kernel, by decide +kernel⟩ (by decide +kernel) (cZ (pdv 4)) (λ cs C fp s2 H2 => aQ (i := 0) (show (["_law_k", "_law_number", "_law_size"] : List Str).Nodup by decide +kernel)) ?_ ?_
  intro cs C fp s2 H2
  exact cI
  intro cs C fp s2 H2
  refine dg ?_
  refine ao (pdv 0) ?_
  refine ao ?_ au
  refine aD bN aA ?_
  refine aD bh ?_ (pdv 2)
  exact aM F_Lmixed (hr.mono (by decide)) (ao (pdv 1) (ao (aD bN (pdv 0) aA) au)) (az (az aN))
abbrev Ah : Stmt := top 21
theorem Bk : aZ ["_law_points_here", "_law_shares_here", "_law_bottom", "_law_k", "_law_share", "_law_numbers", "_law_total", "_law_i", "_law_more"] ["_law_points_here", "_law_shares_here"] (aP Ah) := ⟨rfl, rfl, rfl, by decide +kernel, rfl, by decide +kernel, by decide +kernel⟩
theorem Iw {cX aL : FF} (T : BI K mg) (F : dR K "_law_mix" "_law_mix" Ah f fd Tb) (KB : K.In base) (hmg : mg "_law_mix" = some (.ref f)) (F_Lgcd : FI P w K mg base tb "_law_gcd" 2 1 cX) (F_Llowest : FI P w K mg base tb "_law_lowest" 2 2 aL) : FI P w K mg base tb "_law_mix" 2 (2 + 1) (aK 9 (rM cX aL)) :=
 cH F KB hmg Bk rfl (λ _ _ _ _ _ _ => us2 λ _ _ => rfl) λ c A outer s H E hcd hr => by
  have nd := Bk.nd
  refine aC (aV (i := 2) nd aA) ?_
  refine aC ?_ ?_
  refine fW (ts := [3, 4]) PassesOwn.never rfl (cZ (pdv 1)) (iD rfl (bG (aQ (i := 3) nd) (bG (aQ (i := 4) nd) gj))) ?_
  refine aG ?_
  refine aV (i := 2) nd ?_
  refine aD dF ?_ ?_
  exact aD bM (pdv 2) (bJ (bJ (pdv 0) (pdv 3)) (iz aA))
  refine aM F_Lgcd (hr.mono (by decide)) ?_ (az (az aN))
  refine ao (pdv 2) ?_
  exact ao (bJ (bJ (pdv 0) (pdv 3)) (iz aA)) au
  refine aC ?_ ?_
  refine aV (i := 5) nd ?_
  refine lw ?_
  refine JW (dM (ao aA au)) ?_
  refine aD cO ?_ aA
  refine fY T.b_len ?_
  exact ao (bJ (pdv 0) (bJ (bJ (pdv 1) aA) aA)) au
  refine aC (aV (i := 6) nd aA) ?_
  refine aC ?_ ?_
  refine fW (ts := [3, 4]) PassesOwn.never rfl (cZ (pdv 1)) (iD rfl (bG (aQ (i := 3) nd) (bG (aQ (i := 4) nd) gj))) ?_
  refine aC (aV (i := 6) nd (aD bN (pdv 6) (pdv 4))) ?_
  refine aG ?_
  refine fW (ts := [7]) PassesOwn.never rfl (cC T.b_range (ao (fY T.b_len (ao (pdv 5) au)) au)) (aQ (i := 7) nd) ?_
  refine aC ?_ ?_
  exact aV (i := 8) nd (aD bM (pdv 4) (bJ (bJ (pdv 0) (pdv 3)) (pdv 7)))
  refine aG ?_
  refine wk ?_ (pdv 5) (pdv 7)
  refine aD bN (bJ (pdv 5) (pdv 7)) ?_
  refine aD bM (pdv 8) ?_
  exact aD dF (pdv 2) (bJ (bJ (pdv 0) (pdv 3)) (iz aA))
  refine aG ?_
  refine aR ?_
  refine aM F_Llowest (hr.mono (by decide)) ?_ (az (az aN))
  exact ao (oA (pdv 5)) (ao (aD bM (pdv 2) (pdv 6)) au)
abbrev sy : Stmt := top 23
theorem uH : aZ ["_law_spot_here", "_law_number", "_law_at", "_law_size", "_law_numbers"] ["_law_spot_here", "_law_number"] (aP sy) := ⟨rfl, rfl, rfl, by decide +kernel, rfl, by decide +kernel, by decide +kernel⟩
theorem Cv {aL : FF} (T : BI K mg) (F : dR K "_law_moved" "_law_moved" sy f fd Tb) (KB : K.In base) (hmg : mg "_law_moved" = some (.ref f)) (F_Llowest : FI P w K mg base tb "_law_lowest" 2 2 aL) : FI P w K mg base tb "_law_moved" 2 (2 + 1) (aK 5 (pG aL)) :=
 cH F KB hmg uH rfl (λ _ _ _ _ _ _ => us2 λ _ _ => rfl) λ c A outer s H E hcd hr => by
  have nd := uH.nd
  refine aC ?_ ?_
  refine aV (i := 2) nd ?_
  exact aD bh (pdv 1) (aD cO (fY T.b_len (ao (pdv 0) au)) aA)
  refine aC ?_ ?_
  refine aV (i := 3) nd ?_
  refine bJ ?_ (aD bh (aD dF (pdv 1) aA) aA)
  refine dM ?_
  exact ao aA (ao aA (ao aA (ao aA au)))
  refine aC ?_ ?_
  refine Km (i := 4) nd (own := ["_law_one"]) (cap := ["_law_size"]) (capI := [3]) (ts := [0]) rfl ⟨rfl, by decide +kernel, ⟨⟨rfl, by first | exact Or.inl rfl | exact Or.inr rfl⟩, trivial⟩, by decide +kernel, by decide +kernel⟩ (by decide +kernel) (cZ (my (pdv 0) kE (jZ (iz aA)))) (λ cs C fp s2 H2 => aQ (i := 0) (show (["_law_one", "_law_size"] : List Str).Nodup by decide +kernel)) ?_ ?_
  intro cs C fp s2 H2
  exact cI
  intro cs C fp s2 H2
  exact aD bM (pdv 0) (pdv 1)
  refine aC ?_ ?_
  refine wk ?_ (pdv 4) (pdv 2)
  refine aD bN (bJ (pdv 4) (pdv 2)) ?_
  refine aD bM ?_ (bJ (pdv 0) (iz aA))
  exact bJ (dM (ao aA (ao (iz aA) au))) (aD bh (aD dF (pdv 1) aA) aA)
  refine aG ?_
  refine aR ?_
  refine aM F_Llowest (hr.mono (by decide)) ?_ (az (az aN))
  refine ao (oA (pdv 4)) ?_
  exact ao (aD bM (bJ (pdv 0) (iz aA)) (pdv 3)) au
abbrev wM : Stmt := top 24
theorem xU : aZ ["_law_drawn", "_law_points_here", "_law_directions", "_law_number", "_law_spot_here"] ["_law_drawn", "_law_points_here", "_law_directions"] (aP wM) := ⟨rfl, rfl, rfl, by decide +kernel, rfl, by decide +kernel, by decide +kernel⟩
theorem Gv {aJ bB fG jH gM : FF} (T : BI K mg) (F : dR K "_law_spot" "_law_spot" wM f fd Tb) (KB : K.In base) (hmg : mg "_law_spot" = some (.ref f)) (F_Lnext : FI P w K mg base tb "_law_next" 1 1 aJ) (F_Lpoint : FI P w K mg base tb "_law_point" 4 3 bB) (F_Lshares : FI P w K mg base tb "_law_shares" 2 3 fG) (F_Lmix : FI P w K mg base tb "_law_mix" 2 3 jH) (F_Lmoved : FI P w K mg base tb "_law_moved" 2 3 gM) : FI P w K mg base tb "_law_spot" 3 (3 + 1) (aK 5 (gR aJ bB fG jH gM)) :=
 cH F KB hmg xU rfl (λ _ _ _ _ _ _ => us3 λ _ _ _ => rfl) λ c A outer s H E hcd hr => by
  have nd := xU.nd
  refine aC ?_ ?_
  exact aV (i := 3) nd (aM F_Lnext (hr.mono (by decide)) (ao (pdv 0) au) (az aN))
  refine aC ?_ ?_
  refine cA ?_ ?_ bz
  refine oE ?_
  exact pQ (bH (gJ hr) (pdv 1) (dM au)) (pF (bH (gJ hr) (aD bh (pdv 3) aA) aA))
  refine aG ?_
  refine aR ?_
  refine aM F_Lpoint (hr.mono (by decide)) ?_ (az (az (az (az aN))))
  refine ao (aD dF (pdv 3) aA) ?_
  refine ao (pdv 2) ?_
  exact ao (aD bh (aD dF (pdv 3) aA) aA) (ao aA au)
  refine aC ?_ ?_
  refine cA (bH (gJ hr) (aD bh (pdv 3) aA) aA) ?_ bz
  refine aG ?_
  refine aR ?_
  refine bJ (pdv 1) ?_
  exact aD bh (aD dF (pdv 3) aA) (fY T.b_len (ao (pdv 1) au))
  refine aC ?_ ?_
  refine aV (i := 4) nd ?_
  refine aM F_Lmix (hr.mono (by decide)) ?_ (az (az aN))
  refine ao (pdv 1) ?_
  refine ao ?_ au
  refine aM F_Lshares (hr.mono (by decide)) ?_ (az (az aN))
  refine ao (pdv 0) ?_
  refine ao ?_ au
  exact dZ (Fi rfl T.b_list T.b_range (ao (fY T.b_len (ao (pdv 1) au)) au))
  refine aC ?_ ?_
  exact cA (bH xu (aD bh (pdv 3) aA) aA) (aG (aR (pdv 4))) bz
  refine aG ?_
  refine aR ?_
  exact aM F_Lmoved (hr.mono (by decide)) (ao (pdv 4) (ao (aD dF (pdv 3) aA) au)) (az (az aN))
abbrev pI : Stmt := top 36
theorem tK : aZ ["_law_drawn", "_law_row_here", "_law_t", "_law_spot_here", "_law_square", "_law_top", "_law_bottom", "_law_more", "_law_far", "_law_numbers"] ["_law_drawn", "_law_row_here", "_law_t", "_law_spot_here"] (aP pI) := ⟨rfl, rfl, rfl, by decide +kernel, rfl, by decide +kernel, by decide +kernel⟩
theorem zB {cN aJ aL : FF} (T : BI K mg) (F : dR K "_law_beyond" "_law_beyond" pI f fd Tb) (KB : K.In base) (hmg : mg "_law_beyond" = some (.ref f)) (F_Lsum : FI P w K mg base tb "_law_sum" 2 1 cN) (F_Lnext : FI P w K mg base tb "_law_next" 1 1 aJ) (F_Llowest : FI P w K mg base tb "_law_lowest" 2 2 aL) : FI P w K mg base tb "_law_beyond" 4 (2 + 1) (aK 10 (dC cN aJ aL)) :=
 cH F KB hmg tK rfl (λ _ _ _ _ _ _ => us4 λ _ _ _ _ => rfl) λ c A outer s H E hcd hr => by
  have nd := tK.nd
  refine aC ?_ ?_
  refine aV (i := 4) nd ?_
  refine zy rfl T.b_sum ?_
  refine jc rfl ?_
  refine dZ ?_
  refine gW (own := ["_law_one"]) (cap := []) (capI := []) (ts := [0]) rfl ⟨rfl, by decide +kernel, trivial, by decide +kernel, by decide +kernel⟩ (by decide +kernel) (cZ (pdv 1)) (λ cs C fp s2 H2 => aQ (i := 0) (show (["_law_one"] : List Str).Nodup by decide +kernel)) ?_ ?_
  intro cs C fp s2 H2
  exact cI
  intro cs C fp s2 H2
  exact aD bM (pdv 0) (pdv 0)
  refine aC ?_ ?_
  exact cA (bH (gJ hr) (pdv 4) aA) (aG (aR (pdv 3))) bz
  refine aC ?_ ?_
  exact oX (ts := [5, 6]) (aM F_Lsum (hr.mono (by decide)) (ao (pdv 1) (ao (pdv 3) au)) (az (az aN))) (iD rfl (bG (aQ (i := 5) nd) (bG (aQ (i := 6) nd) gj)))
  refine aC ?_ ?_
  refine aV (i := 7) nd ?_
  exact aD bh (aM F_Lnext (hr.mono (by decide)) (ao (pdv 0) au) (az aN)) aA
  refine aC ?_ ?_
  refine aV (i := 8) nd ?_
  exact aD bN (aD bM aA (aD cO (aD bM (pdv 2) (pdv 6)) (pdv 5))) (pdv 7)
  refine aC ?_ ?_
  refine BZ (i := 9) nd (own := ["_law_k"]) (cap := ["_law_spot_here", "_law_square", "_law_row_here", "_law_far"]) (capI := [3, 4, 1, 8]) (ts := [0]) rfl ⟨rfl, by decide +kernel, ⟨⟨rfl, by first | exact Or.inl rfl | exact Or.inr rfl⟩, ⟨⟨rfl, by first | exact Or.inl rfl | exact Or.inr rfl⟩, ⟨⟨rfl, by first | exact Or.inl rfl | exact Or.inr rfl⟩, ⟨⟨rfl, by first | exact Or.inl rfl | exact Or.inr rfl⟩, trivial⟩⟩⟩⟩, by decide +kernel, by decide +kernel⟩ (by decide +kernel) (cC T.b_range (ao (fY T.b_len (ao (pdv 1) au)) au)) (λ cs C fp s2 H2 => aQ (i := 0) (show (["_law_k", "_law_spot_here", "_law_square", "_law_row_here", "_law_far"] : List Str).Nodup by decide +kernel)) ?_ ?_
  intro cs C fp s2 H2
  exact cI
  intro cs C fp s2 H2
  exact aD bN (aD bM (aD bM aA (bJ (pdv 1) (pdv 0))) (pdv 2)) (aD bM (bJ (pdv 3) (pdv 0)) (pdv 4))
  refine aG ?_
  refine aR ?_
  refine aM F_Llowest (hr.mono (by decide)) ?_ (az (az aN))
  exact ao (pdv 9) (ao (aD bM (aD bM aA (pdv 4)) (pdv 6)) au)
abbrev rJ : Stmt := top 27
theorem uE : aZ ["_law_thing"] ["_law_thing"] (aP rJ) := ⟨rfl, rfl, rfl, by decide +kernel, rfl, by decide +kernel, by decide +kernel⟩
theorem Ea (T : BI K mg) (F : dR K "_law_whole" "_law_whole" rJ f fd Tb) (KB : K.In base) (hmg : mg "_law_whole" = some (.ref f)) : FI P w K mg base tb "_law_whole" 1 (0 + 1) (aK 1 (lO)) :=
 cH F KB hmg uE rfl (λ _ _ _ _ _ _ => us1 λ _ => rfl) λ c A outer s H E hcd hr => by
  have nd := uE.nd
  refine aG ?_
  refine aR ?_
  refine kO ?_ ?_
  exact lu T.b_isinstance T.b_int PyProof.Rows.boot_int (by decide) (pdv 0)
  refine jx ?_
  refine uf ?_
  exact lu T.b_isinstance T.b_bool PyProof.Rows.boot_bool (by decide) (pdv 0)
abbrev nU : Stmt := top 30
theorem qI : aZ ["_law_directions", "_law_thing"] ["_law_directions", "_law_thing"] (aP nU) := ⟨rfl, rfl, rfl, by decide +kernel, rfl, by decide +kernel, by decide +kernel⟩
theorem xR {fO : FF} (T : BI K mg) (F : dR K "_law_is_pair" "_law_is_pair" nU f fd Tb) (KB : K.In base) (hmg : mg "_law_is_pair" = some (.ref f)) (F_Lwhole : FI P w K mg base tb "_law_whole" 1 1 fO) : FI P w K mg base tb "_law_is_pair" 2 (1 + 1) (aK 2 (il fO)) :=
 cH F KB hmg qI rfl (λ _ _ _ _ _ _ => us2 λ _ _ => rfl) λ c A outer s H E hcd hr => by
  have nd := qI.nd
  refine aC ?_ ?_
  refine cA ?_ (aG (aR nG)) bz
  refine oE ?_
  refine pQ ?_ ?_
  refine iH ?_
  refine iG ?_
  exact lu T.b_isinstance T.b_tuple PyProof.Rows.boot_tuple (by decide) (pdv 1)
  refine pQ (bH (xO hr) (fY T.b_len (ao (pdv 1) au)) aA) ?_
  refine pF ?_
  refine iH ?_
  exact iG (aM F_Lwhole (hr.mono (by decide)) (ao (bJ (pdv 1) aA) au) (az aN))
  refine aC ?_ ?_
  refine cA ?_ (aG (aR nG)) bz
  refine oE ?_
  refine pQ ?_ ?_
  refine iH ?_
  refine iG ?_
  exact lu T.b_isinstance T.b_tuple PyProof.Rows.boot_tuple (by decide) (bJ (pdv 1) aA)
  refine pF ?_
  exact bH (xO hr) (fY T.b_len (ao (bJ (pdv 1) aA) au)) (pdv 0)
  refine aG ?_
  refine aR ?_
  refine Ha rfl T.b_all ?_
  refine jc rfl ?_
  refine dZ ?_
  refine gW (own := ["_law_number"]) (cap := []) (capI := []) (ts := [0]) rfl ⟨rfl, by decide +kernel, trivial, by decide +kernel, by decide +kernel⟩ (by decide +kernel) (cZ (bJ (pdv 1) aA)) (λ cs C fp s2 H2 => aQ (i := 0) (show (["_law_number"] : List Str).Nodup by decide +kernel)) ?_ ?_
  intro cs C fp s2 H2
  exact cI
  intro cs C fp s2 H2
  exact aM F_Lwhole (hr.mono (by decide)) (ao (pdv 0) au) (az aN)
abbrev tR : Stmt := top 26
theorem uL : aZ ["_law_one", "_law_other"] ["_law_one", "_law_other"] (aP tR) := ⟨rfl, rfl, rfl, by decide +kernel, rfl, by decide +kernel, by decide +kernel⟩
theorem CK (T : BI K mg) (F : dR K "_law_below" "_law_below" tR f fd Tb) (KB : K.In base) (hmg : mg "_law_below" = some (.ref f)) : FI P w K mg base tb "_law_below" 2 (0 + 1) (aK 2 (jO)) :=
 cH F KB hmg uL rfl (λ _ _ _ _ _ _ => us2 λ _ _ => rfl) λ c A outer s H E hcd hr => by
  have nd := uL.nd
  refine aG ?_
  refine aR ?_
  exact nQ xu (aD bM (bJ (pdv 0) aA) (bJ (pdv 1) aA)) (aD bM (bJ (pdv 1) aA) (bJ (pdv 0) aA))
abbrev pL : Stmt := top 31
theorem sW : aZ ["_law_pair", "_law_spots"] ["_law_pair", "_law_spots"] (aP pL) := ⟨rfl, rfl, rfl, by decide +kernel, rfl, by decide +kernel, by decide +kernel⟩
theorem Ba {cN ik : FF} (T : BI K mg) (F : dR K "_law_behind" "_law_behind" pL f fd Tb) (KB : K.In base) (hmg : mg "_law_behind" = some (.ref f)) (F_Lsum : FI P w K mg base tb "_law_sum" 2 1 cN) (F_Lbelow : FI P w K mg base tb "_law_below" 2 1 ik) : FI P w K mg base tb "_law_behind" 2 (1 + 1) (aK 2 (jf cN ik)) :=
 cH F KB hmg sW rfl (λ _ _ _ _ _ _ => us2 λ _ _ => rfl) λ c A outer s H E hcd hr => by
  have nd := sW.nd
  refine aG ?_
  refine aR ?_
  refine uf ?_
  refine wC rfl T.b_any ?_
  refine jc rfl ?_
  refine dZ ?_
  refine gW (own := ["_law_spot_here"]) (cap := ["_law_pair"]) (capI := [0]) (ts := [0]) rfl ⟨rfl, by decide +kernel, ⟨⟨rfl, by first | exact Or.inl rfl | exact Or.inr rfl⟩, trivial⟩, by decide +kernel, by decide +kernel⟩ (by decide +kernel) (cZ (pdv 1)) (λ cs C fp s2 H2 => aQ (i := 0) (show (["_law_spot_here", "_law_pair"] : List Str).Nodup by decide +kernel)) ?_ ?_
  intro cs C fp s2 H2
  exact cI
  intro cs C fp s2 H2
  refine aM F_Lbelow (hr.mono (by decide)) ?_ (az (az aN))
  refine ao ?_ ?_
  exact dg (ao (bJ (pdv 1) aA) (ao aA au))
  refine ao ?_ au
  exact aM F_Lsum (hr.mono (by decide)) (ao (bJ (pdv 1) aA) (ao (pdv 0) au)) (az (az aN))
abbrev tB : Stmt := top 32
theorem vo : aZ ["_law_points_here", "_law_spot_here", "_law_thing"] ["_law_points_here", "_law_spot_here", "_law_thing"] (aP tB) := ⟨rfl, rfl, rfl, by decide +kernel, rfl, by decide +kernel, by decide +kernel⟩
theorem Dj {eZ fj : FF} (T : BI K mg) (F : dR K "_law_keeps" "_law_keeps" tB f fd Tb) (KB : K.In base) (hmg : mg "_law_keeps" = some (.ref f)) (F_Lis_pair : FI P w K mg base tb "_law_is_pair" 2 2 eZ) (F_Lbehind : FI P w K mg base tb "_law_behind" 2 2 fj) : FI P w K mg base tb "_law_keeps" 3 (2 + 1) (aK 3 (km eZ fj)) :=
 cH F KB hmg vo rfl (λ _ _ _ _ _ _ => us3 λ _ _ _ => rfl) λ c A outer s H E hcd hr => by
  have nd := vo.nd
  refine aC ?_ ?_
  refine cA ?_ (aG (aR nG)) bz
  refine oE ?_
  refine pQ ?_ ?_
  refine iH ?_
  refine iG ?_
  refine aM F_Lis_pair (hr.mono (by decide)) ?_ (az (az aN))
  exact ao (aD cO (fY T.b_len (ao (pdv 1) au)) aA) (ao (pdv 2) au)
  refine pF ?_
  refine iH ?_
  refine iG ?_
  refine wC rfl T.b_any ?_
  refine jc rfl ?_
  refine dZ ?_
  refine gW (own := ["_law_number"]) (cap := []) (capI := []) (ts := [0]) rfl ⟨rfl, by decide +kernel, trivial, by decide +kernel, by decide +kernel⟩ (by decide +kernel) (cZ (bJ (pdv 2) aA)) (λ cs C fp s2 H2 => aQ (i := 0) (show (["_law_number"] : List Str).Nodup by decide +kernel)) ?_ ?_
  intro cs C fp s2 H2
  exact cI
  intro cs C fp s2 H2
  exact nQ (xO hr) (pdv 0) aA
  refine aG ?_
  refine aR ?_
  refine kO (aM F_Lbehind (hr.mono (by decide)) (ao (pdv 2) (ao (pdv 0) au)) (az (az aN))) ?_
  refine jx ?_
  refine uf ?_
  refine aM F_Lbehind (hr.mono (by decide)) ?_ (az (az aN))
  exact ao (pdv 2) (ao (dM (ao (pdv 1) au)) au)
abbrev rR : Stmt := top 2
theorem uz : aZ ["many", "thing"] ["many", "thing"] (aP rR) := ⟨rfl, rfl, rfl, by decide +kernel, rfl, by decide +kernel, by decide +kernel⟩
theorem Dq (T : BI K mg) (F : dR K "is_row" "is_row" rR f fd Tb) (KB : K.In base) (hmg : mg "is_row" = some (.ref f)) : FI P w K mg base tb "is_row" 2 (0 + 1) (aK 2 (jh)) :=
 cH F KB hmg uz rfl (λ _ _ _ _ _ _ => us2 λ _ _ => rfl) λ c A outer s H E hcd hr => by
  have nd := uz.nd
  refine aG ?_
  refine aR ?_
  refine kO ?_ (jx (nQ (gJ hr) (fY T.b_len (ao (pdv 1) au)) (pdv 0)))
  exact lu T.b_isinstance T.b_tuple PyProof.Rows.boot_tuple (by decide) (pdv 1)
abbrev lV : Stmt := top 1
theorem oV : aZ ["thing"] ["thing"] (aP lV) := ⟨rfl, rfl, rfl, by decide +kernel, rfl, by decide +kernel, by decide +kernel⟩
theorem wK (T : BI K mg) (F : dR K "is_number" "is_number" lV f fd Tb) (KB : K.In base) (hmg : mg "is_number" = some (.ref f)) : FI P w K mg base tb "is_number" 1 (0 + 1) (aK 1 (dX)) :=
 cH F KB hmg oV rfl (λ _ _ _ _ _ _ => us1 λ _ => rfl) λ c A outer s H E hcd hr => by
  have nd := oV.nd
  refine aG ?_
  refine aR ?_
  refine kO ?_ ?_
  exact lu T.b_isinstance T.b_int PyProof.Rows.boot_int (by decide) (pdv 0)
  refine jx ?_
  refine uf ?_
  exact lu T.b_isinstance T.b_bool PyProof.Rows.boot_bool (by decide) (pdv 0)
abbrev lq : Stmt := top 3
theorem nH : aZ ["thing"] ["thing"] (aP lq) := ⟨rfl, rfl, rfl, by decide +kernel, rfl, by decide +kernel, by decide +kernel⟩
theorem ux {bD : FF} (T : BI K mg) (F : dR K "is_numbers" "is_numbers" lq f fd Tb) (KB : K.In base) (hmg : mg "is_numbers" = some (.ref f)) (F_is_number : FI P w K mg base tb "is_number" 1 1 bD) (hT : Tb ∈ tb) : FI P w K mg base tb "is_numbers" 1 (2 + 1) (aK 1 (dm bD)) :=
 cH F KB hmg nH rfl (λ _ _ _ _ _ _ => us1 λ _ => rfl) λ c A outer s H E hcd hr => by
  have nd := nH.nd
  refine aG ?_
  refine aR ?_
  refine kO ?_ ?_
  exact lu T.b_isinstance T.b_tuple PyProof.Rows.boot_tuple (by decide) (pdv 0)
  refine jx ?_
  refine Ha rfl T.b_all ?_
  refine tQ ?_
  refine pX (own := ["part"]) (cap := []) (capI := []) (ts := [0]) rfl hr ⟨rfl, by decide +kernel, trivial, by decide +kernel, by decide +kernel⟩ (by decide +kernel) (by decide +kernel) hT ⟨c, rfl, hcd⟩ (cZ (pdv 0)) (λ AG cs C code fp s2 H2 => aQ (i := 0) (show (["part"] : List Str).Nodup by decide +kernel)) ?_
  intro AG cs C code fp s2 H2 hm
  have hg1 := hm _ hr
  exact aM F_is_number (hg1.mono (by decide)) (ao (pdv 0) au) (az aN)
abbrev pY : Stmt := top 6
theorem rN : aZ ["directions", "thing", "row", "most"] ["directions", "thing"] (aP pY) := ⟨rfl, rfl, rfl, by decide +kernel, rfl, by decide +kernel, by decide +kernel⟩
theorem Ar {iy cQ bD : FF} (T : BI K mg) (F : dR K "is_side" "is_side" pY f fd Tb) (KB : K.In base) (hmg : mg "is_side" = some (.ref f)) (F_is_row : FI P w K mg base tb "is_row" 2 1 iy) (F_is_numbers : FI P w K mg base tb "is_numbers" 1 3 cQ) (F_is_number : FI P w K mg base tb "is_number" 1 1 bD) : FI P w K mg base tb "is_side" 2 (3 + 1) (aK 4 (je iy cQ bD)) :=
 cH F KB hmg rN rfl (λ _ _ _ _ _ _ => us2 λ _ _ => rfl) λ c A outer s H E hcd hr => by
  have nd := rN.nd
  refine aC ?_ ?_
  refine cA ?_ (aG (aR nG)) bz
  refine iH ?_
  exact iG (aM F_is_row (hr.mono (by decide)) (ao aA (ao (pdv 1) au)) (az (az aN)))
  refine aC (oX (ts := [2, 3]) (pdv 1) (iD rfl (bG (aQ (i := 2) nd) (bG (aQ (i := 3) nd) gj)))) ?_
  refine aG ?_
  refine aR ?_
  refine kO (aM F_is_numbers (hr.mono (by decide)) (ao (pdv 2) au) (az aN)) ?_
  refine kO (nQ (gJ hr) (fY T.b_len (ao (pdv 2) au)) (pdv 0)) ?_
  exact jx (aM F_is_number (hr.mono (by decide)) (ao (pdv 3) au) (az aN))
abbrev qi : Stmt := top 7
theorem tY : aZ ["directions", "thing"] ["directions", "thing"] (aP qi) := ⟨rfl, rfl, rfl, by decide +kernel, rfl, by decide +kernel, by decide +kernel⟩
theorem Ab {gn : FF} (T : BI K mg) (F : dR K "is_wall" "is_wall" qi f fd Tb) (KB : K.In base) (hmg : mg "is_wall" = some (.ref f)) (F_is_side : FI P w K mg base tb "is_side" 2 4 gn) : FI P w K mg base tb "is_wall" 2 (4 + 1) (aK 2 (jg gn)) :=
 cH F KB hmg tY rfl (λ _ _ _ _ _ _ => us2 λ _ _ => rfl) λ c A outer s H E hcd hr => by
  have nd := tY.nd
  refine aG ?_
  refine aR ?_
  exact kO (aM F_is_side (hr.mono (by decide)) (ao (pdv 0) (ao (pdv 1) au)) (az (az aN))) (jx (wC rfl T.b_any (jc rfl (bJ (pdv 1) aA))))
abbrev gP : Stmt := top 4
theorem jq : aZ ["ones", "others"] ["ones", "others"] (aP gP) := ⟨rfl, rfl, rfl, by decide +kernel, rfl, by decide +kernel, by decide +kernel⟩
theorem ou (T : BI K mg) (F : dR K "sum_of_products" "sum_of_products" gP f fd Tb) (KB : K.In base) (hmg : mg "sum_of_products" = some (.ref f)) (hT : Tb ∈ tb) : FI P w K mg base tb "sum_of_products" 2 (1 + 1) (aK 2 (cL)) :=
 cH F KB hmg jq rfl (λ _ _ _ _ _ _ => us2 λ _ _ => rfl) λ c A outer s H E hcd hr => by
  have nd := jq.nd
  refine aG ?_
  refine aR ?_
  refine zy rfl T.b_sum ?_
  refine tQ ?_
  refine pX (own := ["one", "other"]) (cap := []) (capI := []) (ts := [0, 1]) rfl hr ⟨rfl, by decide +kernel, trivial, by decide +kernel, by decide +kernel⟩ (by decide +kernel) (by decide +kernel) hT ⟨c, rfl, hcd⟩ (Bx T.b_zip (ao (pdv 0) (ao (pdv 1) au))) (λ AG cs C code fp s2 H2 => iD rfl (bG (aQ (i := 0) (show (["one", "other"] : List Str).Nodup by decide +kernel)) (bG (aQ (i := 1) (show (["one", "other"] : List Str).Nodup by decide +kernel)) gj))) ?_
  intro AG cs C code fp s2 H2 hm
  have hg1 := hm _ hr
  exact aD bM (pdv 0) (pdv 1)
abbrev lL : Stmt := top 8
theorem pq : aZ ["wall", "spot", "row", "most"] ["wall", "spot"] (aP lL) := ⟨rfl, rfl, rfl, by decide +kernel, rfl, by decide +kernel, by decide +kernel⟩
theorem wW {bO : FF} (T : BI K mg) (F : dR K "is_beyond" "is_beyond" lL f fd Tb) (KB : K.In base) (hmg : mg "is_beyond" = some (.ref f)) (F_sum_of_products : FI P w K mg base tb "sum_of_products" 2 2 bO) : FI P w K mg base tb "is_beyond" 2 (2 + 1) (aK 4 (gK bO)) :=
 cH F KB hmg pq rfl (λ _ _ _ _ _ _ => us2 λ _ _ => rfl) λ c A outer s H E hcd hr => by
  have nd := pq.nd
  refine aC (oX (ts := [2, 3]) (pdv 0) (iD rfl (bG (aQ (i := 2) nd) (bG (aQ (i := 3) nd) gj)))) ?_
  refine aG ?_
  refine aR ?_
  refine nQ Ln ?_ (aD bM (pdv 3) (bJ (pdv 1) (iz aA)))
  refine aM F_sum_of_products (hr.mono (by decide)) ?_ (az (az aN))
  refine ao (pdv 2) ?_
  exact ao (my (pdv 1) kE (jZ (iz aA))) au
abbrev iY : Stmt := top 9
theorem kI : aZ ["points", "spot", "thing"] ["points", "spot", "thing"] (aP iY) := ⟨rfl, rfl, rfl, by decide +kernel, rfl, by decide +kernel, by decide +kernel⟩
theorem pH {fB dB : FF} (T : BI K mg) (F : dR K "without_holds" "without_holds" iY f fd Tb) (KB : K.In base) (hmg : mg "without_holds" = some (.ref f)) (F_is_wall : FI P w K mg base tb "is_wall" 2 5 fB) (F_is_beyond : FI P w K mg base tb "is_beyond" 2 3 dB) (hT : Tb ∈ tb) : FI P w K mg base tb "without_holds" 3 (6 + 1) (aK 3 (dh fB dB)) :=
 cH F KB hmg kI rfl (λ _ _ _ _ _ _ => us3 λ _ _ _ => rfl) λ c A outer s H E hcd hr => by
  have nd := kI.nd
  refine aC ?_ ?_
  refine cA ?_ (aG (aR nG)) bz
  refine oE ?_
  refine pQ ?_ ?_
  refine iH ?_
  refine iG ?_
  refine aM F_is_wall (hr.mono (by decide)) ?_ (az (az aN))
  exact ao (aD cO (fY T.b_len (ao (pdv 1) au)) aA) (ao (pdv 2) au)
  refine pF ?_
  refine iH ?_
  exact iG (aM F_is_beyond (hr.mono (by decide)) (ao (pdv 2) (ao (pdv 1) au)) (az (az aN)))
  refine aG ?_
  refine aR ?_
  refine uf ?_
  refine wC rfl T.b_any ?_
  refine tQ ?_
  refine pX (own := ["point"]) (cap := ["thing"]) (capI := [2]) (ts := [0]) rfl hr ⟨rfl, by decide +kernel, ⟨⟨rfl, by first | exact Or.inl rfl | exact Or.inr rfl⟩, trivial⟩, by decide +kernel, by decide +kernel⟩ (by decide +kernel) (by decide +kernel) hT ⟨c, rfl, hcd⟩ (cZ (pdv 0)) (λ AG cs C code fp s2 H2 => aQ (i := 0) (show (["point", "thing"] : List Str).Nodup by decide +kernel)) ?_
  intro AG cs C code fp s2 H2 hm
  have hg1 := hm _ hr
  exact aM F_is_beyond (hg1.mono (by decide)) (ao (pdv 1) (ao (pdv 0) au)) (az (az aN))
abbrev wj : Stmt := top 28
theorem xV : aZ ["_law_found", "_law_due"] ["_law_found", "_law_due"] (aP wj) := ⟨rfl, rfl, rfl, by decide +kernel, rfl, by decide +kernel, by decide +kernel⟩
theorem Fd (T : BI K mg) (F : dR K "_law_says" "_law_says" wj f fd Tb) (KB : K.In base) (hmg : mg "_law_says" = some (.ref f)) : FI P w K mg base tb "_law_says" 2 (0 + 1) (aK 2 (mR)) :=
 cH F KB hmg xV rfl (λ _ _ _ _ _ _ => us2 λ _ _ => rfl) λ c A outer s H E hcd hr => by
  have nd := xV.nd
  refine aG ?_
  refine aR ?_
  refine kO ?_ (jx (nQ (gJ hr) (pdv 0) (pdv 1)))
  exact lu T.b_isinstance T.b_bool PyProof.Rows.boot_bool (by decide) (pdv 0)
abbrev rQ : Stmt := top 37
theorem uB : aZ ["_law_points_here", "_law_spot_here", "_law_thing"] ["_law_points_here", "_law_spot_here", "_law_thing"] (aP rQ) := ⟨rfl, rfl, rfl, by decide +kernel, rfl, by decide +kernel, by decide +kernel⟩
theorem Cw {gO bR iJ : FF} (T : BI K mg) (F : dR K "_law_asked" "_law_asked" rQ f fd Tb) (KB : K.In base) (hmg : mg "_law_asked" = some (.ref f)) (F_Lkeeps : FI P w K mg base tb "_law_keeps" 3 3 gO) (F_without_holds : FI P w K mg base tb "without_holds" 3 7 bR) (F_Lsays : FI P w K mg base tb "_law_says" 2 1 iJ) : FI P w K mg base tb "_law_asked" 3 (7 + 1) (aK 3 (kZ gO bR iJ)) :=
 cH F KB hmg uB rfl (λ _ _ _ _ _ _ => us3 λ _ _ _ => rfl) λ c A outer s H E hcd hr => by
  have nd := uB.nd
  refine aG ?_
  refine aR ?_
  refine aM F_Lsays (hr.mono (by decide)) ?_ (az (az aN))
  refine ao ?_ ?_
  exact aM F_without_holds (hr.mono (by decide)) (ao (pdv 0) (ao (pdv 1) (ao (pdv 2) au))) (az (az (az aN)))
  refine ao ?_ au
  exact aM F_Lkeeps (hr.mono (by decide)) (ao (pdv 0) (ao (pdv 1) (ao (pdv 2) au))) (az (az (az aN)))
abbrev xj : Stmt := top 35
theorem yV : aZ ["_law_shut", "_law_number", "_law_row_here", "_law_t", "_law_menu"] ["_law_shut", "_law_number"] (aP xj) := ⟨rfl, rfl, rfl, by decide +kernel, rfl, by decide +kernel, by decide +kernel⟩
theorem Gi (T : BI K mg) (F : dR K "_law_bent" "_law_bent" xj f fd Tb) (KB : K.In base) (hmg : mg "_law_bent" = some (.ref f)) : FI P w K mg base tb "_law_bent" 2 (0 + 1) (aK 5 (iI)) :=
 cH F KB hmg yV rfl (λ _ _ _ _ _ _ => us2 λ _ _ => rfl) λ c A outer s H E hcd hr => by
  have nd := yV.nd
  refine aC (oX (ts := [2, 3]) (pdv 0) (iD rfl (bG (aQ (i := 2) nd) (bG (aQ (i := 3) nd) gj)))) ?_
  refine aC ?_ ?_
  refine aV (i := 4) nd ?_
  refine dM ?_
  refine ao ?_ ?_
  refine dg ?_
  refine ao ?_ (ao (pdv 3) au)
  refine lW T.b_tuple ?_
  refine ao ?_ au
  refine dZ ?_
  refine gW (own := ["_law_one"]) (cap := []) (capI := []) (ts := [0]) rfl ⟨rfl, by decide +kernel, trivial, by decide +kernel, by decide +kernel⟩ (by decide +kernel) (cZ (pdv 2)) (λ cs C fp s2 H2 => aQ (i := 0) (show (["_law_one"] : List Str).Nodup by decide +kernel)) ?_ ?_
  intro cs C fp s2 H2
  exact cI
  intro cs C fp s2 H2
  exact aA
  refine ao ?_ ?_
  refine dg ?_
  exact ao (aD bN (pdv 2) (dg (ao aA au))) (ao (pdv 3) au)
  refine ao ?_ ?_
  refine dg ?_
  exact ao (my (pdv 2) kE (jZ (iz aA))) (ao (pdv 3) au)
  refine ao ?_ ?_
  refine dg ?_
  exact ao (dZ (xJ T.b_list (ao (pdv 2) au))) (ao (pdv 3) au)
  exact ao (dM (ao (pdv 2) (ao (pdv 3) au))) au
  refine aC ?_ (aG (aR (bJ (pdv 4) (aD bh (pdv 1) aA))))
  refine aV (i := 4) nd ?_
  refine aD bN (pdv 4) ?_
  refine dM ?_
  refine ao ?_ ?_
  refine dg ?_
  refine ao ?_ (ao (aD cO aA (pdv 3)) au)
  refine lW T.b_tuple ?_
  refine ao ?_ au
  refine dZ ?_
  refine gW (own := ["_law_one"]) (cap := []) (capI := []) (ts := [0]) rfl ⟨rfl, by decide +kernel, trivial, by decide +kernel, by decide +kernel⟩ (by decide +kernel) (cZ (pdv 2)) (λ cs C fp s2 H2 => aQ (i := 0) (show (["_law_one"] : List Str).Nodup by decide +kernel)) ?_ ?_
  intro cs C fp s2 H2
  exact cI
  intro cs C fp s2 H2
  exact aD cO aA (pdv 0)
  refine ao ?_ ?_
  exact dg (ao (pdv 2) (ao (pdv 3) (ao aA au)))
  refine ao ?_ ?_
  exact dg (ao (pdv 2) (ao (nQ (gJ hr) (pdv 3) aA) au))
  refine ao ?_ (ao (dg (ao (pdv 2) au)) au)
  refine dg ?_
  refine ao ?_ (ao (pdv 3) au)
  exact aD bN (dg (ao nG au)) (my (pdv 2) (jZ aA) kE)
abbrev uy : Stmt := top 38
theorem FW : aZ ["_law_script", "_law_drawn", "_law_k", "_law_directions", "_law_points_here", "_law_kept", "_law_row_here", "_law_least", "_law_spots", "_law_spot_here", "_law_t"] ["_law_script"] (aP uy) := ⟨rfl, rfl, rfl, by decide +kernel, rfl, by decide +kernel, by decide +kernel⟩
theorem Ov {gG aJ bZ jF dU iR fH fV iQ : FF} (T : BI K mg) (F : dR K "law" "law" uy f fd Tb) (KB : K.In base) (F_Ldraws : FI P w K mg base tb "_law_draws" 1 2 gG) (F_Lnext : FI P w K mg base tb "_law_next" 1 1 aJ) (F_Lsome_points : FI P w K mg base tb "_law_some_points" 3 5 bZ) (F_Lrow : FI P w K mg base tb "_law_row" 2 2 jF) (F_Lceiling : FI P w K mg base tb "_law_ceiling" 2 2 dU) (F_Lspot : FI P w K mg base tb "_law_spot" 3 4 iR) (F_Lbeyond : FI P w K mg base tb "_law_beyond" 4 3 fH) (F_Lasked : FI P w K mg base tb "_law_asked" 3 8 fV) (F_Lbent : FI P w K mg base tb "_law_bent" 2 1 iQ) : qM P w K mg base CX0 (8 + 1) f fd ["_law_script"] (spD K tb 1 (aK 11 (qt gG aJ bZ jF dU iR fH fV iQ))) :=
 Kl F KB FW rfl λ c A outer s H E hcd hr => by
  have nd := FW.nd
  refine aC ?_ ?_
  exact aV (i := 1) nd (aM F_Ldraws (hr.mono (by decide)) (ao (pdv 0) au) (az aN))
  refine aC ?_ (aG (aR nG))
  refine fW (ts := [2]) PassesOwn.never rfl (cC T.b_range (ao aA au)) (aQ (i := 2) nd) ?_
  refine aC ?_ ?_
  refine aV (i := 3) nd ?_
  refine aD bN aA ?_
  exact aD bh (aM F_Lnext (hr.mono (by decide)) (ao (pdv 1) au) (az aN)) aA
  refine aC ?_ ?_
  refine aV (i := 4) nd ?_
  refine aM F_Lsome_points (hr.mono (by decide)) ?_ (az (az (az aN)))
  refine ao (pdv 1) ?_
  refine ao (pdv 3) ?_
  refine ao ?_ au
  exact bJ (dM (ao aA (ao aA au))) (aD bh (pdv 2) aA)
  refine aC (aV (i := 5) nd (dZ (xJ T.b_list (ao (pdv 4) au)))) ?_
  refine aC ?_ ?_
  exact aV (i := 6) nd (aM F_Lrow (hr.mono (by decide)) (ao (pdv 1) (ao (pdv 3) au)) (az (az aN)))
  refine aC ?_ ?_
  exact aV (i := 7) nd (aM F_Lceiling (hr.mono (by decide)) (ao (pdv 6) (ao (pdv 4) au)) (az (az aN)))
  refine aC ?_ ?_
  refine aV (i := 8) nd ?_
  refine dM ?_
  refine ao (bJ (pdv 4) aA) ?_
  refine ao ?_ ?_
  refine aM F_Lbeyond (hr.mono (by decide)) ?_ (az (az (az (az aN))))
  refine ao (pdv 1) ?_
  refine ao (pdv 6) ?_
  exact ao (pdv 7) (ao (bJ (pdv 4) (iz aA)) au)
  refine ao ?_ au
  exact aM F_Lspot (hr.mono (by decide)) (ao (pdv 1) (ao (pdv 4) (ao (pdv 3) au))) (az (az (az aN)))
  refine aC ?_ ?_
  refine fW (ts := [9]) PassesOwn.never rfl (cZ (pdv 8)) (aQ (i := 9) nd) ?_
  refine aC ?_ ?_
  refine fW (ts := [10]) PassesOwn.never rfl ?_ (aQ (i := 10) nd) ?_
  refine cZ ?_
  refine dM ?_
  refine ao (pdv 7) ?_
  exact ao (aD bN (pdv 7) aA) (ao (aD cO (pdv 7) aA) au)
  refine aG ?_
  refine cA ?_ (aG (aR nG)) bz
  refine iH ?_
  refine iG ?_
  refine aM F_Lasked (hr.mono (by decide)) ?_ (az (az (az aN)))
  refine ao (pdv 4) ?_
  refine ao (pdv 9) ?_
  exact ao (dg (ao (pdv 6) (ao (pdv 10) au))) au
  refine aG ?_
  refine cA ?_ (aG (aR nG)) bz
  refine iH ?_
  refine iG ?_
  refine aM F_Lasked (hr.mono (by decide)) ?_ (az (az (az aN)))
  refine ao (pdv 4) ?_
  refine ao (pdv 9) ?_
  refine ao ?_ au
  refine aM F_Lbent (hr.mono (by decide)) ?_ (az (az aN))
  refine ao (dg (ao (pdv 6) (ao (pdv 7) au))) ?_
  exact ao (aM F_Lnext (hr.mono (by decide)) (ao (pdv 1) au) (az aN)) au
  refine aG ?_
  exact cA (bH (xO hr) (pdv 4) (pdv 5)) (aG (aR nG)) bz
noncomputable def aX : FF := trunc (aK 3 (gQ))
noncomputable def gG : FF := aK 5 (mx aX)
noncomputable def aJ : FF := trunc (aK 1 (eU))
noncomputable def cX : FF := trunc (aK 2 (nW))
noncomputable def aL : FF := trunc (aK 4 (dN cX))
noncomputable def eY : FF := trunc (aK 8 (ir aJ aL))
noncomputable def jm : FF := trunc (aK 9 (qK aJ aL))
noncomputable def ie : FF := trunc (aK 3 (gf))
noncomputable def bB : FF := trunc (aK 9 (iT aX ie aL))
noncomputable def fK : FF := trunc (aK 9 (jd aJ eY jm bB))
noncomputable def bZ : FF := trunc (aK 4 (cU fK aJ bB))
noncomputable def jF : FF := trunc (aK 4 (oH aJ aX))
noncomputable def cN : FF := trunc (aK 2 (lZ))
noncomputable def dU : FF := trunc (aK 3 (iw cN))
noncomputable def fG : FF := trunc (aK 6 (gk aJ aX))
noncomputable def jH : FF := trunc (aK 9 (rM cX aL))
noncomputable def gM : FF := trunc (aK 5 (pG aL))
noncomputable def iR : FF := trunc (aK 5 (gR aJ bB fG jH gM))
noncomputable def fH : FF := trunc (aK 10 (dC cN aJ aL))
noncomputable def fO : FF := trunc (aK 1 (lO))
noncomputable def eZ : FF := trunc (aK 2 (il fO))
noncomputable def ik : FF := trunc (aK 2 (jO))
noncomputable def fj : FF := trunc (aK 2 (jf cN ik))
noncomputable def gO : FF := trunc (aK 3 (km eZ fj))
noncomputable def iy : FF := trunc (aK 2 (jh))
noncomputable def bD : FF := trunc (aK 1 (dX))
noncomputable def cQ : FF := trunc (aK 1 (dm bD))
noncomputable def gn : FF := trunc (aK 4 (je iy cQ bD))
noncomputable def fB : FF := trunc (aK 2 (jg gn))
noncomputable def bO : FF := trunc (aK 2 (cL))
noncomputable def dB : FF := trunc (aK 4 (gK bO))
noncomputable def bR : FF := trunc (aK 3 (dh fB dB))
noncomputable def iJ : FF := trunc (aK 2 (mR))
noncomputable def fV : FF := trunc (aK 3 (kZ gO bR iJ))
noncomputable def iQ : FF := trunc (aK 5 (iI))
noncomputable def zP : FF := aK 11 (qt gG aJ bZ jF dU iR fH fV iQ)
abbrev Gt (K : PySem.W.Frag) (x : Str) (s : Stmt) : Prop := ∃ f c P fd, Got K x s f c P fd
abbrev Nn (K : PySem.W.Frag) (x : Str) : Prop := PySem.W.nsIn K mainGlobals x = some none
abbrev Rq (q : Program) (x : Str) : Prop := ((recsOf q).find? (λ e => e.name == x)).isSome = true
theorem Oh {l : PySem.W.OpenLaw} {q : Program} {lo : List Str} {mean : ExcName -> Option Value} {w : World} {K : PySem.W.Frag} {h : Heap} {mg mb : Str -> Option Value} {fa : Addr}
  (X : K.In h) (G : Top q lo mean mg mb h) (hfa : mg "law" = some (.ref fa))
  (d0 : Gt K "_law_mixed" sI)
  (d1 : Gt K "_law_draws" rF)
  (d2 : Gt K "_law_next" xf)
  (d3 : Gt K "_law_gcd" zF)
  (d4 : Gt K "_law_lowest" pK)
  (d5 : Gt K "_law_on_line" oh)
  (d6 : Gt K "_law_flat" vV)
  (d7 : Gt K "_law_place" tu)
  (d8 : Gt K "_law_point" rC)
  (d9 : Gt K "_law_points" pP)
  (d10 : Gt K "_law_some_points" jl)
  (d11 : Gt K "_law_row" zW)
  (d12 : Gt K "_law_sum" Be)
  (d13 : Gt K "_law_ceiling" nO)
  (d14 : Gt K "_law_shares" qd)
  (d15 : Gt K "_law_mix" Ah)
  (d16 : Gt K "_law_moved" sy)
  (d17 : Gt K "_law_spot" wM)
  (d18 : Gt K "_law_beyond" pI)
  (d19 : Gt K "_law_whole" rJ)
  (d20 : Gt K "_law_is_pair" nU)
  (d21 : Gt K "_law_below" tR)
  (d22 : Gt K "_law_behind" pL)
  (d23 : Gt K "_law_keeps" tB)
  (d24 : Gt K "is_row" rR)
  (d25 : Gt K "is_number" lV)
  (d26 : Gt K "is_numbers" lq)
  (d27 : Gt K "is_side" pY)
  (d28 : Gt K "is_wall" qi)
  (d29 : Gt K "sum_of_products" gP)
  (d30 : Gt K "is_beyond" lL)
  (d31 : Gt K "without_holds" iY)
  (d32 : Gt K "_law_says" wj)
  (d33 : Gt K "_law_asked" rQ)
  (d34 : Gt K "_law_bent" xj)
  (d35 : Gt K "law" uy)
  (z_abs : Nn K "abs")
  (z_all : Nn K "all")
  (z_any : Nn K "any")
  (z_bool : Nn K "bool")
  (z_int : Nn K "int")
  (z_isinstance : Nn K "isinstance")
  (z_len : Nn K "len")
  (z_list : Nn K "list")
  (z_max : Nn K "max")
  (z_min : Nn K "min")
  (z_range : Nn K "range")
  (z_sorted : Nn K "sorted")
  (z_sum : Nn K "sum")
  (z_tuple : Nn K "tuple")
  (z_zip : Nn K "zip")
  (r_Lshares : Rq q "_law_shares")
  (r_is_numbers : Rq q "is_numbers")
  (r_sum_of_products : Rq q "sum_of_products")
  (r_without_holds : Rq q "without_holds")
  (hnt : PySem.W.noTabs K = true) :
  ∃ (fd : FuncData) (tb : List Addr), (∀ (s : Shared) (u : Value), BindsTo s fd ⟨[u], []⟩ [("_law_script", u)]) /\ (∀ P ∈ tb, ∃ c, PySem.W.CodeHd h c P /\ h.get? P = some (PySem.W.tabObj #[])) /\ PySem.W.noTabs K = true /\
   ∀ base : Heap, K.In base -> base.Ns mainGlobals mg -> qM l.prog w K mg base CX0 9 fa fd ["_law_script"] (spD K tb 1 zP) := by
 have N := λ {n : Str} (h : Nn K n) => PySem.W.mg_none_of X G.g h
 have M := λ {n : Str} {v : Value} (e : PySem.W.nsIn K mainGlobals n = some (some v)) => PySem.W.mg_of X G.g e
 have T : BI K mg := ⟨N z_abs, N z_all, N z_any, N z_bool, N z_int, N z_isinstance, N z_len, N z_list, N z_max, N z_min, N z_range, N z_sorted, N z_sum, N z_tuple, N z_zip⟩
 obtain ⟨f0, c0, P0, _, G0⟩ := d0
 obtain ⟨f1, c1, P1, _, G1⟩ := d1
 obtain ⟨f2, c2, P2, _, G2⟩ := d2
 obtain ⟨f3, c3, P3, _, G3⟩ := d3
 obtain ⟨f4, c4, P4, _, G4⟩ := d4
 obtain ⟨f5, c5, P5, _, G5⟩ := d5
 obtain ⟨f6, c6, P6, _, G6⟩ := d6
 obtain ⟨f7, c7, P7, _, G7⟩ := d7
 obtain ⟨f8, c8, P8, _, G8⟩ := d8
 obtain ⟨f9, c9, P9, _, G9⟩ := d9
 obtain ⟨f10, c10, P10, _, G10⟩ := d10
 obtain ⟨f11, c11, P11, _, G11⟩ := d11
 obtain ⟨f12, c12, P12, _, G12⟩ := d12
 obtain ⟨f13, c13, P13, _, G13⟩ := d13
 obtain ⟨f14, c14, P14, _, G14⟩ := d14
 obtain ⟨f15, c15, P15, _, G15⟩ := d15
 obtain ⟨f16, c16, P16, _, G16⟩ := d16
 obtain ⟨f17, c17, P17, _, G17⟩ := d17
 obtain ⟨f18, c18, P18, _, G18⟩ := d18
 obtain ⟨f19, c19, P19, _, G19⟩ := d19
 obtain ⟨f20, c20, P20, _, G20⟩ := d20
 obtain ⟨f21, c21, P21, _, G21⟩ := d21
 obtain ⟨f22, c22, P22, _, G22⟩ := d22
 obtain ⟨f23, c23, P23, _, G23⟩ := d23
 obtain ⟨f24, c24, P24, _, G24⟩ := d24
 obtain ⟨f25, c25, P25, _, G25⟩ := d25
 obtain ⟨f26, c26, P26, _, G26⟩ := d26
 obtain ⟨f27, c27, P27, _, G27⟩ := d27
 obtain ⟨f28, c28, P28, _, G28⟩ := d28
 obtain ⟨f29, c29, P29, _, G29⟩ := d29
 obtain ⟨f30, c30, P30, _, G30⟩ := d30
 obtain ⟨f31, c31, P31, _, G31⟩ := d31
 obtain ⟨f32, c32, P32, _, G32⟩ := d32
 obtain ⟨f33, c33, P33, _, G33⟩ := d33
 obtain ⟨f34, c34, P34, _, G34⟩ := d34
 obtain ⟨f35, c35, P35, _, G35⟩ := d35
 have m_law := M G35.m
 have e := hfa.symm.trans m_law
 cases e
 obtain ⟨kV, dc, pm, an, ct, rfl⟩ := G35.e
 refine ⟨PySem.W.fnOf "law" "law" (lr uy) (jb uy) (aP uy) .none kV dc pm an (.ref c35) ct, [P14, P26, P29, P31], λ s u => .of_eq rfl, λ P hP => ?_, hnt, λ base kb nb => ?_⟩
 .have hP : P = P14 ∨ P = P26 ∨ P = P29 ∨ P = P31 := by simpa using hP
  rcases hP with rfl | rfl | rfl | rfl
  .exact ⟨c14, wN G X r_Lshares G14.t⟩
  .exact ⟨c26, wN G X r_is_numbers G26.t⟩
  .exact ⟨c29, wN G X r_sum_of_products G29.t⟩
  .exact ⟨c31, wN G X r_without_holds G31.t⟩
 .have U {φ nm n k} (h : FI l.prog w K mg base [P14, P26, P29, P31] nm n k φ) := h
  have gQ := U (φ := aX) (DY T G0.F kb (M G0.m)).trunc
  have mx := U (φ := gG) (Dh T G1.F kb (M G1.m) gQ)
  have eU := U (φ := aJ) (Gj T G2.F kb (M G2.m)).trunc
  have nW := U (φ := cX) (JB T G3.F kb (M G3.m)).trunc
  have dN := U (φ := aL) (Al T G4.F kb (M G4.m) nW).trunc
  have ir := U (φ := eY) (zb T G5.F kb (M G5.m) eU dN).trunc
  have qX := U (φ := jm) (Ff T G6.F kb (M G6.m) eU dN).trunc
  have gf := U (φ := ie) (CV T G7.F kb (M G7.m)).trunc
  have iT := U (φ := bB) (Eb T G8.F kb (M G8.m) gQ gf dN).trunc
  have jd := U (φ := fK) (Aw T G9.F kb (M G9.m) eU ir qX iT).trunc
  have cU := U (φ := bZ) (qO T G10.F kb (M G10.m) jd eU iT).trunc
  have oH := U (φ := jF) (Jy T G11.F kb (M G11.m) eU gQ).trunc
  have lZ := U (φ := cN) (Jt T G12.F kb (M G12.m)).trunc
  have iw := U (φ := dU) (yG T G13.F kb (M G13.m) lZ).trunc
  have uD := U (φ := fG) (zE T G14.F kb (M G14.m) eU gQ (by simp)).trunc
  have Er := U (φ := jH) (Iw T G15.F kb (M G15.m) nW dN).trunc
  have lR := U (φ := gM) (Cv T G16.F kb (M G16.m) dN).trunc
  have gR := U (φ := iR) (Gv T G17.F kb (M G17.m) eU iT uD Er lR).trunc
  have uJ := U (φ := fH) (zB T G18.F kb (M G18.m) lZ eU dN).trunc
  have lO := U (φ := fO) (Ea T G19.F kb (M G19.m)).trunc
  have il := U (φ := eZ) (xR T G20.F kb (M G20.m) lO).trunc
  have jO := U (φ := ik) (CK T G21.F kb (M G21.m)).trunc
  have jf := U (φ := fj) (Ba T G22.F kb (M G22.m) lZ jO).trunc
  have km := U (φ := gO) (Dj T G23.F kb (M G23.m) il jf).trunc
  have jh := U (φ := iy) (Dq T G24.F kb (M G24.m)).trunc
  have dX := U (φ := bD) (wK T G25.F kb (M G25.m)).trunc
  have dm := U (φ := cQ) (ux T G26.F kb (M G26.m) dX (by simp)).trunc
  have je := U (φ := gn) (Ar T G27.F kb (M G27.m) jh dm dX).trunc
  have jg := U (φ := fB) (Ab T G28.F kb (M G28.m) je).trunc
  have cL := U (φ := bO) (ou T G29.F kb (M G29.m) (by simp)).trunc
  have gK := U (φ := dB) (wW T G30.F kb (M G30.m) cL).trunc
  have dh := U (φ := bR) (pH T G31.F kb (M G31.m) jg gK (by simp)).trunc
  have mR := U (φ := iJ) (Fd T G32.F kb (M G32.m)).trunc
  have yp := U (φ := fV) (Cw T G33.F kb (M G33.m) km dh mR).trunc
  have Bj := U (φ := iQ) (Gi T G34.F kb (M G34.m)).trunc
  exact Ov T G35.F kb mx eU cU oH iw gR uJ yp Bj
end Lk24
namespace LG
open PySem PySem.Spec PyProof.Rows L2 L3
theorem Ei (a b : Int) : Int.gcd b (a.fmod b) = Int.gcd a b := by
 have h : a.fmod b = a - b * a.fdiv b := by have := Int.mul_fdiv_add_fmod a b; omega
 rw [h, Int.gcd_comm]
 have : a - b * a.fdiv b = a + b * (- a.fdiv b) := by rw [Int.mul_neg]; omega
 rw [this, Int.gcd_add_mul_left_left]
theorem JM (a b : Int) (h : b ≠ 0) : (a.fmod b).natAbs < b.natAbs := by
 rw [Int.fmod_eq_emod]
 have h1 := Int.emod_nonneg a h
 have h2 := Int.emod_lt a h
 by_cases hd : 0 <= b ∨ b ∣ a
 .rw [if_pos hd]; omega
 .rw [if_neg hd]
  have h3 : a % b ≠ 0 := λ z => hd (.inr (Int.dvd_of_emod_eq_zero z))
  omega
abbrev eucC : TF := toB (M2 (aq 1) (mC (.int 0)) oNe)
abbrev eucB : SF := yc 0 1 (aa (aq 1) (aa (M2 (aq 0) (aq 1) oMod) (aB)))
theorem ne_int (a b : Int) (μ : Mu) : oNe (.int a) (.int b) μ = some (.bl (!(a == b)), μ) := by
 unfold oNe rsv
 simp [cD, gC, eqD]
theorem euc : ∀ (n : Nat) (a b : Int) (μ : Mu), b.natAbs <= n -> ∃ a', eO eucC eucB (n + 1) [some (.int a), some (.int b)] μ = some (.nx, [some (.int a'), some (.int 0)], μ) /\ a'.natAbs = Int.gcd a b /\ (0 <= a -> 0 <= b -> 0 <= a')
 | n, a, b, μ, h => by
  by_cases hb : b = 0
  .subst hb
   refine ⟨a, ?_, by simp, λ h _ => h⟩
   unfold eO
   simp [toB, M2, aq, mC, ne_int]
  .cases n with
   | zero => omega
   | succ n =>
    obtain ⟨a', e, hg, hs⟩ := euc n b (a.fmod b) μ (by have := JM a b hb; omega)
    refine ⟨a', ?_, by rw [hg, Ei], λ h0 h1 => hs h1 (Int.fmod_nonneg_of_pos a (by omega))⟩
    unfold eO
    simp [toB, M2, aq, mC, ne_int, hb, yc, aa, aB, oMod, e]
def xM (φ : FF) : Prop := ∀ (a b : Int) (μ : Mu), φ [.int a, .int b] μ = some (.int (Int.gcd a b), μ)
theorem Jd : xM (aK 2 nW) := λ a b μ => by
 obtain ⟨a', e, hg, hs⟩ := euc _ a b μ (Nat.le_refl _)
 have ew := vI e
 unfold aK nW
 have hv : (if a' < 0 then -a' else a') = (Int.gcd a b : Int) := by split <;> omega
 simp [aO, ew, bA, aa, aB, MC, aq, bj, qP, hv]
def bK (g : Nat) (ns : List Int) : Nat := ns.foldl (λ g n => Int.gcd g n) g
theorem bV (items : List D) (μ : Mu) : Src.ok ⟨items, none⟩ μ := λ n e => by cases e
def Hw (φ : FF) : Prop := ∀ (ns : List Int) (μ : Mu), φ [.lst (ns.map .int)] μ = some (.int (bK 0 ns : Nat), μ)
theorem yx {th : D -> eN} {f : D -> D} {μ : Mu} : ∀ (items : List D), (∀ d ∈ items, th d μ = some (f d, μ)) -> Df (items.map th) μ = some (items.map f, μ)
 | [], _ => rfl
 | d :: r, h => by
  have h1 := h d (by simp)
  have h2 := yx r λ x hx => h x (by simp [hx])
  rw [List.map_cons, List.map_cons]
  unfold Df
  simp [h1, h2]
theorem pC {all : List D} {h : GF} {fe : EF} {δb : En} {f : D -> D} {μ : Mu} : ∀ (items : List D), (∀ d ∈ items, ∃ δ1, h d δb μ = some δ1 /\ fe δ1 μ = some (f d, μ)) -> lcL ⟨all, none⟩ h bI fe δb items μ = some (items.map f, μ)
 | [], _ => by unfold lcL; simp [bV]
 | d :: r, hd => by
  obtain ⟨δ1, h1, h2⟩ := hd d (by simp)
  have h3 := pC (all := all) r λ x hx => hd x (by simp [hx])
  unfold lcL
  simp [bV, h1, bI, h2, h3]
def Sm (b : Nat) (n : Int) : Prop := n.natAbs < 2 ^ b
theorem bits_le {b : Nat} {n : Int} (h : Sm b n) : Builtin.Int.intBits n <= b + 1 := by
 unfold Builtin.Int.intBits
 split
 .exact Nat.zero_le _
 .rename_i h'
  have hz : n ≠ 0 := by simpa using h'
  have hn : n.natAbs ≠ 0 := by omega
  have := (Nat.log2_lt hn).mpr h
  omega
theorem Fj {b : Nat} {n : Int} (h : Sm b n) : n.natAbs.log2 < b + 1 := by
 by_cases h0 : n.natAbs = 0
 .rw [h0]; simp
 .have := (Nat.log2_lt h0).mpr h
  omega
theorem Ho {a b : Nat} {x y : Int} (hx : Sm a x) (hy : Sm b y) (h : a + b + 2 <= 134217728) : mL x y <= 134217728 := by
 have := bits_le hx
 have := bits_le hy
 unfold mL
 omega
theorem bf {a b : Nat} {x y : Int} (μ : Mu) (hx : Sm a x) (hy : Sm b y) (h : a + b + 2 <= 134217728) : bC (.int x) (.int y) μ = some (.int (x * y), μ) := by
 unfold bC
 simp [Ho hx hy h]
theorem jj {b : Nat} {x y : Int} (μ : Mu) (h0 : y ≠ 0) (hy : Sm b y) (h : b + 1 <= 9000) : oDiv (.int x) (.int y) μ = some (.int (x.fdiv y), μ) := by
 unfold oDiv
 have := Fj hy
 simp [h0, show y.natAbs.log2 < 9000 by omega]
theorem eG {x y : Int} (μ : Mu) (h0 : y ≠ 0) : oMod (.int x) (.int y) μ = some (.int (x.fmod y), μ) := by
 unfold oMod
 simp [h0]
theorem lQ : ∀ (ns : List Int) (g : Nat), (∀ n ∈ ns, ((bK g ns : Nat) : Int) ∣ n) /\ bK g ns ∣ g
 | [], g => ⟨λ n h => by simp at h, Nat.dvd_refl _⟩
 | n :: ns, g => by
  obtain ⟨h1, h2⟩ := lQ ns (Int.gcd g n)
  have e : bK g (n :: ns) = bK (Int.gcd g n) ns := rfl
  rw [e]
  refine ⟨λ m hm => ?_, ?_⟩
  .rcases List.mem_cons.mp hm with z | z
   .subst z
    exact Int.dvd_trans (Int.ofNat_dvd.mpr h2) (Int.gcd_dvd_right _ _)
   .exact h1 m z
  .refine Nat.dvd_trans h2 ?_
   have := Int.gcd_dvd_left (g : Int) n
   exact Int.ofNat_dvd.mp this
theorem jP {ns : List Int} {g : Nat} (h : g ≠ 0 ∨ ∃ n ∈ ns, n ≠ 0) : bK g ns ≠ 0 := λ z => by
 obtain ⟨h1, h2⟩ := lQ ns g
 rw [z] at h1 h2
 rcases h with h | ⟨n, hn, h⟩
 .exact h (Nat.eq_zero_of_zero_dvd h2)
 .have := h1 n hn
  exact h (by simpa using this)
theorem Kc {ns : List Int} {g : Nat} {n : Int} (hn : n ∈ ns) (h : n ≠ 0) : bK g ns <= n.natAbs := by
 have h1 := (lQ ns g).1 n hn
 have h2 : bK g ns ∣ n.natAbs := by
  have := Int.natAbs_dvd_natAbs.mpr h1
  simpa using this
 exact Nat.le_of_dvd (by omega) h2
def Om (φ : FF) : Prop := ∀ (ns : List Int) (μ : Mu), bK 0 ns ≠ 0 -> Sm 8000 (bK 0 ns : Nat) -> ns.length <= 100 -> φ [.lst (ns.map .int)] μ = some (.tup (ns.map λ n => .int (n.fdiv (bK 0 ns : Nat))), μ)
theorem Sg {φ : FF} (hφ : Hw φ) : Om (aK 2 (rK φ)) := λ ns μ h0 hs hl => by
 have e : Df ((ns.map D.int).map (thG (hName 0) (M2 (aq 0) (aq 1) oDiv) (dD ["number"] [some (.lst (ns.map .int)), some (.int (bK 0 ns : Nat))] [1]))) μ = some ((ns.map D.int).map (λ d => match d with | .int n => .int (n.fdiv (bK 0 ns : Nat)) | _ => .non), μ) := by
  refine yx _ λ d hd => ?_
  obtain ⟨n, _, rfl⟩ := List.mem_map.mp hd
  have := jj (x := n) μ (show ((bK 0 ns : Nat) : Int) ≠ 0 by omega) hs (by decide)
  simp [thG, hName, dD, M2, aq, this]
 unfold aK rK
 have hz : ns.length <= sizeLine := Nat.le_trans hl (by decide)
 rw [List.map_map, List.map_map] at e
 simp [aO, aY, MC, aa, aB, aq, hφ ns μ, bA, Ew, qJ, dJ, srcOf, hz, e]
def sgn (b : Int) : Int := if b > 0 then 1 else -1
theorem Oo {b : Nat} {n s : Int} (hs : s = 1 ∨ s = -1) (h : Sm b n) : Sm b (s * n) := by
 unfold Sm at *
 rw [Int.natAbs_mul]
 rcases hs with rfl | rfl <;> simpa using h
theorem LQ (b : Int) : sgn b = 1 ∨ sgn b = -1 := by unfold sgn; split <;> simp
theorem zr {φ : FF} (hφ : xM φ) (x y : D) (all : List D) : ∀ (ns : List Int) (c : Int) (o : Option D) (μ : Mu), ∃ (c' : Int) (o' : Option D),
  forL ⟨all, none⟩ (hName 3) (aY 2 (MC (aa (aq 2) (aa (aq 3) (aB))) φ)) (ns.map D.int) [some x, some y, some (.int c), o] μ = some (.nx, [some x, some y, some (.int c'), o'], μ) /\ c'.natAbs = bK c.natAbs ns /\ (0 <= c ∨ ns ≠ [] -> 0 <= c')
 | [], c, o, μ => ⟨c, o, by unfold forL; simp [bV], rfl, λ h => h.elim id λ z => absurd rfl z⟩
 | n :: ns, c, o, μ => by
  obtain ⟨c', o', e, hc, hn0⟩ := zr hφ x y all ns (Int.gcd c n) (some (.int n)) μ
  refine ⟨c', o', ?_, ?_, λ _ => hn0 (.inl (Int.natCast_nonneg _))⟩
  .rw [List.map_cons]
   unfold forL
   simp [bV, hName, aY, MC, aa, aB, aq, hφ c n, e]
  .rw [hc]
   show _ = bK (Int.gcd (c.natAbs : Nat) n) ns
   congr 1
def nj (φ : FF) : Prop := ∀ (ns : List Int) (b : Int) (μ : Mu), b ≠ 0 -> Sm 4000 b -> ns.length <= 50 -> ns ≠ [] ->
 φ [.lst (ns.map .int), .int b] μ = some (.tup ((ns ++ [b]).map λ n => .int (n.fdiv (sgn b * (bK b.natAbs ns : Nat)))), μ)
theorem Ox {φ : FF} (hφ : xM φ) : nj (aK 4 (dN φ)) := λ ns b μ hb hs hl hne => by
 obtain ⟨c', o', e, hc, hc0⟩ := zr hφ (.lst (ns.map .int)) (.int b) (ns.map .int) ns b none μ
 have hsg := LQ b
 have hg0 : bK b.natAbs ns ≠ 0 := jP (.inl (by omega))
 have hgle : bK b.natAbs ns <= b.natAbs := Nat.le_of_dvd (by omega) (lQ ns b.natAbs).2
 have hdiv : ∀ δo, ∃ δ', sIf (toB (M2 (aq 1) (mC (.int 0)) oLt)) (aY 2 (M2 (mC (.int 0)) (MC (aa (aq 2) (aB)) (bj qP)) cu)) bU [some (.lst (ns.map .int)), some (.int b), some (.int c'), δo] μ = some (.nx, δ', μ) /\ (0 <= c' -> δ' = [some (.lst (ns.map .int)), some (.int b), some (.int (sgn b * (bK b.natAbs ns : Nat))), δo]) := λ δo => by
  by_cases hn : b < 0
  .refine ⟨[some (.lst (ns.map .int)), some (.int b), some (.int (0 - if c' < 0 then -c' else c')), δo], by simp [sIf, toB, M2, aq, mC, oLt, hn, aY, MC, aa, aB, bj, qP, cu], λ hc0 => ?_⟩
   have h1 : sgn b = -1 := by unfold sgn; rw [if_neg (by omega)]
   rw [h1, if_neg (by omega)]
   have : c' = (bK b.natAbs ns : Nat) := by omega
   rw [this]
   simp
  .refine ⟨[some (.lst (ns.map .int)), some (.int b), some (.int c'), δo], by simp [sIf, toB, M2, aq, mC, oLt, hn, bU], λ hc0 => ?_⟩
   have h1 : sgn b = 1 := by unfold sgn; rw [if_pos (by omega)]
   have : c' = (bK b.natAbs ns : Nat) := by omega
   rw [h1, this]
   simp
 obtain ⟨δ', e3, e4⟩ := hdiv o'
 have e5 := e4 (hc0 (.inr hne))
 subst e5
 have hd0 : sgn b * ((bK b.natAbs ns : Nat) : Int) ≠ 0 := by rcases hsg with h | h <;> rw [h] <;> omega
 have hds : Sm 4000 (sgn b * ((bK b.natAbs ns : Nat) : Int)) := Oo hsg (by unfold Sm at *; simp only [Int.natAbs_natCast]; omega)
 have eL : lcL ⟨ns.map D.int, none⟩ (hName 0) bI (M2 (aq 0) (aq 1) oDiv) (dD ["_law_number"] [some (.lst (ns.map .int)), some (.int b), some (.int (sgn b * (bK b.natAbs ns : Nat))), o'] [2]) (ns.map D.int) μ = some ((ns.map D.int).map (λ d => match d with | .int n => .int (n.fdiv (sgn b * (bK b.natAbs ns : Nat))) | _ => .non), μ) := by
  refine pC _ λ d hd => ?_
  obtain ⟨n, _, rfl⟩ := List.mem_map.mp hd
  have := jj (x := n) μ hd0 hds (by decide)
  exact ⟨_, rfl, by simp [hName, dD, M2, aq, this]⟩
 rw [List.map_map] at eL
 have eL2 : lcL ⟨ns.map D.int, none⟩ (hName 0) bI (M2 (aq 0) (aq 1) oDiv) (dD ["_law_number"] [some (.lst (ns.map .int)), some (.int b), some (.int (sgn b * (bK b.natAbs ns : Nat))), o'] [2]) (ns.map D.int) μ = some (ns.map (λ n => D.int (n.fdiv (sgn b * (bK b.natAbs ns : Nat)))), μ) := eL
 have eD := jj (x := b) μ hd0 hds (by decide)
 have hz : ns.length <= sizeLine := Nat.le_trans hl (by decide)
 have hz2 : ns.length + 1 <= sizeLine := Nat.le_trans (by omega : ns.length + 1 <= 100) (by decide)
 have h1s : 1 <= sizeLine := by decide
 unfold aK dN
 simp [aO, aY, aq, fZ, dJ, srcOf, e, e3, bA, M2, MC, aa, aB, mFz, lLC, hz, eL2, cW, bL, eD, oTup, h1s, bw, hz2]
theorem bc {a b : Nat} {x : Int} (h : Sm a x) (hab : a <= b) : Sm b x := Nat.lt_of_lt_of_le h (Nat.pow_le_pow_right (by decide) hab)
theorem dY {a b : Nat} {x y : Int} (hx : Sm a x) (hy : Sm b y) : Sm (a + b) (x * y) := by
 unfold Sm at *
 rw [Int.natAbs_mul, Nat.pow_add]
 exact Nat.mul_lt_mul'' hx hy
theorem tO {a : Nat} {x y : Int} (hx : Sm a x) (hy : Sm a y) : Sm (a + 1) (x + y) := by
 unfold Sm at *
 rw [Nat.pow_succ]
 have := Int.natAbs_add_le x y
 omega
theorem JH {a : Nat} {x y : Int} (hx : Sm a x) (h0 : 0 <= x) (hy : 0 < y) : Sm a (x.fdiv y) /\ 0 <= x.fdiv y := by
 rw [Int.fdiv_eq_ediv_of_nonneg x (by omega)]
 have h1 : 0 <= x / y := Int.ediv_nonneg h0 (by omega)
 have h2 : x / y <= x := Int.ediv_le_self y h0
 unfold Sm at *
 omega
def Dr (x : Int) : Prop := 0 <= x /\ x < 2147483648
theorem Dr.sm {x : Int} (h : Dr x) : Sm 31 x := by
 unfold Sm
 have := h.1
 have := h.2
 have e : (2 : Nat) ^ 31 = 2147483648 := by decide
 omega
theorem jN : ∀ (L : List Int), cV (L.map D.int) = true
 | [] => by unfold cV; rfl
 | x :: L => by
  rw [List.map_cons]
  unfold cV
  rw [jN L]
  simp [cD]
theorem lU : ∀ (L : List Int), gF (L.map D.int) = 0
 | [] => by unfold gF; rfl
 | x :: L => by
  rw [List.map_cons]
  unfold gF
  rw [lU L]
  simp [gC]
theorem jy {ds : List D} {i : Int} (h0 : 0 <= i) (h1 : i < ds.length) : ∃ d, d ∈ ds /\ atI ds i = some d := by
 have hi : i.toNat < ds.length := by omega
 refine ⟨ds[i.toNat], List.getElem_mem hi, ?_⟩
 unfold atI ixN
 rw [if_pos h0, if_pos h1]
 simp [hi]
theorem aW {x m : Int} (hm : 0 < m) : 0 <= x.fmod m /\ x.fmod m < m := ⟨Int.fmod_nonneg_of_pos x hm, Int.fmod_lt_of_pos x hm⟩
def lB (φ : FF) : Prop := ∀ (x k : Int) (μ : Mu), 0 <= k -> k < 1000 -> ∃ r, φ [.int x, .int k] μ = some (.int r, μ) /\ Dr r
theorem Pu : lB (aK 3 gQ) := λ x k μ h0 h1 => by
 obtain ⟨a0, a1⟩ := aW (x := x) (m := 2147483647) (by decide)
 have w1 := eG (x := x) (y := 2147483647) μ (by decide)
 have sa : Sm 31 (x.fmod 2147483647) := by unfold Sm; have e : (2 : Nat) ^ 31 = 2147483648 := by decide
                                           omega
 have m1 := bf (x := x.fmod 2147483647) (y := 48271) μ sa (show Sm 16 48271 by unfold Sm; decide) (by decide)
 have sk : Sm 10 k := by unfold Sm; have e : (2 : Nat) ^ 10 = 1024 := by decide
                         omega
 have m2 := bf (x := 7919) (y := k) μ (show Sm 13 7919 by unfold Sm; decide) sk (by decide)
 have m3 := bf (x := 7919 * k) (y := k) μ (dY (show Sm 13 7919 by unfold Sm; decide) sk) sk (by decide)
 have w2 := eG (x := x.fmod 2147483647 * 48271 + 7919 * k * k + 104729) (y := 2147483647) μ (by decide)
 obtain ⟨b0, b1⟩ := aW (x := x.fmod 2147483647 * 48271 + 7919 * k * k + 104729) (m := 2147483647) (by decide)
 generalize hn : (x.fmod 2147483647 * 48271 + 7919 * k * k + 104729).fmod 2147483647 = n at *
 have sn : Sm 31 n := by unfold Sm; have e : (2 : Nat) ^ 31 = 2147483648 := by decide
                         omega
 have m4 := bf (x := n) (y := n) μ sn sn (by decide)
 have w3 := eG (x := n * n) (y := 2147483629) μ (by decide)
 obtain ⟨c0, c1⟩ := aW (x := n * n) (m := 2147483629) (by decide)
 refine ⟨(n * n).fmod 2147483629, ?_, c0, by omega⟩
 unfold aK gQ
 simp [aO, aY, M2, aq, mC, w1, m1, m2, m3, bw, w2, bA, m4, w3]
theorem vO {δ : En} {L : List Int} {y : Int} {fs : AF} (h1 : δ[1]? = some (some (.cell 0))) (h2 : fs δ [some (L.map .int)] = some ([.int y], [some (L.map .int)])) (hl : L.length < 10000) :
  gw (aq 1) fs δ [some (L.map .int)] = some (.non, [some ((L ++ [y]).map .int)]) := by
 have hz : L.length < sizeLine := Nat.lt_of_lt_of_le hl (by decide)
 unfold gw
 simp [aq, h1, h2, fX, hz]
theorem Qx {φ : FF} (hφ : lB φ) (s : D) (k c : Int) (hk : 0 <= k /\ k < 100) (all : List D) : ∀ (js : List Int), (∀ j ∈ js, 0 <= j /\ j < 12) -> ∀ (L : List Int) (o : Option D), (∀ x ∈ L, Dr x) -> L.length + js.length < 10000 -> ∃ (L' : List Int) (o' : Option D),
  forL ⟨all, none⟩ (hName 4) (fJ (gw (aq 1) (aa (MC (aa (MC (aa (aq 3) (aa (M2 (M2 (mC (.int 3)) (aq 4) bC) (mC (.int 1)) bw) (aB))) φ) (aa (M2 (M2 (aq 4) (aq 2) bw) (mC (.int 2)) bw) (aB))) φ) (aB)))) (js.map D.int)
   [some s, some (.cell 0), some (.int k), some (.int c), o] [some (L.map .int)] = some (.nx, [some s, some (.cell 0), some (.int k), some (.int c), o'], [some (L'.map .int)]) /\ (∀ x ∈ L', Dr x) /\ L'.length = L.length + js.length
 | [], _, L, o, hL, _ => ⟨L, o, by unfold forL; simp [bV], hL, rfl⟩
 | j :: js, hj, L, o, hL, hlen => by
  have hj0 := hj j (by simp)
  obtain ⟨r1, e1, d1⟩ := hφ c (3 * j + 1) [some (L.map .int)] (by omega) (by omega)
  obtain ⟨r2, e2, d2⟩ := hφ r1 (j + k + 2) [some (L.map .int)] (by omega) (by omega)
  have m1 := bf (x := 3) (y := j) [some (L.map D.int)] (show Sm 2 3 by unfold Sm; decide) (show Sm 4 j by unfold Sm; omega) (by decide)
  obtain ⟨L', o', e, hd, hl⟩ := Qx hφ s k c hk all js (λ x hx => hj x (by simp [hx])) (L ++ [r2]) (some (.int j)) (λ x hx => by
   rcases List.mem_append.mp hx with z | z
   .exact hL x z
   .simp at z; subst z; exact d2) (by simp at hlen ⊢; omega)
  refine ⟨L', o', ?_, hd, by rw [hl]; simp; omega⟩
  rw [List.map_cons]
  unfold forL
  have ea := vO (δ := [some s, some (.cell 0), some (.int k), some (.int c), some (.int j)]) (L := L) (y := r2) (fs := aa (MC (aa (MC (aa (aq 3) (aa (M2 (M2 (mC (.int 3)) (aq 4) bC) (mC (.int 1)) bw) (aB))) φ) (aa (M2 (M2 (aq 4) (aq 2) bw) (mC (.int 2)) bw) (aB))) φ) (aB)) rfl
   (by simp [aa, aB, MC, M2, aq, mC, m1, bw, e1, e2]) (by simp at hlen; omega)
  simp only [List.map_append, List.map_cons, List.map_nil] at ea e
  simp [bV, hName, fJ, ea, e]
abbrev drC : TF := lH (toB (M2 (aq 3) (M2 (mC (.int 10)) (mC (.int 18)) zx) oGe)) (toB (M2 (MC (aa (aq 1) (aB)) (bj cg)) (mC (.int 900)) oLt))
abbrev drB : SF := aO (fJ (gw (aq 1) (aa (M2 (aq 3) (mC (.int 2147483629)) oMod) (aB)))) (aY 3 (M2 (aq 3) (mC (.int 2147483629)) oDiv))
theorem za (s k o : Option D) : ∀ (n : Nat) (c : Int) (L : List Int), 0 <= c -> (∀ x ∈ L, Dr x) -> 900 - L.length <= n -> ∃ (c' : Int) (L' : List Int),
  eO drC drB (n + 1) [s, some (.cell 0), k, some (.int c), o] [some (L.map .int)] = some (.nx, [s, some (.cell 0), k, some (.int c'), o], [some (L'.map .int)]) /\ 0 <= c' /\ (∀ x ∈ L', Dr x) /\ L'.length <= max L.length 900
 | n, c, L, hc, hL, hn => by
  have ep : zx (.int 10) (.int 18) [some (L.map D.int)] = some (.int 1000000000000000000, [some (L.map .int)]) := rfl
  by_cases ht : (1000000000000000000 : Int) <= c /\ L.length < 900
  .cases n with
   | zero => omega
   | succ n =>
    obtain ⟨m0, m1⟩ := aW (x := c) (m := 2147483629) (by decide)
    have w1 := eG (x := c) (y := 2147483629) [some (L.map D.int)] (by decide)
    have w2 := jj (x := c) (y := 2147483629) [some ((L ++ [c.fmod 2147483629]).map D.int)] (by decide) (show Sm 31 2147483629 by unfold Sm; decide) (by decide)
    have q0 : 0 <= c.fdiv 2147483629 := by rw [Int.fdiv_eq_ediv_of_nonneg c (by decide)]; exact Int.ediv_nonneg hc (by decide)
    obtain ⟨c', L', e, h1, h2, h3⟩ := za s k o n (c.fdiv 2147483629) (L ++ [c.fmod 2147483629]) q0 (λ x hx => by
     rcases List.mem_append.mp hx with z | z
     .exact hL x z
     .simp at z; subst z; exact ⟨m0, by omega⟩) (by simp; omega)
    refine ⟨c', L', ?_, h1, h2, by simp at h3; omega⟩
    unfold eO
    have ea := vO (δ := [s, some (.cell 0), k, some (.int c), o]) (L := L) (y := c.fmod 2147483629) (fs := aa (M2 (aq 3) (mC (.int 2147483629)) oMod) (aB)) rfl (by simp [aa, aB, M2, aq, mC, w1]) (by omega)
    simp only [List.map_append, List.map_cons, List.map_nil] at ea e w2
    have hlen : ((L.length : Nat) : Int) < 900 := by omega
    have ht1 := ht.1
    simp [lH, toB, M2, aq, mC, ep, oGe, ht1, MC, aa, aB, bj, cg, bL, oLt, hlen, aO, fJ] at ea ⊢
    simp [ea, aY, M2, aq, mC, w2, e]
  .refine ⟨c, L, ?_, hc, hL, by omega⟩
   unfold eO
   by_cases h1 : (1000000000000000000 : Int) <= c
   .have h2 : ¬ ((L.length : Nat) : Int) < 900 := by omega
    simp [lH, toB, M2, aq, mC, ep, oGe, h1, MC, aa, aB, bj, cg, bL, oLt, h2]
   .simp [lH, toB, M2, aq, mC, ep, oGe, h1]
theorem xY (n : Nat) : cT 0 n = ((List.range n).map λ (k : Nat) => (k : Int)).map D.int := by
 unfold cT
 rw [List.map_map]
 apply List.map_congr_left
 intro k _
 simp
noncomputable abbrev vB (φ : FF) : SF := (aO (aY 3 (MC (aa (M2 (aq 0) (aq 2) oIx) (aB)) (bj qP))) (aO (sIf (toB (M2 (aq 3) (M2 (mC (.int 10)) (mC (.int 18)) zx) oLt)) (fZ (bQ (aa (mC (.int 12)) (aB))) (hName 4) (fJ (gw (aq 1) (aa (MC (aa (MC (aa (aq 3) (aa (M2 (M2 (mC (.int 3)) (aq 4) bC) (mC (.int 1)) bw) (aB))) φ) (aa (M2 (M2 (aq 4) (aq 2) bw) (mC (.int 2)) bw) (aB))) φ) (aB))))) (bU)) (aO (lK drC drB) (sIf (toB (M2 (aq 3) (mC (.int 2147483629)) oGe)) (fJ (gw (aq 1) (aa (M2 (aq 3) (mC (.int 2147483629)) oMod) (aB)))) (bU)))))
theorem Ke {φ : FF} (hφ : lB φ) (ns : List Int) (k : Nat) (hk : k < ns.length) (hk2 : k < 100) (L : List Int) (o3 o4 : Option D) (hL : ∀ x ∈ L, Dr x) (hlen : L.length < 9000) : ∃ (L' : List Int) (o3' o4' : Option D),
  vB φ [some (.ro (ns.map .int)), some (.cell 0), some (.int k), o3, o4] [some (L.map .int)] = some (.nx, [some (.ro (ns.map .int)), some (.cell 0), some (.int k), o3', o4'], [some (L'.map .int)]) /\ (∀ x ∈ L', Dr x) /\ L'.length <= max (L.length + 12) 900 + 1 := by
 have hat : atI (ns.map D.int) (k : Int) = some (.int ns[k]) := HX (by simp [hk])
 generalize hc : (if ns[k] < 0 then -ns[k] else ns[k]) = c
 have hc0 : 0 <= c := by rw [<- hc]; split <;> omega
 have ep : zx (.int 10) (.int 18) [some (L.map D.int)] = some (.int 1000000000000000000, [some (L.map .int)]) := rfl
 obtain ⟨L1, o1, e1, h1, l1⟩ : ∃ (L1 : List Int) (o1 : Option D), sIf (toB (M2 (aq 3) (M2 (mC (.int 10)) (mC (.int 18)) zx) oLt)) (fZ (bQ (aa (mC (.int 12)) (aB))) (hName 4) (fJ (gw (aq 1) (aa (MC (aa (MC (aa (aq 3) (aa (M2 (M2 (mC (.int 3)) (aq 4) bC) (mC (.int 1)) bw) (aB))) φ) (aa (M2 (M2 (aq 4) (aq 2) bw) (mC (.int 2)) bw) (aB))) φ) (aB))))) (bU)
   [some (.ro (ns.map .int)), some (.cell 0), some (.int k), some (.int c), o4] [some (L.map .int)] = some (.nx, [some (.ro (ns.map .int)), some (.cell 0), some (.int k), some (.int c), o1], [some (L1.map .int)]) /\ (∀ x ∈ L1, Dr x) /\ L1.length <= L.length + 12 := by
  by_cases hs : c < 1000000000000000000
  .obtain ⟨L1, o1, e, h, l⟩ := Qx hφ (.ro (ns.map .int)) k c (by omega) (cT 0 12) ((List.range 12).map λ (k : Nat) => (k : Int)) (λ j hj => by simp at hj; omega) L o4 hL (by simp; omega)
   refine ⟨L1, o1, ?_, h, by rw [l]; simp⟩
   rw [<- xY] at e
   simp [sIf, toB, M2, aq, mC, ep, oLt, hs, fZ, bQ, aa, aB]
   exact e
  .exact ⟨L, o4, by simp [sIf, toB, M2, aq, mC, ep, oLt, hs, bU], hL, by omega⟩
 obtain ⟨c', L2, e2, hc', h2, l2⟩ := za (some (.ro (ns.map .int))) (some (.int k)) o1 _ c L1 hc0 h1 (Nat.le_refl _)
 have ew := vI e2
 have hab : qP (.int ns[k]) [some (L.map D.int)] = some (.int c, [some (L.map D.int)]) := by rw [<- hc]; rfl
 by_cases hb : (2147483629 : Int) <= c'
 .obtain ⟨m0, m1⟩ := aW (x := c') (m := 2147483629) (by decide)
  have w1 := eG (x := c') (y := 2147483629) [some (L2.map D.int)] (by decide)
  have ea := vO (δ := [some (.ro (ns.map .int)), some (.cell 0), some (.int k), some (.int c'), o1]) (L := L2) (y := c'.fmod 2147483629) (fs := aa (M2 (aq 3) (mC (.int 2147483629)) oMod) (aB)) rfl (by simp [aa, aB, M2, aq, mC, w1]) (by omega)
  refine ⟨L2 ++ [c'.fmod 2147483629], some (.int c'), o1, ?_, λ x hx => by
   rcases List.mem_append.mp hx with z | z
   .exact h2 x z
   .simp at z; subst z; exact ⟨m0, by omega⟩, by simp; omega⟩
  have e0 : aY 3 (MC (aa (M2 (aq 0) (aq 2) oIx) (aB)) (bj qP)) [some (.ro (ns.map .int)), some (.cell 0), some (.int k), o3, o4] [some (L.map .int)] = some (.nx, [some (.ro (ns.map .int)), some (.cell 0), some (.int k), some (.int c), o4], [some (L.map .int)]) := by
   simp [aY, MC, aa, aB, M2, aq, oIx, bL, hat, bj, hab]
  have e3 : sIf (toB (M2 (aq 3) (mC (.int 2147483629)) oGe)) (fJ (gw (aq 1) (aa (M2 (aq 3) (mC (.int 2147483629)) oMod) (aB)))) (bU) [some (.ro (ns.map .int)), some (.cell 0), some (.int k), some (.int c'), o1] [some (L2.map .int)] = some (.nx, [some (.ro (ns.map .int)), some (.cell 0), some (.int k), some (.int c'), o1], [some ((L2 ++ [c'.fmod 2147483629]).map .int)]) := by
   simp only [sIf, toB, M2, aq, mC, oGe, fJ] at ea ⊢
   simp [hb] at ea ⊢
   simp [ea]
  unfold vB aO
  rw [e0]
  simp only [Option.bind_some]
  rw [e1]
  simp only [Option.bind_some]
  rw [ew]
  simp only [Option.bind_some]
  exact e3
 .refine ⟨L2, some (.int c'), o1, ?_, h2, by omega⟩
  have e0 : aY 3 (MC (aa (M2 (aq 0) (aq 2) oIx) (aB)) (bj qP)) [some (.ro (ns.map .int)), some (.cell 0), some (.int k), o3, o4] [some (L.map .int)] = some (.nx, [some (.ro (ns.map .int)), some (.cell 0), some (.int k), some (.int c), o4], [some (L.map .int)]) := by
   simp [aY, MC, aa, aB, M2, aq, oIx, bL, hat, bj, hab]
  have e3 : sIf (toB (M2 (aq 3) (mC (.int 2147483629)) oGe)) (fJ (gw (aq 1) (aa (M2 (aq 3) (mC (.int 2147483629)) oMod) (aB)))) (bU) [some (.ro (ns.map .int)), some (.cell 0), some (.int k), some (.int c'), o1] [some (L2.map .int)] = some (.nx, [some (.ro (ns.map .int)), some (.cell 0), some (.int k), some (.int c'), o1], [some (L2.map .int)]) := by
   simp [sIf, toB, M2, aq, mC, oGe, hb, bU]
  unfold vB aO
  rw [e0]
  simp only [Option.bind_some]
  rw [e1]
  simp only [Option.bind_some]
  rw [ew]
  simp only [Option.bind_some]
  exact e3
theorem Cr {φ : FF} (hφ : lB φ) (ns : List Int) (all : List D) : ∀ (ks : List Nat), (∀ k ∈ ks, k < ns.length /\ k < 100) -> ∀ (L : List Int) (o2 o3 o4 : Option D), (∀ x ∈ L, Dr x) -> max L.length 900 + 13 * ks.length <= 5000 -> ∃ (L' : List Int) (o2' o3' o4' : Option D),
  forL ⟨all, none⟩ (hName 2) (vB φ) ((ks.map λ (k : Nat) => (k : Int)).map D.int) [some (.ro (ns.map .int)), some (.cell 0), o2, o3, o4] [some (L.map .int)] = some (.nx, [some (.ro (ns.map .int)), some (.cell 0), o2', o3', o4'], [some (L'.map .int)]) /\ (∀ x ∈ L', Dr x)
 | [], _, L, o2, o3, o4, hL, _ => ⟨L, o2, o3, o4, by simp only [List.map_nil]; unfold forL; simp [bV], hL⟩
 | k :: ks, hk, L, o2, o3, o4, hL, hlen => by
  have hk0 := hk k (by simp)
  simp only [List.length_cons] at hlen
  obtain ⟨L1, a3, a4, e1, h1, l1⟩ := Ke hφ ns k hk0.1 hk0.2 L o3 o4 hL (by omega)
  obtain ⟨L', b2, b3, b4, e, h⟩ := Cr hφ ns all ks (λ x hx => hk x (by simp [hx])) L1 (some (.int k)) a3 a4 h1 (by omega)
  refine ⟨L', b2, b3, b4, ?_, h⟩
  rw [List.map_cons, List.map_cons]
  unfold forL
  simp only [hName, List.set_cons_succ, List.set_cons_zero, Option.bind_some]
  rw [if_pos (bV _ _), e1]
  exact e
def wU (φ : FF) : Prop := ∀ (ns : List Int), ns.length <= 63 -> ∃ L : List Int, φ [.ro (ns.map .int)] [] = some (.cell 0, [some (L.map .int)]) /\ ∀ x ∈ L, Dr x
theorem Hz {φ : FF} (hφ : lB φ) : wU (aK 5 (mx φ)) := λ ns hn => by
 obtain ⟨L, o2, o3, o4, e, h⟩ := Cr hφ ns (cT 0 ns.length) (List.range ns.length) (λ k hk => by simp at hk; omega) [] none none none (λ x hx => by simp at hx) (by simp; omega)
 refine ⟨L, ?_, h⟩
 rw [<- xY] at e
 have hmin : (if (63 : Int) < (ns.length : Int) then (63 : Int) else (ns.length : Int)) = (ns.length : Int) := by rw [if_neg (by omega)]
 have hr : (-(2 ^ 62) <= (ns.length : Int) /\ (ns.length : Int) < 2 ^ 62) := by omega
 have hz : 0 <= sizeLine := Nat.zero_le _
 have eS : ∀ δ : En, δ[0]? = some (some (.ro (ns.map .int))) -> ∀ μ, bQ (aa (MC (aa (MC (aa (aq 0) (aB)) (bj cg)) (aa (mC (.int 63)) (aB))) (mj nq)) (aB)) δ μ = some (⟨cT 0 ns.length, none⟩, μ) := λ δ h0 μ => by
  simp only [bQ, aa, MC, aq, h0, aB, bj, cg, bL, mC, mj, nq, Option.bind_some, Option.map_some, List.length_map]
  rw [hmin]
  rw [if_pos hr]
  simp
 have e0 : aY 1 (jw (pU aB)) [some (.ro (ns.map .int)), none, none, none, none] [] = some (.nx, [some (.ro (ns.map .int)), some (.cell 0), none, none, none], [some []]) := by
  simp [aY, jw, pU, aB]
 have e1 : fZ (bQ (aa (MC (aa (MC (aa (aq 0) (aB)) (bj cg)) (aa (mC (.int 63)) (aB))) (mj nq)) (aB))) (hName 2) (vB φ) [some (.ro (ns.map .int)), some (.cell 0), none, none, none] [some []] = some (.nx, [some (.ro (ns.map .int)), some (.cell 0), o2, o3, o4], [some (L.map .int)]) := by
  unfold fZ
  rw [eS _ rfl]
  exact e
 show (aO (aY 1 (jw (pU aB))) (aO (fZ (bQ (aa (MC (aa (MC (aa (aq 0) (aB)) (bj cg)) (aa (mC (.int 63)) (aB))) (mj nq)) (aB))) (hName 2) (vB φ)) (bA (aq 1))) [some (.ro (ns.map .int)), none, none, none, none] []).bind _ = _
 unfold aO
 rw [e0]
 simp only [Option.bind_some]
 rw [e1]
 simp [bA, aq]
theorem jk : ∀ (ns : List Int) (g d : Nat), d ∣ bK g ns ↔ d ∣ g /\ ∀ n ∈ ns, d ∣ n.natAbs
 | [], g, d => by simp [bK]
 | n :: ns, g, d => by
  have e : bK g (n :: ns) = bK (Int.gcd g n) ns := rfl
  rw [e, jk ns (Int.gcd g n) d]
  have h : d ∣ Int.gcd g n ↔ d ∣ g /\ d ∣ n.natAbs := by
   show d ∣ Nat.gcd (Int.natAbs g) (Int.natAbs n) ↔ _
   rw [Nat.dvd_gcd_iff]
   simp
  rw [h]
  simp only [List.mem_cons, forall_eq_or_imp]
  constructor
  .rintro ⟨⟨h1, h2⟩, h3⟩; exact ⟨h1, h2, h3⟩
  .rintro ⟨h1, h2, h3⟩; exact ⟨⟨h1, h2⟩, h3⟩
theorem Jw {s b : Int} {ns : List Int} (hs : s = 1 ∨ s = -1) : bK 0 ((ns ++ [b]).map (s * ·)) = bK b.natAbs ns := by
 have hab : ∀ n : Int, (s * n).natAbs = n.natAbs := λ n => by rw [Int.natAbs_mul]; rcases hs with h | h <;> rw [h] <;> simp
 apply Nat.dvd_antisymm
 .have h := (jk ((ns ++ [b]).map (s * ·)) 0 _).mp (Nat.dvd_refl _)
  refine (jk ns b.natAbs _).mpr ⟨?_, λ n hn => ?_⟩
  .have := h.2 (s * b) (List.mem_map.mpr ⟨b, by simp, rfl⟩)
   rwa [hab] at this
  .have := h.2 (s * n) (List.mem_map.mpr ⟨n, by simp [hn], rfl⟩)
   rwa [hab] at this
 .have h := (jk ns b.natAbs _).mp (Nat.dvd_refl _)
  refine (jk _ 0 _).mpr ⟨Nat.dvd_zero _, λ m hm => ?_⟩
  obtain ⟨n, hn, rfl⟩ := List.mem_map.mp hm
  rw [hab]
  rcases List.mem_append.mp hn with z | z
  .exact h.2 n z
  .simp at z; subst z; exact h.1
theorem tL (f : Int) : ∀ (ns : List Int) (g : Nat), bK (f.natAbs * g) (ns.map (f * ·)) = f.natAbs * bK g ns
 | [], g => rfl
 | n :: ns, g => by
  show bK (Int.gcd ((f.natAbs * g : Nat) : Int) (f * n)) (ns.map (f * ·)) = f.natAbs * bK (Int.gcd g n) ns
  have : Int.gcd ((f.natAbs * g : Nat) : Int) (f * n) = f.natAbs * Int.gcd g n := by
   show Nat.gcd (Int.natAbs ((f.natAbs * g : Nat) : Int)) (Int.natAbs (f * n)) = _
   rw [Int.natAbs_natCast, Int.natAbs_mul, Nat.gcd_mul_left]
   rfl
  rw [this, tL f ns]
end LG
namespace L3
open PySem PySem.Spec PyProof.Rows L2
class Post (α : Type) where
 run : α -> Prop
@[simp] theorem rZ {α : Type} {f : α -> Prop} {r : α} : @Post.run α ⟨f⟩ r = f r := rfl
def OkI {α : Type} (o : Option α) [Q : Post α] : Prop := ∃ r, o = some r /\ Q.run r
abbrev Ok {α : Type} (o : Option α) (Q : α -> Prop) : Prop := @OkI α o ⟨Q⟩
section
variable {α β : Type} {Q : Post α}
@[simp] theorem rA {r : α} : OkI (some r) (Q := Q) = Q.run r := by
 apply propext
 exact ⟨λ ⟨q, e, h⟩ => by cases e; exact h, λ h => ⟨r, rfl, h⟩⟩
@[simp] theorem Sh : OkI (none : Option α) (Q := Q) = False := by
 apply propext
 exact ⟨λ ⟨q, e, h⟩ => (by cases e), λ h => h.elim⟩
@[simp] theorem fL {o : Option β} {k : β -> Option α} : OkI (o.bind k) (Q := Q) = OkI o (Q := ⟨λ r => OkI (k r) (Q := Q)⟩) := by
 apply propext
 constructor
 .rintro ⟨q, e, h⟩
  obtain ⟨r, e1, e2⟩ := Option.bind_eq_some_iff.mp e
  exact ⟨r, e1, q, e2, h⟩
 .rintro ⟨r, e1, q, e2, h⟩
  exact ⟨q, by rw [e1]; exact e2, h⟩
@[simp] theorem Tz {o : Option β} {k : β -> α} : OkI (o.map k) (Q := Q) = OkI o (Q := ⟨λ r => Q.run (k r)⟩) := by
 apply propext
 constructor
 .rintro ⟨q, e, h⟩
  obtain ⟨r, e1, e2⟩ := Option.map_eq_some_iff.mp e
  exact ⟨r, e1, by subst e2; exact h⟩
 .rintro ⟨r, e1, h⟩
  exact ⟨_, by rw [e1]; rfl, h⟩
theorem OkI.mono {o : Option α} {Q' : Post α} (h : OkI o (Q := Q)) (k : ∀ r, Q.run r -> Q'.run r) : OkI o (Q := Q') := let ⟨r, e, q⟩ := h; ⟨r, e, k r q⟩
end
class Two where
 t : Prop
 f : Prop
def ug (b : Bool) [T : Two] : Prop := if b = true then T.t else T.f
@[simp] theorem Qa {P R : Prop} : ug true (T := ⟨P, R⟩) = P := rfl
@[simp] theorem Ms {P R : Prop} : ug false (T := ⟨P, R⟩) = R := rfl
def asB (r : D × Mu) : Option (Bool × Mu) := match r.1 with
 | .bl k => some (k, r.2)
 | _ => none
@[simp] theorem Tt {k : Bool} {μ : Mu} : asB (.bl k, μ) = some (k, μ) := rfl
def Lg (r : List D × Mu) : Option (Src × Mu) := match r.1 with
 | [.int j] => if -(2 ^ 62) <= j /\ j < 2 ^ 62 then some (⟨cT 0 j.toNat, none⟩, r.2) else none
 | _ => none
def Ge (r : List D × Mu) : Option (List D × Mu) := match r.1 with
 | [.int j] => if -(2 ^ 62) <= j /\ j < 2 ^ 62 /\ j.toNat <= sizeLine then some (cT 0 j.toNat, r.2) else none
 | _ => none
theorem uv {j : Int} {μ : Mu} (h0 : -(2 ^ 62) <= j) (h1 : j < 2 ^ 62) : Lg ([.int j], μ) = some (⟨cT 0 j.toNat, none⟩, μ) := if_pos ⟨h0, h1⟩
theorem RQ {j : Int} {μ : Mu} (h0 : -(2 ^ 62) <= j) (h1 : j.toNat <= sizeLine) (h2 : j < 2 ^ 62) : Ge ([.int j], μ) = some (cT 0 j.toNat, μ) := if_pos ⟨h0, h2, h1⟩
def RB (r : List D × Mu) : Option (Src × Mu) := match r.1 with
 | [x, y] => (fU x).bind λ xs => (fU y).map λ ys => (⟨kh xs ys, none⟩, r.2)
 | _ => none
@[simp] theorem Rg {x y : D} {μ : Mu} : RB ([x, y], μ) = (fU x).bind λ xs => (fU y).map λ ys => (⟨kh xs ys, none⟩, μ) := rfl
@[simp] theorem Sw {ds : List D} : fU (.tup ds) = some ds := rfl
@[simp] theorem Tg {ds : List D} : fU (.lst ds) = some ds := rfl
def Ru (th : D -> eN) (r : Src × Mu) : Option (List eN × Mu) := match r.1.cel with
 | none => some (r.1.items.map th, r.2)
 | some _ => none
@[simp] theorem PJ {th : D -> eN} {items : List D} {μ : Mu} : Ru th (⟨items, none⟩, μ) = some (items.map th, μ) := rfl
def Gm (r : D × Mu) : Option (List eN × Mu) := match r.1 with
 | .tup ds => some (ds.map thE, r.2)
 | .lst ds => some (ds.map thE, r.2)
 | _ => none
@[simp] theorem Rc {ds : List D} {μ : Mu} : Gm (.tup ds, μ) = some (ds.map thE, μ) := rfl
@[simp] theorem QZ {ds : List D} {μ : Mu} : Gm (.lst ds, μ) = some (ds.map thE, μ) := rfl
def Qy (r : D × Mu) : Option (D × Mu) := match r.1 with
 | .cell n => (r.2.getD n none).map λ ds => (.lst ds, r.2.set n none)
 | d => some (d, r.2)
@[simp] theorem Qc {n : Nat} {μ : Mu} : Qy (.cell n, μ) = (μ.getD n none).map λ ds => (.lst ds, μ.set n none) := rfl
section
variable {Q : Post (D × Mu)} {QT : Post (Bool × Mu)} {QS : Post (Fl × En × Mu)} {δ : En} {μ : Mu} {f fa fb fc : EF} {fs : AF} {t ta tc : TF} {g h : SF} {op op' : O2}
@[simp] theorem wJ {d : D} : aq 0 (some d :: δ) μ = some (d, μ) := rfl
@[simp] theorem wR {i : Nat} {o : Option D} : aq (i + 1) (o :: δ) μ = aq i δ μ := rfl
@[simp] theorem w_c {d : D} : mC d δ μ = some (d, μ) := rfl
@[simp] theorem w_m1 {op : O1'} : M1 fa op δ μ = (fa δ μ).bind λ r => op r.1 r.2 := rfl
@[simp] theorem QK : M2 fa fb op δ μ = (fa δ μ).bind λ r => (fb δ r.2).bind λ q => op r.1 q.1 q.2 := rfl
@[simp] theorem BX : aB δ μ = some ([], μ) := rfl
@[simp] theorem wO : aa f fs δ μ = (f δ μ).bind λ r => (fs δ r.2).bind λ q => some (r.1 :: q.1, q.2) := rfl
@[simp] theorem Nq {op : ON} : MC fs op δ μ = (fs δ μ).bind λ r => op r.1 r.2 := rfl
@[simp] theorem w_mk {fk : AF} {π : List Nat} {φ : FF} : MK fs fk π φ δ μ = (fs δ μ).bind λ r => (fk δ r.2).bind λ q => φ (r.1 ++ π.map λ i => q.1.getD i .non) q.2 := rfl
@[simp] theorem Tj : ql f δ μ = (f δ μ).bind λ r => (yj r.1 r.2).map λ k => (k, r.2) := rfl
@[simp] theorem w_toB : toB f δ μ = (f δ μ).bind asB := rfl
@[simp] theorem w_ch : OkI (MCh fa fb fc op op' δ μ) (Q := Q) = OkI (fa δ μ) (Q := ⟨λ r => OkI (fb δ r.2) (Q := ⟨λ q => OkI ((op r.1 q.1 q.2).bind asB) (Q := ⟨λ z => ug z.1 (T := ⟨OkI ((fc δ z.2).bind λ t => op' q.1 t.1 t.2) (Q := Q), Q.run (.bl false, z.2)⟩)⟩)⟩)⟩) := by
 unfold MCh; rw [fL]; congr 2; funext r; rw [fL]; congr 2; funext q; rw [fL, fL]; congr 2; funext z; obtain ⟨d, μ'⟩ := z
 cases d <;> simp [asB]
 rename_i b
 cases b <;> simp
@[simp] theorem w_and : OkI (lH ta tc δ μ) (Q := QT) = OkI (ta δ μ) (Q := ⟨λ r => ug r.1 (T := ⟨OkI (tc δ r.2) (Q := QT), QT.run (false, r.2)⟩)⟩) := by
 unfold lH; rw [fL]; congr 2; funext r; unfold ug; split <;> simp [*]
@[simp] theorem w_or : OkI (ul ta tc δ μ) (Q := QT) = OkI (ta δ μ) (Q := ⟨λ r => ug r.1 (T := ⟨QT.run (true, r.2), OkI (tc δ r.2) (Q := QT)⟩)⟩) := by
 unfold ul; rw [fL]; congr 2; funext r; unfold ug; split <;> simp [*]
@[simp] theorem w_not : jM ta δ μ = (ta δ μ).bind λ r => some (!r.1, r.2) := rfl
@[simp] theorem Tw : OkI (jB fa fb δ μ) (Q := Q) = OkI ((fa δ μ).bind asB) (Q := ⟨λ k => ug k.1 (T := ⟨OkI (fb δ k.2) (Q := Q), Q.run (.bl false, k.2)⟩)⟩) := by
 unfold jB; rw [fL, fL]; congr 2; funext r; obtain ⟨d, μ'⟩ := r
 cases d <;> simp [asB]
 rename_i b
 cases b <;> simp
@[simp] theorem Ti : pg fa δ μ = ((fa δ μ).bind asB).bind λ r => some (.bl !r.1, r.2) := by
 unfold pg
 cases fa δ μ with
 | none => rfl
 | some r => obtain ⟨d, μ'⟩ := r; cases d <;> rfl
@[simp] theorem w_next : bU δ μ = some (.nx, δ, μ) := rfl
@[simp] theorem w_ret : bA f δ μ = (f δ μ).bind λ r => some (.rt r.1, δ, r.2) := rfl
@[simp] theorem Ub : fJ f δ μ = (f δ μ).bind λ r => some (.nx, δ, r.2) := rfl
@[simp] theorem Gh {i : Nat} : aY i f δ μ = (f δ μ).bind λ r => some (.nx, δ.set i (some r.1), r.2) := rfl
@[simp] theorem w_if : OkI (sIf t g h δ μ) (Q := QS) = OkI (t δ μ) (Q := ⟨λ r => ug r.1 (T := ⟨OkI (g δ r.2) (Q := QS), OkI (h δ r.2) (Q := QS)⟩)⟩) := by
 unfold sIf; rw [fL]; congr 2; funext r; unfold ug; split <;> simp [*]
def uI (h : SF) (QS : Post (Fl × En × Mu)) (r : Fl × En × Mu) : Prop := match r.1 with
 | .nx => OkI (h r.2.1 r.2.2) (Q := QS)
 | _ => QS.run r
@[simp] theorem Fb : OkI (aO g h δ μ) (Q := QS) = OkI (g δ μ) (Q := ⟨uI h QS⟩) := by
 unfold aO
 rw [fL]
 congr 2
 funext r
 obtain ⟨fl, δ', μ'⟩ := r
 cases fl <;> simp [uI]
@[simp] theorem vR {δ' : En} {μ' : Mu} : uI h QS (.nx, δ', μ') = OkI (h δ' μ') (Q := QS) := rfl
@[simp] theorem SX {d : D} {δ' : En} {μ' : Mu} : uI h QS (.rt d, δ', μ') = QS.run (.rt d, δ', μ') := rfl
@[simp] theorem Sd {δ' : En} {μ' : Mu} : uI h QS (.bk, δ', μ') = QS.run (.bk, δ', μ') := rfl
@[simp] theorem Tf {δ' : En} {μ' : Mu} : uI h QS (.ct, δ', μ') = QS.run (.ct, δ', μ') := rfl
@[simp] theorem w_asg {hh : GF} : xy f hh δ μ = (f δ μ).bind λ r => (hh r.1 δ r.2).bind λ δ' => some (.nx, δ', r.2) := rfl
@[simp] theorem w_par {i j : Nat} : yc i j fs δ μ = (fs δ μ).bind λ r => match r.1 with
 | [x, y] => some (.nx, (δ.set i (some x)).set j (some y), r.2)
 | _ => none := rfl
@[simp] theorem Gs {fi : IF} {hh : GF} : fZ fi hh g δ μ = (fi δ μ).bind λ r => forL r.1 hh g r.1.items δ r.2 := rfl
@[simp] theorem w_fz {lf : LF} : mFz lf δ μ = (lf δ μ).bind λ r => some (.lst r.1, r.2) := rfl
@[simp] theorem Qu {lf : LF} : jw lf δ μ = (lf δ μ).bind λ r => some (.cell r.2.length, r.2 ++ [some r.1]) := rfl
@[simp] theorem Tu : pU fs δ μ = (fs δ μ).bind λ r => if r.1.length <= sizeLine then some r else none := rfl
@[simp] theorem Nb {i : Nat} {d : D} : hName i d δ μ = some (δ.set i (some d)) := rfl
@[simp] theorem Qn {n : Nat} {hs : GsF} {ds : List D} : jX n hs (.tup ds) δ μ = if ds.length = n then hs ds δ μ else none := rfl
@[simp] theorem Oa : jU [] δ μ = some δ := rfl
@[simp] theorem Ia {hh : GF} {hs : GsF} {d : D} {ds : List D} : bY hh hs (d :: ds) δ μ = (hh d δ μ).bind λ δ1 => hs ds δ1 μ := rfl
@[simp] theorem Gn : dJ f δ μ = (f δ μ).bind λ r => (srcOf r.1 r.2).map λ S => (S, r.2) := rfl
@[simp] theorem Cj {ds : List D} : srcOf (.tup ds) μ = some ⟨ds, none⟩ := rfl
@[simp] theorem Sq {ds : List D} : srcOf (.lst ds) μ = some ⟨ds, none⟩ := rfl
@[simp] theorem Sv {fl fh : PF} : mSl f fl fh δ μ = (f δ μ).bind λ r => (fl δ r.2).bind λ l => (fh δ l.2).bind λ u => oSl r.1 l.1 u.1 u.2 := rfl
@[simp] theorem Rf {fl fh : PF} : lSl f fl fh δ μ = (f δ μ).bind λ r => (fl δ r.2).bind λ l => (fh δ l.2).bind λ u => match r.1 with
 | .lst ds => some (L3.cutD ds l.1 u.1, u.2)
 | .ro ds => some (L3.cutD ds l.1 u.1, u.2)
 | _ => none := rfl
@[simp] theorem PK {ds : List D} : sr (.lst ds) μ = some ds := rfl
@[simp] theorem w_fno : fNo δ μ = some (none, μ) := rfl
@[simp] theorem w_fat : fAt f δ μ = (f δ μ).bind λ r => match r.1 with
 | .int i => some (some i, r.2)
 | _ => none := rfl
@[simp] theorem KY {op : O1'} {x : D} : bj op [x] μ = op x μ := rfl
@[simp] theorem w_two {x y : D} : mj op [x, y] μ = op x y μ := rfl
variable {i j : Int} {ds es : List D} {k : Bool}
@[simp] theorem QC : bw (.int i) (.int j) μ = some (.int (i + j), μ) := rfl
@[simp] theorem Tr : bw (.tup ds) (.tup es) μ = if ds.length + es.length <= sizeLine then some (.tup (ds ++ es), μ) else none := rfl
@[simp] theorem TQ : bw (.lst ds) (.lst es) μ = if ds.length + es.length <= sizeLine then some (.lst (ds ++ es), μ) else none := rfl
@[simp] theorem a_sub : cu (.int i) (.int j) μ = some (.int (i - j), μ) := rfl
theorem Rr (h : mL i j <= 134217728) : bC (.int i) (.int j) μ = some (.int (i * j), μ) := if_pos h
@[simp] theorem a_mod (h : j ≠ 0) : oMod (.int i) (.int j) μ = some (.int (i.fmod j), μ) := if_pos h
theorem lE (h : j ≠ 0) (h2 : j.natAbs.log2 < 9000) : oDiv (.int i) (.int j) μ = some (.int (i.fdiv j), μ) := if_pos ⟨h, h2⟩
@[simp] theorem a_lt : oLt (.int i) (.int j) μ = some (.bl (decide (i < j)), μ) := rfl
@[simp] theorem a_gt : oGt (.int i) (.int j) μ = some (.bl (decide (j < i)), μ) := rfl
@[simp] theorem a_ge : oGe (.int i) (.int j) μ = some (.bl (decide (j <= i)), μ) := rfl
@[simp] theorem a_neg : dG (.int i) μ = some (.int (-i), μ) := rfl
@[simp] theorem a_abs : qP (.int i) μ = some (.int (i.natAbs), μ) := by
 show some (D.int (if i < 0 then -i else i), μ) = _
 congr 3
 split <;> omega
@[simp] theorem KQ : nq (.int i) (.int j) μ = some (.int (min i j), μ) := by
 show some (D.int (if j < i then j else i), μ) = _
 congr 3
 split <;> omega
@[simp] theorem a_eq : oEq (.int i) (.int j) μ = some (.bl (i == j), μ) := by unfold oEq rsv; simp [cD, gC, eqD]
@[simp] theorem a_ne : oNe (.int i) (.int j) μ = some (.bl (!(i == j)), μ) := by unfold oNe rsv; simp [cD, gC, eqD]
@[simp] theorem a_neE : Bd (.lst ds) (.lst []) μ = some (.bl (!ds.isEmpty), μ) := rfl
@[simp] theorem a_eqB {k l : Bool} : oEq (.bl k) (.bl l) μ = some (.bl (k == l), μ) := by unfold oEq rsv; simp [cD, gC, eqD]
@[simp] theorem a_neB {k l : Bool} : oNe (.bl k) (.bl l) μ = some (.bl (!(k == l)), μ) := by unfold oNe rsv; simp [cD, gC, eqD]
@[simp] theorem a_tup : oTup ds μ = if ds.length <= sizeLine then some (.tup ds, μ) else none := rfl
@[simp] theorem KR : oLst ds μ = if ds.length <= sizeLine then some (.lst ds, μ) else none := rfl
@[simp] theorem um {d : D} : oIx d (.int i) μ = (bL d μ).bind λ ds => (atI ds i).map λ d => (d, μ) := rfl
@[simp] theorem Lq : bL (.tup ds) μ = some ds := rfl
@[simp] theorem i_lst : bL (.lst ds) μ = some ds := rfl
@[simp] theorem i_ro : bL (.ro ds) μ = some ds := rfl
@[simp] theorem TV : cg (.tup ds) μ = some (.int ds.length, μ) := rfl
@[simp] theorem pR : cg (.lst ds) μ = some (.int ds.length, μ) := rfl
@[simp] theorem TY : cg (.ro ds) μ = some (.int ds.length, μ) := rfl
@[simp] theorem Te {d : D} : cW [d] μ = (bL d μ).map λ ds => (.tup ds, μ) := rfl
@[simp] theorem w_lOf : lOf fs δ μ = (fs δ μ).bind λ r => match r.1 with
 | [x] => (bL x r.2).map λ ds => (ds, r.2)
 | _ => none := rfl
@[simp] theorem Rw {own : List Str} {capI : List Nat} {f fe : EF} : sY own capI f fe δ μ = (f δ μ).bind λ r => (sr r.1 r.2).bind λ ds => if ds.length < 64 then (oM (ds.map (thG (hName 0) fe (dD own δ capI))) r.2).map λ q => (mF q.1 ds, q.2) else none := rfl
@[simp] theorem Sx : yE fs δ μ = (fs δ μ).bind λ r => match r.1 with
 | [x] => (sr x r.2).bind λ ds => (uN ds).map λ es => (es, r.2)
 | _ => none := rfl
@[simp] theorem t_bl : yj (.bl k) μ = some k := rfl
@[simp] theorem t_int : yj (.int i) μ = some (i != 0) := rfl
@[simp] theorem t_tup : yj (.tup ds) μ = some !ds.isEmpty := rfl
@[simp] theorem t_lst : yj (.lst ds) μ = some !ds.isEmpty := rfl
@[simp] theorem t_non : yj .non μ = some false := rfl
@[simp] theorem Ss {T : String} : jt T (.int i) μ = some (.bl (T == "int"), μ) := rfl
@[simp] theorem Tv {T : String} : jt T (.bl k) μ = some (.bl (T == "bool" || T == "int"), μ) := rfl
@[simp] theorem RX {T : String} : jt T (.tup ds) μ = some (.bl (T == "tuple"), μ) := rfl
@[simp] theorem SQ {T : String} : jt T (.lst ds) μ = some (.bl (T == "list"), μ) := rfl
@[simp] theorem Su {T : String} {x : Str} : jt T (.str x) μ = some (.bl (T == "str"), μ) := rfl
@[simp] theorem Th {T : String} : jt T .non μ = some (.bl false, μ) := rfl
@[simp] theorem SM {T : String} {x} : jt T (.dic x) μ = some (.bl (T == "dict"), μ) := rfl
@[simp] theorem Oi : bQ fs δ μ = (fs δ μ).bind Lg := rfl
@[simp] theorem RV : By fs δ μ = (fs δ μ).bind Ge := rfl
@[simp] theorem w_zip : yL fs δ μ = (fs δ μ).bind RB := rfl
@[simp] theorem w_lc {own : List Str} {capI : List Nat} {fi : IF} {hh : GF} : lLC own capI fi hh t f δ μ = (fi δ μ).bind λ r => if r.1.items.length <= sizeLine then lcL r.1 hh t f (dD own δ capI) r.1.items r.2 else none := rfl
@[simp] theorem w_all {st : StF} : FT st δ μ = (st δ μ).bind λ r => (yt r.1 r.2).bind λ q => some (.bl q.1, q.2) := rfl
@[simp] theorem w_any {st : StF} : Ag st δ μ = (st δ μ).bind λ r => (pZ r.1 r.2).bind λ q => some (.bl q.1, q.2) := rfl
@[simp] theorem TJ {st : StF} : Ew st δ μ = (st δ μ).bind λ r => if r.1.length <= sizeLine then (Df r.1 r.2).bind λ q => some (.tup q.1, q.2) else none := rfl
@[simp] theorem w_sum {st : StF} : DK st δ μ = (st δ μ).bind λ r => (qR 0 r.1 r.2).bind λ q => some (.int q.1, q.2) := rfl
@[simp] theorem w_gen {own : List Str} {capI : List Nat} {fi : IF} {hh : GF} : qJ own capI fi hh f δ μ = (fi δ μ).bind λ r => Ru (thG hh f (dD own δ capI)) r := rfl
@[simp] theorem Tp : oR f δ μ = (f δ μ).bind Gm := rfl
@[simp] theorem w_rev : Qp f δ μ = (f δ μ).bind λ r => Ii r.1 r.2 := rfl
@[simp] theorem TX : Ii (.tup ds) μ = some (.tup ds.reverse, μ) := rfl
@[simp] theorem Ua : Ii (.lst ds) μ = some (.lst ds.reverse, μ) := rfl
@[simp] theorem w_put {fo fi : EF} : rY f fo fi δ μ = (f δ μ).bind λ r => (fo δ r.2).bind λ o => (fi δ o.2).bind λ i => (yF r.1 o.1 i.1 i.2).map λ μ' => (.nx, δ, μ') := rfl
@[simp] theorem w_frz : mW f δ μ = (f δ μ).bind Qy := rfl
end
theorem KZ {items : List D} {μ : Mu} : Src.ok ⟨items, none⟩ μ := λ n e => by cases e
def yg (I : En -> Mu -> Prop) (QS : Post (Fl × En × Mu)) (r : Fl × En × Mu) : Prop := match r.1 with
 | .nx => I r.2.1 r.2.2
 | .ct => I r.2.1 r.2.2
 | .bk => QS.run (.nx, r.2)
 | .rt d => QS.run (.rt d, r.2)
section
variable {I : En -> Mu -> Prop} {QS : Post (Fl × En × Mu)} {δ : En} {μ : Mu}
@[simp] theorem Jp : yg I QS (.nx, δ, μ) = I δ μ := rfl
@[simp] theorem RT : yg I QS (.ct, δ, μ) = I δ μ := rfl
@[simp] theorem SN : yg I QS (.bk, δ, μ) = QS.run (.nx, δ, μ) := rfl
@[simp] theorem SJ {d : D} : yg I QS (.rt d, δ, μ) = QS.run (.rt d, δ, μ) := rfl
end
theorem gm {all : List D} {h : GF} {b : SF} {QS : Post (Fl × En × Mu)} (I : List D -> En -> Mu -> Prop)
  (turn : ∀ d r δ μ, I (d :: r) δ μ -> OkI (h d δ μ) (Q := ⟨λ δ1 => OkI (b δ1 μ) (Q := ⟨yg (I r) QS⟩)⟩)) (fin : ∀ δ μ, I [] δ μ -> QS.run (.nx, δ, μ)) :
  ∀ (its : List D) (δ : En) (μ : Mu), I its δ μ -> OkI (forL ⟨all, none⟩ h b its δ μ) (Q := QS)
 | [], δ, μ, hI => by unfold forL; rw [if_pos KZ, rA]; exact fin δ μ hI
 | d :: r, δ, μ, hI => by
  unfold forL
  rw [if_pos KZ, fL]
  refine (turn d r δ μ hI).mono λ δ1 h1 => ?_
  rw [rZ] at h1 ⊢
  rw [fL]
  refine h1.mono λ q h2 => ?_
  rw [rZ] at h2 ⊢
  obtain ⟨fl, δ', μ'⟩ := q
  cases fl with
  | nx => exact gm (all := all) I turn fin r δ' μ' h2
  | ct => exact gm (all := all) I turn fin r δ' μ' h2
  | bk => exact ⟨_, rfl, h2⟩
  | rt d => exact ⟨_, rfl, h2⟩
def retS (R : Post (D × Mu)) (r : Fl × En × Mu) : Prop := match r.1 with
 | .rt d => R.run (d, r.2.2)
 | .nx => R.run (.non, r.2.2)
 | _ => False
@[simp] theorem Tn {R : Post (D × Mu)} {d : D} {δ : En} {μ : Mu} : retS R (.rt d, δ, μ) = R.run (d, μ) := rfl
@[simp] theorem Tq {R : Post (D × Mu)} {δ : En} {μ : Mu} : retS R (.nx, δ, μ) = R.run (.non, μ) := rfl
theorem eF {m : Nat} {g : SF} {ds : List D} {μ : Mu} {R : Post (D × Mu)} (h : OkI (g (ds.map some ++ List.replicate (m - ds.length) none) μ) (Q := ⟨retS R⟩)) : OkI (aK m g ds μ) (Q := R) := by
 unfold aK
 rw [fL]
 refine h.mono λ r hr => ?_
 obtain ⟨fl, δ, μ'⟩ := r
 cases fl with
 | rt d => exact ⟨_, rfl, hr⟩
 | nx => exact ⟨_, rfl, hr⟩
 | bk => exact hr.elim
 | ct => exact hr.elim
theorem GR {φ : FF} {ds : List D} {μ : Mu} {R : Post (D × Mu)} (h : OkI (φ ds μ) (Q := ⟨λ r => r.2.length = μ.length /\ R.run r⟩)) : OkI (trunc φ ds μ) (Q := R) := by
 obtain ⟨⟨d, μ'⟩, e, hl, hr⟩ := h
 exact ⟨_, fM e hl, hr⟩
end L3
namespace LG
open PySem PySem.Spec PyProof.Rows L2 L3
theorem sX {α : Type} {o : Option α} {x : α} (h : Ok o (λ r => r = x)) : o = some x := by
 obtain ⟨r, e, h⟩ := h
 have h : r = x := h
 rw [e, h]
theorem cF {m : Nat} {g : SF} {ds : List D} {μ : Mu} {d : D} (h : OkI (g (ds.map some ++ List.replicate (m - ds.length) none) μ) (Q := ⟨retS ⟨λ r => r = (d, μ)⟩⟩)) : trunc (aK m g) ds μ = some (d, μ) :=
 kJ (sX (eF h))
@[simp] theorem sz {n : Nat} (h : n <= 1000) : (n <= sizeLine) = True := eq_true (Nat.le_trans h (by decide))
abbrev nc (d : D) : Prop := cLt 0 d = true
theorem qZ : ∀ {ds : List D}, lX 0 ds = true ↔ ∀ d ∈ ds, nc d
 | [] => by unfold lX; simp
 | d :: ds => by unfold lX; simp [qZ (ds := ds)]
theorem gq {ds : List D} : nc (.tup ds) ↔ ∀ d ∈ ds, nc d := by
 have e : cLt 0 (.tup ds) = lX 0 ds := by rw [cLt]
 unfold nc
 rw [e]
 exact qZ
theorem zX {ds : List D} : nc (.lst ds) ↔ ∀ d ∈ ds, nc d := by
 have e : cLt 0 (.lst ds) = lX 0 ds := by rw [cLt]
 unfold nc
 rw [e]
 exact qZ
theorem nZ {i : Int} : nc (.int i) := by unfold nc cLt; rfl
theorem iZ {ns : List Int} : ∀ d ∈ ns.map D.int, nc d := λ d h => by
 obtain ⟨n, _, rfl⟩ := List.mem_map.mp h
 exact nZ
def isInt : D -> Bool
 | .int _ => true
 | _ => false
def intOf : D -> Int
 | .int i => i
 | _ => 0
@[simp] theorem PN {i : Int} : isInt (.int i) = true := rfl
@[simp] theorem vp {i : Int} : intOf (.int i) = i := rfl
theorem ints_of : ∀ {ds : List D}, ds.all isInt = true -> ds = (ds.map intOf).map D.int
 | [], _ => rfl
 | d :: ds, h => by
  rw [List.all_cons, Bool.and_eq_true] at h
  cases d with
  | int i => rw [List.map_cons, List.map_cons, <- ints_of h.2]; rfl
  | _ => exact absurd h.1 (by simp [isInt])
theorem ints_map (ns : List Int) : (ns.map D.int).map intOf = ns := by simp [Function.comp_def]
theorem GX (ns : List Int) : (ns.map D.int).all isInt = true := by simp
theorem HS (d : D) (μ : Mu) (h : nc d) : trunc (aK 1 dX) [d] μ = some (.bl (isInt d), μ) := by
 apply cF
 cases d with
 | cell n => simp [nc, cLt] at h
 | ro ds => simp [dX, isInt, jt, CG]
 | _ => simp [dX, isInt]
theorem Gx (d : D) (μ : Mu) (h : nc d) : trunc (aK 1 lO) [d] μ = some (.bl (isInt d), μ) := HS d μ h
theorem rW {th : D -> eN} {p : D -> Bool} {μ : Mu} : ∀ (ds : List D), (∀ d ∈ ds, th d μ = some (.bl (p d), μ)) -> yt (ds.map th) μ = some (ds.all p, μ)
 | [], _ => rfl
 | d :: ds, h => by
  rw [List.map_cons]
  unfold yt
  rw [h d (by simp)]
  have ih := rW ds λ x hx => h x (by simp [hx])
  cases hp : p d <;> simp [hp, yJ, ih]
theorem oU {th : D -> eN} {p : D -> Bool} {μ : Mu} : ∀ (ds : List D), (∀ d ∈ ds, th d μ = some (.bl (p d), μ)) -> pZ (ds.map th) μ = some (ds.any p, μ)
 | [], _ => rfl
 | d :: ds, h => by
  rw [List.map_cons]
  unfold pZ
  rw [h d (by simp)]
  have ih := oU ds λ x hx => h x (by simp [hx])
  cases hp : p d <;> simp [hp, yJ, ih]
def uG : D -> Bool
 | .tup ds => ds.all isInt
 | _ => false
def yh (φ : FF) : Prop := ∀ d μ, nc d -> φ [d] μ = some (.bl (isInt d), μ)
theorem zU {φ : FF} (hφ : yh φ) (d : D) (μ : Mu) (h : nc d) : trunc (aK 1 (dm φ)) [d] μ = some (.bl (uG d), μ) := by
 apply cF
 cases d with
 | cell n => simp [nc, cLt] at h
 | ro ds => simp [dm, uG, jt, CG]
 | tup ds =>
  have e := rW (th := thG (hName 0) (MC (aa (aq 0) aB) φ) (dD ["part"] [some (D.tup ds)] [])) (p := isInt) (μ := μ) ds λ x hx => by
   simp [thG, dD, hφ x μ (gq.mp h x hx)]
  simp [dm, uG, e]
 | _ => simp [dm, uG]
theorem tZ {ds : List D} (h : ds ≠ []) : atI ds (-1) = some (ds.getLast h) := by
 have hl : 0 < ds.length := List.length_pos_iff.mpr h
 unfold atI ixN
 rw [if_neg (by omega), if_pos (by omega)]
 have : ((-1 : Int) + ds.length).toNat = ds.length - 1 := by omega
 simp only [Option.bind_some, this]
 rw [List.getLast_eq_getElem]
 simp [hl]
theorem qp {ns : List Int} (h : ns ≠ []) : atI (ns.map D.int) (-1) = some (.int (ns.getLastD 0)) := by
 rw [tZ (by simpa using h)]
 simp [List.getLastD_eq_getLast?, List.getLast?_eq_some_getLast h]
def Ed (φ : FF) : Prop := ∀ d μ, nc d -> φ [d] μ = some (.bl (uG d), μ)
theorem Iu (k l : Bool) (μ : Mu) : trunc (aK 2 mR) [.bl k, .bl l] μ = some (.bl (k == l), μ) := by
 apply cF
 simp [mR]
theorem Bg {n d : Nat} {i : Int} (h : 0 <= i) : HT.sIx n d (some i) = min i.toNat n := if_neg (by omega)
theorem JS {ds : List D} {i : Int} {μ : Mu} (h0 : 0 < i) (h1 : i <= ds.length) : oSl (.tup ds) (some i) none μ = some (.tup (ds.drop i.toNat), μ) := by
 have h0' : 0 <= i := by omega
 have e : HT.sIx ds.length 0 (some i) = i.toNat := by rw [Bg h0']; omega
 have e0 : HT.sIx ds.length ds.length none = ds.length := rfl
 unfold oSl L3.cutD
 simp only [e, e0]
 simp [List.take_of_length_le]
theorem vL {ds : List D} {μ : Mu} (h : ds ≠ []) : oSl (.tup ds) none (some (-1)) μ = some (.tup ds.dropLast, μ) := by
 have hl : 0 < ds.length := List.length_pos_iff.mpr h
 have e : HT.sIx ds.length ds.length (some (-1)) = ds.length - 1 := by show (if (-1 : Int) < 0 then ((-1 : Int) + ds.length).toNat else min (-1 : Int).toNat ds.length) = _; rw [if_pos (by decide)]; omega
 have e0 : HT.sIx ds.length 0 none = 0 := rfl
 unfold oSl L3.cutD
 simp only [e, e0]
 simp [List.dropLast_eq_take]
theorem Ni {ds : List D} {i : Int} {μ : Mu} (h0 : 0 <= i) : oSl (.lst ds) none (some i) μ = some (.lst (ds.take i.toNat), μ) := by
 have h0' : 0 <= i := by omega
 have e : HT.sIx ds.length ds.length (some i) = min i.toNat ds.length := by rw [Bg h0']
 have e0 : HT.sIx ds.length 0 none = 0 := rfl
 unfold oSl L3.cutD
 simp only [e, e0]
 simp [List.take_eq_take_iff]
def muD (L : List Int) : Mu := [some (L.map .int)]
def DlD (L : List Int) : Prop := ∀ x ∈ L, Dr x
theorem jT {a : Nat} {x y : Int} (hx : Sm a x) (hy : 0 < y) : Sm a (x.fdiv y) := by
 rw [Int.fdiv_eq_ediv_of_nonneg x (by omega)]
 unfold Sm at *
 have := Int.natAbs_ediv_le_natAbs x y
 omega
theorem fQ {a : Int} {n : Nat} : (cT a n).length = n := by unfold cT; simp
theorem Hx {φ : FF} (h : wU φ) (ns : List Int) (hn : ns.length <= 63) : ∃ L, φ [.ro (ns.map .int)] [] = some (.cell 0, muD L) /\ DlD L := h ns hn
theorem Ir {φ : FF} {ns : List Int} (h : Ok (φ [.ro (ns.map .int)] []) (λ r => r.1 = .bl true)) : ∃ μ', φ [.ro (ns.map .int)] [] = some (.bl true, μ') := by
 obtain ⟨⟨d, μ'⟩, e, h⟩ := h
 have h : d = .bl true := h
 subst h
 exact ⟨μ', e⟩
theorem Oc {φ : FF} (h : nj φ) {b : Nat} (ns : List Int) (c : Int) (μ : Mu) (hc : 0 < c) (hs : Sm b c) (hb : b <= 4000) (hn : ∀ n ∈ ns, Sm b n) (hl : ns.length <= 50) (hne : ns ≠ []) :
  ∃ ms, φ [.lst (ns.map .int), .int c] μ = some (.tup (ms.map .int), μ) /\ ms.length = ns.length + 1 /\ (∀ m ∈ ms, Sm b m) /\ ms = (ns ++ [c]).map λ n => n.fdiv (bK c.natAbs ns : Nat) := by
 have e := h ns c μ (by omega) (bc hs hb) hl hne
 have e1 : sgn c = 1 := if_pos hc
 rw [e1, Int.one_mul] at e
 have g0 : bK c.natAbs ns ≠ 0 := jP (.inl (by omega))
 refine ⟨(ns ++ [c]).map λ n => n.fdiv (bK c.natAbs ns : Nat), by rw [e, List.map_map]; rfl, by simp, λ m hm => ?_, rfl⟩
 obtain ⟨n, hn', rfl⟩ := List.mem_map.mp hm
 refine jT ?_ (by omega)
 rcases List.mem_append.mp hn' with z | z
 .exact hn n z
 .rw [List.mem_singleton.mp z]; exact hs
@[simp] theorem Qs {α : Type} {l : List α} {x y : α} : (l ++ [x]).set l.length y = l ++ [y] := by simp [List.set_append]
mutual
theorem tM {m : Nat} : ∀ {d : D}, cLt 0 d = true -> cLt m d = true
 | .non, _ => by simp [cLt]
 | .bl _, _ => by simp [cLt]
 | .int _, _ => by simp [cLt]
 | .str _, _ => by simp [cLt]
 | .tup ds, h => by rw [cLt] at h ⊢; exact jV h
 | .lst ds, h => by rw [cLt] at h ⊢; exact jV h
 | .ro ds, h => by rw [cLt] at h ⊢; exact jV h
 | .dic ds, h => by rw [cLt] at h ⊢; exact uQ h
 | .cell n, h => by rw [cLt] at h; simp at h
theorem jV {m : Nat} : ∀ {ds : List D}, lX 0 ds = true -> lX m ds = true
 | [], _ => by rw [lX]
 | d :: ds, h => by
  rw [lX, Bool.and_eq_true] at h ⊢
  exact ⟨tM h.1, jV h.2⟩
theorem uQ {m : Nat} : ∀ {ds : List (Key × D)}, xm 0 ds = true -> xm m ds = true
 | [], _ => by rw [xm]
 | d :: ds, h => by
  rw [xm, Bool.and_eq_true] at h ⊢
  exact ⟨tM h.1, uQ h.2⟩
end
def iu (μ : Mu) : Prop := ∀ ds, some ds ∈ μ -> ∀ d ∈ ds, nc d
theorem iu.c {μ : Mu} (h : iu μ) (m : Nat) : cOk m μ = true := by
 unfold cOk
 rw [List.all_eq_true]
 intro o ho
 cases o with
 | none => rfl
 | some ds => exact jV (qZ.mpr (h ds ho))
theorem iu.nil : iu [] := λ ds h => by simp at h
theorem iu.cons {ds : List D} {μ : Mu} (h1 : ∀ d ∈ ds, nc d) (h2 : iu μ) : iu (some ds :: μ) := λ es h => by
 rcases List.mem_cons.mp h with z | z
 .cases z; exact h1
 .exact h2 es z
theorem iu.dr {L : List Int} {μ : Mu} (h : iu μ) : iu (some (L.map .int) :: μ) := iu.cons iZ h
theorem sG {φ : FF} {ds : List D} {μ μ' junk : Mu} {d : D} (h : φ ds μ = some (d, μ' ++ junk)) (hl : μ'.length = μ.length) (hd : nc d) (hm : iu μ') : trunc φ ds μ = some (d, μ') := by
 unfold trunc
 rw [h]
 simp only [Option.bind_some]
 have e : (μ' ++ junk).take μ.length = μ' := by rw [<- hl]; simp
 rw [e, tM hd, hm.c]
 rfl
theorem Ci {φ : FF} {ds : List D} {μ : Mu} {P : D -> Prop} (hm : iu μ) (h : Ok (φ ds μ) (λ r => ∃ junk, r.2 = μ ++ junk /\ nc r.1 /\ P r.1)) : ∃ d, trunc φ ds μ = some (d, μ) /\ P d := by
 obtain ⟨⟨d, μ1⟩, e, junk, h1, h4, h5⟩ := h
 have h1 : μ1 = μ ++ junk := h1
 subst h1
 exact ⟨d, sG e rfl h4 hm, h5⟩
def fP (φ : FF) : Prop := ∀ (L : List Int) (rest : Mu), φ [.cell 0] (some (L.map .int) :: rest) = some (.int (L.headD 0), some (L.tail.map .int) :: rest)
theorem Ga : fP (trunc (aK 1 eU)) := λ L rest => by
 have h1 : oEq (.cell 0) (.lst []) (some (L.map D.int) :: rest) = some (.bl L.isEmpty, some (L.map D.int) :: rest) := by
  unfold oEq rsv
  simp [cD, jN, gC, lU, eqD, cV]
  cases L <;> simp [iK]
 refine fM ?_ (by simp)
 unfold aK eU
 have hz : 0 <= sizeLine := Nat.zero_le _
 cases L with
 | nil =>
  simp at h1
  simp [aO, sIf, toB, M2, aq, MC, aB, oLst, hz, h1, bA, mC]
 | cons x t =>
  simp at h1
  simp [aO, sIf, toB, M2, aq, MC, aB, oLst, hz, h1, bA, mC, bU, Ck]
theorem dj {φ : FF} (h : fP φ) {L : List Int} (hL : DlD L) (rest : Mu) : ∃ x L', φ [.cell 0] (some (L.map .int) :: rest) = some (.int x, some (L'.map .int) :: rest) /\ Dr x /\ DlD L' := by
 refine ⟨L.headD 0, L.tail, h L rest, ?_, λ x hx => hL x (List.mem_of_mem_tail hx)⟩
 cases L with
 | nil => exact ⟨by decide, by decide⟩
 | cons a b => exact hL a (by simp)
def PtL (d : Nat) (ns : List Int) (b : Int) : Prop := ns.length = d /\ (∀ n ∈ ns, n.natAbs <= 10000) /\ 1 <= b /\ b <= 60
def mU (d : Nat) (p : D) : Prop := ∃ ns b, p = .tup ((ns ++ [b]).map .int) /\ PtL d ns b /\ bK b.natAbs ns = 1
theorem mU.nc {d : Nat} {p : D} (h : mU d p) : nc p := by
 obtain ⟨ns, b, rfl, _⟩ := h
 exact gq.mpr iZ
theorem jz {x y : Int} (hy : 0 < y) : (x.fdiv y).natAbs <= x.natAbs := by
 rw [Int.fdiv_eq_ediv_of_nonneg x (by omega)]
 exact Int.natAbs_ediv_le_natAbs x y
theorem Jb {ns : List Int} {b : Int} (hb : 0 < b) : bK (b.fdiv (bK b.natAbs ns : Nat)).natAbs (ns.map λ n => n.fdiv (bK b.natAbs ns : Nat)) = 1 := by
 have h := (jk ns b.natAbs _).mp (Nat.dvd_refl _)
 have g0 : bK b.natAbs ns ≠ 0 := jP (.inl (by omega))
 obtain ⟨g, hg⟩ : ∃ g, bK b.natAbs ns = g := ⟨_, rfl⟩
 rw [hg] at h g0 ⊢
 have hm : ∀ n : Int, g ∣ n.natAbs -> (g : Int) * n.fdiv (g : Nat) = n := λ n hn => by
  rw [Int.fdiv_eq_ediv_of_nonneg n (by omega)]
  exact Int.mul_ediv_cancel' (Int.ofNat_dvd_left.mpr hn)
 have hs := tL (g : Int) (ns.map λ n => n.fdiv (g : Nat)) (b.fdiv (g : Nat)).natAbs
 have e1 : ((g : Int)).natAbs * (b.fdiv (g : Nat)).natAbs = b.natAbs := by rw [<- Int.natAbs_mul, hm b h.1]
 have e2 : (ns.map λ n => n.fdiv (g : Nat)).map ((g : Int) * ·) = ns := by
  rw [List.map_map]
  conv => rhs; rw [<- List.map_id ns]
  apply List.map_congr_left
  intro n hn
  exact hm n (h.2 n hn)
 rw [e1, e2, hg, Int.natAbs_natCast] at hs
 exact Nat.eq_of_mul_eq_mul_left (show 0 < g by omega) (by rw [Nat.mul_one]; exact hs.symm)
theorem rO {φ : FF} (h : nj φ) {d : Nat} {ns : List Int} {b : Int} (μ : Mu) (hd : 1 <= d) (hd3 : d <= 3) (hp : PtL d ns b) : ∃ p, φ [.lst (ns.map .int), .int b] μ = some (p, μ) /\ mU d p := by
 obtain ⟨hl, hn, b0, b1⟩ := hp
 have e := h ns b μ (by omega) (by unfold Sm; have : (2 : Nat) ^ 4000 >= 2 ^ 7 := Nat.pow_le_pow_right (by decide) (by decide); omega) (by omega) (λ z => by rw [z] at hl; simp at hl; omega)
 have e1 : sgn b = 1 := if_pos (by omega)
 rw [e1, Int.one_mul] at e
 have g0 : bK b.natAbs ns ≠ 0 := jP (.inl (by omega))
 have gd := (lQ ns b.natAbs).2
 have gle := Nat.le_of_dvd (by omega) gd
 refine ⟨_, e, ns.map (λ n => n.fdiv (bK b.natAbs ns : Nat)), b.fdiv (bK b.natAbs ns : Nat), by simp [List.map_append], ⟨by simp [hl], λ m hm => ?_, ?_, ?_⟩, Jb (by omega)⟩
 .obtain ⟨n, hn', rfl⟩ := List.mem_map.mp hm
  have := jz (x := n) (y := (bK b.natAbs ns : Nat)) (by omega)
  have := hn n hn'
  omega
 .rw [Int.fdiv_eq_ediv_of_nonneg b (by omega)]
  exact (Int.le_ediv_iff_mul_le (by omega)).mpr (by omega)
 .have := jz (x := b) (y := (bK b.natAbs ns : Nat)) (by omega)
  omega
def isPlace (φ : FF) : Prop := ∀ (x k b : Int) (μ : Mu), Dr x -> 0 <= k -> k <= 4 -> 0 <= b -> b <= 500 -> ∃ t u : Int, φ [.int x, .int k, .int b] μ = some (.tup [.int t, .int u], μ) /\ t.natAbs <= 10000 /\ 1 <= u /\ u <= 60
theorem Eh : isPlace (trunc (aK 3 gf)) := λ x k b μ hx k0 k4 b0 b5 => by
 have q1 := aW (x := x) (m := 20001) (by decide)
 have q2 := aW (x := x.fdiv 20001) (m := 60) (by decide)
 have q3 := aW (x := x) (m := 5) (by decide)
 have q4 := aW (x := x) (m := 11) (by decide)
 have q5 := aW (x := x.fdiv 11) (m := 3) (by decide)
 have q6 := aW (x := x) (m := 4) (by decide)
 have q7 := aW (x := x) (m := 2) (by decide)
 have q8 := aW (x := b) (m := 7) (by decide)
 have d1 := lE (i := x) (j := 20001) (μ := μ) (by decide) (by decide)
 have d2 := lE (i := x) (j := 11) (μ := μ) (by decide) (by decide)
 have hk : k = 0 ∨ k = 1 ∨ k = 2 ∨ k = 3 ∨ k = 4 := by omega
 rcases hk with rfl | rfl | rfl | rfl | rfl
 .refine ⟨x.fmod 20001 - 10000, 1 + (x.fdiv 20001).fmod 60, cF ?_, by omega, by omega, by omega⟩
  simp [gf, d1]
 .refine ⟨x.fmod 5 - 2, 1, cF ?_, by omega, by omega, by omega⟩
  simp [gf]
 .refine ⟨x.fmod 11 - 5, 1 + (x.fdiv 11).fmod 3, cF ?_, by omega, by omega, by omega⟩
  simp [gf, d2]
 .obtain ⟨y, hy, e⟩ := jy (ds := [D.int 0, .int 0, .int 1, .int 40]) q6.1 q6.2
  have hy : ∃ z : Int, y = .int z /\ 0 <= z /\ z <= 40 := by
   simp only [List.mem_cons, List.not_mem_nil, or_false] at hy
   rcases hy with rfl | rfl | rfl | rfl <;> exact ⟨_, rfl, by decide, by decide⟩
  obtain ⟨z, rfl, z0, z1⟩ := hy
  refine ⟨b + z, 1, cF ?_, by omega, by omega, by omega⟩
  simp [gf, e]
 .have s1 : Sm 10 (x.fmod 2) := by
   unfold Sm
   have : (2 : Nat) ^ 10 = 1024 := by decide
   omega
  have s2 : Sm 10 (1 + b.fmod 7) := by
   unfold Sm
   have : (2 : Nat) ^ 10 = 1024 := by decide
   omega
  have m := Rr (μ := μ) (Ho s1 s2 (by decide))
  have hb : (x.fmod 2 * (1 + b.fmod 7)).natAbs <= 10000 := by
   have h2 : x.fmod 2 = 0 ∨ x.fmod 2 = 1 := by omega
   rcases h2 with h2 | h2 <;> rw [h2] <;> omega
  refine ⟨x.fmod 2 * (1 + b.fmod 7), 1, cF ?_, hb, by omega, by omega⟩
  simp [gf, m]
theorem mJ {a : Int} {n : Nat} {d : D} (h : d ∈ cT a n) : ∃ k : Int, d = .int k /\ a <= k /\ k < a + n := by
 unfold cT at h
 obtain ⟨k, hk, rfl⟩ := List.mem_map.mp h
 have := List.mem_range.mp hk
 exact ⟨_, rfl, by omega, by omega⟩
def mG (φ : FF) : Prop := ∀ (x d k b : Int) (μ : Mu), iu μ -> Dr x -> 1 <= d -> d <= 3 -> 0 <= k -> k <= 4 -> 0 <= b -> b <= 400 -> ∃ p, φ [.int x, .int d, .int k, .int b] μ = some (p, μ) /\ mU d.toNat p
theorem Hr {φ1 φ2 φ3 : FF} (h1 : lB φ1) (h2 : isPlace φ2) (h3 : nj φ3) : mG (trunc (aK 9 (iT φ1 φ2 φ3))) := λ x d k b μ hm hx d1 d3 k0 k4 b0 b4 => by
 apply Ci hm
 apply eF
 unfold iT
 simp [uv (j := d) (by omega) (by omega)]
 refine gm (λ its δ μ' => ∃ (acc : List Int) (bot : Int) (o6 o7 o8 : Option D), μ' = μ ++ [some (acc.map .int)] /\ acc.length + its.length = d.toNat /\ (∀ n ∈ acc, n.natAbs <= 10000) /\ (1 <= bot /\ bot <= 60) /\ (∀ i ∈ its, ∃ k : Int, i = .int k /\ 0 <= k /\ k < 3) /\
  δ = [some (.int x), some (.int d), some (.int k), some (.int b), some (.cell μ.length), some (.int bot), o6, o7, o8]) ?_ ?_ _ _ _ ⟨[], 1, none, none, none, rfl, by simp [fQ], by simp, by omega, λ i hi => by
   obtain ⟨k, rfl, h0, h1⟩ := mJ hi
   exact ⟨k, rfl, by omega, by omega⟩, rfl⟩
 .rintro i rest δ μ' ⟨acc, bot, o6, o7, o8, rfl, hl, ha, hb, hi, rfl⟩
  obtain ⟨j, rfl, j0, j1⟩ := hi i (by simp)
  obtain ⟨y, ey, hy⟩ := h1 x (j + 1) (μ ++ [some (acc.map .int)]) (by omega) (by omega)
  obtain ⟨t, u, et, ht, u0, u1⟩ := h2 y k (b + j) (μ ++ [some (acc.map .int)]) hy k0 k4 (by omega) (by omega)
  have hz : acc.length < sizeLine := Nat.lt_of_lt_of_le (by omega : acc.length < 1000) (by decide)
  have fin : ∀ bot', 1 <= bot' -> bot' <= 60 -> ∃ (acc' : List Int) (bot : Int) (o6 o7 o8 : Option D), μ ++ [some (acc.map D.int ++ [.int t])] = μ ++ [some (acc'.map .int)] /\ acc'.length + rest.length = d.toNat /\ (∀ n ∈ acc', n.natAbs <= 10000) /\ (1 <= bot /\ bot <= 60) /\ (∀ i ∈ rest, ∃ k : Int, i = .int k /\ 0 <= k /\ k < 3) /\
    ([some (.int x), some (.int d), some (.int k), some (.int b), some (.cell μ.length), some (.int bot'), some (.int j), some (.int t), some (.int u)] : En) = [some (.int x), some (.int d), some (.int k), some (.int b), some (.cell μ.length), some (.int bot), o6, o7, o8] := λ bot' q1 q2 =>
   ⟨acc ++ [t], bot', _, _, _, by simp, by simp at hl ⊢; omega, λ n hn => by
    rcases List.mem_append.mp hn with z | z
    .exact ha n z
    .rw [List.mem_singleton.mp z]; exact ht, ⟨q1, q2⟩, λ i h => hi i (by simp [h]), rfl⟩
  by_cases hj : j = 0
  .subst hj
   rw [show (0 : Int) + 1 = 1 from rfl] at ey
   rw [show b + (0 : Int) = b by omega] at et
   simp [ey, et, gw, fX, hz]
   simpa using fin u u0 u1
  .have hjb : (j == 0) = false := by simpa using hj
   simp [ey, et, hjb, gw, fX, hz]
   simpa using fin bot hb.1 hb.2
 .rintro δ μ' ⟨acc, bot, o6, o7, o8, rfl, hl, ha, hb, hi, rfl⟩
  obtain ⟨p, ep, hp⟩ := rO h3 (d := d.toNat) (ns := acc) (b := bot) (μ ++ [none]) (by omega) (by omega) ⟨by simpa using hl, ha, hb⟩
  simp [ep]
  exact ⟨hp.nc, hp⟩
section
variable {α : Type} {r j : List α} {x y z : α}
@[simp] theorem Tc : (r ++ x :: j)[r.length]? = some x := by simp
@[simp] theorem Sy : (r ++ x :: j).set r.length y = r ++ y :: j := by simp [List.set_append]
@[simp] theorem RW : (r ++ x :: (j ++ [y]))[r.length + (j.length + 1)]? = some y := by
 rw [List.getElem?_append_right (by omega)]
 have : r.length + (j.length + 1) - r.length = j.length + 1 := by omega
 rw [this]
 simp
@[simp] theorem Td : (r ++ x :: (j ++ [y])).set (r.length + (j.length + 1)) z = r ++ x :: (j ++ [z]) := by
 rw [List.set_append_right _ _ (by omega)]
 have : r.length + (j.length + 1) - r.length = j.length + 1 := by omega
 rw [this]
 simp
end
theorem jG {ys : List Int} {k : Int} (h0 : 0 <= k) (h1 : k < ys.length) : atI (ys.map D.int) k = some (.int (ys.getD k.toNat 0)) /\ ys.getD k.toNat 0 ∈ ys := by
 have hk : k.toNat < ys.length := by omega
 have e : ys.getD k.toNat 0 = ys[k.toNat] := by simp [List.getD, hk]
 refine ⟨?_, by rw [e]; exact List.getElem_mem hk⟩
 unfold atI ixN
 rw [if_pos h0, if_pos (by simpa using h1), e]
 simp [hk]
theorem wF {φ : FF} (h : fP φ) (a c : Int) (ha : 0 < a) (all : List D) (rest : Mu) : ∀ (its : List D) (L : List Int), DlD L -> ∃ ys L' : List Int,
  lcL ⟨all, none⟩ (hName 0) bI (M2 (M2 (MC (aa (aq 1) aB) φ) (mC (.int a)) oMod) (mC (.int c)) cu) [none, some (.cell 0)] its (some (L.map .int) :: rest) = some (ys.map .int, some (L'.map .int) :: rest) /\ DlD L' /\ ys.length = its.length /\ ∀ y ∈ ys, -c <= y /\ y < a - c
 | [], L, hL => ⟨[], L, by unfold lcL; simp [bV], hL, rfl, by simp⟩
 | d :: its, L, hL => by
  obtain ⟨x, L1, e1, hx, hL1⟩ := dj h hL rest
  obtain ⟨ys, L', e, hL', hl, hs⟩ := wF h a c ha all rest its L1 hL1
  obtain ⟨q0, q1⟩ := aW (x := x) (m := a) ha
  have ha' : a ≠ 0 := by omega
  refine ⟨(x.fmod a - c) :: ys, L', ?_, hL', by simp [hl], λ n hn => ?_⟩
  .unfold lcL
   simp [bV, bI, e1, ha', e]
  .rcases List.mem_cons.mp hn with z | z
   .rw [z]; omega
   .exact hs n z
def vK (φ : FF) : Prop := ∀ (L : List Int) (rest : Mu) (d many : Int), DlD L -> iu rest -> 1 <= d -> d <= 3 -> 0 <= many -> many <= 40 ->
 ∃ ps L', φ [.cell 0, .int d, .int many] (some (L.map .int) :: rest) = some (.lst ps, some (L'.map .int) :: rest) /\ DlD L' /\ ps.length = many.toNat /\ ∀ p ∈ ps, mU d.toNat p
theorem zK {φ : FF} {as : List D} {μ : Mu} {P : List D -> List Int -> Prop} {rest : Mu} (hl : μ.length = rest.length + 1) (hm : iu rest) (h : Ok (φ as μ) (λ r => ∃ ps L junk, r = (.lst ps, some (L.map .int) :: (rest ++ junk)) /\ (∀ p ∈ ps, nc p) /\ P ps L)) :
  ∃ ps L', trunc φ as μ = some (.lst ps, some (L'.map .int) :: rest) /\ P ps L' := by
 obtain ⟨r, e, ps, L, junk, h1, h2, h3⟩ := h
 have h1 : r = (.lst ps, some (L.map .int) :: (rest ++ junk)) := h1
 rw [h1] at e
 exact ⟨ps, L, sG (junk := junk) (by rw [e]; rfl) (by simp [hl]) (zX.mpr h2) hm.dr, h3⟩
theorem Ak {φ1 φ2 : FF} (h1 : fP φ1) (h2 : nj φ2) : vK (trunc (aK 8 (ir φ1 φ2))) := λ L rest d many hL hm d1 d3 m0 m40 => by
 apply zK (by simp) hm
 apply eF
 unfold ir
 obtain ⟨ys, L1, e1, hL1, hl1, hs1⟩ := wF h1 41 20 (by decide) (cT 0 d.toNat) rest (cT 0 d.toNat) L hL
 obtain ⟨zs, L2, e2, hL2, hl2, hs2⟩ := wF h1 7 3 (by decide) (cT 0 d.toNat) rest (cT 0 d.toNat) L1 hL1
 rw [fQ] at hl1 hl2
 have zd : d.toNat <= 1000 := by omega
 simp [uv (j := d) (by omega) (by omega), uv (j := many) (by omega) (by omega), fQ, zd, dD, e1, e2]
 refine gm (λ its δ μ' => ∃ (L : List Int) (acc : List D) (o6 o7 : Option D), μ' = some (L.map .int) :: (rest ++ [some acc]) /\ DlD L /\ (∀ p ∈ acc, mU d.toNat p) /\ acc.length + its.length = many.toNat /\
  δ = [some (.cell 0), some (.int d), some (.int many), some (.lst (ys.map .int)), some (.lst (zs.map .int)), some (.cell (rest.length + 1)), o6, o7]) ?_ ?_ _ _ _ ⟨L2, [], none, none, rfl, hL2, by simp, by simp [fQ], rfl⟩
 .rintro i its δ μ' ⟨L, acc, o6, o7, rfl, hL, ha, hl, rfl⟩
  obtain ⟨x, L3, e3, hx, hL3⟩ := dj h1 hL (rest ++ [some acc])
  obtain ⟨q0, q1⟩ := aW (x := x) (m := 13) (by decide)
  generalize ht : x.fmod 13 - 6 = t
  have ht1 : t.natAbs <= 6 := by omega
  have ec := pC (all := cT 0 d.toNat) (h := hName 0) (fe := M2 (M2 (aq 1) (aq 0) oIx) (M2 (aq 2) (M2 (aq 3) (aq 0) oIx) bC) bw) (δb := [none, some (.lst (ys.map .int)), some (.int t), some (.lst (zs.map .int))])
   (f := λ i => .int (ys.getD (intOf i).toNat 0 + t * zs.getD (intOf i).toNat 0)) (μ := some (L3.map .int) :: (rest ++ [some acc])) (cT 0 d.toNat) λ i hi => by
    obtain ⟨k, rfl, k0, k1⟩ := mJ hi
    obtain ⟨a1, _⟩ := jG (ys := ys) (k := k) (by omega) (by omega)
    obtain ⟨a2, b2⟩ := jG (ys := zs) (k := k) (by omega) (by omega)
    have b3 := hs2 _ b2
    have mm := bf (x := t) (y := zs.getD k.toNat 0) (some (L3.map .int) :: (rest ++ [some acc])) (a := 3) (b := 3) (by unfold Sm; omega) (by unfold Sm; omega) (by decide)
    refine ⟨_, rfl, ?_⟩
    simp only [vp]
    generalize zs.getD k.toNat 0 = c2 at *
    generalize ys.getD k.toNat 0 = c1 at *
    simp [a1, a2, mm]
  have ep : (cT 0 d.toNat).map (λ i => D.int (ys.getD (intOf i).toNat 0 + t * zs.getD (intOf i).toNat 0)) = ((cT 0 d.toNat).map (λ i => ys.getD (intOf i).toNat 0 + t * zs.getD (intOf i).toNat 0)).map D.int := by simp
  rw [ep] at ec
  obtain ⟨p, e4, hp⟩ := rO h2 (d := d.toNat) (ns := (cT 0 d.toNat).map (λ i => ys.getD (intOf i).toNat 0 + t * zs.getD (intOf i).toNat 0)) (b := 1) (some (L3.map .int) :: (rest ++ [some acc])) (by omega) (by omega) ⟨by simp [fQ], λ n hn => by
   obtain ⟨i, hi, rfl⟩ := List.mem_map.mp hn
   obtain ⟨k, rfl, k0, k1⟩ := mJ hi
   obtain ⟨_, b1⟩ := jG (ys := ys) (k := k) (by omega) (by omega)
   obtain ⟨_, b2⟩ := jG (ys := zs) (k := k) (by omega) (by omega)
   have b3 := hs1 _ b1
   have b4 := hs2 _ b2
   simp only [vp]
   generalize zs.getD k.toNat 0 = c2 at *
   generalize ys.getD k.toNat 0 = c1 at *
   have h1 : (t * c2).natAbs <= 6 * 3 := by rw [Int.natAbs_mul]; exact Nat.mul_le_mul ht1 (by omega)
   omega, by decide, by decide⟩
  have hz : acc.length < sizeLine := Nat.lt_of_lt_of_le (by omega : acc.length < 1000) (by decide)
  generalize ((cT 0 d.toNat).map (λ i => ys.getD (intOf i).toNat 0 + t * zs.getD (intOf i).toNat 0)) = ms at *
  simp [e3, ht, uv (j := d) (by omega) (by omega), fQ, zd, dD, ec, e4, gw, fX, hz]
  refine ⟨L3, acc ++ [p], by simp, hL3, λ q hq => ?_, by simp at hl ⊢; omega⟩
  rcases List.mem_append.mp hq with z | z
  .exact ha q z
  .rw [List.mem_singleton.mp z]; exact hp
 .rintro δ μ' ⟨L, acc, o6, o7, rfl, hL, ha, hl, rfl⟩
  simp
  exact ⟨acc, L, ⟨rfl, rfl⟩, λ p hp => (ha p hp).nc, hL, by simpa using hl, ha⟩
theorem Jm {φ1 φ2 : FF} (h1 : fP φ1) (h2 : nj φ2) : vK (trunc (aK 9 (qX φ1 φ2))) := λ L rest d many hL hm d1 d3 m0 m40 => by
 apply zK (by simp) hm
 apply eF
 unfold qX
 obtain ⟨x1, L1, e1, hx1, hL1⟩ := dj h1 hL rest
 obtain ⟨x2, L2, e2, hx2, hL2⟩ := dj h1 hL1 rest
 obtain ⟨q0, q1⟩ := aW (x := x1) (m := 5) (by decide)
 obtain ⟨q2, q3⟩ := aW (x := x2) (m := 5) (by decide)
 generalize hf : x1.fmod 5 - 2 = f
 generalize hs : x2.fmod 5 - 2 = s
 have f1 : f.natAbs <= 2 := by omega
 have s1 : s.natAbs <= 2 := by omega
 simp [e1, e2, hf, hs, uv (j := many) (by omega) (by omega)]
 refine gm (λ its δ μ' => ∃ (L : List Int) (acc : List D) (junk : Mu) (o6 o7 o8 : Option D), μ' = some (L.map .int) :: (rest ++ some acc :: junk) /\ DlD L /\ (∀ p ∈ acc, mU d.toNat p) /\ acc.length + its.length = many.toNat /\
  δ = [some (.cell 0), some (.int d), some (.int many), some (.int f), some (.int s), some (.cell (rest.length + 1)), o6, o7, o8]) ?_ ?_ _ _ _ ⟨L2, [], [], none, none, none, rfl, hL2, by simp, by simp [fQ], rfl⟩
 .rintro i its δ μ' ⟨L, acc, junk, o6, o7, o8, rfl, hL, ha, hl, rfl⟩
  obtain ⟨x, M3, e3, hx, hM3⟩ := dj h1 hL (rest ++ some acc :: junk)
  have b1 := aW (x := x) (m := 9) (by decide)
  have b2 := aW (x := x.fdiv 9) (m := 9) (by decide)
  have b3 := aW (x := x.fdiv 81) (m := 9) (by decide)
  have v1 := lE (i := x) (j := 9) (μ := some (M3.map .int) :: (rest ++ some acc :: junk)) (by decide) (by decide)
  have v2 := lE (i := x) (j := 81) (μ := some (M3.map .int) :: (rest ++ some acc :: junk)) (by decide) (by decide)
  generalize ha1 : x.fmod 9 - 4 = a1
  generalize ha2 : (x.fdiv 9).fmod 9 - 4 = a2
  generalize ha3 : (x.fdiv 81).fmod 9 - 4 = a3
  have hz : acc.length < sizeLine := Nat.lt_of_lt_of_le (by omega : acc.length < 1000) (by decide)
  have fin : ∀ p, mU d.toNat p -> ∀ (j' : Mu), ∃ (L : List Int) (acc' : List D) (junk : Mu), some (M3.map D.int) :: (rest ++ some (acc ++ [p]) :: j') = some (L.map .int) :: (rest ++ some acc' :: junk) /\ DlD L /\ (∀ p ∈ acc', mU d.toNat p) /\ acc'.length + its.length = many.toNat := λ p hp j' => by
   refine ⟨M3, acc ++ [p], j', rfl, hM3, λ q hq => ?_, by simp at hl ⊢; omega⟩
   rcases List.mem_append.mp hq with z | z
   .exact ha q z
   .rw [List.mem_singleton.mp z]; exact hp
  have hdd : d = 1 ∨ d = 2 ∨ d = 3 := by omega
  rcases hdd with rfl | rfl | rfl
  .obtain ⟨p, e4, hp⟩ := rO h2 (d := 1) (ns := [a1]) (b := 1) (some (M3.map .int) :: (rest ++ some acc :: (junk ++ [none]))) (by decide) (by decide) ⟨rfl, by simp; omega, by decide, by decide⟩
   simp at e4
   have ec : L3.cutD [D.int a1, D.int a2, D.int a3] none (some 1) = [.int a1] := rfl
   simp [e3, v1, v2, ha1, ha2, ha3, ec, e4, gw, fX, hz]
   simpa using fin p hp (junk ++ [none])
  .have m1 := bf (x := f) (y := a1) (some (M3.map .int) :: (rest ++ some acc :: (junk ++ [some [D.int a1, .int a2]]))) (a := 5) (b := 5) (by unfold Sm; omega) (by unfold Sm; omega) (by decide)
   have m2 := bf (x := s) (y := a1) (some (M3.map .int) :: (rest ++ some acc :: (junk ++ [some [D.int a1, .int a2]]))) (a := 5) (b := 5) (by unfold Sm; omega) (by unfold Sm; omega) (by decide)
   have bd : (f * a1 + s * a1).natAbs <= 10000 := by
    have c1 : (f * a1).natAbs <= 2 * 4 := by rw [Int.natAbs_mul]; exact Nat.mul_le_mul f1 (by omega)
    have c2 : (s * a1).natAbs <= 2 * 4 := by rw [Int.natAbs_mul]; exact Nat.mul_le_mul s1 (by omega)
    omega
   obtain ⟨p, e4, hp⟩ := rO h2 (d := 2) (ns := [a1, f * a1 + s * a1]) (b := 1) (some (M3.map .int) :: (rest ++ some acc :: (junk ++ [none]))) (by decide) (by decide) ⟨rfl, λ n hn => by
    simp at hn
    rcases hn with rfl | rfl
    .omega
    .exact bd, by decide, by decide⟩
   simp at e4
   have ec : L3.cutD [D.int a1, D.int a2, D.int a3] none (some 2) = [.int a1, .int a2] := rfl
   have at0 : atI [D.int a1, .int a2] 0 = some (.int a1) := rfl
   simp [e3, v1, v2, ha1, ha2, ha3, ec, bL, at0, m1, m2, L3.yF, ixN, e4, gw, fX, hz]
   simpa using fin p hp (junk ++ [none])
  .have m1 := bf (x := f) (y := a1) (some (M3.map .int) :: (rest ++ some acc :: (junk ++ [some [D.int a1, .int a2, .int a3]]))) (a := 5) (b := 5) (by unfold Sm; omega) (by unfold Sm; omega) (by decide)
   have m2 := bf (x := s) (y := a2) (some (M3.map .int) :: (rest ++ some acc :: (junk ++ [some [D.int a1, .int a2, .int a3]]))) (a := 5) (b := 5) (by unfold Sm; omega) (by unfold Sm; omega) (by decide)
   have bd : (f * a1 + s * a2).natAbs <= 10000 := by
    have c1 : (f * a1).natAbs <= 2 * 4 := by rw [Int.natAbs_mul]; exact Nat.mul_le_mul f1 (by omega)
    have c2 : (s * a2).natAbs <= 2 * 4 := by rw [Int.natAbs_mul]; exact Nat.mul_le_mul s1 (by omega)
    omega
   obtain ⟨p, e4, hp⟩ := rO h2 (d := 3) (ns := [a1, a2, f * a1 + s * a2]) (b := 1) (some (M3.map .int) :: (rest ++ some acc :: (junk ++ [none]))) (by decide) (by decide) ⟨rfl, λ n hn => by
    simp at hn
    rcases hn with rfl | rfl | rfl
    .omega
    .omega
    .exact bd, by decide, by decide⟩
   simp at e4
   have ec : L3.cutD [D.int a1, D.int a2, D.int a3] none (some 3) = [.int a1, .int a2, .int a3] := rfl
   have at0 : atI [D.int a1, .int a2, .int a3] 0 = some (.int a1) := rfl
   have at1 : atI [D.int a1, .int a2, .int a3] 1 = some (.int a2) := rfl
   simp [e3, v1, v2, ha1, ha2, ha3, ec, bL, at0, at1, m1, m2, L3.yF, ixN, e4, gw, fX, hz]
   simpa using fin p hp (junk ++ [none])
 .rintro δ μ' ⟨L, acc, junk, o6, o7, o8, rfl, hL, ha, hl, rfl⟩
  simp
  exact ⟨acc, L, ⟨rfl, rfl⟩, λ p hp => (ha p hp).nc, hL, by simpa using hl, ha⟩
theorem wH {d : Nat} : ∀ {ps : List D}, (∀ p ∈ ps, mU d p) -> cV ps = true /\ gF ps <= 1
 | [], _ => ⟨by rw [cV], by rw [gF]; decide⟩
 | p :: ps, h => by
  obtain ⟨ns, b, rfl, _⟩ := h p (by simp)
  obtain ⟨i1, i2⟩ := wH (ps := ps) λ q hq => h q (by simp [hq])
  refine ⟨?_, ?_⟩
  .rw [cV, i1, cD, jN]; rfl
  .rw [gF, gC, lU]; omega
theorem Ng {n : Nat} {ps : List D} {μ : Mu} (h : μ[n]? = some (some ps)) (h1 : cV ps = true) (h2 : gF ps < 90) : Bd (.cell n) (.lst []) μ = some (.bl (!ps.isEmpty), μ) := by
 show oNe (.cell n) (.lst []) μ = _
 have e1 : rsv (.cell n) μ = .lst ps := by
  show (match μ[n]? with | some (some ds) => D.lst ds | _ => D.cell n) = _
  rw [h]
 have e2 : rsv (.lst []) μ = .lst [] := rfl
 unfold oNe
 rw [e1, e2]
 have e3 : cD (.lst ps) = true := by rw [cD]; exact h1
 have e4 : cD (.lst []) = true := by rw [cD, cV]
 have e5 : gC (.lst ps) < 100 := by rw [gC]; omega
 have e6 : eqD (.lst ps) (.lst []) = ps.isEmpty := by cases ps <;> rw [eqD] <;> simp [iK]
 rw [e3, e4, e6, if_pos ⟨rfl, e5⟩]
def oO (φ : FF) : Prop := ∀ (L : List Int) (rest : Mu) (d most : Int), DlD L -> iu rest -> 1 <= d -> d <= 3 -> 0 <= most -> most <= 40 ->
 ∃ ps L', φ [.cell 0, .int d, .int most] (some (L.map .int) :: rest) = some (.lst ps, some (L'.map .int) :: rest) /\ DlD L' /\ ps.length <= most.toNat /\ ∀ p ∈ ps, mU d.toNat p
theorem Dd {φ1 φ2 φ3 φ4 : FF} (h1 : fP φ1) (h2 : vK φ2) (h3 : vK φ3) (h4 : mG φ4) : oO (trunc (aK 9 (jd φ1 φ2 φ3 φ4))) := λ L rest d most hL hm d1 d3 m0 m40 => by
 apply zK (by simp) hm
 apply eF
 unfold jd
 obtain ⟨x, L1, e1, hx, hL1⟩ := dj h1 hL rest
 obtain ⟨q0, q1⟩ := aW (x := x.fdiv 9) (m := most + 1) (by omega)
 obtain ⟨k0, k1⟩ := aW (x := x) (m := 9) (by decide)
 have v1 := lE (i := x) (j := 9) (μ := some (L1.map .int) :: rest) (by decide) (by decide)
 have w1 := eG (x := x.fdiv 9) (y := most + 1) (some (L1.map .int) :: rest) (by omega)
 generalize (x.fdiv 9).fmod (most + 1) = many at *
 generalize hk : x.fmod 9 = kind at *
 by_cases c5 : kind = 5
 .subst c5
  obtain ⟨ps, L2, e2, hL2, hl2, hp2⟩ := h2 L1 rest d many hL1 hm d1 d3 q0 (by omega)
  simp [e1, v1, w1, hk, e2]
  exact ⟨ps, L2, ⟨rfl, rfl⟩, λ p hp => (hp2 p hp).nc, hL2, by omega, hp2⟩
 .have c5b : (kind == 5) = false := by simpa using c5
  by_cases c6 : kind = 6
  .subst c6
   obtain ⟨ps, L2, e2, hL2, hl2, hp2⟩ := h3 L1 rest d many hL1 hm d1 d3 q0 (by omega)
   simp [e1, v1, w1, hk, e2]
   exact ⟨ps, L2, ⟨rfl, rfl⟩, λ p hp => (hp2 p hp).nc, hL2, by omega, hp2⟩
  .have c6b : (kind == 6) = false := by simpa using c6
   by_cases c7 : kind = 7
   .subst c7
    obtain ⟨p, e2, hp⟩ := h4 x d 2 0 (some (L1.map .int) :: rest) hm.dr hx d1 d3 (by decide) (by decide) (by decide) (by decide)
    have em : bC (.lst [p]) (.int many) (some (L1.map .int) :: rest) = some (.lst (List.replicate many.toNat [p]).flatten, some (L1.map .int) :: rest) := if_pos ⟨by omega, by omega, by
     simp only [List.length_cons, List.length_nil]
     exact Nat.le_trans (by omega : _ <= 1000) (by decide)⟩
    simp [e1, v1, w1, hk, e2, em]
    have hps : ∀ q ∈ List.replicate many.toNat p, mU d.toNat q := λ q hq => by rw [(List.mem_replicate.mp hq).2]; exact hp
    exact ⟨_, L1, ⟨rfl, rfl⟩, λ q hq => (hps q hq).nc, hL1, by simp; omega, hps⟩
   .have c7b : (kind == 7) = false := by simpa using c7
    simp [e1, v1, w1, hk, c5b, c6b, c7b, uv (j := many) (by omega) (by omega)]
    refine gm (λ its δ μ' => ∃ (L : List Int) (acc : List D) (o7 o8 : Option D), μ' = some (L.map .int) :: (rest ++ [some acc]) /\ DlD L /\ (∀ p ∈ acc, mU d.toNat p) /\ acc.length + its.length = many.toNat /\
     δ = [some (.cell 0), some (.int d), some (.int most), some (.int x), some (.int many), some (.int kind), some (.cell (rest.length + 1)), o7, o8]) ?_ ?_ _ _ _ ⟨L1, [], none, none, rfl, hL1, by simp, by simp [fQ], rfl⟩
    .rintro i its δ μ' ⟨L, acc, o7, o8, rfl, hL, ha, hl, rfl⟩
     obtain ⟨y, M3, e3, hy, hM3⟩ := dj h1 hL (rest ++ [some acc])
     have hz : acc.length < sizeLine := Nat.lt_of_lt_of_le (by omega : acc.length < 1000) (by decide)
     have fin : ∀ p, mU d.toNat p -> ∃ (L : List Int) (acc' : List D), some (M3.map D.int) :: (rest ++ [some (acc ++ [p])]) = some (L.map .int) :: (rest ++ [some acc']) /\ DlD L /\ (∀ p ∈ acc', mU d.toNat p) /\ acc'.length + its.length = many.toNat := λ p hp => by
      refine ⟨M3, acc ++ [p], rfl, hM3, λ q hq => ?_, by simp at hl ⊢; omega⟩
      rcases List.mem_append.mp hq with z | z
      .exact ha q z
      .rw [List.mem_singleton.mp z]; exact hp
     obtain ⟨pu, pd⟩ := wH ha
     have en := Ng (n := rest.length + 1) (ps := acc) (μ := some (M3.map .int) :: (rest ++ [some acc])) (by simp) pu (by omega)
     have t3 := aW (x := y) (m := 3) (by decide)
     have t5 := aW (x := y) (m := 5) (by decide)
     have dv3 := lE (i := y) (j := 3) (μ := some (M3.map .int) :: (rest ++ [some acc])) (by decide) (by decide)
     have dv7 := lE (i := y) (j := 7) (μ := some (M3.map .int) :: (rest ++ [some acc])) (by decide) (by decide)
     have mm := bf (x := y.fmod 5) (y := 30) (some (M3.map .int) :: (rest ++ [some acc])) (a := 5) (b := 5) (by unfold Sm; omega) (by unfold Sm; decide) (by decide)
     have kk : 0 <= (kind.fmod 8).fmod 5 /\ (kind.fmod 8).fmod 5 <= 4 := by have := aW (x := kind.fmod 8) (m := 5) (by decide); omega
     obtain ⟨p, e4, hp⟩ := h4 (y.fdiv 7) d ((kind.fmod 8).fmod 5) (y.fmod 5 * 30) (some (M3.map .int) :: (rest ++ [some acc])) (iu.dr (λ ds hd => by
       rcases List.mem_append.mp hd with z | z
       .exact hm ds z
       .simp at z; subst z; exact λ q hq => (ha q hq).nc)) (by
        have := hy.1
        have := hy.2
        refine ⟨?_, ?_⟩
        .exact (JH hy.sm hy.1 (by decide)).2
        .have := jz (x := y) (y := 7) (by decide); omega) d1 d3 kk.1 kk.2 (by omega) (by omega)
     by_cases ctest : kind = 8 /\ acc ≠ [] /\ y.fmod 3 = 0
     .obtain ⟨k8, hne, y3⟩ := ctest
      subst k8
      have hpos : 0 < acc.length := List.length_pos_iff.mpr hne
      obtain ⟨i0, i1⟩ := aW (x := y.fdiv 3) (m := acc.length) (by omega)
      obtain ⟨q, hq, eq⟩ := jy i0 i1
      have wl := eG (x := y.fdiv 3) (y := (acc.length : Int)) (some (M3.map .int) :: (rest ++ [some acc])) (by omega)
      have hemp : acc.isEmpty = false := by cases acc <;> simp_all
      have olen : cg (.cell (rest.length + 1)) (some (M3.map .int) :: (rest ++ [some acc])) = some (.int acc.length, some (M3.map .int) :: (rest ++ [some acc])) := by simp [cg, bL]
      simp [e3, en, hemp, y3, dv3, olen, wl, bL, eq, gw, fX, hz]
      simpa using fin q (ha q hq)
     .simp [e3]
      by_cases k8 : kind = 8
      .subst k8
       rw [show ((8 : Int).fmod 8).fmod 5 = 0 from rfl] at e4
       simp [en]
       cases hac : acc.isEmpty with
       | true =>
        simp [dv7, mm, e4, gw, fX, hz]
        simpa using fin p hp
       | false =>
        have y3 : ¬ y.fmod 3 = 0 := λ z => ctest ⟨rfl, (λ z2 => by rw [z2] at hac; cases hac), z⟩
        have y3b : (y.fmod 3 == 0) = false := by simpa using y3
        simp [y3b, dv7, mm, e4, gw, fX, hz]
        simpa using fin p hp
      .have k8b : (kind == 8) = false := by simpa using k8
       simp [k8b, dv7, mm, e4, gw, fX, hz]
       simpa using fin p hp
    .rintro δ μ' ⟨L, acc, o7, o8, rfl, hL, ha, hl, rfl⟩
     simp
     exact ⟨acc, L, ⟨rfl, rfl⟩, λ p hp => (ha p hp).nc, hL, by simp at hl; omega, ha⟩
theorem Ex {ps : List D} {μ : Mu} (h1 : cV ps = true) (h2 : gF ps < 90) : oEq (.lst ps) (.lst []) μ = some (.bl ps.isEmpty, μ) := by
 unfold oEq
 have e1 : rsv (.lst ps) μ = .lst ps := rfl
 have e2 : rsv (.lst []) μ = .lst [] := rfl
 rw [e1, e2]
 have e3 : cD (.lst ps) = true := by rw [cD]; exact h1
 have e4 : cD (.lst []) = true := by rw [cD, cV]
 have e5 : gC (.lst ps) < 100 := by rw [gC]; omega
 have e6 : eqD (.lst ps) (.lst []) = ps.isEmpty := by cases ps <;> rw [eqD] <;> simp [iK]
 rw [e3, e4, e6, if_pos ⟨rfl, e5⟩]
theorem iV {b : Nat} {x : Int} (n : Nat) (h : x.natAbs < n) (hn : n <= 2 ^ b) : Sm b x := Nat.lt_of_lt_of_le h hn
def aH (r : List Int) : D := .tup (r.map .int)
@[simp] theorem PX {r : List Int} {μ : Mu} : bL (aH r) μ = some (r.map .int) := rfl
@[simp] theorem Jg {r : List Int} {μ : Mu} : cg (aH r) μ = some (.int r.length, μ) := by simp [aH]
def pairD (p : Int × Int) : D := .tup [.int p.1, .int p.2]
theorem ww {α : Type} {F : α -> D} {l : List α} {k : Int} {z : α} (h0 : 0 <= k) (h1 : k < l.length) : atI (l.map F) k = some (F (l.getD k.toNat z)) /\ l.getD k.toNat z ∈ l := by
 have hk : k.toNat < l.length := by omega
 have e : l.getD k.toNat z = l[k.toNat] := by simp [List.getD, hk]
 refine ⟨?_, by rw [e]; exact List.getElem_mem hk⟩
 unfold atI ixN
 rw [if_pos h0, if_pos (by simpa using h1), e]
 simp [hk]
theorem ue {α β : Type} {F : α -> D} {G : β -> D} : ∀ (a : List α) (b : List β), kh (a.map F) (b.map G) = (a.zip b).map λ p => .tup [F p.1, G p.2]
 | [], _ => by simp [kh]
 | a :: as, [] => by simp [kh]
 | a :: as, b :: bs => by simp [kh, ue as bs]
theorem yZ {α : Type} {th : D -> eN} {F : α -> D} {g : α -> Int} {μ : Mu} : ∀ (l : List α) (a : Int), (∀ x ∈ l, th (F x) μ = some (.int (g x), μ)) -> qR a ((l.map F).map th) μ = some (a + (l.map g).sum, μ)
 | [], a, _ => by simp [qR]
 | x :: l, a, h => by
  have h1 := h x (by simp)
  have ih := yZ l (a + g x) λ y hy => h y (by simp [hy])
  rw [List.map_cons, List.map_cons]
  unfold qR
  rw [h1]
  simp only [Option.bind_some]
  rw [ih]
  simp
  omega
theorem gY {α : Type} {all : List D} {h : GF} {fe : EF} {δb : En} {F : α -> D} {f : α -> D} {μ : Mu} : ∀ (l : List α), (∀ x ∈ l, ∃ δ1, h (F x) δb μ = some δ1 /\ fe δ1 μ = some (f x, μ)) -> lcL ⟨all, none⟩ h bI fe δb (l.map F) μ = some (l.map f, μ)
 | [], _ => by simp only [List.map_nil]; unfold lcL; simp [bV]
 | d :: r, hd => by
  obtain ⟨δ1, h1, h2⟩ := hd d (by simp)
  have h3 := gY (all := all) r λ x hx => hd x (by simp [hx])
  rw [List.map_cons]
  unfold lcL
  simp [bV, h1, bI, h2, h3]
def rE : Int -> List Int -> Int
 | m, [] => m
 | m, b :: bs => rE (m * b.fdiv (Int.gcd m b)) bs
theorem Bh {m b : Int} (hm : 1 <= m) (hb : 1 <= b) : 1 <= (Int.gcd m b : Int) /\ ((Int.gcd m b : Int) ∣ b) /\ ((Int.gcd m b : Int) ∣ m) /\ (Int.gcd m b : Int) <= b := by
 have h0 : Int.gcd m b ≠ 0 := by
  intro z
  rw [Int.gcd_eq_zero_iff] at z
  omega
 refine ⟨by omega, Int.gcd_dvd_right _ _, Int.gcd_dvd_left _ _, Int.le_of_dvd (by omega) (Int.gcd_dvd_right _ _)⟩
theorem xZ {m b : Int} (hm : 1 <= m) (hb : 1 <= b) : 1 <= b.fdiv (Int.gcd m b) /\ b.fdiv (Int.gcd m b) <= b /\ (m * b).fdiv (Int.gcd m b) = m * b.fdiv (Int.gcd m b) /\ b ∣ m * b.fdiv (Int.gcd m b) := by
 obtain ⟨g1, g2, g3, g4⟩ := Bh hm hb
 generalize (Int.gcd m b : Int) = g at *
 rw [Int.fdiv_eq_ediv_of_nonneg b (by omega), Int.fdiv_eq_ediv_of_nonneg (m * b) (by omega)]
 refine ⟨(Int.le_ediv_iff_mul_le (by omega)).mpr (by omega), Int.ediv_le_self _ (by omega), Int.mul_ediv_assoc m g2, ?_⟩
 obtain ⟨c, hc⟩ := g3
 obtain ⟨e, he⟩ := g2
 have : b / g = e := by rw [he]; exact Int.mul_ediv_cancel_left e (by omega)
 rw [this, hc, he]
 exact ⟨c, by rw [Int.mul_assoc, Int.mul_comm c e, <- Int.mul_assoc]⟩
theorem Hh : ∀ (bs : List Int) (m : Int), 1 <= m -> (∀ b ∈ bs, 1 <= b /\ b < 64) -> 1 <= rE m bs /\ (m ∣ rE m bs) /\ (∀ b ∈ bs, b ∣ rE m bs) /\ ∀ k, Sm k m -> Sm (k + 6 * bs.length) (rE m bs)
 | [], m, hm, _ => ⟨hm, Int.dvd_refl _, by simp, λ k h => h⟩
 | b :: bs, m, hm, hb => by
  obtain ⟨b1, b2⟩ := hb b (by simp)
  obtain ⟨f1, f2, f3, f4⟩ := xZ hm b1
  have hm' : 1 <= m * b.fdiv (Int.gcd m b) := by
   have := Int.mul_le_mul hm f1 (by decide) (by omega)
   omega
  obtain ⟨h1, h2, h3, h4⟩ := Hh bs (m * b.fdiv (Int.gcd m b)) hm' λ c hc => hb c (by simp [hc])
  show 1 <= rE (m * b.fdiv (Int.gcd m b)) bs /\ _
  refine ⟨h1, Int.dvd_trans (Int.dvd_mul_right _ _) h2, λ c hc => ?_, λ k hk => ?_⟩
  .rcases List.mem_cons.mp hc with z | z
   .rw [z]; exact Int.dvd_trans f4 h2
   .exact h3 c z
  .have := h4 (k + 6) (dY hk (iV 64 (by omega) (by decide)))
   refine bc this ?_
   simp only [List.length_cons]
   omega
def dot (ws cs : List Int) : Int := ((ws.zip cs).map λ p => p.1 * p.2).sum
def bx (r : List Int) : Int := r.getLastD 0
def wts (M : Int) (rs : List (List Int)) (ss : List Int) : List Int := (ss.zip rs).map λ p => p.1 * M.fdiv (bx p.2)
def col (rs : List (List Int)) (i : Nat) : List Int := rs.map λ r => r.getD i 0
def jL (rs : List (List Int)) : Int := rE 1 (rs.map bx)
def lg (d1 : Nat) (rs : List (List Int)) (ss : List Int) : List Int := (List.range d1).map λ i => dot (wts (jL rs) rs ss) (col rs i)
def yf (v : List Int) : List Int := v.map λ n => n.fdiv (bK 0 v : Nat)
structure gb (d1 : Nat) (r : List Int) : Prop where
 len : r.length = d1
 sm : ∀ n ∈ r, n.natAbs <= 10000
 b1 : 1 <= bx r
 b2 : bx r < 64
theorem PtL.row {d : Nat} {ns : List Int} {b : Int} (h : PtL d ns b) : gb (d + 1) (ns ++ [b]) := ⟨by simp [h.1], λ n hn => by
 rcases List.mem_append.mp hn with z | z
 .exact h.2.1 n z
 .rw [List.mem_singleton.mp z]; have := h.2.2; omega, by unfold bx; simp; exact h.2.2.1, by unfold bx; simp; have := h.2.2.2; omega⟩
theorem yS {d1 : Nat} {r : List Int} (h : gb d1 r) (hd : 1 <= d1) : atI (r.map D.int) (-1) = some (.int (bx r)) := qp (λ z => by have := h.len; rw [z] at this; simp at this; omega)
theorem xg {d1 : Nat} {rs : List (List Int)} (h : ∀ r ∈ rs, gb d1 r) : 1 <= jL rs /\ (∀ r ∈ rs, bx r ∣ jL rs) /\ Sm (1 + 6 * rs.length) (jL rs) := by
 obtain ⟨h1, _, h3, h4⟩ := Hh (rs.map bx) 1 (by decide) λ b hb => by
  obtain ⟨r, hr, rfl⟩ := List.mem_map.mp hb
  exact ⟨(h r hr).b1, (h r hr).b2⟩
 refine ⟨h1, λ r hr => h3 _ (List.mem_map.mpr ⟨r, hr, rfl⟩), ?_⟩
 have := h4 1 (by unfold Sm; decide)
 rw [List.length_map] at this
 exact this
theorem Kw {d1 : Nat} {rs : List (List Int)} {i : Nat} (h : ∀ r ∈ rs, gb d1 r) (hi : i < d1) : ∀ c ∈ col rs i, c.natAbs <= 10000 := λ c hc => by
 obtain ⟨r, hr, rfl⟩ := List.mem_map.mp hc
 have hl := (h r hr).len
 have hk : i < r.length := by omega
 have : r.getD i 0 = r[i] := by simp [List.getD, hk]
 rw [this]
 exact (h r hr).sm _ (List.getElem_mem hk)
theorem Oe {F : EF} {δ : En} {μ : Mu} {k : Int} (h0 : 0 <= k) (h1 : k <= 100000) (a : F δ μ = some (.int k, μ)) : bQ (aa F aB) δ μ = some (⟨cT 0 k.toNat, none⟩, μ) := by
 have rr := uv (j := k) (μ := μ) (by omega) (by omega)
 rw [Oi, wO, a]
 simp only [Option.bind_some, BX]
 exact rr
theorem My {F : EF} {δ : En} {μ : Mu} {r : List Int} {d1 : Nat} (hl : r.length = d1) (a : F δ μ = some (aH r, μ)) : MC (aa F aB) (bj cg) δ μ = some (.int d1, μ) := by
 rw [Nq, wO, a]
 simp only [Option.bind_some, BX, KY, Jg, hl]
def rowsOf (ps : List (List Int)) (sh : List (Int × Int)) : List (List Int) := sh.map λ x => ps.getD x.1.toNat []
def Iz (n : Nat) (sh : List (Int × Int)) : Prop := ∀ x ∈ sh, 0 <= x.1 /\ x.1 < n /\ 1 <= x.2 /\ Sm 2000 x.2
theorem vA {d1 : Nat} {ps : List (List Int)} {sh : List (Int × Int)} (hp : ∀ p ∈ ps, gb d1 p) (hs : Iz ps.length sh) : ∀ r ∈ rowsOf ps sh, gb d1 r := λ r hr => by
 obtain ⟨x, hx, rfl⟩ := List.mem_map.mp hr
 obtain ⟨h0, h1, _⟩ := hs x hx
 exact hp _ (ww (F := aH) (l := ps) (k := x.1) (z := []) h0 h1).2
theorem pD {w c : Int} {ws cs : List Int} : dot (w :: ws) (c :: cs) = w * c + dot ws cs := by unfold dot; simp
theorem yC (M : Int) : ∀ (rs : List (List Int)) (ss : List Int), rs.length = ss.length -> (∀ r ∈ rs, 1 <= bx r /\ bx r ∣ M) -> dot (wts M rs ss) (rs.map bx) = M * ss.sum
 | [], ss, h, _ => by
  have : ss = [] := List.eq_nil_of_length_eq_zero (by simpa using h.symm)
  subst this
  simp [dot, wts]
 | r :: rs, [], h, _ => by simp at h
 | r :: rs, s :: ss, h, hr => by
  have ih := yC M rs ss (by simpa using h) λ x hx => hr x (by simp [hx])
  obtain ⟨b1, b2⟩ := hr r (by simp)
  have e1 : wts M (r :: rs) (s :: ss) = s * M.fdiv (bx r) :: wts M rs ss := by simp [wts]
  rw [e1, List.map_cons, pD, ih, List.sum_cons, Int.mul_add]
  congr 1
  rw [Int.fdiv_eq_ediv_of_nonneg M (by omega), Int.mul_assoc, Int.ediv_mul_cancel b2, Int.mul_comm]
theorem FQ {d1 : Nat} {rs : List (List Int)} (hd : 1 <= d1) (h : ∀ r ∈ rs, gb d1 r) : col rs (d1 - 1) = rs.map bx := by
 unfold col
 apply List.map_congr_left
 intro r hr
 have hl := (h r hr).len
 have hne : r ≠ [] := λ z => by rw [z] at hl; simp at hl; omega
 unfold bx
 rw [List.getLastD_eq_getLast?, List.getLast?_eq_getElem?, hl]
 rfl
theorem Bf : ∀ (ss : List Int) (k : Nat), (∀ s ∈ ss, 1 <= s /\ Sm k s) -> (0 <= ss.sum /\ (ss ≠ [] -> 1 <= ss.sum)) /\ ss.sum.natAbs <= ss.length * 2 ^ k
 | [], k, _ => by simp
 | s :: ss, k, h => by
  obtain ⟨h1, h2⟩ := h s (by simp)
  obtain ⟨⟨i1, i2⟩, i3⟩ := Bf ss k λ x hx => h x (by simp [hx])
  rw [List.sum_cons, List.length_cons, Nat.succ_mul]
  refine ⟨⟨by omega, λ _ => by omega⟩, ?_⟩
  unfold Sm at h2
  have := Int.natAbs_add_le s ss.sum
  omega
structure RP (d1 : Nat) (rs : List (List Int)) (ss : List Int) : Prop where
 v : (lg d1 rs ss).length = d1
 lst : (lg d1 rs ss).getLastD 0 = jL rs * ss.sum
 pos : 1 <= jL rs * ss.sum
 sm : Sm 3000 (jL rs * ss.sum)
 g0 : bK 0 (lg d1 rs ss) ≠ 0
 gs : Sm 3000 (bK 0 (lg d1 rs ss) : Nat)
theorem HH {d1 : Nat} {rs : List (List Int)} {ss : List Int} (hd : 1 <= d1) (hr : ∀ r ∈ rs, gb d1 r) (hl : rs.length = ss.length) (h60 : rs.length <= 60) (hne : rs ≠ []) (hs : ∀ s ∈ ss, 1 <= s /\ Sm 2000 s) : RP d1 rs ss := by
 obtain ⟨M1', M2', M3'⟩ := xg hr
 have el := yC (jL rs) rs ss hl λ r h => ⟨(hr r h).b1, M2' r h⟩
 obtain ⟨⟨s0, s1⟩, s2⟩ := Bf ss 2000 hs
 have sne : ss ≠ [] := λ z => by rw [z] at hl; exact hne (List.eq_nil_of_length_eq_zero (by simpa using hl))
 have sp := s1 sne
 have ssm : Sm 2006 ss.sum := by
  unfold Sm
  have : ss.length * 2 ^ 2000 < 2 ^ 6 * 2 ^ 2000 := Nat.mul_lt_mul_of_pos_right (by omega) (Nat.two_pow_pos _)
  rw [<- Nat.pow_add] at this
  omega
 have hpos : 1 <= jL rs * ss.sum := by
  have := Int.mul_le_mul M1' sp (by decide) (by omega)
  omega
 have hsm : Sm 3000 (jL rs * ss.sum) := bc (dY M3' ssm) (by omega)
 have hlast : (lg d1 rs ss).getLastD 0 = jL rs * ss.sum := by
  unfold lg
  rw [List.getLastD_eq_getLast?, List.getLast?_map, List.getLast?_range, if_neg (by omega)]
  simp only [Option.map_some, Option.getD_some]
  rw [FQ hd hr, el]
 have hmem : jL rs * ss.sum ∈ lg d1 rs ss := by
  rw [<- hlast]
  have hne' : lg d1 rs ss ≠ [] := by unfold lg; simp; omega
  rw [List.getLastD_eq_getLast?, List.getLast?_eq_some_getLast hne']
  exact List.getLast_mem hne'
 have hg0 : bK 0 (lg d1 rs ss) ≠ 0 := jP (.inr ⟨_, hmem, by omega⟩)
 refine ⟨by unfold lg; simp, hlast, hpos, hsm, hg0, ?_⟩
 have := Kc (g := 0) hmem (by omega)
 unfold Sm at *
 simp only [Int.natAbs_natCast]
 omega
@[simp] theorem PQ {μ : Mu} {ds : List D} : bL (.cell μ.length) (μ ++ [some ds]) = some ds := by unfold bL; simp
def fnL (d : Nat) (g : Nat -> Int) : List D := ((List.range d).map g).map D.int
theorem vU {d : Nat} {g : Nat -> Int} : (fnL d g).length = d := by unfold fnL; simp
theorem Mw {d : Nat} {g : Nat -> Int} {j : Nat} (h : j < d) : atI (fnL d g) (0 + (j : Int)) = some (.int (g j)) := by
 unfold atI ixN
 rw [if_pos (by omega), if_pos (by rw [vU]; omega)]
 have : (0 + (j : Int)).toNat = j := by omega
 simp only [Option.bind_some, this]
 unfold fnL
 simp [h]
theorem Mm {d : Nat} {g : Nat -> Int} {j : Nat} (h : j < d) : ixN (fnL d g).length (0 + (j : Int)) = some j := by
 unfold ixN
 rw [if_pos (by omega), if_pos (by rw [vU]; omega)]
 congr 1
 omega
theorem Ip {d : Nat} {g : Nat -> Int} {j : Nat} {x : Int} : (fnL d g).set j (.int x) = fnL d (λ i => if i = j then x else g i) := by
 unfold fnL
 apply List.ext_getElem
 .simp
 intro i h1 h2
 simp at h1 h2
 rw [List.getElem_set]
 by_cases e : j = i
 .subst e; simp
 .have e' : ¬ i = j := λ z => e z.symm
  simp [e, e']
theorem CN {d : Nat} {g g' : Nat -> Int} (h : ∀ i < d, g i = g' i) : fnL d g = fnL d g' := by
 unfold fnL
 congr 1
 apply List.map_congr_left
 intro i hi
 exact h i (List.mem_range.mp hi)
theorem yq {d j : Nat} (h : j < d) : (cT 0 d).drop j = D.int (0 + (j : Int)) :: (cT 0 d).drop (j + 1) := by
 unfold cT
 rw [<- List.map_drop, <- List.map_drop, List.drop_eq_getElem_cons (by simpa using h)]
 simp
theorem Ju {d j : Nat} (h : d <= j) : (cT 0 d).drop j = [] := List.drop_of_length_le (by rw [fQ]; exact h)
theorem Ik (ns : List Int) (b : Int) : bK 0 (ns ++ [b]) = bK b.natAbs ns := by
 have := Jw (s := 1) (b := b) (ns := ns) (.inl rfl)
 simpa using this
def pM (ps : List (List Int)) (x : Int × Int) : List Int := ps.getD x.1.toNat []
def term (M : Int) (ps : List (List Int)) (i : Nat) (x : Int × Int) : Int := x.2 * (pM ps x).getD i 0 * M.fdiv (bx (pM ps x))
theorem uU (M : Int) (ps : List (List Int)) (i : Nat) : ∀ sh : List (Int × Int), dot (wts M (rowsOf ps sh) (sh.map (·.2))) (col (rowsOf ps sh) i) = (sh.map (term M ps i)).sum
 | [] => by simp [dot, wts, rowsOf, col]
 | x :: sh => by
  have ih := uU M ps i sh
  have e1 : rowsOf ps (x :: sh) = pM ps x :: rowsOf ps sh := rfl
  have e2 : wts M (pM ps x :: rowsOf ps sh) (x.2 :: sh.map (·.2)) = x.2 * M.fdiv (bx (pM ps x)) :: wts M (rowsOf ps sh) (sh.map (·.2)) := by simp [wts]
  have e3 : col (pM ps x :: rowsOf ps sh) i = (pM ps x).getD i 0 :: col (rowsOf ps sh) i := by simp [col]
  rw [e1, List.map_cons, e2, e3, pD, ih, List.map_cons, List.sum_cons]
  congr 1
  unfold term
  rw [Int.mul_assoc, Int.mul_assoc, Int.mul_comm (M.fdiv _)]
noncomputable abbrev BR : SF := fZ (bQ (aa (MC (aa (aq 5) (aB)) (bj cg)) (aB))) (hName 7) (aO (aY 8 (M2 (aq 4) (M2 (M2 (aq 0) (aq 3) oIx) (aq 7) oIx) bC)) (rY (M2 (M2 (aq 5) (aq 7) oIx) (M2 (aq 8) (M2 (aq 2) (M2 (M2 (aq 0) (aq 3) oIx) (M1 (mC (.int 1)) dG) oIx) oDiv) bC) bw) (aq 5) (aq 7)))
theorem Px {d : Nat} {ps : List (List Int)} {M k s t : Int} {μ : Mu} {shD : D} {g : Nat -> Int} {o7 o8 : Option D} (hd : d <= 9) (hp : ∀ p ∈ ps, gb (d + 1) p) (k0 : 0 <= k) (k1 : k < ps.length) (hs : Sm 2000 s) (hM : Sm 400 M) :
  ∃ p7 p8, BR [some (.lst (ps.map aH)), some shD, some (.int M), some (.int k), some (.int s), some (.cell μ.length), some (.int t), o7, o8] (μ ++ [some (fnL d g)]) =
   some (.nx, [some (.lst (ps.map aH)), some shD, some (.int M), some (.int k), some (.int s), some (.cell μ.length), some (.int t), p7, p8], μ ++ [some (fnL d λ i => g i + term M ps i (k, s))]) := by
 suffices h : Ok (BR [some (.lst (ps.map aH)), some shD, some (.int M), some (.int k), some (.int s), some (.cell μ.length), some (.int t), o7, o8] (μ ++ [some (fnL d g)])) (λ r => ∃ p7 p8, r =
   (.nx, [some (.lst (ps.map aH)), some shD, some (.int M), some (.int k), some (.int s), some (.cell μ.length), some (.int t), p7, p8], μ ++ [some (fnL d λ i => g i + term M ps i (k, s))])) by
  obtain ⟨r, e, p7, p8, h⟩ := h
  exact ⟨p7, p8, by rw [e, h]⟩
 obtain ⟨ak, hmem⟩ := ww (F := aH) (l := ps) (k := k) (z := []) k0 k1
 have hr := hp _ hmem
 have hrow : pM ps (k, s) = ps.getD k.toNat [] := rfl
 have hterm : ∀ i, term M ps i (k, s) = s * (ps.getD k.toNat []).getD i 0 * M.fdiv (bx (ps.getD k.toNat [])) := λ i => rfl
 simp only [hterm]
 generalize ps.getD k.toNat [] = r at *
 have hlast := yS hr (by omega)
 have hlen : cg (.cell μ.length) (μ ++ [some (fnL d g)]) = some (.int (d : Int), μ ++ [some (fnL d g)]) := by
  unfold cg bL
  simp [vU]
 have it : bQ (aa (MC (aa (aq 5) (aB)) (bj cg)) (aB)) [some (.lst (ps.map aH)), some shD, some (.int M), some (.int k), some (.int s), some (.cell μ.length), some (.int t), o7, o8] (μ ++ [some (fnL d g)]) = some (⟨cT 0 d, none⟩, μ ++ [some (fnL d g)]) := by
  have := Oe (k := (d : Int)) (F := MC (aa (aq 5) (aB)) (bj cg)) (δ := [some (.lst (ps.map aH)), some shD, some (.int M), some (.int k), some (.int s), some (.cell μ.length), some (.int t), o7, o8]) (μ := μ ++ [some (fnL d g)]) (by omega) (by omega) (by
   rw [Nq, wO]
   simp only [wR, wJ, Option.bind_some, BX, KY]
   exact hlen)
  rwa [show ((d : Int)).toNat = d by omega] at this
 unfold BR
 generalize bQ (aa (MC (aa (aq 5) (aB)) (bj cg)) (aB)) = IT at it ⊢
 rw [Gs, it]
 simp only [Option.bind_some]
 refine gm (λ its δ μ' => ∃ (j : Nat) (g' : Nat -> Int) (p7 p8 : Option D), its = (cT 0 d).drop j /\ μ' = μ ++ [some (fnL d g')] /\ (∀ i < d, g' i = if i < j then g i + s * r.getD i 0 * M.fdiv (bx r) else g i) /\
  δ = [some (.lst (ps.map aH)), some shD, some (.int M), some (.int k), some (.int s), some (.cell μ.length), some (.int t), p7, p8]) ?_ ?_ _ _ _ ⟨0, g, o7, o8, rfl, rfl, λ i _ => by simp, rfl⟩
 .rintro it' rest δ μ' ⟨j, g', p7, p8, hi, rfl, hg, rfl⟩
  have hj : j < d := by
   by_cases h : j < d
   .exact h
   .rw [Ju (by omega)] at hi; cases hi
  rw [yq hj] at hi
  cases hi
  have hjr : ((0 : Int) + (j : Int)) < r.length := by have := hr.len; omega
  obtain ⟨aj, hjm⟩ := jG (ys := r) (k := 0 + (j : Int)) (by omega) hjr
  have hto : (0 + (j : Int)).toNat = j := by omega
  rw [hto] at aj hjm
  have gat := Mw (g := g') hj
  have gix := Mm (g := g') hj
  have hsj := hr.sm _ hjm
  have b1 := hr.b1
  have b2 := hr.b2
  have hgj := hg j hj
  rw [if_neg (by omega)] at hgj
  generalize hrj : r.getD j 0 = rj at *
  have em1 := bf (x := s) (y := rj) (μ ++ [some (fnL d g')]) hs (iV (b := 14) 10001 (by omega) (by decide)) (by decide)
  have ed := jj (x := M) (y := bx r) (b := 6) (μ ++ [some (fnL d g')]) (by omega) (iV 64 (by omega) (by decide)) (by decide)
  have em2 := bf (x := s * rj) (y := M.fdiv (bx r)) (μ ++ [some (fnL d g')]) (dY hs (iV (b := 14) 10001 (by omega) (by decide))) (jT hM (by omega)) (by decide)
  generalize hij : (0 + (j : Int)) = ij at *
  simp [ak, aj, em1, gat, hlast, ed, em2, L3.yF, gix, Ip]
  refine ⟨j + 1, rfl, _, rfl, λ i hi => ?_⟩
  by_cases e : i = j
  .subst e
   simp [hgj, <- hrj]
  .have := hg i hi
   simp only [if_neg e]
   rw [this]
   by_cases c : i < j
   .rw [if_pos c, if_pos (by omega)]; rfl
   .rw [if_neg c, if_neg (by omega)]
 .rintro δ μ' ⟨j, g', p7, p8, hi, rfl, hg, rfl⟩
  have hj : d <= j := by
   by_cases h : j < d
   .rw [yq h] at hi; cases hi
   .omega
  refine ⟨p7, p8, ?_⟩
  rw [CN (g := g') (g' := λ i => g i + s * r.getD i 0 * M.fdiv (bx r)) λ i hi => by rw [hg i hi, if_pos (by omega)]]
theorem Du {M : Int} {ps : List (List Int)} {i : Nat} {x : Int × Int} {sh : List (Int × Int)} : ((x :: sh).map (term M ps i)).sum = term M ps i x + (sh.map (term M ps i)).sum := by simp
theorem wV {d1 : Nat} {ps : List (List Int)} {k : Int} (hp : ∀ p ∈ ps, gb d1 p) (k0 : 0 <= k) (k1 : k < ps.length) : atI (ps.map aH) k = some (aH (ps.getD k.toNat [])) /\ gb d1 (ps.getD k.toNat []) := by
 obtain ⟨a, b⟩ := ww (F := aH) (l := ps) (k := k) (z := []) k0 k1
 exact ⟨a, hp _ b⟩
theorem Dc {m b : Int} {bs : List Int} : rE m (b :: bs) = rE (m * b.fdiv (Int.gcd m b)) bs := rfl
theorem zM {φ1 φ2 : FF} (h1 : xM φ1) (h2 : nj φ2) (d : Nat) (ps : List (List Int)) (sh : List (Int × Int)) (μ : Mu) (hm : iu μ) (hd : 1 <= d) (hd2 : d <= 9) (hp : ∀ p ∈ ps, gb (d + 1) p) (hne : sh ≠ []) (hl : sh.length <= 60) (hs : Iz ps.length sh) :
  trunc (aK 9 (oF φ1 φ2)) [.lst (ps.map aH), .tup (sh.map pairD)] μ = some (aH (yf (lg (d + 1) (rowsOf ps sh) (sh.map (·.2)))), μ) := by
 have hr := vA hp hs
 have hss : ∀ s ∈ sh.map (·.2), 1 <= s /\ Sm 2000 s := λ s h => by
  obtain ⟨x, hx, rfl⟩ := List.mem_map.mp h
  exact ⟨(hs x hx).2.2.1, (hs x hx).2.2.2⟩
 have hlr : (rowsOf ps sh).length = (sh.map (·.2)).length := by unfold rowsOf; simp
 have hl60 : (rowsOf ps sh).length <= 60 := by unfold rowsOf; simp; exact hl
 have hrne : rowsOf ps sh ≠ [] := by unfold rowsOf; simpa using hne
 have mo := HH (by omega) hr hlr hl60 hrne hss
 obtain ⟨M1', M2', M3'⟩ := xg hr
 have hMs : Sm 400 (jL (rowsOf ps sh)) := bc M3' (by omega)
 have hbs : (rowsOf ps sh).map bx = sh.map λ x => bx (pM ps x) := by unfold rowsOf pM; simp
 have eM : rE 1 (sh.map λ x => bx (pM ps x)) = jL (rowsOf ps sh) := by unfold jL; rw [hbs]
 have eV : lg (d + 1) (rowsOf ps sh) (sh.map (·.2)) = (List.range d).map (λ i => (sh.map (term (jL (rowsOf ps sh)) ps i)).sum) ++ [jL (rowsOf ps sh) * (sh.map (·.2)).sum] := by
  have hlast := mo.lst
  unfold lg at hlast ⊢
  rw [List.range_succ, List.map_append] at hlast ⊢
  rw [List.getLastD_eq_getLast?] at hlast
  simp only [List.map_cons, List.map_nil, List.getLast?_append, List.getLast?_singleton, Option.some_or, Option.getD_some] at hlast
  simp only [List.map_cons, List.map_nil]
  rw [hlast]
  congr 1
  apply List.map_congr_left
  intro i _
  exact uU _ _ _ _
 have hpos := mo.pos
 have hBs := mo.sm
 clear mo
 generalize jL (rowsOf ps sh) = M at *
 generalize lg (d + 1) (rowsOf ps sh) (sh.map (·.2)) = V at *
 suffices h : Ok (aK 9 (oF φ1 φ2) [.lst (ps.map aH), .tup (sh.map pairD)] μ) (λ r => ∃ junk, r = (aH (yf V), μ ++ junk)) by
  obtain ⟨r, e, junk, h⟩ := h
  have h : r = (aH (yf V), μ ++ junk) := h
  rw [h] at e
  exact sG e rfl (gq.mpr iZ) hm
 apply eF
 unfold oF
 simp only [List.map_cons, List.map_nil, List.length_cons, List.length_nil, List.cons_append, List.nil_append, Nat.reduceAdd, Nat.reduceSub, List.replicate_succ, List.replicate_zero, Fb, Gh, w_c, Option.bind_some, rA, rZ, vR, Gs, Gn, wR, wJ, Cj, Option.map_some, List.set_cons_succ, List.set_cons_zero]
 refine gm (λ its δ μ' => ∃ (xs : List (Int × Int)) (m : Int) (o3 o4 : Option D) (k : Nat), its = xs.map pairD /\ μ' = μ /\ rE m (xs.map λ x => bx (pM ps x)) = M /\ 1 <= m /\ Sm k m /\ k + 6 * xs.length <= 700 /\ (∀ x ∈ xs, x ∈ sh) /\ δ = [some (.lst (ps.map aH)), some (.tup (sh.map pairD)), some (.int m), o3, o4, none, none, none, none]) ?_ ?_ _ _ _ ⟨sh, 1, none, none, 1, rfl, rfl, eM, by decide, by unfold Sm; decide, by omega, λ x h => h, rfl⟩
 .rintro dd rest δ μ' ⟨xs, m, o3, o4, k, hi, rfl, hlm, m1, hk, hkl, hsub, rfl⟩
  cases xs with
  | nil => cases hi
  | cons x xs =>
   obtain ⟨xk, xs2⟩ := x
   cases hi
   obtain ⟨k0, k1, _⟩ := hs _ (hsub _ (List.mem_cons_self ..))
   obtain ⟨ak, hrow⟩ := wV hp k0 k1
   have hrx : pM ps (xk, xs2) = ps.getD xk.toNat [] := rfl
   rw [List.map_cons, Dc] at hlm
   simp only [hrx] at hlm
   simp only at ak hrow k0 k1
   generalize ps.getD xk.toNat [] = r at *
   have hlast := yS hrow (by omega)
   have b1 := hrow.b1
   have b2 := hrow.b2
   generalize bx r = b at *
   obtain ⟨g1, g2, g3, g4⟩ := Bh m1 b1
   obtain ⟨f1, f2, f3, f4⟩ := xZ m1 b1
   have eg := h1 m b μ'
   have em := bf (x := m) (y := b) μ' hk (iV (b := 6) 64 (by omega) (by decide)) (by simp at hkl; omega)
   have ed := jj (x := m * b) (y := (Int.gcd m b : Int)) (b := 6) μ' (by omega) (iV 64 (by omega) (by decide)) (by decide)
   rw [f3] at ed
   have sb : Sm 6 (b.fdiv (Int.gcd m b)) := iV 64 (by omega) (by decide)
   simp only [List.length_cons] at hkl
   generalize hm' : m * b.fdiv (Int.gcd m b) = m' at *
   simp [pairD, ak, hlast, em, eg, ed]
   refine ⟨xs, rfl, m', hlm, ?_, _, _, k + 6, by rw [<- hm']; exact dY hk sb, by omega, λ a b' h => hsub _ (List.mem_cons_of_mem _ h), rfl, rfl, rfl⟩
   have := Int.mul_le_mul m1 f1 (by decide) (by omega)
   omega
 .rintro δ μ' ⟨xs, m, o3, o4, k, hi, rfl, hlm, m1, hk, hkl, hsub, rfl⟩
  cases xs with
  | cons b ms => cases hi
  | nil =>
  have hlm : m = M := hlm
  subst hlm
  obtain ⟨x0, hx0⟩ : ∃ x0, sh.head? = some x0 := by
   cases sh with
   | nil => exact absurd rfl hne
   | cons a b => exact ⟨a, rfl⟩
  have hx0m : x0 ∈ sh := List.mem_of_mem_head? hx0
  have a00 : atI (sh.map pairD) 0 = some (pairD x0) := by
   cases sh with
   | nil => cases hx0
   | cons a b => cases hx0; unfold atI ixN; simp
  obtain ⟨x0k, x0s⟩ := x0
  obtain ⟨k0, k1, _⟩ := hs _ hx0m
  obtain ⟨ak, hrow⟩ := wV hp k0 k1
  simp only at ak hrow k0 k1
  have hlen0 := hrow.len
  generalize ps.getD x0k.toNat [] = r0 at *
  have at0 : atI [D.int x0k, D.int x0s] 0 = some (.int x0k) := rfl
  have eL : xx (MC (aa (mC (.int 0)) (aB)) oLst) (M2 (MC (aa (M2 (aq 0) (M2 (M2 (aq 1) (mC (.int 0)) oIx) (mC (.int 0)) oIx) oIx) (aB)) (bj cg)) (mC (.int 1)) cu) [some (.lst (ps.map aH)), some (.tup (sh.map pairD)), some (.int m), o3, o4, none, none, none, none] μ' = some (fnL d λ _ => 0, μ') := by
   have e1 : M2 (MC (aa (M2 (aq 0) (M2 (M2 (aq 1) (mC (.int 0)) oIx) (mC (.int 0)) oIx) oIx) (aB)) (bj cg)) (mC (.int 1)) cu [some (.lst (ps.map aH)), some (.tup (sh.map pairD)), some (.int m), o3, o4, none, none, none, none] μ' = some (.int d, μ') := by
    have e2 : MC (aa (M2 (aq 0) (M2 (M2 (aq 1) (mC (.int 0)) oIx) (mC (.int 0)) oIx) oIx) (aB)) (bj cg) [some (.lst (ps.map aH)), some (.tup (sh.map pairD)), some (.int m), o3, o4, none, none, none, none] μ' = some (.int (d + 1 : Nat), μ') := My hlen0 (by simp [a00, pairD, at0, ak])
    generalize MC (aa (M2 (aq 0) (M2 (M2 (aq 1) (mC (.int 0)) oIx) (mC (.int 0)) oIx) oIx) (aB)) (bj cg) = F at e2 ⊢
    rw [QK, e2]
    simp
   generalize M2 (MC (aa (M2 (aq 0) (M2 (M2 (aq 1) (mC (.int 0)) oIx) (mC (.int 0)) oIx) oIx) (aB)) (bj cg)) (mC (.int 1)) cu = F at e1 ⊢
   have hrep : ∀ z : Int, z = d -> (if -(2 ^ 63) <= z /\ z < 2 ^ 63 /\ [D.int 0].length * z.toNat <= sizeLine then some ((List.replicate z.toNat [D.int 0]).flatten, μ') else none) = some (fnL d λ _ => 0, μ') := λ z hz => by
    rw [if_pos ⟨by omega, by omega, Nat.le_trans (by simp only [List.length_cons, List.length_nil]; omega : _ <= 1000) (by decide)⟩]
    have : z.toNat = d := by omega
    rw [this]
    unfold fnL
    simp [List.map_const']
   unfold xx
   have e3 : MC (aa (mC (.int 0)) (aB)) oLst [some (.lst (ps.map aH)), some (.tup (sh.map pairD)), some (.int m), o3, o4, none, none, none, none] μ' = some (.lst [.int 0], μ') := by simp
   generalize MC (aa (mC (.int 0)) (aB)) oLst = G at e3 ⊢
   rw [e3]
   simp only [Option.bind_some]
   obtain ⟨dz, hdz⟩ : ∃ z : Int, z = d := ⟨_, rfl⟩
   rw [<- hdz] at e1
   rw [e1]
   exact hrep dz hdz
  generalize xx (MC (aa (mC (.int 0)) (aB)) oLst) (M2 (MC (aa (M2 (aq 0) (M2 (M2 (aq 1) (mC (.int 0)) oIx) (mC (.int 0)) oIx) oIx) (aB)) (bj cg)) (mC (.int 1)) cu) = LR at eL ⊢
  simp only [rZ, vR, Fb, Gh, Qu, eL, Option.bind_some, rA, List.set_cons_succ, List.set_cons_zero, w_c, Gs, Gn, wR, wJ, Cj, Option.map_some]
  refine gm (λ its δ μ1 => ∃ (xs : List (Int × Int)) (t : Int) (g : Nat -> Int) (o3 o4 o7 o8 : Option D), its = xs.map pairD /\ μ1 = μ' ++ [some (fnL d g)] /\ (∀ x ∈ xs, x ∈ sh) /\ t + (xs.map (·.2)).sum = (sh.map (·.2)).sum /\ (∀ i, g i + (xs.map (term m ps i)).sum = (sh.map (term m ps i)).sum) /\ δ = [some (.lst (ps.map aH)), some (.tup (sh.map pairD)), some (.int m), o3, o4, some (.cell μ'.length), some (.int t), o7, o8]) ?_ ?_ _ _ _ ⟨sh, 0, λ _ => 0, _, _, _, _, rfl, rfl, λ x h => h, by simp, λ i => by simp, rfl⟩
  .rintro dd rest δ μ1 ⟨xs, t, g, o3, o4, o7, o8, hi, rfl, hsub, ht, hg, rfl⟩
   cases xs with
   | nil => cases hi
   | cons x xs =>
    obtain ⟨xk, xv⟩ := x
    cases hi
    obtain ⟨k0, k1, s1, s2⟩ := hs _ (hsub _ (List.mem_cons_self ..))
    obtain ⟨p7, p8, e⟩ := Px (d := d) (ps := ps) (M := m) (k := xk) (s := xv) (t := t + xv) (μ := μ') (shD := .tup (sh.map pairD)) (g := g) (o7 := o7) (o8 := o8) hd2 hp k0 k1 s2 hMs
    unfold BR at e
    simp only [pairD, Qn, List.length_cons, List.length_nil, Nat.reduceAdd, if_true, Ia, Nb, Option.bind_some, Oa, rA, rZ, List.set_cons_succ, List.set_cons_zero, Fb, Gh, QK, wR, wJ, QC, vR, e, Jp]
    refine ⟨xs, t + xv, _, _, _, p7, p8, rfl, rfl, λ x h => hsub _ (List.mem_cons_of_mem _ h), ?_, λ i => ?_, rfl⟩
    .rw [<- ht]; simp; omega
    .rw [<- hg i, Du]; omega
  .rintro δ μ1 ⟨xs, t, g, o3, o4, o7, o8, hi, rfl, hsub, ht, hg, rfl⟩
   cases xs with
   | cons b ms => cases hi
   | nil =>
   have ht : t = (sh.map (·.2)).sum := by simpa using ht
   subst ht
   have hg : ∀ i, g i = (sh.map (term m ps i)).sum := λ i => by simpa using hg i
   have efn : fnL d g = ((List.range d).map λ i => (sh.map (term m ps i)).sum).map D.int := by
    unfold fnL
    congr 1
    apply List.map_congr_left
    intro i _
    exact hg i
   have hlow := h2 ((List.range d).map λ i => (sh.map (term m ps i)).sum) (m * (sh.map (·.2)).sum) (μ' ++ [none]) (by omega) (bc hBs (by decide)) (by simp; omega) (by simp; omega)
   have hsg : sgn (m * (sh.map (·.2)).sum) = 1 := if_pos (by omega)
   rw [hsg, Int.one_mul, <- Ik, <- eV] at hlow
   have hB1 : Sm 2100 (sh.map (·.2)).sum := by
    obtain ⟨_, s2⟩ := Bf (sh.map (·.2)) 2000 hss
    have : (sh.map (·.2)).length * 2 ^ 2000 < 2 ^ 6 * 2 ^ 2000 := Nat.mul_lt_mul_of_pos_right (by simp; omega) (Nat.two_pow_pos _)
    rw [<- Nat.pow_add] at this
    exact bc (show Sm 2006 _ by unfold Sm; omega) (by decide)
   have em := bf (x := m) (y := (sh.map (·.2)).sum) (μ' ++ [none]) hMs hB1 (by decide)
   have elow : V.map (λ n => D.int (n.fdiv (bK 0 V : Nat))) = (yf V).map D.int := by unfold yf; simp
   rw [elow] at hlow
   rw [efn]
   generalize ((List.range d).map λ i => (sh.map (term m ps i)).sum).map D.int = nD at *
   generalize (sh.map (·.2)).sum = B at *
   simp [em, hlow, aH]
theorem vH : ∀ (a b : List Int), iK (a.map D.int) (b.map D.int) = (a == b)
 | [], [] => by simp [iK]
 | [], b :: bs => by simp [iK]
 | a :: as, [] => by simp [iK]
 | a :: as, b :: bs => by simp [iK, eqD, vH as bs]
def pairOf : D -> Int × Int
 | .tup [.int k, .int s] => (k, s)
 | _ => (0, 0)
def shOf : D -> List (Int × Int)
 | .tup ds => ds.map pairOf
 | _ => []
def Ef (n : Int) : D -> Bool
 | .tup ds => ((ds.length : Int) == n)
 | _ => false
theorem PB (n : Int) (d : D) (μ : Mu) (h : nc d) : trunc (aK 2 jh) [.int n, d] μ = some (.bl (Ef n d), μ) := by
 apply cF
 cases d with
 | cell n => simp [nc, cLt] at h
 | ro ds => simp [jh, jt, CG, Ef]
 | _ => simp [jh, Ef]
def Pr (φ : FF) : Prop := ∀ (n : Int) (d : D) (μ : Mu), nc d -> φ [.int n, d] μ = some (.bl (Ef n d), μ)
theorem any_ints (μ : Mu) : ∀ ns : List Int, pZ ((ns.map D.int).map thE) μ = some (ns.any (λ n => n != 0), μ)
 | [] => rfl
 | n :: ns => by
  have ih := any_ints μ ns
  rw [List.map_cons, List.map_cons]
  unfold pZ
  show ((yJ (D.int n)).bind λ k => if k = true then some (true, μ) else pZ ((ns.map D.int).map thE) μ) = _
  cases h : (n != 0) with
  | true => simp [yJ, h]
  | false =>
   rw [List.map_map] at ih
   simp [yJ, h, ih]
theorem sum_ints (μ : Mu) : ∀ (ns : List Int) (a : Int), qR a ((ns.map D.int).map thE) μ = some (a + ns.sum, μ)
 | [], a => by simp [qR]
 | n :: ns, a => by
  have ih := sum_ints μ ns (a + n)
  rw [List.map_cons, List.map_cons]
  unfold qR
  show qR (a + n) ((ns.map D.int).map thE) μ = _
  rw [ih, List.sum_cons, Int.add_assoc]
theorem szl {n : Nat} (h : n <= 1000) : n <= sizeLine := Nat.le_trans h (by decide)
theorem Cm {b : Nat} : ∀ (l : List Int), (∀ z ∈ l, Sm b z) -> l.sum.natAbs <= l.length * 2 ^ b
 | [], _ => by simp
 | z :: l, h => by
  have ih := Cm l λ y hy => h y (by simp [hy])
  have hz : z.natAbs < 2 ^ b := h z (by simp)
  rw [List.sum_cons, List.length_cons, Nat.succ_mul]
  have := Int.natAbs_add_le z l.sum
  omega
theorem zu {φ : FF} (hφ : lB φ) (c : Int) (c0 : 0 <= c) (c1 : c < 100) (x : Int) (μ : Mu) : ∀ (js : List Int), (∀ j ∈ js, 0 <= j /\ j < 100) -> ∃ kz : List Int,
  oM ((js.map D.int).map (thG (hName 0) (MC (aa (aq 1) (aa (M2 (aq 0) (mC (.int c)) bw) (aB))) φ) [none, some (.int x)])) μ = some (kz, μ)
 | [], _ => ⟨[], rfl⟩
 | j :: js, hj => by
  obtain ⟨j0, j1⟩ := hj j (by simp)
  obtain ⟨r, er, _⟩ := hφ x (j + c) μ (by omega) (by omega)
  obtain ⟨kz, e⟩ := zu hφ c c0 c1 x μ js λ i hi => hj i (by simp [hi])
  refine ⟨r :: kz, ?_⟩
  rw [List.map_cons, List.map_cons]
  have et : thG (hName 0) (MC (aa (aq 1) (aa (M2 (aq 0) (mC (.int c)) bw) (aB))) φ) [none, some (.int x)] (.int j) μ = some (.int r, μ) := by simp [thG, er]
  unfold oM
  rw [et]
  show Option.map (λ q => (r :: q.1, q.2)) (oM _ μ) = _
  rw [e]
  rfl
theorem xW (kz : List Int) (js : List Int) : ∃ ts : List Int, mF kz (js.map .int) = ts.map .int /\ ts.Perm js := by
 refine ⟨(ju (λ i j => decide (kz.getD i 0 < kz.getD j 0)) js.length).map λ i => js.getD i 0, ?_, ?_⟩
 .unfold mF
  rw [List.length_map, List.map_map]
  apply List.map_congr_left
  intro i hi
  have hin : i < js.length := List.mem_range.mp ((pW _ _).mem_iff.mp hi)
  simp [List.getD, hin]
 .have h := (pW (λ i j => decide (kz.getD i 0 < kz.getD j 0)) js.length).map λ i => js.getD i 0
  rw [L2.range_getD] at h
  exact h
theorem De {ts : List Int} {c : Nat} (hn : ts.Nodup) : (PySem.W.sortI (ts.take c)).Pairwise (· < ·) := by
 have h1 := PySem.W.sortI_rises (ts.take c)
 have h2 : (PySem.W.sortI (ts.take c)).Nodup := (PySem.W.sortI_perm _).nodup_iff.mpr (hn.sublist (List.take_sublist _ _))
 have h3 := h1.and h2
 exact h3.imp λ {a b} h => by have := h.1; have := h.2; omega
def su (φ : FF) : Prop := ∀ (L : List Int) (js : List Int), DlD L -> js ≠ [] -> js.length < 64 -> (∀ j ∈ js, 0 <= j /\ j < 100) -> ∃ (sh : List (Int × Int)) (L' : List Int), φ [.cell 0, .lst (js.map .int)] [some (L.map .int)] = some (.tup (sh.map pairD), [some (L'.map .int)]) /\ DlD L' /\ sh ≠ [] /\ sh.length <= 4 /\ (∀ p ∈ sh, p.1 ∈ js /\ 1 <= p.2 /\ p.2 <= 1000) /\ (js.Nodup -> (sh.map (·.1)).Pairwise (· < ·))
theorem Ai {a b : Nat} {ws cs : List Int} (hw : ∀ w ∈ ws, Sm a w) (hc : ∀ c ∈ cs, Sm b c) (hl : ws.length <= 60) : Sm (a + b + 10) (dot ws cs) := by
 have h := Cm (b := a + b) ((ws.zip cs).map λ p => p.1 * p.2) λ z hz => by
  obtain ⟨⟨w, c⟩, hp, rfl⟩ := List.mem_map.mp hz
  have hm := List.of_mem_zip hp
  exact dY (hw w hm.1) (hc c hm.2)
 unfold dot
 generalize ((ws.zip cs).map λ p => p.1 * p.2).sum = z at *
 rw [List.length_map, List.length_zip] at h
 unfold Sm
 have : min ws.length cs.length * 2 ^ (a + b) < 2 ^ 10 * 2 ^ (a + b) := Nat.mul_lt_mul_of_pos_right (by omega) (Nat.two_pow_pos _)
 rw [<- Nat.pow_add] at this
 rw [Nat.add_comm (a + b) 10]
 omega
theorem Pk (ps : List (List Int)) (μ : Mu) : oNe (.lst (ps.map aH)) (.lst (ps.map aH)) μ = some (.bl false, μ) := by
 have hp : ∀ qs : List (List Int), cV (qs.map aH) = true /\ gF (qs.map aH) <= 1 /\ iK (qs.map aH) (qs.map aH) = true := λ qs => by
  induction qs with
  | nil => exact ⟨by simp [cV], by simp [gF], by simp [iK]⟩
  | cons q qs ih =>
   obtain ⟨a, b, c⟩ := ih
   refine ⟨?_, ?_, ?_⟩
   .rw [List.map_cons, cV, a]; unfold aH; rw [cD, jN]; rfl
   .rw [List.map_cons, gF]; unfold aH at *; rw [gC, lU]; omega
   .rw [List.map_cons, iK, c]; unfold aH; rw [eqD, vH]; simp
 obtain ⟨a, b, c⟩ := hp ps
 unfold oNe
 have e1 : rsv (.lst (ps.map aH)) μ = .lst (ps.map aH) := rfl
 have e2 : cD (.lst (ps.map aH)) = true := by rw [cD]; exact a
 have e3 : gC (.lst (ps.map aH)) < 100 := by rw [gC]; omega
 have e4 : eqD (.lst (ps.map aH)) (.lst (ps.map aH)) = true := by rw [eqD]; exact c
 rw [e1, e2, e4, if_pos ⟨rfl, e3⟩]
 rfl
def xr (many : Int) : List Int := (List.range many.toNat).map λ (k : Nat) => (0 + (k : Int))
theorem OD {many : Int} : cT 0 many.toNat = (xr many).map D.int := by unfold cT xr; rw [List.map_map]; rfl
theorem GZ {many : Int} : (xr many).length = many.toNat := by unfold xr; simp
theorem Gu {many : Int} : ∀ j ∈ xr many, 0 <= j /\ j < many := λ j hj => by
 obtain ⟨k, hk, rfl⟩ := List.mem_map.mp hj
 have := List.mem_range.mp hk
 omega
def Eo (φ : FF) : Prop := ∀ (d : Nat) (ps : List (List Int)) (sh : List (Int × Int)) (μ : Mu), iu μ -> 1 <= d -> d <= 9 -> (∀ p ∈ ps, gb (d + 1) p) -> sh ≠ [] -> sh.length <= 60 -> Iz ps.length sh -> φ [.lst (ps.map aH), .tup (sh.map pairD)] μ = some (aH (yf (lg (d + 1) (rowsOf ps sh) (sh.map (·.2)))), μ)
theorem qD {φ : FF} (hφ : lB φ) (x m : Int) (m1 : 1 <= m) (m2 : m <= 1000) (all : List D) (μ : Mu) : ∀ (ys : List Int), (∀ j ∈ ys, 0 <= j /\ j < 100) -> ∃ sh : List (Int × Int),
  lcL ⟨all, none⟩ (hName 0) bI (MC (aa (aq 0) (aa (M2 (mC (.int 1)) (M2 (MC (aa (aq 1) (aa (M2 (aq 0) (mC (.int 60)) bw) (aB))) φ) (aq 2) oMod) bw) (aB))) oTup) [none, some (.int x), some (.int m)] (ys.map .int) μ = some (sh.map pairD, μ) /\ sh.map (·.1) = ys /\ ∀ p ∈ sh, 1 <= p.2 /\ p.2 <= 1000
 | [], _ => ⟨[], by simp only [List.map_nil]; unfold lcL; simp [bV], rfl, by simp⟩
 | j :: ys, hj => by
  obtain ⟨j0, j1⟩ := hj j (by simp)
  obtain ⟨r, er, _⟩ := hφ x (j + 60) μ (by omega) (by omega)
  obtain ⟨sh, e, hf, hs⟩ := qD hφ x m m1 m2 all μ ys λ i hi => hj i (by simp [hi])
  obtain ⟨q0, q1⟩ := aW (x := r) (m := m) (by omega)
  have eo := eG (x := r) (y := m) μ (by omega)
  refine ⟨(j, 1 + r.fmod m) :: sh, ?_, by rw [List.map_cons, hf], λ p hp => ?_⟩
  .rw [List.map_cons]
   generalize ys.map D.int = YD at *
   unfold lcL
   simp [bV, bI, er, eo, e, pairD]
  .rcases List.mem_cons.mp hp with h | h
   .rw [h]; constructor <;> simp only <;> omega
   .exact hs p h
theorem DP {φ1 φ2 : FF} (h1 : fP φ1) (h2 : lB φ2) : su (trunc (aK 6 (gk φ1 φ2))) := λ L js hL hne hl hj => by
 obtain ⟨x, L1, e1, hx, hL1⟩ := dj h1 hL []
 obtain ⟨kz, e2⟩ := zu h2 3 (by decide) (by decide) x [some (L1.map .int)] js hj
 obtain ⟨ts, e3, hp⟩ := xW kz js
 have hlen : ts.length = js.length := hp.length_eq
 have hpos : 0 < js.length := List.length_pos_iff.mpr hne
 obtain ⟨m, hm⟩ : ∃ m : Int, min 4 (ts.length : Int) = m := ⟨_, rfl⟩
 have hm1 : 1 <= m := by omega
 have hm4 : m <= 4 := by omega
 obtain ⟨q0, q1⟩ := aW (x := x) (m := m) (by omega)
 have eo := eG (x := x) (y := m) [some (L1.map .int)] (by omega)
 have es := Ni (ds := ts.map D.int) (i := 1 + x.fmod m) (μ := [some (L1.map .int)]) (by omega)
 rw [<- List.map_take] at es
 have hsub : ∀ j ∈ PySem.W.sortI (ts.take (1 + x.fmod m).toNat), j ∈ js := λ j hjm => hp.mem_iff.mp (List.mem_of_mem_take ((PySem.W.sortI_perm _).mem_iff.mp hjm))
 have hsl : (PySem.W.sortI (ts.take (1 + x.fmod m).toNat)).length = min (1 + x.fmod m).toNat ts.length := by rw [(PySem.W.sortI_perm _).length_eq, List.length_take]
 have e4 : uN ((ts.take (1 + x.fmod m).toNat).map D.int) = some ((PySem.W.sortI (ts.take (1 + x.fmod m).toNat)).map .int) := by
  unfold uN
  rw [if_pos (by rw [List.length_map, List.length_take]; omega), tE]
 have v4 := lE (i := x) (j := 4) (μ := [some (L1.map .int)]) (by decide) (by decide)
 obtain ⟨w0, w1⟩ := aW (x := x.fdiv 4) (m := 3) (by decide)
 obtain ⟨sz, hsz, esz⟩ := jy (ds := [D.int 3, .int 7, .int 1000]) w0 w1
 have hsz : ∃ z : Int, sz = .int z /\ 1 <= z /\ z <= 1000 := by
  simp only [List.mem_cons, List.not_mem_nil, or_false] at hsz
  rcases hsz with rfl | rfl | rfl <;> exact ⟨_, rfl, by decide, by decide⟩
 obtain ⟨sz, rfl, sz1, sz2⟩ := hsz
 obtain ⟨sh, e5, hf, hs⟩ := qD h2 x sz sz1 sz2 ((PySem.W.sortI (ts.take (1 + x.fmod m).toNat)).map .int) [some (L1.map .int)] (PySem.W.sortI (ts.take (1 + x.fmod m).toNat)) λ j hjm => hj j (hsub j hjm)
 have hris : js.Nodup -> (sh.map (·.1)).Pairwise (· < ·) := λ hn => by
  rw [hf]
  exact De (hp.nodup_iff.mpr hn)
 have hshl : sh.length = min (1 + x.fmod m).toNat ts.length := by rw [<- hsl, <- hf, List.length_map]
 refine ⟨sh, L1, ?_, hL1, λ z => by rw [z] at hshl; simp at hshl; omega, by omega, λ p hpm => ⟨hsub p.1 (by rw [<- hf]; exact List.mem_map.mpr ⟨p, hpm, rfl⟩), hs p hpm⟩, hris⟩
 have z6 : (PySem.W.sortI (ts.take (1 + x.fmod m).toNat)).length <= 1000 := by omega
 have hjl : (js.map D.int).length < 64 := by simpa using hl
 have hl3 : (ts.map D.int).length = ts.length := by simp
 generalize PySem.W.sortI (ts.take (1 + x.fmod m).toNat) = ys at *
 generalize (ts.take (1 + x.fmod m).toNat).map D.int = TK at *
 have hz : (ys.map D.int).length <= 1000 := by simpa using z6
 have elen : cg (.lst (ts.map D.int)) [some (L1.map .int)] = some (.int ts.length, [some (L1.map .int)]) := by rw [pR, hl3]
 have emin : nq (.int 4) (.int (ts.length : Int)) [some (L1.map .int)] = some (.int m, [some (L1.map .int)]) := by rw [KQ, hm]
 generalize (ts.length : Int) = tl at *
 generalize ts.map D.int = TD at *
 generalize js.map D.int = JD at *
 generalize ys.map D.int = YD at *
 generalize sh.map pairD = SD at *
 have key : Ok (aK 6 (gk φ1 φ2) [.cell 0, .lst JD] [some (L.map .int)]) (λ r => r = (.tup SD, [some (L1.map .int)])) := by
  apply eF
  unfold gk
  simp [e1, hjl, dD, e2, e3, elen, emin, eo, es, e4, v4, esz, hz, e5, -pR, -KQ]
 exact fM (sX key) rfl
theorem zG {d : Nat} {rs : List (List Int)} {ss : List Int} (hr : ∀ r ∈ rs, gb (d + 1) r) (hl : rs.length = ss.length) (h60 : rs.length <= 60) (hne : rs ≠ []) (hs : ∀ s ∈ ss, 1 <= s /\ Sm 2000 s) : ∃ (ns : List Int) (c : Int), yf (lg (d + 1) rs ss) = ns ++ [c] /\ ns.length = d /\ (∀ n ∈ ns, Sm 8000 n) /\ 1 <= c /\ Sm 3000 c := by
 have mo := HH (by omega) hr hl h60 hne hs
 obtain ⟨M1', M2', M3'⟩ := xg hr
 have hw : ∀ w ∈ wts (jL rs) rs ss, Sm 2400 w := λ w hw => by
  obtain ⟨⟨s, r⟩, hx, rfl⟩ := List.mem_map.mp hw
  have hm := List.of_mem_zip hx
  exact bc (dY (hs s hm.1).2 (jT M3' (show 0 < bx r by have := (hr r hm.2).b1; omega))) (by omega)
 have hwl : (wts (jL rs) rs ss).length <= 60 := by unfold wts; simp; omega
 have hvs : ∀ z ∈ lg (d + 1) rs ss, Sm 2430 z := λ z hz => by
  obtain ⟨i, hi, rfl⟩ := List.mem_map.mp hz
  exact bc (Ai (a := 2400) (b := 14) hw (λ y hy => iV 10001 (by have := Kw hr (List.mem_range.mp hi) y hy; omega) (by decide)) hwl) (by decide)
 have hv := mo.v
 have hlst := mo.lst
 have hpos := mo.pos
 have hsm := mo.sm
 have hg0 := mo.g0
 clear mo
 generalize jL rs * ss.sum = B at *
 generalize lg (d + 1) rs ss = v at *
 have hvn : v ≠ [] := λ z => by rw [z] at hv; simp at hv
 have hvd : v = v.dropLast ++ [B] := by
  have := List.dropLast_concat_getLast hvn
  rw [List.getLastD_eq_getLast?, List.getLast?_eq_some_getLast hvn] at hlst
  have hlst : v.getLast hvn = B := hlst
  rw [hlst] at this
  exact this.symm
 have hB : B ∈ v := by rw [hvd]; simp
 have hdv : bK 0 v ∣ B.natAbs := ((jk v 0 _).mp (Nat.dvd_refl _)).2 B hB
 have hgle := Nat.le_of_dvd (by omega) hdv
 refine ⟨(v.dropLast).map λ n => n.fdiv (bK 0 v : Nat), B.fdiv (bK 0 v : Nat), ?_, by simp [hv], λ n hn => ?_, ?_, jT hsm (by omega)⟩
 .unfold yf
  generalize bK 0 v = g at *
  conv => lhs; rw [hvd]
  simp
 .obtain ⟨m, hm, rfl⟩ := List.mem_map.mp hn
  exact jT (bc (hvs m ((List.dropLast_sublist v).subset hm)) (by decide)) (by omega)
 .rw [Int.fdiv_eq_ediv_of_nonneg B (by omega)]
  exact (Int.le_ediv_iff_mul_le (by omega)).mpr (by omega)
theorem uP : ∀ qs : List (List Int), cV (qs.map aH) = true /\ gF (qs.map aH) <= 1
 | [] => ⟨by simp [cV], by simp [gF]⟩
 | q :: qs => by
  obtain ⟨a, b⟩ := uP qs
  refine ⟨?_, ?_⟩
  .rw [List.map_cons, cV, a]; unfold aH; rw [cD, jN]; rfl
  .rw [List.map_cons, gF]; unfold aH at *; rw [gC, lU]; omega
def Gr (φ : FF) : Prop := ∀ (ws cs : List Int) (μ : Mu), (∀ w ∈ ws, Sm 9000 w) -> (∀ c ∈ cs, Sm 9000 c) -> φ [aH ws, aH cs] μ = some (.int (dot ws cs), μ)
theorem JP : Gr (trunc (aK 2 cL)) := λ ws cs μ hw hc => by
 apply cF
 have e := yZ (th := thG (jX 2 (bY (hName 0) (bY (hName 1) jU))) (M2 (aq 0) (aq 1) bC) (dD ["one", "other"] [some (aH ws), some (aH cs)] [])) (F := λ p : Int × Int => .tup [D.int p.1, .int p.2]) (g := λ p => p.1 * p.2) (μ := μ) (ws.zip cs) 0 λ p hp => by
  obtain ⟨p1, p2⟩ := p
  have hm := List.of_mem_zip hp
  have := bf (x := p1) (y := p2) μ (hw _ hm.1) (hc _ hm.2) (by decide)
  simp [thG, dD, this]
 have ez := ue (F := D.int) (G := D.int) ws cs
 unfold dot aH
 unfold aH at e
 simp [cL, ez]
 rw [List.map_map] at e
 rw [e]
 simp
structure SpR (d : Nat) (r : List Int) : Prop where
 len : r.length = d + 1
 sm : ∀ x ∈ r, Sm 9000 x
theorem SpR.ne {d : Nat} {r : List Int} (h : SpR d r) : r ≠ [] := λ z => by
 have := h.len
 rw [z] at this
 simp at this
theorem SpR.last {d : Nat} {r : List Int} (h : SpR d r) : atI (r.map D.int) (-1) = some (.int (bx r)) := qp h.ne
theorem SpR.lastS {d : Nat} {r : List Int} (h : SpR d r) : Sm 9000 (bx r) := by
 apply h.sm
 unfold bx
 cases r with
 | nil => exact absurd rfl h.ne
 | cons a b => simp [List.getLastD]
def bey (ns : List Int) (m : Int) (r : List Int) : Bool := decide (m * bx r < dot ns r.dropLast)
theorem yM : ∀ (ns r : List Int), r.length = ns.length + 1 -> dot ns r = dot ns r.dropLast
 | [], r, _ => by simp [dot]
 | n :: ns, [], h => by simp at h
 | n :: ns, [x], h => by simp at h
 | n :: ns, x :: y :: r, h => by
  have := yM ns (y :: r) (by simpa using h)
  rw [pD, List.dropLast_cons₂, pD, this]
def yP (φ : FF) : Prop := ∀ (d : Nat) (ns : List Int) (m : Int) (r : List Int) (μ : Mu), ns.length = d -> (∀ n ∈ ns, Sm 2000 n) -> Sm 2000 m -> SpR d r -> φ [.tup [aH ns, .int m], aH r] μ = some (.bl (bey ns m r), μ)
theorem CZ {φ : FF} (hφ : Gr φ) : yP (trunc (aK 4 (gK φ))) := λ d ns m r μ hl hn hm hr => by
 apply cF
 have e1 := hφ ns r.dropLast μ (λ w h => bc (hn w h) (by decide)) λ c h => hr.sm c ((List.dropLast_sublist _).mem h)
 have e2 : oSl (aH r) none (some (-1)) μ = some (aH r.dropLast, μ) := by
  have := vL (ds := r.map D.int) (μ := μ) (λ z => hr.ne (by simpa using z))
  rw [<- List.map_dropLast] at this
  exact this
 have e3 : oIx (aH r) (.int (-1)) μ = some (.int (bx r), μ) := by
  unfold aH
  rw [um]
  simp [hr.last]
 have e4 := bf (x := m) (y := bx r) μ hm hr.lastS (by decide)
 unfold bey
 generalize aH r.dropLast = RD at *
 generalize aH r = R at *
 generalize aH ns = N at *
 generalize bx r = b at *
 generalize dot ns r.dropLast = S at *
 simp [gK, e1, e2, e3, e4, -um]
def lC (d : Nat) : D -> Bool
 | .tup [.tup ds, .int _] => ds.all isInt && (ds.length == d && (ds.map intOf).any (λ n => n != 0))
 | _ => false
def ThW (t : D) : Prop := nc t /\ ∀ ds m, t = .tup [.tup ds, .int m] -> (∀ i, D.int i ∈ ds -> Sm 2000 i) /\ Sm 2000 m
def fD (d : Nat) : D -> Bool
 | .tup [.tup ds, .int _] => ds.all isInt && ds.length == d
 | _ => false
theorem yQ {d : Nat} {t : D} (h : ¬ ∃ a b, t = .tup [a, b]) : fD d t = false := by
 unfold fD
 split
 .exact absurd ⟨_, _, rfl⟩ h
 .rfl
theorem oG {d : Nat} {t : D} (h : fD d t = false) : lC d t = false := by
 unfold fD at h
 unfold lC
 split at h
 .simp only [Bool.and_eq_false_iff] at h
  rcases h with h | h <;> simp [h]
 .rfl
theorem vM {d : Nat} {t : D} (h : fD d t = true) : ∃ (ns : List Int) (m : Int), t = .tup [aH ns, .int m] /\ ns.length = d := by
 unfold fD at h
 split at h
 .rename_i ds m
  simp only [Bool.and_eq_true, beq_iff_eq] at h
  refine ⟨ds.map intOf, m, ?_, by simpa using h.2⟩
  unfold aH
  rw [<- ints_of h.1]
 .cases h
theorem yz {d : Nat} {ns : List Int} {m : Int} (h : ns.length = d) : lC d (.tup [aH ns, .int m]) = ns.any (λ n => n != 0) := by
 show ((ns.map D.int).all isInt && ((ns.map D.int).length == d && ((ns.map D.int).map intOf).any (λ n => n != 0))) = _
 rw [GX, ints_map]
 simp [h]
theorem Ky {φ1 φ2 φ3 : FF} (h1 : Pr φ1) (h2 : Ed φ2) (h3 : yh φ3) (d : Nat) (t : D) (μ : Mu) (hn : nc t) : trunc (aK 4 (je φ1 φ2 φ3)) [.int d, t] μ = some (.bl (fD d t), μ) := by
 apply cF
 unfold je
 have e1 := h1 2 t μ hn
 by_cases hp : ∃ a b, t = .tup [a, b]
 .obtain ⟨a, b, rfl⟩ := hp
  have na : nc a := gq.mp hn a (by simp)
  have nb : nc b := gq.mp hn b (by simp)
  have e2 := h2 a μ na
  have e3 := h3 b μ nb
  have e1 : φ1 [.int 2, .tup [a, b]] μ = some (.bl true, μ) := e1
  cases a with
  | tup ds =>
   have ei : uG (.tup ds) = ds.all isInt := rfl
   rw [ei] at e2
   have el : ((ds.length : Int) == (d : Int)) = (ds.length == d) := by
    by_cases h : ds.length = d
    .simp [h]
    .have : ¬ (ds.length : Int) = d := by omega
     rw [beq_eq_false_iff_ne.mpr this, beq_eq_false_iff_ne.mpr h]
   have ev : fD d (.tup [.tup ds, b]) = (ds.all isInt && ((ds.length == d) && isInt b)) := by
    cases b <;> simp [fD, isInt]
   rw [ev]
   generalize (ds.length == d) = B at *
   generalize hl : (ds.length : Int) = l at *
   generalize ds.all isInt = A at *
   generalize isInt b = C at *
   cases A <;> cases B <;> simp [e1, e2, e3, hl, el]
  | _ =>
   have e2 : φ2 [_] μ = some (.bl false, μ) := e2
   simp [e1, e2, fD]
 .have e1 : φ1 [.int 2, t] μ = some (.bl false, μ) := by
   rw [e1]
   congr 3
   cases t with
   | tup ds =>
    match ds, hp with
    | [], _ => rfl
    | [a], _ => rfl
    | [a, b], hp => exact absurd ⟨a, b, rfl⟩ hp
    | a :: b :: c :: r, _ =>
     unfold Ef
     simp
     omega
   | _ => rfl
  rw [yQ hp]
  simp [e1]
theorem HW {φ : FF} (h : ∀ (d : Nat) (t : D) (μ : Mu), nc t -> φ [.int d, t] μ = some (.bl (fD d t), μ)) (d : Nat) (t : D) (μ : Mu) (hn : nc t) : trunc (aK 2 (jg φ)) [.int d, t] μ = some (.bl (lC d t), μ) := by
 apply cF
 unfold jg
 have e1 := h d t μ hn
 cases hs : fD d t with
 | false =>
  rw [hs] at e1
  rw [oG hs]
  simp [e1]
 | true =>
  rw [hs] at e1
  obtain ⟨ns, m, rfl, hl⟩ := vM hs
  rw [yz hl]
  have ea := any_ints μ ns
  have es : ∀ μ, Gm (aH ns, μ) = some ((ns.map D.int).map thE, μ) := λ _ => rfl
  have ai : atI [aH ns, D.int m] 0 = some (aH ns) := rfl
  generalize (ns.map D.int).map thE = TH at *
  generalize aH ns = R at *
  simp [e1, es, ea, ai]
def outV (d : Nat) (ps : List (List Int)) (r : List Int) : D -> Bool
 | .tup [.tup ds, .int m] => lC d (.tup [.tup ds, .int m]) && (bey (ds.map intOf) m r && !ps.any (bey (ds.map intOf) m))
 | _ => false
theorem Bm {d : Nat} {ps : List (List Int)} {r : List Int} {t : D} (h : lC d t = false) : outV d ps r t = false := by
 unfold outV
 split
 .rw [h]; rfl
 .rfl
theorem JL {d : Nat} {t : D} (h : lC d t = true) : ∃ (ns : List Int) (m : Int), t = .tup [aH ns, .int m] /\ ns.length = d := by
 cases hs : fD d t with
 | true => exact vM hs
 | false => rw [oG hs] at h; cases h
theorem Bp {d : Nat} {ps : List (List Int)} {r ns : List Int} {m : Int} : outV d ps r (.tup [aH ns, .int m]) = (lC d (.tup [aH ns, .int m]) && (bey ns m r && !ps.any (bey ns m))) := by
 show (lC d (.tup [.tup (ns.map .int), .int m]) && (bey ((ns.map D.int).map intOf) m r && !ps.any (bey ((ns.map D.int).map intOf) m))) = _
 rw [ints_map]
 rfl
def vC (φ : FF) : Prop := ∀ (d : Nat) (ps : List (List Int)) (r : List Int) (t : D) (μ : Mu), 1 <= d -> d <= 9 -> (∀ p ∈ ps, SpR d p) -> SpR d r -> ps.length <= 60 -> ThW t -> φ [.lst (ps.map aH), aH r, t] μ = some (.bl (outV d ps r t), μ)
theorem any_rows {th : D -> eN} {p : List Int -> Bool} {μ : Mu} (ps : List (List Int)) (h : ∀ q ∈ ps, th (aH q) μ = some (.bl (p q), μ)) : pZ ((ps.map aH).map th) μ = some (ps.any p, μ) := by
 have := oU (th := th) (p := λ d => match d with | .tup ds => p (ds.map intOf) | _ => false) (μ := μ) (ps.map aH) λ d hd => by
  obtain ⟨q, hq, rfl⟩ := List.mem_map.mp hd
  rw [h q hq]
  show _ = some (D.bl (p ((q.map D.int).map intOf)), μ)
  rw [ints_map]
 rw [this, List.any_map]
 congr 3
 funext q
 show p ((q.map D.int).map intOf) = p q
 rw [ints_map]
theorem Am {φ1 φ2 : FF} (h1 : ∀ (d : Nat) (t : D) (μ : Mu), nc t -> φ1 [.int d, t] μ = some (.bl (lC d t), μ)) (h2 : yP φ2) : vC (trunc (aK 3 (dh φ1 φ2))) := λ d ps r t μ d1 d9 hp hr hl ht => by
 apply cF
 unfold dh
 have e1 := h1 d t μ ht.1
 have el : ((r.map D.int).length : Int) - 1 = d := by rw [List.length_map, hr.len]; omega
 have elen : cg (aH r) μ = some (.int ((d : Int) + 1), μ) := by
  show some (D.int ((r.map D.int).length : Int), μ) = _
  rw [show ((r.map D.int).length : Int) = (d : Int) + 1 by omega]
 cases hs : lC d t with
 | false =>
  rw [hs] at e1
  rw [Bm hs]
  generalize aH r = R at *
  generalize ps.map aH = PD at *
  simp [elen, e1]
 | true =>
  rw [hs] at e1
  obtain ⟨ns, m, rfl, hn⟩ := JL hs
  obtain ⟨q1, q2⟩ := ht.2 _ _ rfl
  have q1 : ∀ n ∈ ns, Sm 2000 n := λ n hn => q1 n (List.mem_map.mpr ⟨n, hn, rfl⟩)
  have e2 := h2 d ns m r μ hn q1 q2 hr
  have e3 := any_rows (th := thG (hName 0) (MC (aa (aq 1) (aa (aq 0) (aB))) φ2) [none, some (.tup [aH ns, .int m])]) (p := bey ns m) (μ := μ) ps λ q hq => by
   have := h2 d ns m q μ hn q1 q2 (hp q hq)
   generalize aH q = Q at *
   generalize D.tup [aH ns, .int m] = W at *
   simp [thG, this]
  rw [Bp, hs]
  generalize ps.any (bey ns m) = A at *
  generalize bey ns m r = B at *
  generalize D.tup [aH ns, .int m] = W at *
  generalize aH r = R at *
  generalize hM : (ps.map aH).map (thG (hName 0) (MC (aa (aq 1) (aa (aq 0) (aB))) φ2) [none, some W]) = TH at *
  generalize ps.map aH = PD at *
  cases B with
  | false => simp [elen, e1, e2]
  | true => simp [elen, e1, e2, dD, hM, e3]
def wu (φ : FF) : Prop := ∀ (d : Nat) (ns r : List Int) (μ : Mu), d <= 9 -> ns.length = d -> (∀ n ∈ ns, Sm 2000 n) -> SpR d r -> φ [aH ns, aH r] μ = some (.tup [.int (dot ns r.dropLast), .int (bx r)], μ)
theorem wg : wu (trunc (aK 2 lZ)) := λ d ns r μ d9 hl hn hr => by
 apply cF
 have ez := ue (F := D.int) (G := D.int) ns r
 have ec := gY (all := kh (ns.map D.int) (r.map D.int)) (h := jX 2 (bY (hName 0) (bY (hName 1) (jU)))) (fe := M2 (aq 0) (aq 1) bC) (δb := [none, none]) (F := λ p : Int × Int => D.tup [.int p.1, .int p.2]) (f := λ p => D.int (p.1 * p.2)) (μ := μ) (ns.zip r) λ p hp => by
  obtain ⟨p1, p2⟩ := p
  have hm := List.of_mem_zip hp
  have := bf (x := p1) (y := p2) μ (hn _ hm.1) (hr.sm _ hm.2) (by decide)
  exact ⟨[some (.int p1), some (.int p2)], by simp, by simp [this]⟩
 rw [<- ez] at ec
 have es := sum_ints μ ((ns.zip r).map λ p => p.1 * p.2) 0
 have ed : ((ns.zip r).map λ p => p.1 * p.2).sum = dot ns r.dropLast := yM ns r (by rw [hr.len, hl])
 rw [ed, Int.zero_add] at es
 have e3 : oIx (aH r) (.int (-1)) μ = some (.int (bx r), μ) := by
  unfold aH
  rw [um]
  simp [hr.last]
 have f1 : fU (aH ns) = some (ns.map D.int) := rfl
 have f2 : fU (aH r) = some (r.map D.int) := rfl
 have fm : (ns.zip r).map (λ p => D.int (p.1 * p.2)) = ((ns.zip r).map λ p => p.1 * p.2).map D.int := by simp
 rw [fm] at ec
 have zz : (kh (ns.map D.int) (r.map D.int)).length <= 1000 := by rw [ez]; simp; omega
 generalize ((ns.zip r).map λ p => p.1 * p.2).map D.int = M at *
 generalize aH ns = N at *
 generalize aH r = R at *
 generalize dot ns r.dropLast = S at *
 generalize bx r = b at *
 unfold lZ
 simp [f1, f2, zz, dD, ec, es, e3, -um]
def BK (φ : FF) : Prop := ∀ (m S b : Int) (μ : Mu), Sm 2000 m -> Sm 9000 b -> Sm 20000 S -> φ [.tup [.int m, .int 1], .tup [.int S, .int b]] μ = some (.bl (decide (m * b < S)), μ)
theorem Hj : BK (trunc (aK 2 jO)) := λ m S b μ hm hb hS => by
 apply cF
 have e1 := bf (x := m) (y := b) μ hm hb (by decide)
 have e2 := bf (x := S) (y := 1) (b := 1) μ hS (by unfold Sm; decide) (by decide)
 rw [Int.mul_one] at e2
 have a0 : ∀ x y : D, atI [x, y] 0 = some x := λ _ _ => rfl
 have a1 : ∀ x y : D, atI [x, y] 1 = some y := λ _ _ => rfl
 unfold jO
 simp [e1, e2, a0, a1]
theorem zN : ∀ (ns : List Int) (k : Nat), (∀ n ∈ ns, Sm k n) -> Sm (k + ns.length) ns.sum
 | [], k, _ => by unfold Sm; exact Nat.pos_of_ne_zero (by simp)
 | n :: ns, k, h => by
  have h1 := zN ns k λ x hx => h x (by simp [hx])
  rw [List.sum_cons, List.length_cons]
  exact tO (bc (h n (by simp)) (Nat.le_add_right _ _)) h1
theorem Kd {ns r : List Int} {d : Nat} (hl : ns.length = d) (hn : ∀ n ∈ ns, Sm 2000 n) (hr : SpR d r) (hd : d <= 9) : Sm 20000 (dot ns r.dropLast) := by
 unfold dot
 have := zN ((ns.zip r.dropLast).map λ p => p.1 * p.2) 11000 λ x hx => by
  obtain ⟨p, hp, rfl⟩ := List.mem_map.mp hx
  have hm := List.of_mem_zip (a := p.1) (b := p.2) hp
  exact dY (a := 2000) (b := 9000) (hn _ hm.1) (hr.sm _ ((List.dropLast_sublist _).mem hm.2))
 refine bc this ?_
 simp
 omega
def yK (φ : FF) : Prop := ∀ (d : Nat) (ns : List Int) (m : Int) (ps : List (List Int)) (μ : Mu), d <= 9 -> ns.length = d -> (∀ n ∈ ns, Sm 2000 n) -> Sm 2000 m -> (∀ p ∈ ps, SpR d p) -> ps.length <= 60 -> φ [.tup [aH ns, .int m], .lst (ps.map aH)] μ = some (.bl (!ps.any (bey ns m)), μ)
theorem behind_of {φ1 φ2 : FF} (h1 : wu φ1) (h2 : BK φ2) : yK (trunc (aK 2 (jf φ1 φ2))) := λ d ns m ps μ d9 hl hn hm hp hpl => by
 apply cF
 have a0 : ∀ x y : D, atI [x, y] 0 = some x := λ _ _ => rfl
 have a1 : ∀ x y : D, atI [x, y] 1 = some y := λ _ _ => rfl
 have ec := gY (all := ps.map aH) (h := hName 0) (fe := MC (aa (MC (aa (M2 (aq 1) (mC (.int 1)) oIx) (aa (mC (.int 1)) (aB))) oTup) (aa (MC (aa (M2 (aq 1) (mC (.int 0)) oIx) (aa (aq 0) (aB))) φ1) (aB))) φ2) (δb := [none, some (.tup [aH ns, .int m])]) (F := aH) (f := λ p => D.bl (bey ns m p)) (μ := μ) ps λ p hpm => by
  have hr := hp p hpm
  have e1 := h1 d ns p μ d9 hl hn hr
  have e2 := h2 m (dot ns p.dropLast) (bx p) μ hm hr.lastS (Kd hl hn hr d9)
  refine ⟨[some (aH p), some (.tup [aH ns, .int m])], by simp, ?_⟩
  unfold bey
  generalize aH p = P at *
  generalize aH ns = N at *
  simp [e1, e2, a0, a1]
 have ea : pZ ((ps.map λ p => D.bl (bey ns m p)).map thE) μ = some (ps.any (bey ns m), μ) := by
  have := oU (th := thE) (p := λ d => match d with | .bl k => k | _ => false) (μ := μ) (ps.map λ p => D.bl (bey ns m p)) λ d hd => by
   obtain ⟨q, hq, rfl⟩ := List.mem_map.mp hd
   rfl
  rw [this, List.any_map]
  rfl
 have zz : (ps.map aH).length <= 1000 := by simp; omega
 generalize ps.any (bey ns m) = A at *
 generalize (ps.map λ p => D.bl (bey ns m p)) = M at *
 generalize D.tup [aH ns, .int m] = W at *
 generalize ps.map aH = PD at *
 unfold jf
 simp [zz, dD, ec, ea]
theorem NQ {μ : Mu} (ds : List D) (f : D -> Bool) : yt ((ds.map λ d => D.bl (f d)).map thE) μ = some (ds.all f, μ) := by
 have := rW (th := thE) (p := λ d => match d with | .bl k => k | _ => false) (μ := μ) (ds.map λ p => D.bl (f p)) λ d hd => by
  obtain ⟨q, hq, rfl⟩ := List.mem_map.mp hd
  rfl
 rw [this, List.all_map]
 rfl
theorem Mx {μ : Mu} (ds : List D) (f : D -> Bool) : pZ ((ds.map λ d => D.bl (f d)).map thE) μ = some (ds.any f, μ) := by
 have := oU (th := thE) (p := λ d => match d with | .bl k => k | _ => false) (μ := μ) (ds.map λ p => D.bl (f p)) λ d hd => by
  obtain ⟨q, hq, rfl⟩ := List.mem_map.mp hd
  rfl
 rw [this, List.any_map]
 rfl
theorem Ie {φ : FF} (hφ : yh φ) (d : Nat) (t : D) (μ : Mu) (hn : nc t) (hl : ∀ a b, t = .tup [.tup a, b] -> a.length <= 1000) : trunc (aK 2 (il φ)) [.int d, t] μ = some (.bl (fD d t), μ) := by
 apply cF
 unfold il
 by_cases hp : ∃ a b, t = .tup [a, b]
 .obtain ⟨a, b, rfl⟩ := hp
  have na : nc a := gq.mp hn a (by simp)
  have nb : nc b := gq.mp hn b (by simp)
  have e3 := hφ b μ nb
  have a0 : ∀ x y : D, atI [x, y] 0 = some x := λ _ _ => rfl
  have a1 : ∀ x y : D, atI [x, y] 1 = some y := λ _ _ => rfl
  have ev : fD d (.tup [a, b]) = (isInt b && fD d (.tup [a, .int 0])) := by
   cases b <;> simp [fD, isInt]
   cases a <;> simp [fD]
  rw [ev]
  generalize isInt b = C at *
  cases C with
  | false => simp [e3, a0, a1]
  | true =>
   cases a with
   | tup ds =>
    have ea := NQ (μ := μ) ds isInt
    have ec := pC (all := ds) (h := hName 0) (fe := MC (aa (aq 0) (aB)) φ) (δb := [none]) (f := λ d => D.bl (isInt d)) (μ := μ) ds λ x hx => ⟨[some x], by simp, by simp [hφ x μ (gq.mp na x hx)]⟩
    have zz := hl ds b rfl
    have el : ((ds.length : Int) == (d : Int)) = (ds.length == d) := by
     by_cases h : ds.length = d
     .simp [h]
     .have : ¬ (ds.length : Int) = d := by omega
      rw [beq_eq_false_iff_ne.mpr this, beq_eq_false_iff_ne.mpr h]
    have ev : fD d (.tup [.tup ds, .int 0]) = (ds.all isInt && (ds.length == d)) := rfl
    rw [ev]
    generalize (ds.length == d) = B at *
    generalize hlen : (ds.length : Int) = l at *
    generalize ds.all isInt = A at *
    generalize (ds.map λ d => D.bl (isInt d)) = BM at *
    cases B with
    | false => simp [e3, a0, a1, hlen, el]
    | true => simp [e3, a0, a1, hlen, el, zz, dD, ec, ea]
   | cell n => exact absurd na (by simp [nc, cLt])
   | ro ds => simp [e3, a0, a1, fD, jt, CG]
   | _ => simp [e3, a0, a1, fD]
 .rw [yQ hp]
  cases t with
  | tup ds =>
   have hl2 : ¬ (ds.length : Int) = 2 := λ z => by
    match ds, hp, z with
    | [a, b], hp, _ => exact hp ⟨a, b, rfl⟩
    | [], _, z => simp at z
    | [a], _, z => simp at z
    | a :: b :: c :: r, _, z => simp at z; omega
   have hl3 : ((ds.length : Int) == 2) = false := beq_eq_false_iff_ne.mpr hl2
   generalize hlen : (ds.length : Int) = l at *
   simp [hlen, hl3]
  | cell n => exact absurd hn (by simp [nc, cLt])
  | ro ds => simp [jt, CG]
  | _ => simp
theorem Ls (ns : List Int) (μ : Mu) (all : List D) : lcL ⟨all, none⟩ (hName 0) bI (M2 (aq 0) (mC (.int 0)) oNe) [none] (ns.map D.int) μ = some ((ns.map D.int).map (λ d => D.bl (intOf d != 0)), μ) := by
 exact pC (ns.map D.int) λ d hd => by
  obtain ⟨n, _, rfl⟩ := List.mem_map.mp hd
  exact ⟨[some (.int n)], by simp, by simp [intOf, bne]⟩
theorem HD {φ1 φ2 : FF} (h1 : ∀ (d : Nat) (t : D) (μ : Mu), nc t -> (∀ a b, t = .tup [.tup a, b] -> a.length <= 1000) -> φ1 [.int d, t] μ = some (.bl (fD d t), μ)) (h2 : yK φ2) (d : Nat) (ps : List (List Int)) (r : List Int) (t : D) (μ : Mu) (d1 : 1 <= d) (d9 : d <= 9) (hp : ∀ p ∈ ps, SpR d p) (hr : SpR d r) (hl : ps.length <= 60) (ht : ThW t) (hz : ∀ a b, t = .tup [.tup a, b] -> a.length <= 1000) : trunc (aK 3 (km φ1 φ2)) [.lst (ps.map aH), aH r, t] μ = some (.bl (outV d ps r t), μ) := by
 apply cF
 unfold km
 have e1 := h1 d t μ ht.1 hz
 have elen : cg (aH r) μ = some (.int ((d : Int) + 1), μ) := by
  show some (D.int ((r.map D.int).length : Int), μ) = _
  rw [show ((r.map D.int).length : Int) = (d : Int) + 1 by rw [List.length_map, hr.len]; omega]
 cases hs : fD d t with
 | false =>
  rw [hs] at e1
  rw [Bm (oG hs)]
  generalize aH r = R at *
  generalize ps.map aH = PD at *
  simp [elen, e1]
 | true =>
  rw [hs] at e1
  obtain ⟨ns, m, rfl, hn⟩ := vM hs
  obtain ⟨q1, q2⟩ := ht.2 _ _ rfl
  have q1 : ∀ n ∈ ns, Sm 2000 n := λ n hn => q1 n (List.mem_map.mpr ⟨n, hn, rfl⟩)
  have e2 := h2 d ns m ps μ d9 hn q1 q2 hp hl
  have e3 := h2 d ns m [r] μ d9 hn q1 q2 (λ p hp => by rw [List.mem_singleton.mp hp]; exact hr) (by simp)
  rw [List.map_cons, List.map_nil, List.any_cons, List.any_nil, Bool.or_false] at e3
  have ec := Ls ns μ (ns.map D.int)
  have ea := Mx (μ := μ) (ns.map D.int) (λ d => intOf d != 0)
  have ev : (ns.map D.int).any (λ d => intOf d != 0) = ns.any (λ n => n != 0) := by
   rw [List.any_map]
   rfl
  rw [ev] at ea
  have a0 : atI [aH ns, D.int m] 0 = some (aH ns) := rfl
  have src : ∀ μ, srcOf (aH ns) μ = some ⟨ns.map .int, none⟩ := λ _ => rfl
  have zz : (ns.map D.int).length <= 1000 := by simp; omega
  rw [Bp, yz hn]
  have ix0 : oIx (.tup [aH ns, .int m]) (.int 0) μ = some (aH ns, μ) := by rw [um]; simp [a0]
  generalize ns.any (λ n => n != 0) = Z at *
  generalize ps.any (bey ns m) = A at *
  generalize bey ns m r = B at *
  generalize D.tup [aH ns, .int m] = W at *
  generalize ((ns.map D.int).map λ d => D.bl (intOf d != 0)) = BM at *
  generalize ns.map D.int = ND at *
  generalize aH ns = N at *
  generalize aH r = R at *
  generalize ps.map aH = PD at *
  cases Z with
  | false => simp [elen, e1, ix0, src, zz, dD, ec, ea, -um]
  | true =>
   cases A <;> cases B <;> simp [elen, e1, ix0, src, zz, dD, ec, ea, e2, e3, -um]
theorem sV {d : Nat} : ∀ (ps0 : List D), (∀ p ∈ ps0, mU d p) -> ∃ ps : List (List Int), ps0 = ps.map aH /\ ∀ p ∈ ps, gb (d + 1) p
 | [], _ => ⟨[], rfl, by simp⟩
 | p :: ps0, h => by
  obtain ⟨ps, e, hp⟩ := sV ps0 λ q hq => h q (by simp [hq])
  obtain ⟨ns, b, rfl, h1, h2⟩ := h p (by simp)
  refine ⟨(ns ++ [b]) :: ps, by rw [e]; rfl, λ q hq => ?_⟩
  rcases List.mem_cons.mp hq with z | z
  .rw [z]; exact PtL.row h1
  .exact hp q z
def qm (φ : FF) : Prop := ∀ (d most : Int), 1 <= d -> d <= 3 -> 0 <= most -> most <= 40 -> ∀ (L : List Int), DlD L -> ∃ (ps : List (List Int)) (L' : List Int), φ [.cell 0, .int d, .int most] [some (L.map .int)] = some (.lst (ps.map aH), [some (L'.map .int)]) /\ DlD L' /\ ps ≠ [] /\ ps.length <= 40 /\ ∀ p ∈ ps, gb (d.toNat + 1) p
theorem Ds {φ1 φ2 φ3 : FF} (h1 : oO φ1) (h2 : fP φ2) (h3 : mG φ3) {g : SF}
  (k1 : ∀ (a b c p : D) (μ μ1 μ2 μ3 : Mu), φ1 [a, b, c] μ = some (.lst [], μ1) -> oEq (.lst []) (.lst []) μ1 = some (.bl true, μ1) -> ∀ x : Int, φ2 [a] μ1 = some (.int x, μ2) -> φ3 [.int x, b, .int 2, .int 0] μ2 = some (p, μ2) -> Ok (aK 4 g [a, b, c] μ) (λ r => r = (.lst [p], μ2)))
  (k2 : ∀ (a b c p : D) (ps : List D) (μ μ1 : Mu), φ1 [a, b, c] μ = some (.lst (p :: ps), μ1) -> oEq (.lst (p :: ps)) (.lst []) μ1 = some (.bl false, μ1) -> Ok (aK 4 g [a, b, c] μ) (λ r => r = (.lst (p :: ps), μ1))) : qm (trunc (aK 4 g)) := λ d most d1 d3 m0 m40 L hL => by
 obtain ⟨ps0, L1, e0, hL1, hl, hp⟩ := h1 L [] d most hL iu.nil d1 d3 m0 m40
 obtain ⟨p1, p2⟩ := wH hp
 have en := Ex (ps := ps0) (μ := [some (L1.map .int)]) p1 (by omega)
 cases ps0 with
 | nil =>
  obtain ⟨x, L2, e1, hx, hL2⟩ := dj h2 hL1 []
  obtain ⟨p, e2, hpt⟩ := h3 x d 2 0 [some (L2.map .int)] iu.nil.dr hx d1 d3 (by decide) (by decide) (by decide) (by decide)
  obtain ⟨ps, e, hq⟩ := sV [p] λ q hq => by rw [List.mem_singleton.mp hq]; exact hpt
  have hps : ps.length = 1 := by
   have := congrArg List.length e
   simpa using this.symm
  refine ⟨ps, L2, ?_, hL2, λ z => by rw [z] at hps; simp at hps, by omega, hq⟩
  rw [<- e]
  exact fM (sX (k1 _ _ _ p _ _ _ [] e0 en x e1 e2)) rfl
 | cons p ps0 =>
  obtain ⟨ps, e, hq⟩ := sV (p :: ps0) hp
  have hps : ps.length = (p :: ps0).length := by rw [e]; simp
  refine ⟨ps, L1, ?_, hL1, λ z => by rw [z] at hps; simp at hps, by omega, hq⟩
  rw [<- e]
  exact fM (sX (k2 _ _ _ p ps0 _ _ e0 en)) rfl
theorem Gp {φ1 φ2 φ3 : FF} (h1 : oO φ1) (h2 : fP φ2) (h3 : mG φ3) : qm (trunc (aK 4 (cU φ1 φ2 φ3))) := by
 refine Ds h1 h2 h3 (λ a b c p μ μ1 μ2 μ3 e0 en x e1 e2 => ?_) λ a b c p ps μ μ1 e0 en => ?_
 .apply eF
  unfold cU
  simp [e0, en, e1, e2]
 .apply eF
  unfold cU
  simp [e0, en]
theorem Hs {φ : FF} (hl : nj φ) (ns : List Int) (c x : Int) (μ : Mu) (hm : iu μ) (h1 : 1 <= ns.length) (h3 : ns.length <= 9) (hb : ∀ n ∈ ns, Sm 8000 n) (c1 : 1 <= c) (cs : Sm 3000 c) : ∃ ms : List Int, trunc (aK 5 (lR φ)) [aH (ns ++ [c]), .int x] μ = some (aH ms, μ) /\ SpR ns.length ms := by
 have key : ∃ p, trunc (aK 5 (lR φ)) [aH (ns ++ [c]), .int x] μ = some (p, μ) /\ ∃ ms : List Int, p = aH ms /\ SpR ns.length ms := by
  apply Ci hm
  apply eF
  unfold lR
  have hne : (ns ++ [c]).map D.int ≠ [] := by simp
  have einit := vL (μ := μ) hne
  have edl : ((ns ++ [c]).map D.int).dropLast = ns.map D.int := by rw [<- List.map_dropLast]; simp
  rw [edl] at einit
  have elast := qp (ns := ns ++ [c]) (by simp)
  have el1 : (ns ++ [c]).getLastD 0 = c := by simp
  rw [el1] at elast
  obtain ⟨i0, i1⟩ := aW (x := x) (m := ns.length) (by omega)
  have wm := eG (x := x) (y := (ns.length : Int)) μ (by omega)
  have hlen : cg (aH (ns ++ [c])) μ = some (.int ((ns.length : Int) + 1), μ) := by simp
  have v3 := lE (i := x) (j := 3) (μ := μ) (by decide) (by decide)
  have v12 := λ μ => lE (i := x) (j := 12) (μ := μ) (by decide) (by decide)
  obtain ⟨j0, j1⟩ := aW (x := x.fdiv 3) (m := 4) (by decide)
  obtain ⟨sz, hsz, esz⟩ := jy (ds := [D.int 1000, .int 1, .int 3, .int 1000000]) j0 j1
  have hsz : ∃ z : Int, sz = .int z /\ 1 <= z /\ z <= 1000000 := by
   simp only [List.mem_cons, List.not_mem_nil, or_false] at hsz
   rcases hsz with rfl | rfl | rfl | rfl <;> exact ⟨_, rfl, by decide, by decide⟩
  obtain ⟨sz, rfl, sz1, sz2⟩ := hsz
  obtain ⟨k0, k1⟩ := aW (x := x.fdiv 12) (m := 2) (by decide)
  obtain ⟨sg, hsg, esg⟩ := jy (ds := [D.int 1, .int (-1)]) k0 k1
  have hsg : ∃ z : Int, sg = .int z /\ z.natAbs <= 1 := by
   simp only [List.mem_cons, List.not_mem_nil, or_false] at hsg
   rcases hsg with rfl | rfl <;> exact ⟨_, rfl, by decide⟩
  obtain ⟨sg, rfl, sg1⟩ := hsg
  have hssz : Sm 20 sz := iV 1000001 (by omega) (by decide)
  have el := gY (all := ns.map D.int) (h := hName 0) (fe := M2 (aq 0) (aq 1) bC) (δb := [none, some (.int sz)]) (F := D.int) (f := λ n => .int (n * sz)) (μ := μ) ns λ n hn => ⟨_, rfl, by
   have := bf (x := n) (y := sz) μ (hb n hn) hssz (by decide)
   simp [this]⟩
  have el' : ns.map (λ n => D.int (n * sz)) = (ns.map (· * sz)).map D.int := by simp
  rw [el'] at el
  have hvb : ∀ v ∈ ns.map (· * sz), Sm 8020 v := λ v hv => by
   obtain ⟨n, hn, rfl⟩ := List.mem_map.mp hv
   exact dY (hb n hn) hssz
  generalize hvs : ns.map (· * sz) = vs at *
  have hvl : vs.length = ns.length := by rw [<- hvs]; simp
  generalize x.fmod ns.length = i at *
  obtain ⟨ai, hvi⟩ := jG (ys := vs) (k := i) i0 (by omega)
  have hvis := hvb _ hvi
  generalize vs.getD i.toNat 0 = vi at *
  have hix : ixN (vs.map D.int).length i = some i.toNat := by unfold ixN; rw [if_pos i0, if_pos (by simp; omega)]
  have hset : (vs.map D.int).set i.toNat (.int (vi + sg * c)) = (vs.set i.toNat (vi + sg * c)).map D.int := by rw [List.map_set]
  have hwl : (vs.set i.toNat (vi + sg * c)).length = ns.length := by simp [hvl]
  have m1 := λ μ => bf (x := sg) (y := c) μ (show Sm 1 sg by unfold Sm; omega) cs (by decide)
  have hsc : Sm 8020 (sg * c) := bc (dY (show Sm 1 sg by unfold Sm; omega) cs) (by decide)
  have hws : ∀ w ∈ vs.set i.toNat (vi + sg * c), Sm 8021 w := λ w hw => by
   rcases List.mem_or_eq_of_mem_set hw with z | z
   .exact bc (hvb w z) (by decide)
   .rw [z]; exact tO hvis hsc
  generalize sg * c = sc at *
  generalize vs.set i.toNat (vi + sc) = ws at *
  have m2 := λ μ => bf (x := c) (y := sz) μ cs hssz (by decide)
  have hcz : 1 <= c * sz := by
   have := Int.mul_le_mul c1 sz1 (by decide) (by omega)
   omega
  have hczs : Sm 4000 (c * sz) := bc (dY cs hssz) (by decide)
  generalize c * sz = cz at *
  have em := hl ws cz (μ ++ [none]) (by omega) hczs (by omega) (λ z => by rw [z] at hwl; simp at hwl; omega)
  have hR : D.tup ((ws ++ [cz]).map λ n => .int (n.fdiv (sgn cz * (bK cz.natAbs ws : Nat)))) = aH ((ws ++ [cz]).map λ n => n.fdiv (sgn cz * (bK cz.natAbs ws : Nat))) := by
   unfold aH
   rw [List.map_map]
   rfl
  rw [hR] at em
  have hsp : SpR ns.length ((ws ++ [cz]).map λ n => n.fdiv (sgn cz * (bK cz.natAbs ws : Nat))) := ⟨by simp [hwl], λ m hm => by
   obtain ⟨n, hn, rfl⟩ := List.mem_map.mp hm
   have e1 : sgn cz = 1 := if_pos (by omega)
   have g0 : bK cz.natAbs ws ≠ 0 := jP (.inl (by omega))
   rw [e1, Int.one_mul]
   refine bc (jT (a := 8021) ?_ (by omega)) (by decide)
   rcases List.mem_append.mp hn with z | z
   .exact hws n z
   .rw [List.mem_singleton.mp z]; exact bc hczs (by decide)⟩
  generalize ((ws ++ [cz]).map λ n => n.fdiv (sgn cz * (bK cz.natAbs ws : Nat))) = ms at *
  have hz : ns.length <= 1000 := by omega
  have hlenm : (ns.map D.int).length = ns.length := by simp
  generalize hnD : ns.map D.int = nD at *
  generalize vs.map D.int = vD at *
  generalize ws.map D.int = wD at *
  have hfin : nc (aH ms) /\ ∃ ms' : List Int, aH ms = aH ms' /\ SpR ns.length ms' := ⟨gq.mpr iZ, ms, rfl, hsp⟩
  clear hsp
  generalize aH ms = RM at *
  have eit : ∀ μ, bL (aH (ns ++ [c])) μ = some ((ns ++ [c]).map .int) := λ μ => rfl
  have esl : oSl (aH (ns ++ [c])) none (some (-1)) μ = some (.tup nD, μ) := einit
  generalize aH (ns ++ [c]) = SP at *
  generalize (ns ++ [c]).map D.int = spD at *
  simp [hlen, wm, v3, esz, esl, dD, hlenm, hz, el, ai, v12, esg, eit, elast, m1, L3.yF, hix, hset, m2, em]
  exact hfin
 obtain ⟨p, e, ms, rfl, h⟩ := key
 exact ⟨ms, e, h⟩
theorem gb.sp {d : Nat} {r : List Int} (h : gb (d + 1) r) : SpR d r := ⟨h.len, λ x hx => bc (iV (b := 14) 10001 (by have := h.sm x hx; omega) (by decide)) (by decide)⟩
def yX (φ : FF) : Prop := ∀ (ns : List Int) (c x : Int) (μ : Mu), iu μ -> 1 <= ns.length -> ns.length <= 9 -> (∀ n ∈ ns, Sm 8000 n) -> 1 <= c -> Sm 3000 c -> ∃ ms : List Int, φ [aH (ns ++ [c]), .int x] μ = some (aH ms, μ) /\ SpR ns.length ms
def Bq (φ : FF) : Prop := ∀ (d : Int) (ps : List (List Int)) (L : List Int), 1 <= d -> d <= 3 -> ps ≠ [] -> ps.length <= 40 -> (∀ p ∈ ps, gb (d.toNat + 1) p) -> DlD L -> ∃ (r L' : List Int), φ [.cell 0, .lst (ps.map aH), .int d] [some (L.map .int)] = some (aH r, [some (L'.map .int)]) /\ DlD L' /\ SpR d.toNat r
theorem Hy {φ1 φ2 φ3 φ4 φ5 : FF} (h1 : fP φ1) (h2 : mG φ2) (h3 : su φ3) (h4 : Eo φ4) (h5 : yX φ5) : Bq (trunc (aK 5 (gR φ1 φ2 φ3 φ4 φ5))) := λ d ps L d1 d3 hne hl hp hL => by
 obtain ⟨x, L1, e1, hx, hL1⟩ := dj h1 hL []
 have v6 := λ μ => lE (i := x) (j := 6) (μ := μ) (by decide) (by decide)
 obtain ⟨c0, c1⟩ := aW (x := x) (m := 6) (by decide)
 obtain ⟨y0, y1⟩ := aW (x := x.fdiv 6) (m := 3) (by decide)
 have hd6 : Dr (x.fdiv 6) := by
  obtain ⟨x0, x1⟩ := hx
  rw [Int.fdiv_eq_ediv_of_nonneg _ (by decide)]
  exact ⟨by omega, by omega⟩
 obtain ⟨many, hmany⟩ : ∃ z : Int, z = ps.length := ⟨_, rfl⟩
 have hm1 : 1 <= many := by
  have := List.length_pos_iff.mpr hne
  omega
 have elen : ∀ μ, cg (.lst (ps.map aH)) μ = some (.int many, μ) := λ μ => by rw [pR, List.length_map, hmany]
 have hen : ∀ μ, oEq (.lst (ps.map aH)) (.lst []) μ = some (.bl false, μ) := λ μ => by
  obtain ⟨p1, p2⟩ := uP ps
  rw [Ex p1 (by omega)]
  cases ps with
  | nil => exact absurd rfl hne
  | cons a b => rfl
 obtain ⟨p, ep, hpt⟩ := h2 (x.fdiv 6) d ((x.fdiv 6).fmod 3) 0 [some (L1.map .int)] iu.nil.dr hd6 d1 d3 y0 (by omega) (by decide) (by decide)
 obtain ⟨a0, a1⟩ := aW (x := x.fdiv 6) (m := many) (by omega)
 have wa := eG (x := x.fdiv 6) (y := many) [some (L1.map .int)] (by omega)
 obtain ⟨xa, ra⟩ := wV hp (k := (x.fdiv 6).fmod many) a0 (by omega)
 obtain ⟨sh, L5, e5, hL5, hn2, hq2, hs2, _⟩ := h3 L1 (xr many) hL1 (λ z => by
  have := congrArg List.length z
  rw [GZ] at this; simp at this; omega) (by rw [GZ]; omega) (λ j hj => by have := Gu j hj; omega)
 have rl := RQ (j := many) (μ := [some (L1.map .int)]) (by omega) (szl (by omega)) (by omega)
 rw [OD] at rl
 have hso : Iz ps.length sh := λ p hp => by
  obtain ⟨q1, q2, q3⟩ := hs2 p hp
  have := Gu _ q1
  exact ⟨by omega, by omega, q2, bc (iV (b := 10) 1001 (by omega) (by decide)) (by decide)⟩
 have e6 := h4 d.toNat ps sh [some (L5.map .int)] iu.nil.dr (by omega) (by omega) hp hn2 (by omega) hso
 obtain ⟨vs, c, hv, hvl, hvb, hc1, cs⟩ := zG (d := d.toNat) (rs := rowsOf ps sh) (ss := sh.map (·.2)) (vA hp hso) (by unfold rowsOf; simp) (by unfold rowsOf; simp; omega) (by unfold rowsOf; simpa using hn2) (λ s h => by
  obtain ⟨x, hx, rfl⟩ := List.mem_map.mp h
  exact ⟨(hso x hx).2.2.1, (hso x hx).2.2.2⟩)
 rw [hv] at e6
 obtain ⟨ms, e7, hms⟩ := h5 vs c (x.fdiv 6) [some (L5.map .int)] iu.nil.dr (by omega) (by omega) hvb hc1 cs
 rw [hvl] at hms
 have hspot : SpR d.toNat (vs ++ [c]) := ⟨by simp [hvl], λ y hy => by
  rcases List.mem_append.mp hy with z | z
  .exact bc (hvb y z) (by decide)
  .rw [List.mem_singleton.mp z]; exact bc cs (by decide)⟩
 generalize hc : x.fmod 6 = cc at *
 generalize hx6 : x.fdiv 6 = x6 at *
 have hcc : cc = 0 ∨ cc = 1 ∨ (1 < cc /\ cc < 4) ∨ (4 <= cc) := by omega
 have key : ∀ (r : List Int) (L' : List Int), DlD L' -> SpR d.toNat r -> Ok (aK 5 (gR φ1 φ2 φ3 φ4 φ5) [.cell 0, .lst (ps.map aH), .int d] [some (L.map .int)]) (λ q => q = (aH r, [some (L'.map .int)])) -> ∃ (r L' : List Int), trunc (aK 5 (gR φ1 φ2 φ3 φ4 φ5)) [.cell 0, .lst (ps.map aH), .int d] [some (L.map .int)] = some (aH r, [some (L'.map .int)]) /\ DlD L' /\ SpR d.toNat r := λ r L' hL' hr h => ⟨r, L', fM (sX h) rfl, hL', hr⟩
 rcases hcc with h0 | h0 | h0 | h0
 .obtain ⟨ns, b, rfl, hpl, _⟩ := hpt
  refine key (ns ++ [b]) L1 hL1 hpl.row.sp ?_
  have hR : D.tup ((ns ++ [b]).map .int) = aH (ns ++ [b]) := rfl
  rw [hR] at ep
  generalize aH (ns ++ [b]) = R at *
  generalize ps.map aH = PD at *
  apply eF
  unfold gR
  subst h0
  simp [e1, hen, hc, v6, hx6, ep]
 .refine key _ L1 hL1 ra.sp ?_
  generalize aH (ps.getD (x6.fmod many).toNat []) = R at *
  generalize ps.map aH = PD at *
  apply eF
  unfold gR
  subst h0
  simp [e1, hen, hc, v6, hx6, elen, wa, xa, -pR]
 .refine key _ L5 hL5 hspot ?_
  generalize aH (vs ++ [c]) = R at *
  generalize ps.map aH = PD at *
  generalize (xr many).map D.int = JD at *
  apply eF
  unfold gR
  have n0 : (cc == 0) = false := beq_eq_false_iff_ne.mpr (by omega)
  have n1 : (cc == 1) = false := beq_eq_false_iff_ne.mpr (by omega)
  have n4 : cc < 4 := h0.2
  simp [e1, hen, hc, n0, n1, n4, elen, rl, e5, e6, -pR]
 .refine key ms L5 hL5 hms ?_
  generalize aH (vs ++ [c]) = R at *
  generalize aH ms = MS at *
  generalize ps.map aH = PD at *
  generalize (xr many).map D.int = JD at *
  apply eF
  unfold gR
  have n0 : (cc == 0) = false := beq_eq_false_iff_ne.mpr (by omega)
  have n1 : (cc == 1) = false := beq_eq_false_iff_ne.mpr (by omega)
  have n4 : ¬ cc < 4 := by omega
  simp [e1, hen, hc, n0, n1, n4, elen, rl, e5, e6, v6, hx6, e7, -pR]
def Cg (φ : FF) : Prop := ∀ (d : Int) (L : List Int), 1 <= d -> d <= 3 -> DlD L -> ∃ (ns L' : List Int), φ [.cell 0, .int d] [some (L.map .int)] = some (aH ns, [some (L'.map .int)]) /\ DlD L' /\ ns.length = d.toNat /\ ∀ n ∈ ns, Sm 21 n
theorem El {φ : FF} (hφ : lB φ) (x z : Int) (z1 : 1 <= z) (z2 : z <= 1000000) (all : List D) (μ : Mu) : ∀ (its : List D), (∀ i ∈ its, ∃ k : Int, i = .int k /\ 0 <= k /\ k < 100) -> ∃ ns : List Int,
  lcL ⟨all, none⟩ (hName 0) bI (M2 (M2 (MC (aa (M2 (aq 1) (mC (.int 4)) oDiv) (aa (M2 (aq 0) (mC (.int 1)) bw) (aB))) φ) (M2 (M2 (mC (.int 2)) (aq 2) bC) (mC (.int 1)) bw) oMod) (aq 2) cu) [none, some (.int x), some (.int z)] its μ = some (ns.map .int, μ) /\ ns.length = its.length /\ ∀ n ∈ ns, Sm 21 n
 | [], _ => ⟨[], by unfold lcL; simp [bV], rfl, λ n h => by cases h⟩
 | i :: its, h => by
  obtain ⟨k, rfl, k0, k1⟩ := h i (by simp)
  obtain ⟨ns, e, hl, hs⟩ := El hφ x z z1 z2 all μ its λ j hj => h j (by simp [hj])
  have v4 := lE (i := x) (j := 4) (μ := μ) (by decide) (by decide)
  obtain ⟨r, er, hr⟩ := hφ (x.fdiv 4) (k + 1) μ (by omega) (by omega)
  have em := bf (x := 2) (y := z) (a := 2) (b := 20) μ (iV 3 (by decide) (by decide)) (iV 1000001 (by omega) (by decide)) (by decide)
  obtain ⟨m0, m1⟩ := aW (x := r) (m := 2 * z + 1) (by omega)
  have wm := eG (x := r) (y := 2 * z + 1) μ (by omega)
  generalize hq : r.fmod (2 * z + 1) = q at *
  refine ⟨(q - z) :: ns, ?_, by simp [hl], λ n hn => ?_⟩
  .unfold lcL
   simp [bV, bI, v4, er, em, wm, e]
  .rcases List.mem_cons.mp hn with w | w
   .rw [w]; exact iV 1000001 (by omega) (by decide)
   .exact hs n w
theorem Gg {φ1 φ2 : FF} (h1 : fP φ1) (h2 : lB φ2) : Cg (trunc (aK 4 (oH φ1 φ2))) := λ d L d1 d3 hL => by
 obtain ⟨x, L1, e1, hx, hL1⟩ := dj h1 hL []
 obtain ⟨i0, i1⟩ := aW (x := x) (m := 4) (by decide)
 obtain ⟨sz, hsz, esz⟩ := jy (ds := [D.int 2, .int 5, .int 1000, .int 1000000]) i0 i1
 have hsz : ∃ z : Int, sz = .int z /\ 1 <= z /\ z <= 1000000 := by
  simp only [List.mem_cons, List.not_mem_nil, or_false] at hsz
  rcases hsz with rfl | rfl | rfl | rfl <;> exact ⟨_, rfl, by decide, by decide⟩
 obtain ⟨z, rfl, z1, z2⟩ := hsz
 obtain ⟨ns, e2, hl, hs⟩ := El h2 x z z1 z2 (cT 0 d.toNat) [some (L1.map .int)] (cT 0 d.toNat) λ i hi => by
  obtain ⟨k, e, k0, k1⟩ := mJ hi
  exact ⟨k, e, k0, by omega⟩
 rw [fQ] at hl
 refine ⟨ns, L1, ?_, hL1, hl, hs⟩
 have rd := uv (j := d) (μ := [some (L1.map .int)]) (by omega) (by omega)
 have zd : (cT 0 d.toNat).length <= 1000 := by rw [fQ]; omega
 generalize cT 0 d.toNat = RG at *
 have key : Ok (aK 4 (oH φ1 φ2) [.cell 0, .int d] [some (L.map .int)]) (λ r => r = (aH ns, [some (L1.map .int)])) := by
  apply eF
  unfold oH
  have rt : D.tup (ns.map .int) = aH ns := rfl
  generalize ns.map D.int = ND at *
  generalize aH ns = R at *
  simp [e1, esz, rd, zd, dD, e2, rt]
 exact fM (sX key) rfl
theorem five {Y1 Y2 Y3 Y4 Y5 : EF} {δ : En} {μ : Mu} {d1 d2 d3 d4 d5 : D} (b1 : Y1 δ μ = some (d1, μ)) (b2 : Y2 δ μ = some (d2, μ)) (b3 : Y3 δ μ = some (d3, μ)) (b4 : Y4 δ μ = some (d4, μ)) (b5 : Y5 δ μ = some (d5, μ)) :
 MC (aa Y1 (aa Y2 (aa Y3 (aa Y4 (aa Y5 aB))))) oLst δ μ = some (.lst [d1, d2, d3, d4, d5], μ) := by
 simp only [Nq, wO, BX, b1, b2, b3, b4, b5, Option.bind_some]
 exact if_pos (szl (by simp))
def ThV (t : D) : Prop := ThW t /\ ∀ a b, t = .tup [.tup a, b] -> a.length <= 1000
theorem MT {a : List D} {b : D} (h1 : ∀ x ∈ a, nc x) (h2 : nc b) (h3 : ∀ i, D.int i ∈ a -> Sm 2000 i) (h4 : ∀ m, b = .int m -> Sm 2000 m) (h5 : a.length <= 1000) : ThV (.tup [.tup a, b]) := by
 refine ⟨⟨gq.mpr λ x hx => ?_, λ ds m e => ?_⟩, λ a' b' e => ?_⟩
 .simp only [List.mem_cons, List.not_mem_nil, or_false] at hx
  rcases hx with rfl | rfl
  .exact gq.mpr h1
  .exact h2
 .cases e; exact ⟨h3, h4 m rfl⟩
 .cases e; exact h5
theorem Kq {t : D} (h : nc t) (k : ∀ a b, t ≠ .tup [.tup a, b]) : ThV t := ⟨⟨h, λ ds m e => absurd e (k _ _)⟩, λ a b e => absurd e (k _ _)⟩
theorem HF {ns : List Int} {t : Int} (h1 : ∀ n ∈ ns, Sm 2000 n) (h2 : Sm 2000 t) (h3 : ns.length <= 1000) : ThV (.tup [.tup (ns.map .int), .int t]) := MT iZ nZ (λ i hi => by
 obtain ⟨j, hj, e⟩ := List.mem_map.mp hi
 cases e
 exact h1 i hj) (λ m e => by cases e; exact h2) (by simpa using h3)
def zm (φ : FF) : Prop := ∀ (ns : List Int) (t x : Int) (μ : Mu), ns ≠ [] -> ns.length <= 9 -> (∀ n ∈ ns, Sm 21 n) -> Sm 100 t -> ∃ th, φ [.tup [aH ns, .int t], .int x] μ = some (th, μ) /\ ThV th
theorem Cu : zm (trunc (aK 5 iI)) := λ ns t x μ hne hl hs ht => by
 suffices h : Ok (trunc (aK 5 iI) [.tup [.tup (ns.map .int), .int t], .int x] μ) (λ r => r.2 = μ /\ ThV r.1) by
  obtain ⟨⟨t, μ'⟩, e, h1, h2⟩ := h
  have h1 : μ' = μ := h1
  subst h1
  exact ⟨t, e, h2⟩
 apply GR
 apply eF
 have s2 : ∀ n ∈ ns, Sm 2000 n := λ n hn => bc (hs n hn) (by decide)
 have t2 : Sm 2000 t := bc ht (by decide)
 have ez := gY (all := ns.map D.int) (h := hName 0) (fe := mC (.int 0)) (δb := [none]) (F := D.int) (f := λ _ => D.int 0) (μ := μ) ns λ n hn => ⟨[some (.int n)], by simp, by simp⟩
 have hz : ns.map (λ _ => D.int 0) = (ns.map λ _ => (0 : Int)).map D.int := by simp
 rw [hz] at ez
 have en := gY (all := ns.map D.int) (h := hName 0) (fe := M2 (mC (.int 0)) (aq 0) cu) (δb := [none]) (F := D.int) (f := λ n => D.int (-n)) (μ := μ) ns λ n hn => ⟨[some (.int n)], by simp, by simp⟩
 have hng : ns.map (λ n => D.int (-n)) = (ns.map λ n => -n).map D.int := by simp
 rw [hng] at en
 have m2 : Sm 2000 (-t) := by unfold Sm at *; rw [Int.natAbs_neg]; exact t2
 have sneg : ∀ n ∈ ns.map (λ n => -n), Sm 2000 n := λ n hn => by
  obtain ⟨k, hk, rfl⟩ := List.mem_map.mp hn
  have := s2 k hk
  unfold Sm at *
  rw [Int.natAbs_neg]
  exact this
 have z0 : Sm 2000 0 := by unfold Sm; decide
 have q1 : ThV (.tup [.tup ((ns.map λ _ => (0 : Int)).map .int), .int t]) := HF (λ n hn => by
  obtain ⟨k, hk, rfl⟩ := List.mem_map.mp hn
  exact z0) t2 (by simp; omega)
 have q2 : ThV (.tup [.tup (ns.map .int ++ [.int 0]), .int t]) := by
  have := HF (ns := ns ++ [0]) (t := t) (λ n hn => by
   rcases List.mem_append.mp hn with z | z
   .exact s2 n z
   .rw [List.mem_singleton.mp z]; exact z0) t2 (by simp; omega)
  simpa using this
 have q3 : ThV (.tup [.tup (ns.map D.int).dropLast, .int t]) := by
  rw [<- List.map_dropLast]
  exact HF (λ n hn => s2 n ((List.dropLast_sublist _).mem hn)) t2 (by simp; omega)
 have nR : nc (.tup (ns.map .int)) := gq.mpr iZ
 have nL : nc (.lst (ns.map .int)) := zX.mpr iZ
 have q4 : ThV (.tup [.lst (ns.map .int), .int t]) := Kq (gq.mpr (by simpa using ⟨nL, nZ⟩)) λ a b e => by simp at e
 have q5 : ThV (.lst [.tup (ns.map .int), .int t]) := Kq (zX.mpr (by simpa using ⟨nR, nZ⟩)) λ a b e => by cases e
 have q6 : ThV (.tup [.tup ((ns.map λ n => -n).map .int), .int (-t)]) := HF sneg m2 (by simp; omega)
 have q7 : ThV (.tup [.tup (ns.map .int), .int t, .int 0]) := Kq (gq.mpr (by simpa using ⟨nR, nZ, nZ⟩)) λ a b e => by simp at e
 have q8 : ThV (.tup [.tup (ns.map .int), .bl (t == 0)]) := MT iZ (by simp [nc, cLt]) (λ i hi => by
  obtain ⟨j, hj, e⟩ := List.mem_map.mp hi
  cases e
  exact s2 i hj) (λ m e => by cases e) (by simp; omega)
 have q9 : ThV (.tup [.tup (D.bl true :: (ns.map D.int).drop 1), .int t]) := MT (λ y hy => by
  rcases List.mem_cons.mp hy with z | z
  .rw [z]; simp [nc, cLt]
  .exact iZ y (List.mem_of_mem_drop z)) nZ (λ i hi => by
  rcases List.mem_cons.mp hi with z | z
  .cases z
  .obtain ⟨j, hj, e⟩ := List.mem_map.mp (List.mem_of_mem_drop z)
   cases e
   exact s2 i hj) (λ m e => by cases e; exact t2) (by simp; omega)
 have q10 : ThV (.tup [.tup (ns.map .int)]) := Kq (gq.mpr (by simpa using nR)) λ a b e => by simp at e
 generalize (ns.map λ _ => (0 : Int)).map D.int = RZ at *
 generalize (ns.map λ n => -n).map D.int = RN at *
 have ei := vL (ds := ns.map D.int) (μ := μ) (λ z => hne (by simpa using z))
 have es := JS (ds := ns.map D.int) (i := 1) (μ := μ) (by decide) (by
  have := List.length_pos_iff.mpr hne
  simp; omega)
 have es : oSl (.tup (ns.map D.int)) (some 1) none μ = some (.tup ((ns.map D.int).drop 1), μ) := es
 have hRl : (ns.map D.int).length <= 9 := by simpa using hl
 have hDl : ((ns.map D.int).drop 1).length <= 9 := by rw [List.length_drop]; omega
 have zR : (ns.map D.int).length <= 1000 := by omega
 have z1 : (ns.map D.int).length + 1 <= sizeLine := szl (by omega)
 have z2 : 1 + ((ns.map D.int).drop 1).length <= sizeLine := szl (by omega)
 have z2' : ((ns.map D.int).drop 1).length + 1 <= sizeLine := szl (by omega)
 generalize hDR : (ns.map D.int).drop 1 = DR at *
 generalize (ns.map D.int).dropLast = DL at *
 generalize ns.map D.int = R at *
 obtain ⟨c0, c1⟩ := aW (x := x) (m := 10) (by decide)
 obtain ⟨th, hth, eth⟩ := jy (ds := [D.tup [.tup RZ, .int t], .tup [.tup (R ++ [.int 0]), .int t], .tup [.tup DL, .int t], .tup [.lst R, .int t], .lst [.tup R, .int t], .tup [.tup RN, .int (-t)], .tup [.tup R, .int t, .int 0], .tup [.tup R, .bl (t == 0)], .tup [.tup (D.bl true :: DR), .int t], .tup [.tup R]]) c0 c1
 have hq : ThV th := by
  simp only [List.mem_cons, List.not_mem_nil, or_false] at hth
  rcases hth with rfl | rfl | rfl | rfl | rfl | rfl | rfl | rfl | rfl | rfl <;> assumption
 unfold iI
 have a1 : ∀ o4, (MC (aa (MC (aa (mFz (lLC ["_law_one"] [] (dJ (aq 2)) (hName 0) (bI) (mC (.int 0)))) (aB)) cW) (aa (aq 3) (aB))) oTup) [some (.tup [.tup R, .int t]), some (.int x), some (.tup R), some (.int t), o4] μ = some (.tup [.tup RZ, .int t], μ) := λ o4 => by simp [zR, dD, ez]
 have a2 : ∀ o4, (MC (aa (M2 (aq 2) (MC (aa (mC (.int 0)) (aB)) oTup) bw) (aa (aq 3) (aB))) oTup) [some (.tup [.tup R, .int t]), some (.int x), some (.tup R), some (.int t), o4] μ = some (.tup [.tup (R ++ [.int 0]), .int t], μ) := λ o4 => by simp [z1]
 have a3 : ∀ o4, (MC (aa (mSl (aq 2) (fNo) (fAt (M1 (mC (.int 1)) dG))) (aa (aq 3) (aB))) oTup) [some (.tup [.tup R, .int t]), some (.int x), some (.tup R), some (.int t), o4] μ = some (.tup [.tup DL, .int t], μ) := λ o4 => by simp [ei]
 have a4 : ∀ o4, (MC (aa (mFz (lOf (aa (aq 2) (aB)))) (aa (aq 3) (aB))) oTup) [some (.tup [.tup R, .int t]), some (.int x), some (.tup R), some (.int t), o4] μ = some (.tup [.lst R, .int t], μ) := λ o4 => by simp [zR]
 have a5 : ∀ o4, (MC (aa (aq 2) (aa (aq 3) (aB))) oLst) [some (.tup [.tup R, .int t]), some (.int x), some (.tup R), some (.int t), o4] μ = some (.lst [.tup R, .int t], μ) := λ o4 => by simp
 have gA : ∀ o4, (MC (aa (MC (aa (MC (aa (mFz (lLC ["_law_one"] [] (dJ (aq 2)) (hName 0) (bI) (mC (.int 0)))) (aB)) cW) (aa (aq 3) (aB))) oTup) (aa (MC (aa (M2 (aq 2) (MC (aa (mC (.int 0)) (aB)) oTup) bw) (aa (aq 3) (aB))) oTup) (aa (MC (aa (mSl (aq 2) (fNo) (fAt (M1 (mC (.int 1)) dG))) (aa (aq 3) (aB))) oTup) (aa (MC (aa (mFz (lOf (aa (aq 2) (aB)))) (aa (aq 3) (aB))) oTup) (aa (MC (aa (aq 2) (aa (aq 3) (aB))) oLst) (aB)))))) oLst) [some (.tup [.tup R, .int t]), some (.int x), some (.tup R), some (.int t), o4] μ = some (.lst [.tup [.tup RZ, .int t], .tup [.tup (R ++ [.int 0]), .int t], .tup [.tup DL, .int t], .tup [.lst R, .int t], .lst [.tup R, .int t]], μ) := λ o4 => five (a1 o4) (a2 o4) (a3 o4) (a4 o4) (a5 o4)
 have b1 : ∀ o4, (MC (aa (MC (aa (mFz (lLC ["_law_one"] [] (dJ (aq 2)) (hName 0) (bI) (M2 (mC (.int 0)) (aq 0) cu))) (aB)) cW) (aa (M2 (mC (.int 0)) (aq 3) cu) (aB))) oTup) [some (.tup [.tup R, .int t]), some (.int x), some (.tup R), some (.int t), o4] μ = some (.tup [.tup RN, .int (-t)], μ) := λ o4 => by simp [zR, dD, en]
 have b2 : ∀ o4, (MC (aa (aq 2) (aa (aq 3) (aa (mC (.int 0)) (aB)))) oTup) [some (.tup [.tup R, .int t]), some (.int x), some (.tup R), some (.int t), o4] μ = some (.tup [.tup R, .int t, .int 0], μ) := λ o4 => by simp
 have b3 : ∀ o4, (MC (aa (aq 2) (aa (M2 (aq 3) (mC (.int 0)) oEq) (aB))) oTup) [some (.tup [.tup R, .int t]), some (.int x), some (.tup R), some (.int t), o4] μ = some (.tup [.tup R, .bl (t == 0)], μ) := λ o4 => by simp
 have b4 : ∀ o4, (MC (aa (M2 (MC (aa (mC (.bl true)) (aB)) oTup) (mSl (aq 2) (fAt (mC (.int 1))) (fNo)) bw) (aa (aq 3) (aB))) oTup) [some (.tup [.tup R, .int t]), some (.int x), some (.tup R), some (.int t), o4] μ = some (.tup [.tup (D.bl true :: DR), .int t], μ) := λ o4 => by simp [es, z2, z2']
 have b5 : ∀ o4, (MC (aa (aq 2) (aB)) oTup) [some (.tup [.tup R, .int t]), some (.int x), some (.tup R), some (.int t), o4] μ = some (.tup [.tup R], μ) := λ o4 => by simp
 have gB : ∀ o4, (MC (aa (MC (aa (MC (aa (mFz (lLC ["_law_one"] [] (dJ (aq 2)) (hName 0) (bI) (M2 (mC (.int 0)) (aq 0) cu))) (aB)) cW) (aa (M2 (mC (.int 0)) (aq 3) cu) (aB))) oTup) (aa (MC (aa (aq 2) (aa (aq 3) (aa (mC (.int 0)) (aB)))) oTup) (aa (MC (aa (aq 2) (aa (M2 (aq 3) (mC (.int 0)) oEq) (aB))) oTup) (aa (MC (aa (M2 (MC (aa (mC (.bl true)) (aB)) oTup) (mSl (aq 2) (fAt (mC (.int 1))) (fNo)) bw) (aa (aq 3) (aB))) oTup) (aa (MC (aa (aq 2) (aB)) oTup) (aB)))))) oLst) [some (.tup [.tup R, .int t]), some (.int x), some (.tup R), some (.int t), o4] μ = some (.lst [.tup [.tup RN, .int (-t)], .tup [.tup R, .int t, .int 0], .tup [.tup R, .bl (t == 0)], .tup [.tup (D.bl true :: DR), .int t], .tup [.tup R]], μ) := λ o4 => five (b1 o4) (b2 o4) (b3 o4) (b4 o4) (b5 o4)
 generalize MC (aa (MC (aa (MC (aa (mFz (lLC ["_law_one"] [] (dJ (aq 2)) (hName 0) (bI) (mC (.int 0)))) (aB)) cW) (aa (aq 3) (aB))) oTup) (aa (MC (aa (M2 (aq 2) (MC (aa (mC (.int 0)) (aB)) oTup) bw) (aa (aq 3) (aB))) oTup) (aa (MC (aa (mSl (aq 2) (fNo) (fAt (M1 (mC (.int 1)) dG))) (aa (aq 3) (aB))) oTup) (aa (MC (aa (mFz (lOf (aa (aq 2) (aB)))) (aa (aq 3) (aB))) oTup) (aa (MC (aa (aq 2) (aa (aq 3) (aB))) oLst) (aB)))))) oLst = XA at *
 generalize MC (aa (MC (aa (MC (aa (mFz (lLC ["_law_one"] [] (dJ (aq 2)) (hName 0) (bI) (M2 (mC (.int 0)) (aq 0) cu))) (aB)) cW) (aa (M2 (mC (.int 0)) (aq 3) cu) (aB))) oTup) (aa (MC (aa (aq 2) (aa (aq 3) (aa (mC (.int 0)) (aB)))) oTup) (aa (MC (aa (aq 2) (aa (M2 (aq 3) (mC (.int 0)) oEq) (aB))) oTup) (aa (MC (aa (M2 (MC (aa (mC (.bl true)) (aB)) oTup) (mSl (aq 2) (fAt (mC (.int 1))) (fNo)) bw) (aa (aq 3) (aB))) oTup) (aa (MC (aa (aq 2) (aB)) oTup) (aB)))))) oLst = XB at *
 clear a1 a2 a3 a4 a5 b1 b2 b3 b4 b5
 simp [gA, gB, eth]
 exact hq
theorem Fq (P N : List Int) (sq far : Int) (hq : Sm 50 sq) (hf : Sm 85 far) (d : Nat) (hN : ∀ n ∈ N, Sm 21 n) (hP : ∀ n ∈ P, Sm 14 n) (lN : N.length = d) (lP : P.length = d + 1) (all : List D) (μ : Mu) : ∀ (its : List D), (∀ i ∈ its, ∃ k : Int, i = .int k /\ 0 <= k /\ k < d) -> ∃ ws : List Int,
  lcL ⟨all, none⟩ (hName 0) bI (M2 (M2 (M2 (mC (.int 1000)) (M2 (aq 1) (aq 0) oIx) bC) (aq 2) bC) (M2 (M2 (aq 3) (aq 0) oIx) (aq 4) bC) bw) [none, some (aH P), some (.int sq), some (aH N), some (.int far)] its μ = some (ws.map .int, μ) /\ ws.length = its.length /\ ∀ n ∈ ws, Sm 110 n
 | [], _ => ⟨[], by unfold lcL; simp [bV], rfl, λ n h => by cases h⟩
 | i :: its, h => by
  obtain ⟨k, rfl, k0, k1⟩ := h i (by simp)
  obtain ⟨ns, e, hl, hs⟩ := Fq P N sq far hq hf d hN hP lN lP all μ its λ j hj => h j (by simp [hj])
  obtain ⟨ap, mp⟩ := jG (ys := P) (k := k) k0 (by omega)
  obtain ⟨an, mn⟩ := jG (ys := N) (k := k) k0 (by omega)
  have sp := hP _ mp
  have sn := hN _ mn
  have xp : oIx (aH P) (.int k) μ = some (.int (P.getD k.toNat 0), μ) := by
   unfold aH
   rw [um]
   simp only [Lq, Option.bind_some, ap, Option.map_some]
  have xn : oIx (aH N) (.int k) μ = some (.int (N.getD k.toNat 0), μ) := by
   unfold aH
   rw [um]
   simp only [Lq, Option.bind_some, an, Option.map_some]
  generalize P.getD k.toNat 0 = p at *
  generalize N.getD k.toNat 0 = n at *
  have m1 := bf (x := 1000) (y := p) (a := 10) (b := 14) μ (iV 1001 (by decide) (by decide)) sp (by decide)
  have s1 : Sm (10 + 14) (1000 * p) := dY (iV 1001 (by decide) (by decide)) sp
  have m2 := bf (x := 1000 * p) (y := sq) μ s1 hq (by decide)
  have s2 := dY s1 hq
  have m3 := bf (x := n) (y := far) μ sn hf (by decide)
  have s3 := dY sn hf
  have sw : Sm 110 (1000 * p * sq + n * far) := bc (tO (bc s2 (by decide : _ <= 109)) (bc s3 (by decide : _ <= 109))) (by decide)
  generalize hw : 1000 * p * sq + n * far = w at *
  generalize 1000 * p * sq = u at *
  generalize 1000 * p = v at *
  generalize n * far = y at *
  refine ⟨w :: ns, ?_, by simp [hl], λ n hn => ?_⟩
  .generalize aH P = PD at *
   generalize aH N = ND at *
   unfold lcL
   simp [bV, bI, xp, xn, m1, m2, m3, hw, e, -um]
  .rcases List.mem_cons.mp hn with z | z
   .rw [z]; exact sw
   .exact hs n z
theorem Qt (ns : List Int) (hs : ∀ n ∈ ns, Sm 21 n) (all : List D) (μ : Mu) : lcL ⟨all, none⟩ (hName 0) bI (M2 (aq 0) (aq 0) bC) [none] (ns.map D.int) μ = some ((ns.map λ n => n * n).map D.int, μ) := by
 rw [List.map_map]
 refine gY (F := D.int) ns λ n hn => ?_
 have em := bf (x := n) (y := n) (a := 21) (b := 21) μ (hs n hn) (hs n hn) (by decide)
 exact ⟨[some (.int n)], by simp, by simp [em]⟩
def HJ (φ : FF) : Prop := ∀ (d : Nat) (ns p : List Int) (t : Int) (L : List Int), 1 <= d -> d <= 3 -> ns.length = d -> (∀ n ∈ ns, Sm 21 n) -> gb (d + 1) p -> Sm 60 t -> DlD L -> ∃ (r L' : List Int), φ [.cell 0, aH ns, .int t, aH p] [some (L.map .int)] = some (aH r, [some (L'.map .int)]) /\ DlD L' /\ SpR d r
theorem FJ : ∀ (ns : List Int), 0 <= (ns.map λ n => n * n).sum
 | [] => by simp
 | n :: ns => by
  have := FJ ns
  have h2 : 0 <= n * n := by
   rcases Int.le_total 0 n with h | h
   .exact Int.mul_nonneg h h
   .exact Int.mul_nonneg_of_nonpos_of_nonpos h h
  simp only [List.map_cons, List.sum_cons]
  omega
theorem Io {φ1 φ2 φ3 : FF} (h1 : wu φ1) (h2 : fP φ2) (h3 : nj φ3) : HJ (trunc (aK 10 (dC φ1 φ2 φ3))) := λ d ns p t L d1 d3 hl hs hp ht hL => by
 have key : ∀ (r : List Int) (L' : List Int), DlD L' -> SpR d r -> Ok (aK 10 (dC φ1 φ2 φ3) [.cell 0, aH ns, .int t, aH p] [some (L.map .int)]) (λ q => q = (aH r, [some (L'.map .int)])) -> ∃ (r L' : List Int), trunc (aK 10 (dC φ1 φ2 φ3)) [.cell 0, aH ns, .int t, aH p] [some (L.map .int)] = some (aH r, [some (L'.map .int)]) /\ DlD L' /\ SpR d r := λ r L' hL' hr h => ⟨r, L', fM (sX h) rfl, hL', hr⟩
 have ec := λ μ => Qt ns hs (ns.map D.int) μ
 have es := λ μ => sum_ints μ (ns.map λ n => n * n) 0
 simp only [Int.zero_add] at es
 have hsq : Sm 50 (ns.map λ n => n * n).sum := bc (zN (ns.map λ n => n * n) 42 λ x hx => by
  obtain ⟨n, hn, rfl⟩ := List.mem_map.mp hx
  exact dY (hs n hn) (hs n hn)) (by simp; omega)
 have hnn := FJ ns
 have src : ∀ μ, srcOf (aH ns) μ = some ⟨ns.map .int, none⟩ := λ _ => rfl
 have zz : (ns.map D.int).length <= 1000 := by simp; omega
 obtain ⟨dd, hdd⟩ : ∃ z : Int, z = d := ⟨_, rfl⟩
 have elen : ∀ μ, cg (aH ns) μ = some (.int dd, μ) := λ μ => by
  show some (D.int ((ns.map D.int).length : Int), μ) = _
  rw [List.length_map, hl, hdd]
 have sqF : ∀ μ, Gm (.lst ((ns.map λ n => n * n).map D.int), μ) = some (((ns.map λ n => n * n).map D.int).map thE, μ) := λ _ => rfl
 generalize hSQ : (ns.map λ n => n * n).sum = sq at *
 by_cases hz : sq = 0
 .refine key p L hL hp.sp ?_
  generalize ((ns.map λ n => n * n).map D.int).map thE = TH at *
  generalize (ns.map λ n => n * n).map D.int = SD at *
  generalize ns.map D.int = ND at *
  generalize aH ns = N at *
  generalize aH p = P at *
  apply eF
  unfold dC
  have hz' : (sq == 0) = true := by simp [hz]
  simp [src, zz, dD, ec, sqF, es, hz']
 .obtain ⟨x, L1, e1, hx, hL1⟩ := dj h2 hL []
  have e2 := h1 d ns p [some (L.map .int)] (by omega) hl (λ n hn => bc (hs n hn) (by decide)) hp.sp
  have hb1 := hp.b1
  have hb2 := hp.b2
  have sb : Sm 6 (bx p) := iV 64 (by omega) (by decide)
  have sP : ∀ n ∈ p, Sm 14 n := λ n hn => iV 10001 (by have := hp.sm n hn; omega) (by decide)
  have stop : Sm 45 (dot ns p.dropLast) := Ai (a := 21) (b := 14) hs (λ c hc => sP c ((List.dropLast_sublist _).mem hc)) (by omega)
  obtain ⟨m0, m1⟩ := aW (x := x) (m := 3) (by decide)
  generalize dot ns p.dropLast = top at *
  generalize bx p = b at *
  generalize hmo : x.fmod 3 = mo at *
  have k1 := bf (x := t) (y := b) [some (L1.map .int)] ht sb (by decide)
  have s1 := dY ht sb
  have s2 : Sm 67 (t * b - top) := tO (bc s1 (by decide)) (show Sm 66 (-top) by
   have := bc stop (by decide : 45 <= 66)
   unfold Sm at *
   rw [Int.natAbs_neg]
   exact this)
  generalize ht1 : t * b = tb at *
  generalize ht2 : tb - top = df at *
  have k2 := bf (x := 1000) (y := df) (a := 10) (b := 67) [some (L1.map .int)] (iV 1001 (by decide) (by decide)) s2 (by decide)
  have s3 : Sm 85 (1000 * df + mo) := bc (tO (bc (dY (a := 10) (iV 1001 (by decide) (by decide)) s2) (by decide : _ <= 78)) (show Sm 78 mo from iV 4 (by omega) (by decide))) (by decide)
  generalize ht3 : 1000 * df + mo = far at *
  generalize 1000 * df = df2 at *
  obtain ⟨ws, e3, hwl, hws⟩ := Fq p ns sq far hsq s3 d hs sP hl hp.len (cT 0 dd.toNat) [some (L1.map .int)] (cT 0 dd.toNat) λ i hi => by
   obtain ⟨k, e, k0, k1⟩ := mJ hi
   exact ⟨k, e, k0, by omega⟩
  rw [fQ] at hwl
  have k3 := bf (x := 1000) (y := sq) (a := 10) (b := 50) [some (L1.map .int)] (iV 1001 (by decide) (by decide)) hsq (by decide)
  have s4 : Sm (10 + 50) (1000 * sq) := dY (iV 1001 (by decide) (by decide)) hsq
  have p4 : 0 < 1000 * sq := by omega
  generalize 1000 * sq = sq2 at *
  have k4 := bf (x := sq2) (y := b) [some (L1.map .int)] s4 sb (by decide)
  have s5 := dY s4 sb
  have p5 : 0 < sq2 * b := Int.mul_pos p4 (by omega)
  generalize sq2 * b = bot at *
  obtain ⟨ms, e4, hml, hms, _⟩ := Oc h3 (b := 110) ws bot [some (L1.map .int)] p5 (bc s5 (by decide)) (by decide) hws (by omega) (λ z => by rw [z] at hwl; simp at hwl; omega)
  refine key ms L1 hL1 ⟨by omega, λ y hy => bc (hms y hy) (by decide)⟩ ?_
  have rd := uv (j := dd) (μ := [some (L1.map .int)]) (by omega) (by omega)
  have zd : (cT 0 dd.toNat).length <= 1000 := by rw [fQ]; omega
  have rt : D.tup (ms.map .int) = aH ms := rfl
  rw [rt] at e4
  generalize cT 0 dd.toNat = RG at *
  generalize ((ns.map λ n => n * n).map D.int).map thE = TH at *
  generalize (ns.map λ n => n * n).map D.int = SD at *
  generalize ns.map D.int = ND at *
  generalize aH ns = N at *
  generalize aH p = P at *
  generalize ws.map D.int = WD at *
  generalize aH ms = MS at *
  apply eF
  unfold dC
  have hz' : (sq == 0) = false := beq_eq_false_iff_ne.mpr hz
  simp [src, zz, dD, ec, sqF, es, hz', e2, e1, hmo, k1, ht2, k2, ht3, elen, rd, zd, e3, k3, k4, e4]
def Gz (φ : FF) : Prop := ∀ (d : Nat) (ns : List Int) (ps : List (List Int)) (μ : Mu), d <= 3 -> ns.length = d -> (∀ n ∈ ns, Sm 21 n) -> ps ≠ [] -> ps.length <= 40 -> (∀ p ∈ ps, gb (d + 1) p) -> ∃ t : Int, φ [aH ns, .lst (ps.map aH)] μ = some (.int t, μ) /\ Sm 50 t
theorem xP : ∀ (l : List Int), l ≠ [] -> lJ l ∈ l
 | [], h => absurd rfl h
 | [a], _ => by simp [lJ]
 | a :: b :: l, _ => by
  unfold lJ
  have := xP (b :: l) (by simp)
  by_cases hab : a <= lJ (b :: l)
  .rw [Int.max_eq_right hab]; exact List.mem_cons_of_mem _ this
  .rw [Int.max_eq_left (by omega)]; simp
theorem JF {φ : FF} (h1 : wu φ) : Gz (trunc (aK 3 (iw φ))) := λ d ns ps μ d3 hl hs hne hpl hp => by
 have e1 := gY (all := ps.map aH) (h := hName 0) (fe := MC (aa (aq 1) (aa (aq 0) (aB))) φ) (δb := [none, some (aH ns)]) (F := aH) (f := λ p => D.tup [.int (dot ns p.dropLast), .int (bx p)]) (μ := μ) ps λ p hpm => by
  have := h1 d ns p μ (by omega) hl (λ n hn => bc (hs n hn) (by decide)) (hp p hpm).sp
  generalize aH p = P at *
  generalize aH ns = N at *
  exact ⟨[some P, some N], by simp, by simp [this]⟩
 have e2 := gY (all := ps.map λ p => D.tup [.int (dot ns p.dropLast), .int (bx p)]) (h := jX 2 (bY (hName 0) (bY (hName 1) (jU)))) (fe := M2 (mC (.int 0)) (M2 (M2 (mC (.int 0)) (aq 0) cu) (aq 1) oDiv) cu) (δb := [none, none]) (F := λ p : List Int => D.tup [.int (dot ns p.dropLast), .int (bx p)]) (f := λ p => D.int (-((-(dot ns p.dropLast)).fdiv (bx p)))) (μ := μ) ps λ p hpm => by
  have hb1 := (hp p hpm).b1
  have hb2 := (hp p hpm).b2
  generalize dot ns p.dropLast = S at *
  generalize bx p = b at *
  have := jj (x := -S) (y := b) (b := 6) μ (by omega) (iV 64 (by omega) (by decide)) (by decide)
  exact ⟨[some (.int S), some (.int b)], by simp, by simp [this]⟩
 have hm : ps.map (λ p => D.int (-((-(dot ns p.dropLast)).fdiv (bx p)))) = (ps.map λ p => -((-(dot ns p.dropLast)).fdiv (bx p))).map D.int := by simp
 rw [hm] at e2
 have hne2 : (ps.map λ p => -((-(dot ns p.dropLast)).fdiv (bx p))) ≠ [] := by simpa using hne
 have e3 := Gw (μ := μ) hne2
 have hmem := xP _ hne2
 refine ⟨lJ (ps.map λ p => -((-(dot ns p.dropLast)).fdiv (bx p))), ?_, ?_⟩
 .apply cF
  have z1 : (ps.map aH).length <= 1000 := by simp; omega
  have z2 : (ps.map λ p => D.tup [.int (dot ns p.dropLast), .int (bx p)]).length <= 1000 := by simp; omega
  generalize lJ (ps.map λ p => -((-(dot ns p.dropLast)).fdiv (bx p))) = M at *
  generalize (ps.map λ p => -((-(dot ns p.dropLast)).fdiv (bx p))).map D.int = QD at *
  generalize (ps.map λ p => D.tup [.int (dot ns p.dropLast), .int (bx p)]) = TD at *
  generalize ps.map aH = PD at *
  generalize aH ns = N at *
  unfold iw
  simp [z1, dD, e1, z2, e2, e3]
 .obtain ⟨p, hpm, e⟩ := List.mem_map.mp hmem
  rw [<- e]
  have hb1 := (hp p hpm).b1
  have sd : Sm 45 (dot ns p.dropLast) := Ai (a := 21) (b := 14) hs (λ c hc => iV 10001 (by have := (hp p hpm).sm c ((List.dropLast_sublist _).mem hc); omega) (by decide)) (by omega)
  have := jz (x := -(dot ns p.dropLast)) (y := bx p) (by omega)
  refine bc (a := 45) ?_ (by decide)
  unfold Sm at *
  rw [Int.natAbs_neg] at *
  omega
end LG
namespace Lk24
open PySem PySem.Spec PyProof.Rows L2 L3 LG
theorem Qq : xM cX := λ a b μ => kJ (Jd a b μ)
theorem Jk : lB aX := λ x k μ h0 h1 => by
 obtain ⟨r, e, h⟩ := Pu x k μ h0 h1
 exact ⟨r, kJ e, h⟩
theorem nJ : fP aJ := Ga
theorem Mv : wU gG := Hz Jk
theorem Dw : nj aL := λ ns b μ h1 h2 h3 h4 => kJ (Ox Qq ns b μ h1 h2 h3 h4)
theorem QB : yh bD := HS
theorem Ph : yh fO := Gx
theorem RC : Ed cQ := zU QB
theorem wL : mG bB := Hr Jk Eh Dw
theorem Kz : oO fK := Dd nJ (Ak nJ Dw) (Jm nJ Dw) wL
theorem some' : qm bZ := Gp Kz nJ wL
theorem Rv : su fG := DP nJ Jk
theorem QH : Eo jH := λ d ps sh μ hm hd hd2 hp hne hl hs => zM Qq Dw d ps sh μ hm hd hd2 hp hne hl hs
theorem Rk (k l : Bool) (μ : Mu) : iJ [.bl k, .bl l] μ = some (.bl (k == l), μ) := Iu k l μ
theorem Np : yX gM := λ ns c x μ hm h1 h2 hb c1 cs => Hs Dw ns c x μ hm h1 h2 hb c1 cs
theorem Qw : Bq iR := Hy nJ wL Rv QH Np
theorem QX : ∀ (d : Nat) (t : D) (μ : Mu), nc t -> fB [.int d, t] μ = some (.bl (lC d t), μ) := HW (Ky PB RC QB)
theorem Ey : vC bR := Am QX (CZ JP)
theorem Ma (d : Nat) (ps : List (List Int)) (r : List Int) (t : D) (μ : Mu) (d1 : 1 <= d) (d9 : d <= 9) (hp : ∀ p ∈ ps, SpR d p) (hr : SpR d r) (hl : ps.length <= 60) (ht : ThW t) (hz : ∀ a b, t = .tup [.tup a, b] -> a.length <= 1000) : gO [.lst (ps.map aH), aH r, t] μ = some (.bl (outV d ps r t), μ) :=
 HD (Ie Ph) (behind_of wg Hj) d ps r t μ d1 d9 hp hr hl ht hz
theorem row' : Cg jF := Gg nJ Jk
theorem RJ : zm iQ := Cu
theorem bey' : HJ fH := Io wg nJ Dw
theorem Ra : Gz dU := JF wg
theorem Oq (d : Nat) (ps : List (List Int)) (r : List Int) (t : D) (μ : Mu) (d1 : 1 <= d) (d9 : d <= 9) (hp : ∀ p ∈ ps, SpR d p) (hr : SpR d r) (hl : ps.length <= 60) (ht : ThV t) : fV [.lst (ps.map aH), aH r, t] μ = some (.bl true, μ) := by
 apply cF
 have e1 := Ey d ps r t μ d1 d9 hp hr hl ht.1
 have e2 := Ma d ps r t μ d1 d9 hp hr hl ht.1 ht.2
 generalize outV d ps r t = v at *
 have e3 := Rk v v μ
 generalize ps.map aH = PD at *
 generalize aH r = R at *
 unfold kZ
 simp [e1, e2, e3]
theorem Im (ns : List Int) (h : ns.length <= 63) : ∃ μ', zP [.ro (ns.map .int)] [] = some (.bl true, μ') := by
 apply Ir
 obtain ⟨L, eD, hL⟩ := Hx Mv ns h
 apply eF
 unfold qt
 simp [eD, uv (j := 4) (by decide) (by decide)]
 refine gm (λ its δ μ => ∃ L o2 o3 o4 o5 o6 o7 o8 o9 o10, (∀ t ∈ its, ∃ k : Int, t = .int k) /\ DlD L /\ μ = [some (L.map .int)] /\ δ = [some (.ro (ns.map .int)), some (.cell 0), o2, o3, o4, o5, o6, o7, o8, o9, o10]) ?_ ?_ _ _ _ ⟨L, none, none, none, none, none, none, none, none, none, ?_, hL, rfl, rfl⟩
 .rintro dd rest δ μ ⟨L, o2, o3, o4, o5, o6, o7, o8, o9, o10, hits, hL, rfl, rfl⟩
  obtain ⟨tn, rfl⟩ := hits dd (by simp)
  obtain ⟨x, L1, e1, hx, hL1⟩ := dj nJ hL []
  obtain ⟨m0, m1⟩ := aW (x := x) (m := 3) (by decide)
  obtain ⟨i0, i1⟩ := aW (x := tn) (m := 2) (by decide)
  obtain ⟨mo, hmo, emo⟩ := jy (ds := [D.int 6, .int 14]) i0 i1
  have hmo : ∃ z : Int, mo = .int z /\ 0 <= z /\ z <= 40 := by
   simp only [List.mem_cons, List.not_mem_nil, or_false] at hmo
   rcases hmo with rfl | rfl <;> exact ⟨_, rfl, by decide, by decide⟩
  obtain ⟨mst, rfl, s0, s1⟩ := hmo
  obtain ⟨d, hd⟩ : ∃ d : Int, 1 + x.fmod 3 = d := ⟨_, rfl⟩
  obtain ⟨ps, L2, e2, hL2, hne, hl, hp⟩ := some' d mst (by omega) (by omega) s0 s1 L1 hL1
  obtain ⟨rs, L3, e3, hL3, hrl, hrs⟩ := row' d L2 (by omega) (by omega) hL2
  obtain ⟨t, e4, ht⟩ := Ra d.toNat rs ps [some (L3.map .int)] (by omega) hrl hrs hne hl hp
  have hpos := List.length_pos_iff.mpr hne
  obtain ⟨a0, r0⟩ := wV hp (k := 0) (by decide) (by omega)
  have al : atI (ps.map aH) (-1) = some (aH (ps.getLast hne)) := by
   rw [LG.tZ (by simpa using hne), List.getLast_map]
  have rl := hp _ (List.getLast_mem hne)
  obtain ⟨r1, L4, e5, hL4, hr1⟩ := bey' d.toNat rs (ps.getLast hne) t L3 (by omega) (by omega) hrl hrs rl (bc ht (by decide)) hL3
  obtain ⟨r2, L5, e6, hL5, hr2⟩ := Qw d ps L4 (by omega) (by omega) hne hl hp hL4
  have hask := λ r (hr : SpR d.toNat r) th μ (hth : ThV th) => Oq d.toNat ps r th μ (by omega) (by omega) (λ p h => (hp p h).sp) hr (by omega) hth
  have hrne : rs ≠ [] := λ z => by rw [z] at hrl; simp at hrl; omega
  have hbent := λ x μ => RJ rs t x μ hrne (by omega) hrs (bc ht (by decide))
  have hwall : ∀ t' : Int, (t' = t ∨ t' = t + 1 ∨ t' = t - 1) -> ThV (.tup [aH rs, .int t']) := λ t' h' => HF (λ n hn => bc (hrs n hn) (by decide)) (by
   have : Sm 51 t' := by
    unfold Sm at *
    have e : (2 : Nat) ^ 51 = 2 * 2 ^ 50 := by decide
    rcases h' with rfl | rfl | rfl <;> omega
   exact bc this (by decide)) (by omega)
  have hsp : ∀ q ∈ [aH (ps.getD (0 : Int).toNat []), aH r1, aH r2], ∃ r, q = aH r /\ SpR d.toNat r := λ q hq => by
   simp only [List.mem_cons, List.not_mem_nil, or_false] at hq
   rcases hq with rfl | rfl | rfl
   .exact ⟨_, rfl, r0.sp⟩
   .exact ⟨_, rfl, hr1⟩
   .exact ⟨_, rfl, hr2⟩
  have ner := Pk ps
  have zA : (ps.map aH).length <= 1000 := by simp; omega
  generalize aH (ps.getD (0 : Int).toNat []) = P0 at *
  generalize aH (ps.getLast hne) = PL at *
  generalize aH r1 = R1 at *
  generalize aH r2 = R2 at *
  generalize aH rs = RS at *
  generalize ps.map aH = PD at *
  have elst : ∀ μ, oLst [P0, R1, R2] μ = some (.lst [P0, R1, R2], μ) := λ μ => if_pos (szl (by simp))
  have elt : ∀ (a b c : D) μ, oLst [a, b, c] μ = some (.lst [a, b, c], μ) := λ _ _ _ μ => if_pos (szl (by simp))
  have e614 : ∀ μ, oLst [.int 6, .int 14] μ = some (.lst [.int 6, .int 14], μ) := λ μ => if_pos (szl (by simp))
  simp [e1, hd, e614, emo, e2, zA, e3, e4, a0, al, e5, e6, elst, -KR]
  refine gm (λ its δ μ => ∃ L o9 o10, DlD L /\ (∀ q ∈ its, ∃ r, q = aH r /\ SpR d.toNat r) /\ μ = [some (L.map .int)] /\ δ = [some (.ro (ns.map .int)), some (.cell 0), some (.int tn), some (.int d), some (.lst PD), some (.lst PD), some RS, some (.int t), some (.lst [P0, R1, R2]), o9, o10]) ?_ ?_ _ _ _ ⟨L5, _, _, hL5, hsp, rfl, rfl⟩
  .rintro d9 rest9 δ μ ⟨L, p9, p10, hL, hq9, rfl, rfl⟩
   obtain ⟨r, rfl, hr⟩ := hq9 d9 (by simp)
   have hq := hask r hr
   generalize aH r = R at *
   simp [elt, -KR]
   refine gm (λ its δ μ => ∃ o10, (∀ q ∈ its, ∃ t' : Int, q = .int t' /\ (t' = t ∨ t' = t + 1 ∨ t' = t - 1)) /\ μ = [some (L.map .int)] /\ δ = [some (.ro (ns.map .int)), some (.cell 0), some (.int tn), some (.int d), some (.lst PD), some (.lst PD), some RS, some (.int t), some (.lst [P0, R1, R2]), some R, o10]) ?_ ?_ _ _ _ ⟨_, ?_, rfl, rfl⟩
   .rintro d10 rest10 δ μ ⟨p10, h10, rfl, rfl⟩
    obtain ⟨t', rfl, ht'⟩ := h10 d10 (by simp)
    have f1 := hq (.tup [RS, .int t']) [some (L.map .int)] (hwall t' ht')
    simp [f1]
    exact λ q h => h10 q (by simp [h])
   .rintro δ μ ⟨p10, _, rfl, rfl⟩
    obtain ⟨y, L6, f1, hy, hL6⟩ := dj nJ hL []
    obtain ⟨th, f2, hth⟩ := hbent y [some (L6.map .int)]
    have f3 := hq th [some (L6.map .int)] hth
    simp [f1, f2, f3]
    exact ⟨L6, hL6, λ q h => hq9 q (by simp [h]), rfl⟩
   .intro q hq
    simp only [List.mem_cons, List.not_mem_nil, or_false] at hq
    rcases hq with rfl | rfl | rfl
    .exact ⟨_, rfl, .inl rfl⟩
    .exact ⟨_, rfl, .inr (.inl rfl)⟩
    .exact ⟨_, rfl, .inr (.inr rfl)⟩
  .rintro δ μ ⟨L, p9, p10, hL, _, rfl, rfl⟩
   have nr := ner [some (L.map .int)]
   simp [nr]
   exact ⟨λ t h => hits t (by simp [h]), L, hL, rfl⟩
 .rintro δ μ ⟨L, o2, o3, o4, o5, o6, o7, o8, o9, o10, _, hL, rfl, rfl⟩
  simp
 .intro t ht
  obtain ⟨k, e, _⟩ := mJ ht
  exact ⟨k, e⟩
end Lk24
def PySem.W.Fast.tw10096857720327091442 := 0
def PySem.W.Fast.tw10402400166966047593 := 0
def PySem.W.Fast.tw10718428991471045767 := 0
def PySem.W.Fast.tw10977070716970284733 := 0
def PySem.W.Fast.tw11032934419993881114 := 0
def PySem.W.Fast.tw11769381004706901192 := 0
def PySem.W.Fast.tw12106305300808504120 := 0
def PySem.W.Fast.tw12167116349378813498 := 0
def PySem.W.Fast.tw12755900219698387096 := 0
def PySem.W.Fast.tw12877474433573092279 := 0
def PySem.W.Fast.tw13023202682022673482 := 0
def PySem.W.Fast.tw13882242076456112678 := 0
def PySem.W.Fast.tw14056720350482328313 := 0
def PySem.W.Fast.tw15393167062755816360 := 0
def PySem.W.Fast.tw1546762497370405070 := 0
def PySem.W.Fast.tw15591688589565185254 := 0
def PySem.W.Fast.tw15759751094825003278 := 0
def PySem.W.Fast.tw1592567536845275521 := 0
def PySem.W.Fast.tw16642119545381025228 := 0
def PySem.W.Fast.tw17582552709901588491 := 0
def PySem.W.Fast.tw18116474956145720396 := 0
def PySem.W.Fast.tw1836743224659919010 := 0
def PySem.W.Fast.tw2701420875889825602 := 0
def PySem.W.Fast.tw2754943472942098315 := 0
def PySem.W.Fast.tw2872168313113260343 := 0
def PySem.W.Fast.tw3391245668735820559 := 0
def PySem.W.Fast.tw3973488180234820775 := 0
def PySem.W.Fast.tw3983203381428010532 := 0
def PySem.W.Fast.tw4036177164231363159 := 0
def PySem.W.Fast.tw4564091906957489665 := 0
def PySem.W.Fast.tw4671929924732126493 := 0
def PySem.W.Fast.tw5193427118691893260 := 0
def PySem.W.Fast.tw5389539194809347147 := 0
def PySem.W.Fast.tw5599440679216409655 := 0
def PySem.W.Fast.tw6820188090602831716 := 0
def PySem.W.Fast.tw6919474648855250801 := 0
def PySem.W.Fast.tw6936290308065893331 := 0
def PySem.W.Fast.tw7483036197714482666 := 0
def PySem.W.Fast.tw7740729185388906831 := 0
def PySem.W.Fast.tw841798509129756516 := 0
def PySem.W.Fast.tw8630839342055621884 := 0
def PySem.W.Fast.tw8645100173584812587 := 0
def PySem.W.Fast.tw8872786225849581272 := 0
def PySem.W.Fast.tw9250153546208276349 := 0
def PySem.W.Fast.tw9313789475430410064 := 0
open PySem PySem.W PyProof.Rows
set_option maxRecDepth 100000 in
set_option maxHeartbeats 0 in
theorem PySem.Challenge.cw_heapsmeet_k24_without_by_clauses_holds : PySem.Challenge.rw_heapsmeet_k24_without_by_clauses.Holds := by
 w_on; o_law; k_head; (case hw => w_witness2)
 k_fill
 refine L3.GD (l := PySem.Challenge.rw_heapsmeet_k24_without_by_clauses) (n := 63) (k := 9) (x := "_law_script") (φ := Lk24.zP) rfl (by decide) rfl ⟨rfl, by decide, by decide⟩ (λ w h Y => by first | exact PySem.W.kIn_of Y | exact PySem.W.km_in_of Y) ?F ?S
 case F =>
  intro w mg mb mean lo fa h KX G hmg
  apply Lk24.Oh KX G hmg <;> first | (apply L3.Mj <;> first | k_is | rfl) | k_is | rfl
 case S => exact λ ns hl => Lk24.Im ns hl
