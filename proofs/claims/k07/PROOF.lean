import PyProof.Rows.All
import Wide.All
import OpenK.AllK
import Wide.FinOn
import Lean
import PyProof.EqAt
import PyProof.EqKinds
import PyProof.TupleCall
import PySem.Challenge.RW_heapsmeet_k07_ties_right_and_bent
set_option Elab.async false
set_option linter.all false
set_option maxRecDepth 100000
namespace L2
open PySem PySem.Spec PyProof.Rows
abbrev Key := Sum Int Str
def Jp : Key -> Value -> Bool
 | .inl k, v => Value.isInt k v
 | .inr x, v => Value.isStrOf x v
def keyH (w : World) : Key -> Int
 | .inl k => hashInt k
 | .inr x => hashStr w x
theorem dB : ∀ {k : Key} {v : Value}, Jp k v = true -> (∃ i t, k = Sum.inl i /\ v = Value.int i t) ∨ (∃ x t, k = Sum.inr x /\ v = Value.str x t)
 | .inl i, v, h => by
  obtain ⟨t, e⟩ := Value.isInt_shape (k := i) (v := v) h
  exact .inl ⟨i, t, rfl, e⟩
 | .inr x, v, h => by
  obtain ⟨t, e⟩ := Value.isStrOf_shape (x := x) (v := v) h
  exact .inr ⟨x, t, rfl, e⟩
theorem Kd (a b : Int) : decide ((Sum.inl a : Key) = Sum.inl b) = (a == b) := by
 by_cases e : a = b
 .subst e; simp
 .have h : ¬ (Sum.inl a : Key) = Sum.inl b := λ q => e (Sum.inl.inj q)
  rw [decide_eq_false h]
  exact (beq_eq_false_iff_ne.mpr e).symm
theorem JS (a b : Str) : decide ((Sum.inr a : Key) = Sum.inr b) = decide (a = b) := by
 by_cases e : a = b
 .subst e; simp
 .have h : ¬ (Sum.inr a : Key) = Sum.inr b := λ q => e (Sum.inr.inj q)
  rw [decide_eq_false h, decide_eq_false e]
theorem Lf (a : Int) (b : Str) : decide ((Sum.inl a : Key) = Sum.inr b) = false := decide_eq_false (λ q => nomatch q)
theorem Ka (a : Str) (b : Int) : decide ((Sum.inr a : Key) = Sum.inl b) = false := decide_eq_false (λ q => nomatch q)
def vI (prog : Program) (w : World) : PySem.KeyKind prog w Key where
 is := Jp
 hash := keyH w
 inj := λ v a b ha hb => by
  rcases dB ha with ⟨i, t, rfl, rfl⟩ | ⟨x, t, rfl, rfl⟩
  .rcases dB hb with ⟨j, u, rfl, e⟩ | ⟨y, u, rfl, e⟩
   .injection e with e1 _; rw [e1]
   .exact nomatch e
  .rcases dB hb with ⟨j, u, rfl, e⟩ | ⟨y, u, rfl, e⟩
   .exact nomatch e
   .injection e with e1 _; rw [e1]
 byValue := λ k v h => by
  rcases dB h with ⟨i, t, rfl, rfl⟩ | ⟨x, t, rfl, rfl⟩ <;> rfl
 pyHash := λ hv h => by
  rcases dB hv with ⟨i, t, rfl, rfl⟩ | ⟨x, t, rfl, rfl⟩
  .exact wpAny_pyHash_int h
  .exact wpAny_pyHash_str h
 eqBool := λ hu hv h => by
  rcases dB hu with ⟨i, t, rfl, rfl⟩ | ⟨x, t, rfl, rfl⟩
  .rcases dB hv with ⟨j, u, rfl, rfl⟩ | ⟨y, u, rfl, rfl⟩
   .rw [Kd] at h; exact wpAny_eqBool_int h
   .rw [Lf] at h; exact SeqAt.EqAt.int_str i t y u _ _ _ _ h
  .rcases dB hv with ⟨j, u, rfl, rfl⟩ | ⟨y, u, rfl, rfl⟩
   .rw [Ka] at h; exact SeqAt.EqAt.str_int x t j u _ _ _ _ h
   .rw [JS] at h; exact wpAny_eqBool_str h
 «strs» := λ k x t v h => by
  rcases dB h with ⟨i, u, rfl, e⟩ | ⟨y, u, rfl, e⟩
  .exact nomatch e
  .injection e with e1 _
   subst e1
   cases v <;> rfl
inductive V where
 | non | bl (b : Bool) | int (i : Int) | str (x : Str) | byt (b : Array UInt8) | flt (b : UInt64) | ref (a : Addr) | ty (n : String)
 deriving DecidableEq
def RelV : V -> Value -> Prop
 | .non, u => u = Value.none
 | .bl b, u => u = Value.bool b
 | .int i, u => ∃ t, u = Value.int i t
 | .str x, u => ∃ t, u = Value.str x t
 | .byt b, u => ∃ t, u = Value.bytes b t
 | .flt b, u => ∃ t, u = Value.float b t
 | .ref a, u => u = Value.ref a
 | .ty n, u => u = Value.type n
abbrev Vals : List V -> List Value -> Prop := Paired RelV
theorem Vals.length {xs : List V} {us : List Value} (r : Vals xs us) : xs.length = us.length := Paired.length r
theorem Vals.get : ∀ {xs : List V} {us : List Value} {i : Nat} {x : V}, Vals xs us -> xs[i]? = some x -> ∃ u, us[i]? = some u /\ RelV x u
 | _, _, _, _, .nil, e => by simp at e
 | _, _, 0, _, .cons r _, e => by simp at e; subst e; exact ⟨_, rfl, r⟩
 | _, _, i + 1, x, .cons _ t, e => by
  obtain ⟨u, h1, h2⟩ := Vals.get (i := i) (x := x) t (by simpa using e)
  exact ⟨u, by simpa using h1, h2⟩
theorem Vals.set {x : V} {u : Value} (r : RelV x u) : ∀ {xs : List V} {us : List Value} (i : Nat), Vals xs us -> Vals (xs.set i x) (us.set i u)
 | _, _, _, .nil => .nil
 | _, _, 0, .cons _ t => .cons r t
 | _, _, i + 1, .cons q t => .cons q (Vals.set r i t)
theorem Vals.append : ∀ {xs ys : List V} {us ws : List Value}, Vals xs us -> Vals ys ws -> Vals (xs ++ ys) (us ++ ws)
 | _, _, _, _, .nil, s => s
 | _, _, _, _, .cons r t, s => .cons r (Vals.append t s)
theorem Vals.take : ∀ {xs : List V} {us : List Value} (n : Nat), Vals xs us -> Vals (xs.take n) (us.take n)
 | _, _, 0, _ => .nil
 | _, _, _ + 1, .nil => .nil
 | _, _, n + 1, .cons r t => .cons r (Vals.take n t)
theorem Vals.drop : ∀ {xs : List V} {us : List Value} (n : Nat), Vals xs us -> Vals (xs.drop n) (us.drop n)
 | _, _, 0, r => r
 | _, _, _ + 1, .nil => .nil
 | _, _, n + 1, .cons _ t => Vals.drop n t
theorem Vals.none_of : ∀ {xs : List V} {us : List Value} {i : Nat}, Vals xs us -> xs[i]? = none -> us[i]? = none := λ {xs us i} r e => by
 have h1 := r.length
 have h2 : xs.length <= i := List.getElem?_eq_none_iff.mp e
 exact List.getElem?_eq_none_iff.mpr (by omega)
def NQ : Option V -> Option Value -> Prop
 | some v, some u => RelV v u
 | none, none => True
 | _, _ => False
def KV {κ : Type} : List (κ × V) -> List (κ × Value) -> Prop := Paired λ (p : κ × V) (q : κ × Value) => p.1 = q.1 /\ RelV p.2 q.2
def kV : Key -> V
 | .inl i => .int i
 | .inr x => .str x
inductive HO where
 | lst (xs : List V)
 | tup (xs : List V)
 | dK (kvs : List (Key × V)) | dT (kvs : List (List Key × V))
 | set (S : Int -> Bool) (n : Nat)
 | ins (C dx : Addr) (fs : List (Str × V))
 | own (x : Addr)
 | xd (fs : List (Str × V))
 | met (f x : Addr)
 | rng (lo hi : Int)
 | frz (o : Obj) (u : HO)
 | tbl (ps : Array Value)
 | ext (φ : Heap -> Prop)
abbrev Hp := Addr -> Option HO
def upd (H : Hp) (a : Addr) (o : HO) : Hp := λ b => if b = a then some o else H b
theorem dq {H : Hp} {a : Addr} {o : HO} : upd H a o a = some o := by unfold upd; rw [if_pos rfl]
theorem aM {H : Hp} {a b : Addr} {o : HO} (h : b ≠ a) : upd H a o b = H b := by unfold upd; rw [if_neg h]
theorem xu {H : Hp} {a b : Addr} {o u : HO} (h : H a = some o) (h' : H b = some u) (d : o ≠ u) : a ≠ b := by
 intro e; subst e; rw [h] at h'; exact d (Option.some.inj h')
theorem bZ {H : Hp} {a b : Addr} {o : HO} (h : H a = some o) (h' : H b = none) : a ≠ b := by
 intro e; subst e; rw [h] at h'; cases h'
section
variable (P : Program) (w : World)
def iK (H : Hp) (h : Heap) (a : Addr) : HO -> Prop
 | .lst xs => xs.length <= sizeLine /\ ∃ (its : List Value) (n : Nat), Vals xs its /\ h.get? a = some { cls := .type "list", data := .seq its.toArray n }
 | .tup xs => xs.length <= sizeLine /\ ∃ its : List Value, Vals xs its /\ IsTup h a its.toArray
 | .dK kvs => kvs.length <= sizeLine /\ (a == sysModules) = false /\ ∃ vs, KV kvs vs /\ h.DictOf (vI P w) a vs
 | .dT kvs => kvs.length <= sizeLine /\ (a == sysModules) = false /\ ∃ xs : List (List Key × Addr × Value),
   Paired (λ (p : List Key × V) (q : List Key × Addr × Value) => p.1 = q.1 /\ H q.2.1 = some (.tup (p.1.map kV)) /\ RelV p.2 q.2.2) kvs xs /\
   ∃ o es ep, h.get? a = some o /\ o.ExactDict /\ o.data = .dict es ep /\ es.toList = xs.map (entryOfKey (tupleKind (vI P w))) /\ (xs.map (·.1)).Nodup
 | .set S n => h.SetOf (intKind P w) a S n
 | .ins C dx fs => H dx = some (.own a) /\ fs.length <= 1000 /\ dx ≠ a /\ h.get? a = some (PySem.W.instObj C dx) /\
   ∃ mA, h.Ns1 dx mA /\ (∀ f, NQ (fs.lookup f) (mA f)) /\ PySem.Within mA (fs.map (·.1))
 | .own _ => ∃ o, h.get? a = some o
 | .xd fs => ∃ mA, h.Ns1 a mA /\ ∀ f, NQ (fs.lookup f) (mA f)
 | .rng lo hi => ∃ t u v, h.get? a = some { cls := .type "range", data := .fields #[.int lo t, .int hi u, .int 1 v] }
 | .frz o u => h.get? a = some o /\ iK H h a u
 | .tbl ps => h.get? a = some { cls := .none, data := .fields ps }
 | .met f x => h.get? a = some (PySem.W.methodObj (.ref f) (.ref x))
 | .ext φ => φ h /\ (∃ o, h.get? a = some o) /\ ∀ h1 h2 : Heap, φ h1 -> (∀ o, h1.get? a = some o -> h2.get? a = some o) -> φ h2
def HOk (H : Hp) (h : Heap) : Prop := ∀ a o, H a = some o -> iK P w H h a o
end
section
variable {P : Program} {w : World} {H H' : Hp} {h h' : Heap} {a : Addr} {o : HO}
theorem iK.lt (x : iK P w H h a o) : a < h.objs.size := by
 cases o with
 | lst xs => obtain ⟨_, _, _, _, e⟩ := x; exact Heap.lt_size e
 | tup xs => obtain ⟨_, _, _, p⟩ := x; exact p.lt
 | dK kvs => obtain ⟨_, _, _, _, o, _, _, e, _⟩ := x; exact Heap.lt_size e
 | dT kvs => obtain ⟨_, _, _, _, o, _, _, e, _⟩ := x; exact Heap.lt_size e
 | set S n => obtain ⟨o, _, _, _, e, _⟩ := x; exact Heap.lt_size e
 | ins C dx fs => obtain ⟨_, _, _, e, _⟩ := x; exact Heap.lt_size e
 | own y => obtain ⟨_, e⟩ := x; exact Heap.lt_size e
 | xd fs => obtain ⟨_, ⟨_, _, _, e, _⟩, _⟩ := x; exact Heap.lt_size e
 | rng lo hi => obtain ⟨_, _, _, e⟩ := x; exact Heap.lt_size e
 | frz ob u => obtain ⟨e, _⟩ := x; exact Heap.lt_size e
 | tbl ps => exact Heap.lt_size (show h.get? a = some _ from x)
 | met f y => exact Heap.lt_size (show h.get? a = some _ from x)
 | ext φ => obtain ⟨_, ⟨_, e⟩, _⟩ := x; exact Heap.lt_size e
theorem Paired.mapP {α β : Type} {F G : α -> β -> Prop} : ∀ {l₁ : List α} {l₂ : List β}, Paired F l₁ l₂ -> (∀ a b, F a b -> G a b) -> Paired G l₁ l₂
 | _, _, .nil, _ => .nil
 | _, _, .cons r t, f => .cons (f _ _ r) (Paired.mapP t f)
theorem iK.stay (x : iK P w H h a o) (k : ∀ b u, (b = a ∨ H b = some (.own a)) -> h.get? b = some u -> h'.get? b = some u)
  (ho : ∀ b, H b = some (.own a) -> H' b = some (.own a)) (ht : ∀ b xs, H b = some (.tup xs) -> H' b = some (.tup xs)) : iK P w H' h' a o := by
 induction o with
 | lst xs => obtain ⟨z, its, n, r, e⟩ := x; exact ⟨z, its, n, r, k _ _ (.inl rfl) e⟩
 | tup xs => obtain ⟨z, its, r, ob, e, c⟩ := x; exact ⟨z, its, r, ob, k _ _ (.inl rfl) e, c⟩
 | dK kvs => obtain ⟨z, y, vs, r, ob, es, ep, e, c⟩ := x; exact ⟨z, y, vs, r, ob, es, ep, k _ _ (.inl rfl) e, c⟩
 | dT kvs =>
  obtain ⟨z, y, xs, r, ob, es, ep, e, c⟩ := x
  exact ⟨z, y, xs, Paired.mapP r λ p q z => ⟨z.1, ht _ _ z.2.1, z.2.2⟩, ob, es, ep, k _ _ (.inl rfl) e, c⟩
 | set S n => obtain ⟨ob, es, ep, t, e, c⟩ := x; exact ⟨ob, es, ep, t, k _ _ (.inl rfl) e, c⟩
 | ins C dx fs =>
  obtain ⟨d, z, ne, e, mA, ⟨od, es, ep, e2, c⟩, r⟩ := x
  exact ⟨ho _ d, z, ne, k _ _ (.inl rfl) e, mA, ⟨od, es, ep, k _ _ (.inr d) e2, c⟩, r⟩
 | own y => obtain ⟨ob, e⟩ := x; exact ⟨ob, k _ _ (.inl rfl) e⟩
 | xd fs => obtain ⟨mA, ⟨od, es, ep, e, c⟩, r⟩ := x; exact ⟨mA, ⟨od, es, ep, k _ _ (.inl rfl) e, c⟩, r⟩
 | rng lo hi => obtain ⟨t, u, v, e⟩ := x; exact ⟨t, u, v, k _ _ (.inl rfl) e⟩
 | frz ob u ih => obtain ⟨e, q⟩ := x; exact ⟨k _ _ (.inl rfl) e, ih q⟩
 | tbl ps =>
  have e : h.get? a = some { cls := .none, data := .fields ps } := x
  show h'.get? a = some { cls := .none, data := .fields ps }
  exact k a _ (.inl rfl) e
 | met f y =>
  have e : h.get? a = some (PySem.W.methodObj (.ref f) (.ref y)) := x
  show h'.get? a = some (PySem.W.methodObj (.ref f) (.ref y))
  exact k a _ (.inl rfl) e
 | ext φ => obtain ⟨p, ⟨o, e⟩, st⟩ := x; exact ⟨st _ _ p λ o q => k _ _ (.inl rfl) q, ⟨o, k _ _ (.inl rfl) e⟩, st⟩
theorem HOk.lt (x : HOk P w H h) (e : H a = some o) : a < h.objs.size := (x a o e).lt
theorem HOk.fresh (x : HOk P w H h) (e : h.objs.size <= a) : H a = none := by
 cases q : H a with
 | none => rfl
 | some u => exact absurd (Nat.lt_of_lt_of_le (x.lt q) e) (Nat.lt_irrefl _)
theorem HOk.kept (x : HOk P w H h) (k : ∀ b u, h.get? b = some u -> h'.get? b = some u) : HOk P w H h' := λ a o e =>
 (x a o e).stay (λ b u _ q => k b u q) (λ _ q => q) λ _ _ q => q
theorem HOk.laid (x : HOk P w H h) (k : ∀ b u, h.get? b = some u -> h'.get? b = some u) (hp : h.objs.size <= a) (new : iK P w (upd H a o) h' a o) : HOk P w (upd H a o) h' := λ b u e => by
 have hn := x.fresh hp
 by_cases hb : b = a
 .subst hb; rw [dq] at e; cases e; exact new
 .rw [aM hb] at e
  exact (x b u e).stay (λ c v _ q => k c v q) (λ c q => by rw [aM (bZ q hn)]; exact q) λ c xs q => by rw [aM (bZ q hn)]; exact q
end
def Rd (H : Hp) (a : Addr) (u : HO) : Prop := H a = some u ∨ ∃ o, H a = some (.frz o u)
theorem Rd.ok {P : Program} {w : World} {H : Hp} {h : Heap} {a : Addr} {u : HO} (r : Rd H a u) (x : HOk P w H h) : iK P w H h a u := by
 rcases r with r | ⟨o, r⟩
 .exact x a u r
 .obtain ⟨_, q⟩ := x a _ r
  exact q
def Mut : Option HO -> Prop
 | some (.lst _) => True
 | some (.dK _) => True
 | some (.dT _) => True
 | some (.set _ _) => True
 | some (.ins _ _ _) => True
 | some (.ext _) => True
 | _ => False
section
variable {P : Program} {w : World} {H : Hp} {h h' : Heap} {x e : Addr} {o' : HO}
theorem HOk.write (ok : HOk P w H h) (mu : Mut (H x)) (he : e = x ∨ H e = some (.own x)) (k : ∀ b u, b ≠ e -> h.get? b = some u -> h'.get? b = some u) (heo : ∃ u, h'.get? e = some u)
  (new : iK P w (upd H x o') h' x o') : HOk P w (upd H x o') h' := λ b u q => by
 have nown : ∀ c y, H c = some (.own y) -> c ≠ x := λ c y r z => by subst z; rw [r] at mu; exact mu
 have ntup : ∀ c xs, H c = some (.tup xs) -> c ≠ x := λ c xs r z => by subst z; rw [r] at mu; exact mu
 by_cases hb : b = x
 .subst hb; rw [dq] at q; cases q; exact new
 .rw [aM hb] at q
  by_cases hbe : b = e
  .have q' : H b = some (.own x) := by
    rcases he with z | z
    .exact absurd (hbe.trans z) hb
    .rw [hbe]; exact z
   rw [q] at q'; cases q'
   obtain ⟨v, hv⟩ := heo
   exact ⟨v, by rw [hbe]; exact hv⟩
  .refine (ok b u q).stay (λ c v hc r => k c v ?_ r) (λ c r => by rw [aM (nown c b r)]; exact r) λ c xs r => by rw [aM (ntup c xs r)]; exact r
   rcases hc with rfl | hc
   .exact hbe
   .rintro rfl
    rcases he with z | z
    .exact nown c b hc z
    .rw [hc] at z; cases z; exact hb rfl
end
structure Un (fs ex : List Addr) (H H' : Hp) (h h' : Heap) : Prop where
 keep : ∀ b o, h.get? b = some o -> H b = none -> b ∉ fs -> b ∉ ex -> h'.get? b = some o
 slot : ∀ b o, h.get? b = some o -> H b = none -> b ∈ fs -> b ∉ ex -> ∃ sl, h'.get? b = some { o with slots := sl }
 free : ∀ b o, h.get? b = some o -> H b = none -> b ∉ ex -> H' b = none
 there : ∀ b o, h.get? b = some o -> b ∉ ex -> ∃ o', h'.get? b = some o'
 tups : ∀ b xs, H b = some (.tup xs) -> H' b = some (.tup xs)
 frzs : ∀ b o u, H b = some (.frz o u) -> H' b = some (.frz o u)
 tbls : ∀ b ps, H b = some (.tbl ps) -> ∃ more, H' b = some (.tbl (ps ++ more))
section
variable {fs fs' ex ex' : List Addr} {H H1 H2 : Hp} {h h1 h2 h' : Heap} {a x e : Addr} {o : HO}
theorem Un.any (u : Un fs ex H H1 h h1) {b : Addr} {ob : Obj} (q : h.get? b = some ob) (n : H b = none) (hx : b ∉ ex) : ∃ sl, h1.get? b = some { ob with slots := sl } := by
 by_cases hb : b ∈ fs
 .exact u.slot b ob q n hb hx
 .exact ⟨ob.slots, u.keep b ob q n hb hx⟩
theorem Un.kept (k : ∀ b u, h.get? b = some u -> h'.get? b = some u) : Un fs ex H H h h' :=
 ⟨λ b ob q _ _ _ => k b ob q, λ b ob q _ _ _ => ⟨ob.slots, k b ob q⟩, λ _ _ _ n _ => n, λ b ob q _ => ⟨ob, k b ob q⟩, λ _ _ q => q, λ _ _ _ q => q, λ _ ps q => ⟨#[], by rw [q]; simp⟩⟩
theorem Un.refl : Un fs ex H H h h := Un.kept λ _ _ q => q
theorem Un.laid (k : ∀ b u, h.get? b = some u -> h'.get? b = some u) (hp : h.objs.size <= a) (hn : H a = none) : Un fs ex H (upd H a o) h h' where
 keep := λ b u q _ _ _ => k b u q
 slot := λ b u q _ _ _ => ⟨u.slots, k b u q⟩
 free := λ b u q n _ => by rw [aM (Nat.ne_of_lt (Nat.lt_of_lt_of_le (Heap.lt_size q) hp))]; exact n
 there := λ b u q _ => ⟨u, k b u q⟩
 tups := λ b xs q => by rw [aM (bZ q hn)]; exact q
 frzs := λ b u xs q => by rw [aM (bZ q hn)]; exact q
 tbls := λ b ps q => ⟨#[], by rw [aM (bZ q hn), q]; simp⟩
theorem Un.write (mu : Mut (H x)) (he : e = x ∨ H e = some (.own x)) (k : ∀ b u, b ≠ e -> h.get? b = some u -> h'.get? b = some u) (heo : ∃ u, h'.get? e = some u) : Un fs ex H (upd H x o) h h' := by
 have hx : ∀ b, H b = none -> b ≠ x := λ b n z => by subst z; rw [n] at mu; exact mu
 have hb : ∀ b, H b = none -> b ≠ e := λ b n z => by
  subst z
  rcases he with r | r
  .exact hx b n r
  .rw [n] at r; cases r
 have hm : ∀ b u, H b = some u -> ¬ Mut (some u) -> b ≠ x := λ b u q nm z => by subst z; rw [q] at mu; exact nm mu
 refine ⟨λ b u q n _ _ => k b u (hb b n) q, λ b u q n _ _ => ⟨u.slots, k b u (hb b n) q⟩, λ b u q n _ => by rw [aM (hx b n)]; exact n, λ b u q _ => ?_,
  λ b xs q => by rw [aM (hm b _ q λ z => z)]; exact q, λ b u xs q => by rw [aM (hm b _ q λ z => z)]; exact q, λ b ps q => ⟨#[], by rw [aM (hm b _ q λ z => z), q]; simp⟩⟩
 by_cases hbe : b = e
 .subst hbe; exact heo
 .exact ⟨u, k b u hbe q⟩
end
def trk (h : Heap) (H : Hp) : List Addr := (List.range h.objs.size).filter λ a => (H a).isSome
def uO (h : Heap) (H : Hp) : Heap := PySem.W.hideAll h (trk h H)
theorem BV (h : Heap) (H : Hp) : (uO h H).objs.size = h.objs.size := PySem.W.hideAll_size _ _
theorem Df {h : Heap} {H : Hp} {b : Addr} {o : Obj} (e : h.get? b = some o) (n : H b = none) : (uO h H).get? b = some o :=
 PySem.W.hideAll_get _ e λ hm => by
  have q : (H b).isSome = true := (List.mem_filter.mp hm).2
  rw [n] at q; simp at q
theorem Hl {h : Heap} {H : Hp} {b : Addr} {o : Obj} (e : (uO h H).get? b = some o) : h.get? b = some o /\ H b = none := by
 have e' : h.get? b = some o := PySem.W.of_hideAll (trk h H) e
 refine ⟨e', ?_⟩
 cases q : H b with
 | none => rfl
 | some x =>
  have hm : b ∈ trk h H := List.mem_filter.mpr ⟨List.mem_range.mpr (Heap.lt_size e'), by simp [q]⟩
  have z : (uO h H).get? b = none := PySem.W.hideAll_none (trk h H) hm
  rw [z] at e; cases e
def Ih (g h : Heap) (L : Addr) : List (Addr × Obj) := (List.range h.objs.size).filterMap λ a => if a = L ∨ (g.get? a).isSome = true then none else (h.get? a).map λ o => (a, o)
def rest (g h : Heap) (L d : Addr) : List (Addr × Obj) := (Ih g h L).filter λ p => decide (p.1 ≠ d)
structure Mod (K : PySem.W.Frag) (mg : Str -> Option Value) (base : Heap) : Prop where
 kin : K.In base
 glob : base.Ns mainGlobals mg
 blt : ∃ mb, base.Ns builtinsNs mb /\ ∀ x : Str, x ≠ "__name__" -> mb x = bootBuiltins x
 nolimit : base.NoLimit
 bmain : ∃ bm ob, mg "__builtins__" = some (.ref bm) /\ bm ≠ builtinsNs /\ base.get? bm = some ob /\ ob.cls = .type "module" /\ ob.dict = some builtinsNs /\ ob.data = .plain
structure Cx where
 prog : Program
 w : World
 K : PySem.W.Frag
 mg : Str -> Option Value
 base : Heap
 A : Around
 N : List Str
 s₀ : Shared
 H₀ : Hp
 env : Env
 outer : List Env
 stack : List Env
 ex : List Addr
 fn : Str -> Bool
 calm : Bool
 pn : List (Addr × Obj)
 xe : Value -> Shared -> Prop
def frs (l : List Env) : List Addr := l.filterMap (·.frame)
abbrev Cx.fs (X : Cx) : List Addr := frs X.outer
def Vis (sc : Scope) (x : Str) : Prop := sc.names.lookup x = some .local ∨ sc.names.lookup x = some .cell ∨ sc.names.lookup x = some .free
def Loc (sc : Scope) (x : Str) : Prop := sc.names.lookup x = some .local ∨ sc.names.lookup x = some .cell
def Look (env : Env) (h : Heap) (m : Str -> Option Value) (x : Str) (u : Value) : Prop :=
 (env.kindOf x = some .local /\ m x = some u) ∨ ((env.kindOf x = some .cell ∨ env.kindOf x = some .free) /\ ∃ c, env.cells.lookup x = some c /\ h.IsCell c (some u))
structure Cx.Ok (X : Cx) : Prop where
 mod : Mod X.K X.mg X.base
 kind : X.env.scope.kind = .function
 glob : X.env.globals = mainGlobals
 blt : X.env.builtins = builtinsNs
 above : X.s₀.heap.objs.size <= X.env.locals
 inj : ∀ x y c, X.env.cells.lookup x = some c -> X.env.cells.lookup y = some c -> x = y
 has : ∀ x, (X.env.kindOf x = some .cell ∨ X.env.kindOf x = some .free) -> ∃ c, X.env.cells.lookup x = some c
 cab : ∀ x c, X.fn x = true -> X.env.cells.lookup x = some c -> X.s₀.heap.objs.size <= c
 hd : X.calm = true -> X.A.handled = none
 frames : X.A.frames = some X.stack
 stk : X.stack = X.outer ∨ (X.stack = X.env :: X.outer /\ X.env.frame = some X.env.locals)
 exf : ∀ b ∈ X.ex, b ≠ X.env.locals /\ ∀ x c, X.env.cells.lookup x = some c -> c ≠ b
 bs : ∀ b o, X.base.get? b = some o -> X.s₀.heap.get? b = some o /\ X.H₀ b = none
 bsz : X.base.objs.size <= X.s₀.heap.objs.size
 noex : ∀ b o, X.base.get? b = some o -> b ∉ X.ex
 exfs : ∀ b ∈ X.ex, b ∉ X.fs
 funs : X.s₀.heap.FunFrames X.base X.outer
 frf : ∀ b ∈ X.fs, X.H₀ b = none
structure GK (a b : Array GenState) : Prop where
 bare : AllBare b
 kept : ∀ (k : Nat) (g : GenState), a[k]? = some g -> b[k]? = some g
theorem GK.refl {a : Array GenState} (h : AllBare a) : GK a a := ⟨h, λ _ _ e => e⟩
theorem GK.trans {a b c : Array GenState} (x : GK a b) (y : GK b c) : GK a c := ⟨y.bare, λ k g e => y.kept k g (x.kept k g e)⟩
theorem GK.again {a b : Array GenState} (x : GK a b) : GK b b := GK.refl x.bare
structure Inv (X : Cx) (pins : List (Addr × Obj)) (σ : List (Option V)) (H : Hp) (s : Shared) : Prop where
 ok : X.Ok
 os : s.os = X.s₀.os
 bare : GK X.s₀.gens s.gens
 base : Un X.fs X.ex X.H₀ H X.s₀.heap s.heap
 loc : ∃ m, s.heap.Ns X.env.locals m /\ ∀ (i : Nat) (x : Str) (v : V), X.N[i]? = some x -> σ[i]? = some (some v) -> Vis X.env.scope x -> ∃ u, RelV v u /\ Look X.env s.heap m x u
 cell : ∀ x c, X.env.cells.lookup x = some c -> ∃ v, s.heap.IsCell c v
 free : H X.env.locals = none
 freeC : ∀ x c, X.env.cells.lookup x = some c -> H c = none
 pin : ∀ p ∈ X.pn ++ pins, s.heap.get? p.1 = some p.2 /\ H p.1 = none /\ p.1 ≠ X.env.locals /\ p.1 ∉ X.fs /\ ∀ v, p.2.data ≠ .cell v
 hok : HOk X.prog X.w H s.heap
 len : σ.length = X.N.length
section
variable {X : Cx} {pins : List (Addr × Obj)} {σ : List (Option V)} {H H' : Hp} {s : Shared} {h' : Heap}
theorem Cx.Ok.nofr (ok : X.Ok) {b : Addr} {o : Obj} (e : X.base.get? b = some o) : b ∉ X.fs := λ hb => by
 have := (ok.funs.mem hb).1
 rw [e] at this; cases this
theorem Inv.bs (I : Inv X pins σ H s) : ∀ b o, X.base.get? b = some o -> s.heap.get? b = some o /\ H b = none := λ b o e =>
 ⟨I.base.keep b o (I.ok.bs b o e).1 (I.ok.bs b o e).2 (I.ok.nofr e) (I.ok.noex b o e), I.base.free b o (I.ok.bs b o e).1 (I.ok.bs b o e).2 (I.ok.noex b o e)⟩
theorem Inv.bk (I : Inv X pins σ H s) : ∀ b o, X.base.get? b = some o -> s.heap.get? b = some o := λ b o e => (I.bs b o e).1
theorem Inv.mod (I : Inv X pins σ H s) : Mod X.K X.mg X.base := I.ok.mod
theorem Inv.kIn (I : Inv X pins σ H s) : X.K.In s.heap := I.ok.mod.kin.keeps I.bk
theorem Inv.nolimit (I : Inv X pins σ H s) : s.heap.NoLimit := I.ok.mod.nolimit.keeps I.bk
theorem Inv.fr (I : Inv X pins σ H s) : ∃ m, Fr X.base X.env.locals s.heap m :=
 let ⟨m, hn, _⟩ := I.loc
 ⟨m, hn, I.bk, Nat.le_trans I.ok.bsz I.ok.above⟩
theorem Inv.lt (I : Inv X pins σ H s) : X.env.locals < s.heap.objs.size := let ⟨_, hn, _⟩ := I.loc; hn.lt
theorem Inv.sz (I : Inv X pins σ H s) : X.s₀.heap.objs.size <= s.heap.objs.size := Nat.le_trans I.ok.above (Nat.le_of_lt I.lt)
theorem Inv.nofs (I : Inv X pins σ H s) {a : Addr} (h : s.heap.objs.size <= a) : a ∉ X.fs := λ hb => by
 obtain ⟨_, o, ho, _⟩ := I.ok.funs.mem hb
 exact absurd (Nat.lt_of_lt_of_le (Heap.lt_size ho) (Nat.le_trans I.sz h)) (Nat.lt_irrefl _)
theorem Inv.cne (I : Inv X pins σ H s) : ∀ x c, X.env.cells.lookup x = some c -> c ≠ X.env.locals := λ x c e z => by
 obtain ⟨v, o, ho, hd⟩ := I.cell x c e
 obtain ⟨m, ⟨o', es, ep, ho', hd', _⟩, _⟩ := I.loc
 rw [z, ho'] at ho; cases ho; rw [hd'] at hd; cases hd
theorem Inv.funs (I : Inv X pins σ H s) : s.heap.FunFrames X.base X.outer := by
 have all : ∀ (l : List Env), (∀ b ∈ frs l, b ∈ X.fs) -> X.s₀.heap.FunFrames X.base l -> s.heap.FunFrames X.base l := by
  intro l
  induction l with
  | nil => intro _ _; trivial
  | cons env r ih =>
   intro hs hl
   obtain ⟨hk, ⟨L, o, hf, hn, ho, hd⟩, hr⟩ := hl
   have hL : L ∈ X.fs := hs L (by unfold frs; rw [List.filterMap_cons, hf]; exact List.mem_cons_self)
   obtain ⟨sl, e⟩ := I.base.slot L o ho (I.ok.frf L hL) hL λ z => I.ok.exfs L z hL
   exact ⟨hk, ⟨L, _, hf, hn, e, hd⟩, ih (λ b hb => hs b (by unfold frs; rw [List.filterMap_cons, hf]; exact List.mem_cons_of_mem _ hb)) hr⟩
 exact all X.outer (λ _ hb => hb) I.ok.funs
theorem Inv.stack (I : Inv X pins σ H s) : s.heap.FunFrames X.base X.stack := by
 rcases I.ok.stk with e | ⟨e, hf⟩
 .rw [e]; exact I.funs
 .rw [e]
  obtain ⟨m, hn, _⟩ := I.loc
  refine .cons (by rw [I.ok.kind]; decide) hf hn ?_ I.funs
  exact Heap.get?_none_of_le (Nat.le_trans I.ok.bsz I.ok.above)
theorem Inv.stkSub (I : Inv X pins σ H s) : ∀ b ∈ frs X.stack, b ∈ X.env.locals :: X.fs := λ b hb => by
 rcases I.ok.stk with e | ⟨e, hf⟩
 .rw [e] at hb; exact List.mem_cons_of_mem _ hb
 .rw [e] at hb
  unfold frs at hb
  rw [List.filterMap_cons, hf] at hb
  exact hb
theorem Inv.stkFree (I : Inv X pins σ H s) : ∀ b ∈ frs X.stack, H b = none := λ b hb => by
 rcases List.mem_cons.mp (I.stkSub b hb) with e | hb
 .rw [e]; exact I.free
 .obtain ⟨_, o, ho, _⟩ := I.ok.funs.mem hb
  exact I.base.free b o ho (I.ok.frf b hb) λ z => I.ok.exfs b z hb
theorem Inv.step {g' : Array GenState} {t' : Nat} {d' : Drawn} {ch : List Addr} (I : Inv X pins σ H s)
  (hch : ∀ b ∈ ch, (b ∈ X.ex ∨ X.s₀.heap.objs.size <= b) /\ b ≠ X.env.locals /\ (∀ x c, X.env.cells.lookup x = some c -> c ≠ b) /\ ∀ p ∈ X.pn ++ pins, p.1 ≠ b)
  (keep : ∀ b o, b ≠ X.env.locals -> b ∉ X.fs -> b ∉ ch -> s.heap.get? b = some o -> H b = none -> h'.get? b = some o)
  (slot : ∀ b o, b ≠ X.env.locals -> b ∈ X.fs -> b ∉ ch -> s.heap.get? b = some o -> H b = none -> ∃ sl, h'.get? b = some { o with slots := sl }) (free : ∀ b o, b ∉ ch -> s.heap.get? b = some o -> H b = none -> H' b = none)
  (there : ∀ b o, b ∉ ch -> s.heap.get? b = some o -> ∃ o', h'.get? b = some o')
  (tups : ∀ b xs, H b = some (.tup xs) -> H' b = some (.tup xs)) (frzs : ∀ b o u, H b = some (.frz o u) -> H' b = some (.frz o u)) (tbls : ∀ b ps, H b = some (.tbl ps) -> ∃ more, H' b = some (.tbl (ps ++ more)))
  (ns : ∀ m, s.heap.Ns X.env.locals m -> h'.Ns X.env.locals m) (hok : HOk X.prog X.w H' h') (hg : GK s.gens g') :
  Inv X pins σ H' { s with heap := h', gens := g', drawn := d', toks := t' } := by
 have neL : ∀ b o, X.s₀.heap.get? b = some o -> b ≠ X.env.locals := λ b o e => Nat.ne_of_lt (Nat.lt_of_lt_of_le (Heap.lt_size e) I.ok.above)
 have neC : ∀ b o, X.s₀.heap.get? b = some o -> b ∉ X.ex -> b ∉ ch := λ b o e hx hb => by
  rcases (hch b hb).1 with z | z
  .exact hx z
  .exact absurd (Nat.lt_of_lt_of_le (Heap.lt_size e) z) (Nat.lt_irrefl _)
 have cellK : ∀ x c, X.env.cells.lookup x = some c -> ∀ v, s.heap.IsCell c v -> h'.IsCell c v := λ x c e v zq1 => by
  obtain ⟨o, ho, hd⟩ := zq1
  have nch : c ∉ ch := λ z => (hch c z).2.2.1 x c e rfl
  by_cases hc : c ∈ X.fs
  .obtain ⟨sl, q⟩ := slot c o (I.cne x c e) hc nch ho (I.freeC x c e)
   exact ⟨_, q, hd⟩
  .exact ⟨o, keep c o (I.cne x c e) hc nch ho (I.freeC x c e), hd⟩
 refine ⟨I.ok, I.os, I.bare.trans hg, ⟨λ b o e n hb hx => ?_, λ b o e n hb hx => ?_, λ b o e n hx => ?_, λ b o e hx => ?_, λ b xs e => tups b xs (I.base.tups b xs e), λ b o xs e => frzs b o xs (I.base.frzs b o xs e), λ b ps e => ?_⟩, ?_, λ x c e => ?_, ?_, λ x c e => ?_, λ p hp => ?_, hok, I.len⟩
 .exact keep b o (neL b o e) hb (neC b o e hx) (I.base.keep b o e n hb hx) (I.base.free b o e n hx)
 .obtain ⟨sl, e1⟩ := I.base.slot b o e n hb hx
  obtain ⟨sl', e2⟩ := slot b _ (neL b o e) hb (neC b o e hx) e1 (I.base.free b o e n hx)
  exact ⟨sl', e2⟩
 .obtain ⟨o', e1⟩ := I.base.there b o e hx
  exact free b o' (neC b o e hx) e1 (I.base.free b o e n hx)
 .obtain ⟨o', e1⟩ := I.base.there b o e hx
  exact there b o' (neC b o e hx) e1
 .obtain ⟨m1, e1⟩ := I.base.tbls b ps e
  obtain ⟨m2, e2⟩ := tbls b _ e1
  exact ⟨m1 ++ m2, by rw [e2, Array.append_assoc]⟩
 .obtain ⟨m, hn, hl⟩ := I.loc
  refine ⟨m, ns m hn, λ i x v e1 e2 e3 => ?_⟩
  obtain ⟨u, r, l⟩ := hl i x v e1 e2 e3
  refine ⟨u, r, ?_⟩
  rcases l with l | ⟨k, c, e, z⟩
  .exact .inl l
  .exact .inr ⟨k, c, e, cellK x c e _ z⟩
 .obtain ⟨v, z⟩ := I.cell x c e
  exact ⟨v, cellK x c e v z⟩
 .obtain ⟨m, ⟨o, _, _, ho, _⟩, _⟩ := I.loc
  exact free _ o (λ z => (hch _ z).2.1 rfl) ho I.free
 .obtain ⟨v, o, ho, hd⟩ := I.cell x c e
  exact free c o (λ z => (hch c z).2.2.1 x c e rfl) ho (I.freeC x c e)
 .obtain ⟨e, n, ne, nf, d⟩ := I.pin p hp
  have nch : p.1 ∉ ch := λ z => (hch p.1 z).2.2.2 p hp rfl
  exact ⟨keep p.1 p.2 ne nf nch e n, free p.1 p.2 nch e n, ne, nf, d⟩
theorem Inv.un {t' : Nat} (I : Inv X pins σ H s) (u : Un X.fs [] H H' s.heap h') (hok : HOk X.prog X.w H' h') : Inv X pins σ H' { s with heap := h', toks := t' } := by
 obtain ⟨m, ⟨o, es, ep, ho, r⟩, _⟩ := id I.loc
 obtain ⟨sl, hL⟩ := u.any ho I.free (by simp)
 exact I.step (g' := s.gens) (d' := s.drawn) (ch := []) (λ _ z => nomatch z) (λ b o _ hb _ e n => u.keep b o e n hb (by simp)) (λ b o _ hb _ e n => u.slot b o e n hb (by simp)) (λ b o _ e n => u.free b o e n (by simp)) (λ b o _ e => u.there b o e (by simp)) u.tups u.frzs u.tbls (λ m' hm => by
  obtain ⟨o', es', ep', ho', r'⟩ := hm
  rw [ho] at ho'; cases ho'
  exact ⟨_, es', ep', hL, r'⟩) hok I.bare.again
theorem Inv.call {g' : Array GenState} {t' : Nat} {d' : Drawn} {ch : List Addr} (I : Inv X pins σ H s) (u : Un (frs X.stack) ch H H' s.heap h') (hok : HOk X.prog X.w H' h') (hg : GK s.gens g')
  (hch : ∀ b ∈ ch, (b ∈ X.ex ∨ X.s₀.heap.objs.size <= b) /\ b ≠ X.env.locals /\ (∀ x c, X.env.cells.lookup x = some c -> c ≠ b) /\ ∀ p ∈ X.pn ++ pins, p.1 ≠ b) :
  Inv X pins σ H' { s with heap := h', gens := g', drawn := d', toks := t' } := by
 obtain ⟨m, ⟨o, es, ep, ho, r⟩, _⟩ := id I.loc
 obtain ⟨sl, hL⟩ := u.any ho I.free λ z => (hch _ z).2.1 rfl
 exact I.step (ch := ch) hch (λ b o hL hb hc e n => u.keep b o e n (λ z => (List.mem_cons.mp (I.stkSub b z)).elim hL hb) hc) (λ b o _ _ hc e n => u.any e n hc) (λ b o hc e n => u.free b o e n hc) (λ b o hc e => u.there b o e hc) u.tups u.frzs u.tbls (λ m' hm => by
  obtain ⟨o', es', ep', ho', r'⟩ := hm
  rw [ho] at ho'; cases ho'
  exact ⟨_, es', ep', hL, r'⟩) hok hg
theorem Inv.turned {t' : Nat} {it : Addr} (I : Inv X pins σ H s) (k : ∀ b o, b ≠ it -> s.heap.get? b = some o -> h'.get? b = some o) (hn : H it = none) (hL : it ≠ X.env.locals)
  (h1 : it ∈ X.ex ∨ X.s₀.heap.objs.size <= it) (h2 : ∀ x c, X.env.cells.lookup x = some c -> c ≠ it) (h3 : ∀ p ∈ X.pn ++ pins, p.1 ≠ it) : Inv X pins σ H { s with heap := h', toks := t' } := by
 have nit : ∀ b u, H b = some u -> b ≠ it := λ b u e z => by rw [z, hn] at e; cases e
 refine I.step (g' := s.gens) (d' := s.drawn) (ch := [it]) (λ b hb => ?_) (λ b o _ _ hc e _ => k b o (λ z => hc (by simp [z])) e) (λ b o _ _ hc e _ => ⟨o.slots, k b o (λ z => hc (by simp [z])) e⟩) (λ _ _ _ _ n => n)
  (λ b o hc e => ⟨o, k b o (λ z => hc (by simp [z])) e⟩) (λ _ _ e => e) (λ _ _ _ e => e) (λ b ps e => ⟨#[], by rw [e]; simp⟩) (λ m hm => ?_) (λ b u e => ?_) I.bare.again
 .have e : b = it := by simpa using hb
  subst e
  exact ⟨h1, hL, h2, h3⟩
 .obtain ⟨o, es, ep, ho, r⟩ := hm
  exact ⟨o, es, ep, k _ o (Ne.symm hL) ho, r⟩
 .refine (I.hok b u e).stay (λ c v hc q => k c v ?_ q) (λ _ q => q) λ _ _ q => q
  rcases hc with z | z
  .rw [z]; exact nit b u e
  .exact nit c _ z
theorem Inv.tok (I : Inv X pins σ H s) (t : Nat) : Inv X pins σ H { s with toks := t } := I.un (h' := s.heap) (t' := t) Un.refl I.hok
theorem Inv.kept {t' : Nat} (I : Inv X pins σ H s) (k : ∀ b u, s.heap.get? b = some u -> h'.get? b = some u) : Inv X pins σ H { s with heap := h', toks := t' } := I.un (Un.kept k) (I.hok.kept k)
theorem Inv.laid {a : Addr} {o : HO} {t' : Nat} (I : Inv X pins σ H s) (k : ∀ b u, s.heap.get? b = some u -> h'.get? b = some u) (hp : s.heap.objs.size <= a) (new : iK X.prog X.w (upd H a o) h' a o) :
  Inv X pins σ (upd H a o) { s with heap := h', toks := t' } := I.un (Un.laid k hp (I.hok.fresh hp)) (I.hok.laid k hp new)
theorem Inv.write {x e : Addr} {o : HO} {t' : Nat} (I : Inv X pins σ H s) (mu : Mut (H x)) (he : e = x ∨ H e = some (.own x)) (k : ∀ b u, b ≠ e -> s.heap.get? b = some u -> h'.get? b = some u) (heo : ∃ u, h'.get? e = some u)
  (new : iK X.prog X.w (upd H x o) h' x o) : Inv X pins σ (upd H x o) { s with heap := h', toks := t' } := I.un (Un.write mu he k heo) (I.hok.write mu he k heo new)
theorem Inv.weak {σ' : List (Option V)} (I : Inv X pins σ H s) (hl : σ'.length = σ.length) (w : ∀ (i : Nat) v, σ'[i]? = some (some v) -> σ[i]? = some (some v)) : Inv X pins σ' H s :=
 ⟨I.ok, I.os, I.bare, I.base, let ⟨m, hn, hl'⟩ := I.loc; ⟨m, hn, λ i x v e1 e2 e3 => hl' i x v e1 (w i v e2) e3⟩, I.cell, I.free, I.freeC, I.pin, I.hok, hl.trans I.len⟩
theorem Inv.pins_of {pins' : List (Addr × Obj)} (I : Inv X pins σ H s) (h : ∀ p ∈ pins', s.heap.get? p.1 = some p.2 /\ H p.1 = none /\ p.1 ≠ X.env.locals /\ p.1 ∉ X.fs /\ ∀ v, p.2.data ≠ .cell v) : Inv X pins' σ H s :=
 ⟨I.ok, I.os, I.bare, I.base, I.loc, I.cell, I.free, I.freeC, λ p hp => (List.mem_append.mp hp).elim (λ z => I.pin p (List.mem_append_left _ z)) (h p), I.hok, I.len⟩
theorem xy {N : List Str} (hN : N.Nodup) {i j : Nat} {x : Str} (a : N[i]? = some x) (b : N[j]? = some x) : i = j := by
 obtain ⟨h1, e1⟩ := List.getElem?_eq_some_iff.mp a
 obtain ⟨h2, e2⟩ := List.getElem?_eq_some_iff.mp b
 exact (List.getElem_inj hN).mp (e1.trans e2.symm)
theorem uI {M : Model} {A : Around} {E : Value -> Shared -> Prop} {i : Nat} {x : Str} {v : V} {u : Value} {Q : Unit -> Shared -> Prop} (I : Inv X pins σ H s) (hN : X.N.Nodup) (hi : X.N[i]? = some x) (hx : Loc X.env.scope x) (r : RelV v u)
  (h : ∀ s', Inv X pins (σ.set i (some v)) H s' -> (∃ a, Heap.SameBut a s.heap s'.heap /\ (a = X.env.locals ∨ X.env.cells.lookup x = some a)) -> Q () s') (hf : X.fn x = true ∨ X.env.scope.names.lookup x = some .local := by first | exact .inl rfl | exact .inr rfl | assumption) : wpAny M A (storeName X.env x u) Q E s := by
 obtain ⟨m, hn, hl⟩ := id I.loc
 have hcls : (X.env.scope.kind == .class || (X.env.scope.kind == .module && X.env.locals != X.env.globals)) = false := by rw [I.ok.kind]; rfl
 have hiσ : i < σ.length := by rw [I.len]; exact (List.getElem?_eq_some_iff.mp hi).1
 have cne := I.cne
 have tracked : ∀ {a : Addr} {h' : Heap}, (∃ o, s.heap.get? a = some o /\ H a = none) -> Heap.SameBut a s.heap h' -> HOk X.prog X.w H h' := λ {a h'} ha hs b ob e => by
  obtain ⟨_, _, hfree⟩ := ha
  refine (I.hok b ob e).stay (λ c w' hc q => (hs.2 c ?_).trans q) (λ _ q => q) λ _ _ q => q
  rintro rfl
  rcases hc with rfl | hc
  .rw [hfree] at e; cases e
  .rw [hfree] at hc; cases hc
 rcases hx with hk | hk
 .refine wpAny_storeName_local hk hn (λ h' hn' hs => ?_) hcls
  obtain ⟨oL, _, _, hoL, _⟩ := id hn
  refine h _ ⟨I.ok, I.os, I.bare, ⟨λ b o e n hb hx => ?_, λ b o e n hb hx => ?_, I.base.free, λ b o e hx => ?_, I.base.tups, I.base.frzs, I.base.tbls⟩, ⟨_, hn', λ j y v' e1 e2 e3 => ?_⟩, λ y c e => ?_, I.free, I.freeC, λ p hp => ?_, tracked ⟨oL, hoL, I.free⟩ hs, by simpa using I.len⟩ ⟨_, hs, .inl rfl⟩
  .exact (hs.2 b (Nat.ne_of_lt (Nat.lt_of_lt_of_le (Heap.lt_size e) I.ok.above))).trans (I.base.keep b o e n hb hx)
  .obtain ⟨sl, e1⟩ := I.base.slot b o e n hb hx
   exact ⟨sl, (hs.2 b (Nat.ne_of_lt (Nat.lt_of_lt_of_le (Heap.lt_size e) I.ok.above))).trans e1⟩
  .obtain ⟨o', e1⟩ := I.base.there b o e hx
   exact ⟨o', (hs.2 b (Nat.ne_of_lt (Nat.lt_of_lt_of_le (Heap.lt_size e) I.ok.above))).trans e1⟩
  .by_cases hj : j = i
   .subst hj
    rw [hi] at e1; cases e1
    rw [List.getElem?_set_self hiσ] at e2
    cases e2
    exact ⟨u, r, .inl ⟨hk, by simp⟩⟩
   .rw [List.getElem?_set_ne (Ne.symm hj)] at e2
    obtain ⟨u', r', q⟩ := hl j y v' e1 e2 e3
    refine ⟨u', r', ?_⟩
    rcases q with ⟨k, e⟩ | ⟨k, c, e, z⟩
    .refine .inl ⟨k, ?_⟩
     have : y ≠ x := λ e => hj (xy hN e1 (e ▸ hi))
     simp [this, e]
    .exact .inr ⟨k, c, e, z.sameBut hs (cne y c e)⟩
  .obtain ⟨w', z⟩ := I.cell y c e
   exact ⟨w', z.sameBut hs (cne y c e)⟩
  .obtain ⟨e, n, ne, nf, d⟩ := I.pin p hp
   exact ⟨(hs.2 p.1 ne).trans e, n, ne, nf, d⟩
 .have hfn : X.fn x = true := by
   rcases hf with z | z
   .exact z
   .rw [z] at hk; cases hk
  obtain ⟨c, hc⟩ := I.ok.has x (.inl hk)
  obtain ⟨w', z⟩ := I.cell x c hc
  refine wpAny_storeName_cell I.ok.kind hk hc z (λ h' hc' hs => ?_)
  obtain ⟨oc, hoc, hocd⟩ := id z
  refine h { s with heap := h' } ⟨I.ok, I.os, I.bare, ⟨λ b o e n hb hx => ?_, λ b o e n hb hx => ?_, I.base.free, λ b o e hx => ?_, I.base.tups, I.base.frzs, I.base.tbls⟩, ⟨m, hn.sameBut hs (Ne.symm (cne x c hc)), λ j y v' e1 e2 e3 => ?_⟩, λ y c' e => ?_, I.free, I.freeC, λ p hp => ?_, tracked ⟨oc, hoc, I.freeC x c hc⟩ hs, by simpa using I.len⟩ ⟨c, hs, .inr hc⟩
  .exact (hs.2 b (Nat.ne_of_lt (Nat.lt_of_lt_of_le (Heap.lt_size e) (I.ok.cab x c hfn hc)))).trans (I.base.keep b o e n hb hx)
  .obtain ⟨sl, e1⟩ := I.base.slot b o e n hb hx
   exact ⟨sl, (hs.2 b (Nat.ne_of_lt (Nat.lt_of_lt_of_le (Heap.lt_size e) (I.ok.cab x c hfn hc)))).trans e1⟩
  .obtain ⟨o', e1⟩ := I.base.there b o e hx
   exact ⟨o', (hs.2 b (Nat.ne_of_lt (Nat.lt_of_lt_of_le (Heap.lt_size e) (I.ok.cab x c hfn hc)))).trans e1⟩
  .by_cases hj : j = i
   .subst hj
    rw [hi] at e1; cases e1
    rw [List.getElem?_set_self hiσ] at e2
    cases e2
    exact ⟨u, r, .inr ⟨.inl hk, c, hc, hc'⟩⟩
   .rw [List.getElem?_set_ne (Ne.symm hj)] at e2
    obtain ⟨u', r', q⟩ := hl j y v' e1 e2 e3
    refine ⟨u', r', ?_⟩
    rcases q with q | ⟨k, c', e, z'⟩
    .exact .inl q
    .refine .inr ⟨k, c', e, z'.sameBut hs ?_⟩
     rintro rfl
     exact hj (xy hN e1 (I.ok.inj _ _ _ e hc ▸ hi))
  .by_cases hcc : c' = c
   .subst hcc; exact ⟨_, hc'⟩
   .obtain ⟨w2, z2⟩ := I.cell y c' e
    exact ⟨w2, z2.sameBut hs hcc⟩
  .obtain ⟨e, n, ne, nf, d⟩ := I.pin p hp
   refine ⟨(hs.2 p.1 ?_).trans e, n, ne, nf, d⟩
   intro q
   rw [q, hoc] at e
   have q' : oc = p.2 := Option.some.inj e
   exact d w' (by rw [<- q']; exact hocd)
theorem lE {M : Model} {A : Around} {E : Value -> Shared -> Prop} {i : Nat} {x : Str} {v : V} {u : Value} {Q : Unit -> Shared -> Prop} (I : Inv X pins σ H s) (hN : X.N.Nodup) (hi : X.N[i]? = some x) (hx : Loc X.env.scope x) (r : RelV v u)
  (h : ∀ s', Inv X pins (σ.set i (some v)) H s' -> Q () s') (hf : X.fn x = true ∨ X.env.scope.names.lookup x = some .local := by first | exact .inl rfl | exact .inr rfl | assumption) : wpAny M A (storeName X.env x u) Q E s :=
 uI I hN hi hx r (λ s' I' _ => h s' I') hf
theorem Inv.call' {s' : Shared} {ch : List Addr} (I : Inv X pins σ H s) (ho : s'.os = s.os) (u : Un (frs X.stack) ch H H' s.heap s'.heap) (hok : HOk X.prog X.w H' s'.heap) (hg : GK s.gens s'.gens)
  (hch : ∀ b ∈ ch, (b ∈ X.ex ∨ X.s₀.heap.objs.size <= b) /\ b ≠ X.env.locals /\ (∀ x c, X.env.cells.lookup x = some c -> c ≠ b) /\ ∀ p ∈ X.pn ++ pins, p.1 ≠ b) : Inv X pins σ H' s' := by
 obtain ⟨h', g', d', t', o'⟩ := s'
 have e : o' = s.os := ho
 subst e
 exact I.call (g' := g') (t' := t') (d' := d') u hok hg hch
end
abbrev XK := Value -> Option Addr -> Hp -> Prop
abbrev St := List (Option V)
abbrev VK := V -> Hp -> Prop
abbrev TE := St -> Hp -> VK -> Prop
abbrev TT := St -> Hp -> (Bool -> Hp -> Prop) -> Prop
abbrev TA := St -> Hp -> (List V -> Hp -> Prop) -> Prop
structure Ends where
 nx : St -> Hp -> Prop
 rt : VK
 bk : St -> Hp -> Prop := λ _ _ => False
 ct : St -> Hp -> Prop := λ _ _ => False
abbrev TS := Ends -> St -> Hp -> Prop
def EP (X : Cx) (pins : List (Addr × Obj)) (σ : St) (Q : VK) (u : Value) (s' : Shared) : Prop := ∃ v H', Inv X pins σ H' s' /\ RelV v u /\ Q v H'
def TP (X : Cx) (pins : List (Addr × Obj)) (σ : St) (Q : Bool -> Hp -> Prop) (b : Bool) (s' : Shared) : Prop := ∃ H', Inv X pins σ H' s' /\ Q b H'
def AP (X : Cx) (pins : List (Addr × Obj)) (σ : St) (Q : List V -> Hp -> Prop) (us : List Value) (s' : Shared) : Prop := ∃ vs H', Inv X pins σ H' s' /\ Vals vs us /\ Q vs H'
def SP (X : Cx) (pins : List (Addr × Obj)) (D : Ends) (f : Flow) (s' : Shared) : Prop :=
 match f with
 | .next => ∃ σ' H', Inv X pins σ' H' s' /\ D.nx σ' H'
 | .brk => ∃ σ' H', Inv X pins σ' H' s' /\ D.bk σ' H'
 | .cont => ∃ σ' H', Inv X pins σ' H' s' /\ D.ct σ' H'
 | .ret u => ∃ v σ' H', Inv X pins σ' H' s' /\ RelV v u /\ D.rt v H'
def PE (X : Cx) (e : Expr) (t : TE) : Prop :=
 ∀ (pins : List (Addr × Obj)) (s : Shared) (σ : St) (H : Hp) (Q : VK), Inv X pins σ H s -> t σ H Q -> wpAny (model X.prog X.w) X.A (eval e X.env) (EP X pins σ Q) X.xe s
def PT (X : Cx) (e : Expr) (t : TT) : Prop :=
 ∀ (pins : List (Addr × Obj)) (s : Shared) (σ : St) (H : Hp) (Q : Bool -> Hp -> Prop), Inv X pins σ H s -> t σ H Q -> wpAny (model X.prog X.w) X.A (isTrue e X.env (eval e X.env)) (TP X pins σ Q) X.xe s
def PW (X : Cx) (e : Expr) (t : TT) : Prop :=
 ∀ (whole : Sem Value) (pins : List (Addr × Obj)) (s : Shared) (σ : St) (H : Hp) (Q : Bool -> Hp -> Prop), Inv X pins σ H s -> t σ H Q -> wpAny (model X.prog X.w) X.A (isTrue e X.env whole) (TP X pins σ Q) X.xe s
theorem PW.pt {X : Cx} {e : Expr} {t : TT} (h : PW X e t) : PT X e t := h _
def PA (X : Cx) (es : List Expr) (t : TA) : Prop :=
 ∀ (pos : Pos) (pins : List (Addr × Obj)) (s : Shared) (σ : St) (H : Hp) (Q : List V -> Hp -> Prop), Inv X pins σ H s -> t σ H Q -> wpAny (model X.prog X.w) X.A (spliced (backTo pos (starEach es X.env))) (AP X pins σ Q) X.xe s
def PS (X : Cx) (st : Stmt) (t : TS) : Prop :=
 ∀ (pins : List (Addr × Obj)) (s : Shared) (σ : St) (H : Hp) (D : Ends), Inv X pins σ H s -> t D σ H -> wpAny (model X.prog X.w) X.A (exec st X.env) (SP X pins D) X.xe s
def PSs (X : Cx) (st : List Stmt) (t : TS) : Prop :=
 ∀ (pins : List (Addr × Obj)) (s : Shared) (σ : St) (H : Hp) (D : Ends), Inv X pins σ H s -> t D σ H -> wpAny (model X.prog X.w) X.A (execs st X.env) (SP X pins D) X.xe s
theorem thn {α : Type} {t : Sem α} {Q Q' : α -> Shared -> Prop} {M : Model} {A : Around} {E : Value -> Shared -> Prop} {s : Shared} (h : wpAny M A t Q E s) (hQ : ∀ a s, Q a s -> Q' a s) : wpAny M A t Q' E s := wpAny_mono h hQ λ _ _ x => x
section
variable {X : Cx}
def tVar (i : Nat) : TE := λ σ H Q => ∃ v, σ[i]? = some (some v) /\ Q v H
def tC (v : V) : TE := λ _ H Q => Q v H
theorem JX {i : Nat} {x : Str} {pos : Pos} (hN : X.N[i]? = some x) (hv : Vis X.env.scope x) (hd : (x == ("__debug__" : Str)) = false := by decide) (hcd : (x == ("__classdict__" : Str)) = false := by decide) : PE X (.Name x pos) (tVar i) := by
 intro pins s σ H Q I h
 obtain ⟨v, e, h⟩ := h
 obtain ⟨m, hn, hl⟩ := I.loc
 obtain ⟨u, r, l⟩ := hl i x v hN e hv
 have fin : EP X pins σ Q u s := ⟨v, H, I, r, h⟩
 rcases l with ⟨hk, hm⟩ | ⟨hk, c, hc, hcell⟩
 .exact wpAny_Name (wpAny_loadName_local I.ok.kind hk hn hm fin) hd
 .rcases hk with hk | hk
  .exact wpAny_Name (wpAny_loadName_cell I.ok.kind hk hc hcell fin) hd
  .exact wpAny_Name (wpAny_loadName_free I.ok.kind hk hc hcell fin hcd) hd
theorem zp {i j pos} : PE X (.Constant (.int i) j pos) (tC (.int i)) := λ _ _ _ H _ I h => wpAny_Constant_int ⟨.int i, H, I.tok _, ⟨_, rfl⟩, h⟩
theorem Np {b j pos} : PE X (.Constant (.bool b) j pos) (tC (.bl b)) := λ _ _ _ H _ I h => Constant_bool ⟨.bl b, H, I, rfl, h⟩
def Gl (X : Cx) (x : Str) : Prop := X.env.kindOf x = some .globalImplicit
theorem Hg {E : Value -> Shared -> Prop} {pins : List (Addr × Obj)} {s : Shared} {σ : St} {H : Hp} {x : Str} {u : Value} {pos : Pos} {Q : Value -> Shared -> Prop} (I : Inv X pins σ H s) (hg : Gl X x) (hm : X.mg x = some u) (h : Q u s)
  (hd : (x == ("__debug__" : Str)) = false := by decide) : wpAny (model X.prog X.w) X.A (eval (.Name x pos) X.env) Q E s :=
 Calls.Name_function_global I.ok.kind hg (Calls.loadGlobal_global (by rw [I.ok.glob]; exact I.mod.glob.keeps I.bk) hm h) hd
theorem jG {E : Value -> Shared -> Prop} {pins : List (Addr × Obj)} {s : Shared} {σ : St} {H : Hp} {x : Str} {u : Value} {pos : Pos} {Q : Value -> Shared -> Prop} (I : Inv X pins σ H s) (hg : Gl X x) (hm : X.mg x = none) (hv : bootBuiltins x = some u) (h : Q u s)
  (hn : x ≠ "__name__" := by decide) (hd : (x == ("__debug__" : Str)) = false := by decide) : wpAny (model X.prog X.w) X.A (eval (.Name x pos) X.env) Q E s := by
 obtain ⟨mb, h1, h2⟩ := I.mod.blt
 exact Calls.Name_function_global I.ok.kind hg (Calls.loadGlobal_builtin (by rw [I.ok.glob]; exact I.mod.glob.keeps I.bk) hm (by rw [I.ok.blt]; exact h1.keeps I.bk) ((h2 x hn).trans hv) h) hd
theorem Ik {x : Str} {v : V} {u : Value} {pos : Pos} (hg : Gl X x) (hm : X.mg x = none) (hv : bootBuiltins x = some u) (r : RelV v u) (hn : x ≠ "__name__" := by decide) (hd : (x == ("__debug__" : Str)) = false := by decide) : PE X (.Name x pos) (tC v) :=
 λ _ _ _ H _ I h => jG I hg hm hv ⟨v, H, I, r, h⟩ hn hd
variable {a b : Expr} {ta tb : TE} {pos : Pos}
theorem wV (b : Expr) {op : CmpOp} (h : op ≠ .In) (h2 : op ≠ .NotIn) : behindInMarks op b = false := by
 have e1 : (op == CmpOp.In) = false := by cases op <;> first | rfl | exact absurd rfl h
 have e2 : (op == CmpOp.NotIn) = false := by cases op <;> first | rfl | exact absurd rfl h2
 cases b <;> simp [behindInMarks, e1, e2]
variable {tA tB' : TT} {rest : List Expr}
def tAnd (t u : TT) : TT := λ σ H Q => t σ H λ c H1 => if c = true then u σ H1 Q else Q false H1
def tOr (t u : TT) : TT := λ σ H Q => t σ H λ c H1 => if c = true then Q true H1 else u σ H1 Q
def tNot (t : TT) : TT := λ σ H Q => t σ H λ c H1 => Q (!c) H1
theorem Hc (ha : PT X a tA) : PW X (.BoolOp .And [a] pos) tA := by
 intro wh pins s σ H Q I h
 refine isTrue_and (thn (ha pins s σ H Q I h) λ c s1 e => ?_)
 cases c with
 | true => exact isTrue_and_nil e
 | false => exact e
theorem Ld (ha : PT X a tA) : PW X (.BoolOp .Or [a] pos) tA := by
 intro wh pins s σ H Q I h
 refine isTrue_or (thn (ha pins s σ H Q I h) λ c s1 e => ?_)
 cases c with
 | false => exact isTrue_or_nil e
 | true => exact e
theorem Ju (ha : PT X a tA) (hb : PW X (.BoolOp .And (b :: rest) pos) tB') : PW X (.BoolOp .And (a :: b :: rest) pos) (tAnd tA tB') := by
 intro wh pins s σ H Q I h
 refine isTrue_and (thn (ha pins s σ H _ I h) λ c s1 zq7 => ?_)
 obtain ⟨H1, I1, q1⟩ := zq7
 cases c with
 | true => exact hb wh pins s1 σ H1 Q I1 q1
 | false => exact ⟨H1, I1, q1⟩
theorem Om (ha : PT X a tA) (hb : PW X (.BoolOp .Or (b :: rest) pos) tB') : PW X (.BoolOp .Or (a :: b :: rest) pos) (tOr tA tB') := by
 intro wh pins s σ H Q I h
 refine isTrue_or (thn (ha pins s σ H _ I h) λ c s1 zq8 => ?_)
 obtain ⟨H1, I1, q1⟩ := zq8
 cases c with
 | true => exact ⟨H1, I1, q1⟩
 | false => exact hb wh pins s1 σ H1 Q I1 q1
theorem JG (ha : PT X a tA) : PT X (.UnaryOp .Not a pos) (tNot tA) := by
 intro pins s σ H Q I h
 exact isTrue_not (ha pins s σ H (λ c H1 => Q (!c) H1) I h)
def Pn (ta tb : TE) : TE := λ σ H Q => ta σ H λ x H1 => ∃ c, x = .bl c /\ if c = true then tb σ H1 Q else Q (.bl false) H1
def PK (ta : TE) : TE := λ σ H Q => ta σ H λ x H1 => ∃ c, x = .bl c /\ Q (.bl (!c)) H1
theorem JK {op} {t : TE} (h : PE X a t) : PE X (.BoolOp op [a] pos) t := λ pins s σ H Q I hw => BoolOp_one (h pins s σ H Q I hw)
theorem KJ (ha : PE X a ta) (hb : PE X (.BoolOp .And (b :: rest) pos) tb) : PE X (.BoolOp .And (a :: b :: rest) pos) (Pn ta tb) := by
 intro pins s σ H Q I h
 refine BoolOp_and (thn (ha pins s σ H _ I h) λ v s1 zq9 => ?_)
 obtain ⟨x, H1, I1, r1, q1⟩ := zq9
 obtain ⟨c, rfl, q1⟩ := q1
 cases r1
 refine wpAny_truthy_bool ?_
 cases c with
 | true => exact hb pins s1 σ H1 Q I1 q1
 | false => exact ⟨.bl false, H1, I1, rfl, q1⟩
theorem Mg (ha : PE X a ta) : PE X (.UnaryOp .Not a pos) (PK ta) := by
 intro pins s σ H Q I h
 refine UnaryOp_ (thn (ha pins s σ H _ I h) λ v s1 zq11 => ?_)
 obtain ⟨x, H1, I1, r1, q1⟩ := zq11
 obtain ⟨c, rfl, q1⟩ := q1
 cases r1
 exact not_of (wpAny_truthy_bool ⟨.bl (!c), H1, I1, rfl, q1⟩)
end
def SqL (K : PySem.W.Frag) (H : Hp) (a : Addr) (xs : List V) : Prop :=
 Rd H a (.lst xs) ∨
  ∃ (o : Obj) (its : Array Value) (n : Nat), K.lookup a = some o /\ o.cls = .type "list" /\ o.dict = none /\ o.data = .seq its n /\ its.size <= sizeLine /\ Vals xs its.toList
def SqT (K : PySem.W.Frag) (H : Hp) (a : Addr) (xs : List V) : Prop :=
 Rd H a (.tup xs) ∨
  ∃ (o : Obj) (its : Array Value) (n : Nat), K.lookup a = some o /\ o.cls = .type "tuple" /\ o.data = .seq its n /\ its.size <= sizeLine /\ Vals xs its.toList
def absV : Value -> Option V
 | .none => some .non
 | .bool b => some (.bl b)
 | .int i _ => some (.int i)
 | .str x _ => some (.str x)
 | .bytes b _ => some (.byt b)
 | .float b _ => some (.flt b)
 | .ref a => some (.ref a)
 | .type n => some (.ty n)
 | _ => none
theorem RelV.abs {x : V} {u : Value} (r : RelV x u) : absV u = some x := by
 cases x with
 | non => cases r; rfl
 | bl _ => cases r; rfl
 | int _ => obtain ⟨t, rfl⟩ := r; rfl
 | str _ => obtain ⟨t, rfl⟩ := r; rfl
 | byt _ => obtain ⟨t, rfl⟩ := r; rfl
 | flt _ => obtain ⟨t, rfl⟩ := r; rfl
 | ref _ => cases r; rfl
 | ty _ => cases r; rfl
theorem RelV.inj {x y : V} {u : Value} (r : RelV x u) (q : RelV y u) : x = y := Option.some.inj (r.abs.symm.trans q.abs)
theorem Vals.inj : ∀ {xs ys : List V} {us : List Value}, Vals xs us -> Vals ys us -> xs = ys
 | _, _, _, .nil, .nil => rfl
 | _, _, _, .cons r t, .cons r' t' => by rw [r.inj r', Vals.inj t t']
section
variable {X : Cx} {pins : List (Addr × Obj)} {σ : St} {H : Hp} {s : Shared} {a : Addr} {xs ys : List V}
theorem SqL.of {K : PySem.W.Frag} (h : H a = some (.lst xs)) : SqL K H a xs := .inl (.inl h)
theorem Inv.list (I : Inv X pins σ H s) (h : SqL X.K H a xs) : ∃ its : List Value, Vals xs its /\ PlainL s.heap a its.toArray /\ xs.length <= sizeLine := by
 rcases h with h | ⟨o, its, n, hk, hc, hd, hs, hz, r⟩
 .obtain ⟨z, its, n, r, e⟩ := h.ok I.hok
  exact ⟨its, r, ⟨_, n, e, rfl, rfl, rfl⟩, z⟩
 .refine ⟨its.toList, r, ⟨o, n, I.kIn a o hk, hc, hd, by simpa using hs⟩, ?_⟩
  have e := r.length
  simp only [Array.length_toList] at e
  omega
theorem Inv.tuple (I : Inv X pins σ H s) (h : SqT X.K H a xs) : ∃ its : List Value, Vals xs its /\ IsTup s.heap a its.toArray /\ xs.length <= sizeLine := by
 rcases h with h | ⟨o, its, n, hk, hc, hs, hz, r⟩
 .obtain ⟨z, its, r, p⟩ := h.ok I.hok
  exact ⟨its, r, p, z⟩
 .refine ⟨its.toList, r, ⟨o, I.kIn a o hk, hc, n, by simpa using hs⟩, ?_⟩
  have e := r.length
  simp only [Array.length_toList] at e
  omega
theorem Inv.list_inj (I : Inv X pins σ H s) (h : SqL X.K H a xs) (h' : SqL X.K H a ys) : xs = ys := by
 obtain ⟨its, r, ⟨o, n, e, _, _, d⟩, _⟩ := I.list h
 obtain ⟨its', r', ⟨o', n', e', _, _, d'⟩, _⟩ := I.list h'
 rw [e] at e'; cases e'
 rw [d] at d'
 injection d' with d1 _
 have : its = its' := by simpa using congrArg Array.toList d1
 subst this
 exact r.inj r'
theorem Inv.tuple_inj (I : Inv X pins σ H s) (h : SqT X.K H a xs) (h' : SqT X.K H a ys) : xs = ys := by
 obtain ⟨its, r, ⟨o, e, _, n, d⟩, _⟩ := I.tuple h
 obtain ⟨its', r', ⟨o', e', _, n', d'⟩, _⟩ := I.tuple h'
 rw [e] at e'; cases e'
 rw [d] at d'
 injection d' with d1 _
 have : its = its' := by simpa using congrArg Array.toList d1
 subst this
 exact r.inj r'
end
abbrev Cx.wish (X : Cx) (E : Value -> Shared -> Prop) : Cx := { X with xe := E }
abbrev Cx.nox (X : Cx) : Cx := X.wish λ _ _ => False
theorem Cx.Ok.wish {X : Cx} (ok : X.Ok) (E : Value -> Shared -> Prop) : (X.wish E).Ok :=
 ⟨ok.mod, ok.kind, ok.glob, ok.blt, ok.above, ok.inj, ok.has, ok.cab, ok.hd, ok.frames, ok.stk, ok.exf, ok.bs, ok.bsz, ok.noex, ok.exfs, ok.funs, ok.frf⟩
theorem Cx.Ok.unwish {X : Cx} {E : Value -> Shared -> Prop} (ok : (X.wish E).Ok) : X.Ok :=
 ⟨ok.mod, ok.kind, ok.glob, ok.blt, ok.above, ok.inj, ok.has, ok.cab, ok.hd, ok.frames, ok.stk, ok.exf, ok.bs, ok.bsz, ok.noex, ok.exfs, ok.funs, ok.frf⟩
section
variable {X : Cx} {pins : List (Addr × Obj)} {σ : St} {H : Hp} {s : Shared} {E : Value -> Shared -> Prop}
theorem Inv.wish (I : Inv X pins σ H s) (E : Value -> Shared -> Prop) : Inv (X.wish E) pins σ H s := ⟨I.ok.wish E, I.os, I.bare, I.base, I.loc, I.cell, I.free, I.freeC, I.pin, I.hok, I.len⟩
theorem Inv.unwish (I : Inv (X.wish E) pins σ H s) : Inv X pins σ H s := ⟨I.ok.unwish, I.os, I.bare, I.base, I.loc, I.cell, I.free, I.freeC, I.pin, I.hok, I.len⟩
theorem SP.unwish {D : Ends} {f : Flow} {s' : Shared} (h : SP (X.wish E) pins D f s') : SP X pins D f s' := by
 cases f with
 | next => obtain ⟨σ', H', I, q⟩ := h; exact ⟨σ', H', I.unwish, q⟩
 | brk => obtain ⟨σ', H', I, q⟩ := h; exact ⟨σ', H', I.unwish, q⟩
 | cont => obtain ⟨σ', H', I, q⟩ := h; exact ⟨σ', H', I.unwish, q⟩
 | ret u => obtain ⟨v, σ', H', I, r, q⟩ := h; exact ⟨v, σ', H', I.unwish, r, q⟩
theorem PSs.nox {st : List Stmt} {t : TS} (h : PSs X.nox st t) : PSs X st t := λ pins s σ H D I hw =>
 wpAny_mono (h pins s σ H D (I.wish _) hw) (λ _ _ q => q.unwish) λ _ _ z => False.elim z
end
section
variable {X : Cx} {st : Stmt} {rest : List Stmt} {t u : TS} {e : Expr} {te : TE} {pos : Pos}
def Oc : TS := λ D σ H => D.nx σ H
def tSeq (t u : TS) : TS := λ D σ H => t { D with nx := u D } σ H
theorem HD : PSs X [] Oc := λ _ _ σ H _ I h => wpAny_execs_nil ⟨σ, H, I, h⟩
theorem Dn (h1 : PS X st t) (h2 : PSs X rest u) : PSs X (st :: rest) (tSeq t u) := by
 intro pins s σ H D I h
 refine wpAny_execs_cons (thn (h1 pins s σ H { D with nx := u D } I h) λ f s1 q => ?_)
 cases f with
 | next =>
  obtain ⟨σ', H', I', q⟩ := q
  exact h2 pins s1 σ' H' D I' q
 | ret v => exact q
 | brk => exact q
 | cont => exact q
theorem Io (h1 : PS X st t) : PSs X [st] t := by
 intro pins s σ H D I h
 refine wpAny_execs_cons (thn (h1 pins s σ H D I h) λ f s1 q => ?_)
 cases f with
 | next => exact wpAny_execs_nil q
 | ret v => exact q
 | brk => exact q
 | cont => exact q
theorem Inv.quiet {pins : List (Addr × Obj)} {σ : St} {H : Hp} {s : Shared} (I : Inv X pins σ H s) : interactive X.env = false := by simp [interactive, I.ok.kind]
def OJ (te : TE) : TS := λ D σ H => te σ H λ _ H1 => D.nx σ H1
theorem Il (he : PE X e te) (hs : swapsWith e none pos.line X.env = pure false := by rfl) : PS X (.Expr e pos) (OJ te) := by
 intro pins s σ H D I h
 exact wpAny_Expr_any (thn (he pins s σ H _ I h) λ v s1 ⟨x, H1, I1, r1, q1⟩ => ⟨σ, H1, I1, q1⟩) I.quiet hs
def tRet (te : TE) : TS := λ D σ H => te σ H D.rt
theorem Ks (he : PE X e te) : PS X (.Return (some e) pos) (tRet te) := by
 intro pins s σ H D I h
 exact wpAny_Return_some (thn (he pins s σ H _ I h) λ v s1 ⟨x, H1, I1, r1, q1⟩ => ⟨x, σ, H1, I1, r1, q1⟩)
def tIfS (c : TT) (t u : TS) : TS := λ D σ H => c σ H λ b H1 => if b = true then t D σ H1 else u D σ H1
theorem Od {c : Expr} {a b : List Stmt} {tc : TT} (hc : PT X c tc) (ha : PSs X a t) (hb : PSs X b u) : PS X (.If c a b pos) (tIfS tc t u) := by
 intro pins s σ H D I h
 refine wpAny_If (thn (hc pins s σ H _ I h) λ d s1 zq13 => ?_)
 obtain ⟨H1, I1, q1⟩ := zq13
 cases d with
 | true => exact ha pins s1 σ H1 D I1 q1
 | false => exact hb pins s1 σ H1 D I1 q1
end
abbrev TG := V -> St -> Hp -> (St -> Hp -> Prop) -> Prop
abbrev TGs := List V -> St -> Hp -> (St -> Hp -> Prop) -> Prop
def PG (X : Cx) (target : Expr) (t : TG) : Prop :=
 ∀ (pins : List (Addr × Obj)) (s : Shared) (σ : St) (H : Hp) (v : V) (u : Value) (Q : St -> Hp -> Prop), Inv X pins σ H s -> RelV v u -> t v σ H Q ->
  wpAny (model X.prog X.w) X.A (assign target X.env u) (λ _ s' => ∃ σ' H', Inv X pins σ' H' s' /\ Q σ' H') X.xe s
def PGs (X : Cx) (ts : List Expr) (t : TGs) : Prop :=
 ∀ (pins : List (Addr × Obj)) (s : Shared) (σ : St) (H : Hp) (vs : List V) (us : List Value) (Q : St -> Hp -> Prop), Inv X pins σ H s -> Vals vs us -> t vs σ H Q ->
  wpAny (model X.prog X.w) X.A (assignInOrder ((assignEach ts X.env).map (·.2)) us) (λ _ s' => ∃ σ' H', Inv X pins σ' H' s' /\ Q σ' H') X.xe s
abbrev KD := V -> V -> V -> Hp -> (Hp -> Prop) -> Prop
def PL (X : Cx) (t : KD) : Prop :=
 ∀ (pins : List (Addr × Obj)) (s : Shared) (σ : St) (H : Hp) (o i v : V) (ov iv u : Value) (Q : Hp -> Prop), Inv X pins σ H s -> RelV o ov -> RelV i iv -> RelV v u -> t o i v H Q ->
  wpAny (model X.prog X.w) X.A (setItem ov iv u) (λ _ s' => ∃ H', Inv X pins σ H' s' /\ Q H') X.xe s
abbrev TIp := V -> V -> Hp -> VK -> Prop
def PIp (X : Cx) (op : Operator) (t : TIp) : Prop :=
 ∀ (pins : List (Addr × Obj)) (s : Shared) (σ : St) (H : Hp) (x y : V) (v u : Value) (Q : VK), Inv X pins σ H s -> RelV x v -> RelV y u -> t x y H Q ->
  wpAny (model X.prog X.w) X.A (inplaceOp op v u) (EP X pins σ Q) X.xe s
section
variable {X : Cx} {pos : Pos}
def Ef (i : Nat) : TG := λ v σ H Q => Q (σ.set i (some v)) H
theorem HH {i : Nat} {x : Str} (hN : X.N.Nodup) (hi : X.N[i]? = some x) (hx : Loc X.env.scope x) (hf : X.fn x = true ∨ X.env.scope.names.lookup x = some .local := by first | exact .inl rfl | exact .inr rfl | assumption) : PG X (.Name x pos) (Ef i) := by
 intro pins s σ H v u Q I r h
 exact wpAny_assign_Name (lE I hN hi hx r (λ s' I' => ⟨_, H, I', h⟩) hf)
def gNil : TGs := λ vs σ H Q => vs = [] /\ Q σ H
def Ni (t : TG) (u : TGs) : TGs := λ vs σ H Q => ∃ v r, vs = v :: r /\ t v σ H λ σ' H' => u r σ' H' Q
theorem Gx : PGs X [] gNil := by
 intro pins s σ H vs us Q I r h
 obtain ⟨e, h⟩ := h
 subst e
 cases r
 exact assignInOrder_nil ⟨σ, H, I, h⟩
theorem El {e : Expr} {es : List Expr} {t : TG} {u : TGs} (h1 : PG X e t) (h2 : PGs X es u)
  (hs : (assignEach (e :: es) X.env).map (·.2) = assign e X.env :: (assignEach es X.env).map (·.2) := by rfl) : PGs X (e :: es) (Ni t u) := by
 intro pins s σ H vs us Q I r h
 obtain ⟨v, vr, e1, h⟩ := h
 subst e1
 cases r with
 | cons r rr =>
  rw [hs]
  refine assignInOrder_cons (thn (h1 pins s σ H _ _ _ I r h) λ _ s1 zq14 => ?_)
  obtain ⟨σ1, H1, I1, q1⟩ := zq14
  exact h2 pins s1 σ1 H1 _ _ Q I1 rr q1
def gTup (K : PySem.W.Frag) (n : Nat) (t : TGs) : TG := λ v σ H Q => ∃ a xs, v = .ref a /\ SqT K H a xs /\ xs.length = n /\ t xs σ H Q
theorem Mx {es : List Expr} {k : Nat} {t : TGs} {n : Nat} (hc : X.calm = true) (h : PGs X es t)
  (hn : (assignEach es X.env).length = n := by rfl) (hst : (assignEach es X.env).findIdx? (·.1) = none := by rfl) : PG X (.Tuple es k pos) (gTup X.K n t) := by
 intro pins s σ H v u Q I r hw
 obtain ⟨a, xs, e1, hq, hl, hw⟩ := hw
 subst e1
 cases r
 obtain ⟨its, rv, ht, hz⟩ := I.tuple hq
 refine assign_Tuple_tuple (I.ok.hd hc) ht (by simp [hn, <- hl, rv.length]) hst λ h' hx => ?_
 have I1 : Inv X pins σ H { s with heap := h' } := I.kept (t' := s.toks) λ b o e => hx b o (Nat.ne_of_lt (Heap.lt_size e)) e
 exact h pins _ σ H xs _ Q I1 (by simpa using rv) hw
def gSub (to ti : TE) (t : KD) : TG := λ v σ H Q => to σ H λ o H1 => ti σ H1 λ i H2 => t o i v H2 λ H3 => Q σ H3
theorem JH {o i : Expr} {to ti : TE} {t : KD} (ho : PE X o to) (hi : PE X i ti) (hs : PL X t)
  (ha : ∀ v, assign (.Subscript o i pos) X.env v = (do
   let ov <- holding [v] (eval o X.env)
   let iv <- holding [v, ov] (eval i X.env)
   standAt pos
   holding [v, ov, iv] (setItem ov iv v)
   release [v, ov, iv] []) := by intro _; rfl) : PG X (.Subscript o i pos) (gSub to ti t) := by
 intro pins s σ H v u Q I r h
 rw [ha]
 refine wpAny_bind (wpAny_holding (thn (ho pins s σ H _ I h) λ ov s1 zq15 => ?_))
 obtain ⟨x, H1, I1, r1, q1⟩ := zq15
 refine wpAny_bind (wpAny_holding (thn (hi pins s1 σ H1 _ I1 q1) λ iv s2 zq16 => ?_))
 obtain ⟨y, H2, I2, r2, q2⟩ := zq16
 refine wpAny_bind (wpAny_standAt (wpAny_bind (wpAny_holding (thn (hs pins s2 σ H2 x y v ov iv u _ I2 r1 r2 r q2) λ _ s3 zq17 => ?_))))
 obtain ⟨H3, I3, q3⟩ := zq17
 exact wpAny_release ⟨σ, H3, I3, q3⟩
def Mp (te : TE) (g : TG) : TS := λ D σ H => te σ H λ x H1 => g x σ H1 D.nx
theorem Fw {tg e : Expr} {te : TE} {g : TG} (he : PE X e te) (hg : PG X tg g) (hs : swapsWithSole [tg] e pos.line X.env = pure false := by rfl) (hw : swappedStores [tg] e X.env = pure none := by rfl)
  (h1 : (assignEach [tg] X.env).map (·.2) = [assign tg X.env] := by rfl) : PS X (.Assign [tg] e pos) (Mp te g) := by
 intro pins s σ H D I h
 refine wpAny_Assign_stores (thn (he pins s σ H _ I h) λ v s1 ⟨x, H1, I1, r1, q1⟩ => ?_) hs hw
 rw [h1]
 exact thn (hg pins s1 σ H1 x v _ I1 r1 q1) λ _ s2 q => q
theorem Lx {i : Nat} {x : Str} {e : Expr} {te : TE} {pos' : Pos} (hN : X.N.Nodup) (hi : X.N[i]? = some x) (hx : Loc X.env.scope x) (he : PE X e te) (hs : swapsWith e (some (.Name x pos')) pos.line X.env = pure false := by rfl) (hf : X.fn x = true ∨ X.env.scope.names.lookup x = some .local := by first | exact .inl rfl | exact .inr rfl | assumption) :
  PS X (.Assign [.Name x pos'] e pos) (Mp te (Ef i)) := by
 intro pins s σ H D I h
 refine wpAny_Assign_Name (thn (he pins s σ H _ I h) λ v s1 zq18 => ?_) hs
 obtain ⟨y, H1, I1, r1, q1⟩ := zq18
 exact lE I1 hN hi hx r1 (λ s2 I2 => ⟨_, H1, I2, q1⟩) hf
def tPar (i j : Nat) (ta : TA) : TS := λ D σ H => ta σ H λ vs H1 => ∃ v w, vs = [v, w] /\ D.nx ((σ.set i (some v)).set j (some w)) H1
theorem Ms {i j : Nat} {x y : Str} {a b : Expr} {ta : TA} {px py pt : Pos} {kt k2 pt2} (hc : X.calm = true) (hN : X.N.Nodup) (hi : X.N[i]? = some x) (hj : X.N[j]? = some y) (hij : i ≠ j)
  (hx : X.env.scope.names.lookup x = some .local) (hy : X.env.scope.names.lookup y = some .local) (ha : PA X [a, b] ta)
  (hw : swappedStores [.Tuple [.Name x px, .Name y py] kt pt] (.Tuple [a, b] k2 pt2) X.env = pure (some [x, y]))
  (hs : swapsWithSole [.Tuple [.Name x px, .Name y py] kt pt] (.Tuple [a, b] k2 pt2) pos.line X.env = pure false := by rfl) :
  PS X (.Assign [.Tuple [.Name x px, .Name y py] kt pt] (.Tuple [a, b] k2 pt2) pos) (tPar i j ta) := by
 intro pins s σ H D I h
 rw [exec_Assign_arm]
 refine wpAny_bind (wpAny_standAt ?_)
 rw [hs]
 refine wpAny_bind (wpAny_pure ?_)
 rw [if_neg (by decide)]
 refine wpAny_bind (Tuple_ (thn (ha _ pins s σ H _ I h) λ us s1 zq19 => ?_))
 obtain ⟨vs, H1, I1, r1, q1⟩ := zq19
 obtain ⟨v, w, e1, q1⟩ := q1
 subst e1
 obtain ⟨u1, u2, rfl, rv, rw'⟩ : ∃ u1 u2, us = [u1, u2] /\ RelV v u1 /\ RelV w u2 := by
  cases r1 with
  | cons p q =>
   cases q with
   | cons p' q' =>
    cases q'
    exact ⟨_, _, rfl, p, p'⟩
 refine wpAny_newObj_type ?_ (by show 2 <= sizeLine; decide)
 have I2 : Inv X pins σ H1 { s1 with heap := s1.heap.push { cls := .type "tuple", data := .seq [u1, u2].toArray } } := I1.kept (t' := s1.toks) λ b o e => Heap.get?_push_of_some _ e
 rw [hw]
 refine wpAny_bind (wpAny_pure ?_)
 show wpAny (model X.prog X.w) X.A (do rule "assign.swapped-stores"; let items <- unpackItems (.ref s1.heap.objs.size) 2 none; assignInOrder [λ v => bindName X.env y v, λ v => bindName X.env x v] items.reverse; pure Flow.next) _ _ _
 refine wpAny_bind (wpAny_rule (wpAny_bind (unpackItems_tuple (items := #[u1, u2]) (I.ok.hd hc) (IsTup.new s1.heap _) λ h' hx' => ?_)))
 have I3 := I2.kept (h' := h') (t' := s1.toks) λ b o e => hx' b o (Nat.ne_of_lt (Heap.lt_size e)) e
 show wpAny _ _ (assignInOrder [λ v => bindName X.env y v, λ v => bindName X.env x v] [u2, u1] >>= λ _ => pure Flow.next) _ _ _
 refine wpAny_bind (assignInOrder_cons (wpAny_bindName (lE I3 hN hj (.inl hy) rw' (λ s2 I4 => ?_) (.inr hy))))
 refine assignInOrder_cons (wpAny_bindName (lE I4 hN hi (.inl hx) rv (λ s3 I5 => assignInOrder_nil (wpAny_pure ?_)) (.inr hx)))
 rw [List.set_comm _ _ (Ne.symm hij)] at I5
 exact ⟨_, H1, I5, q1⟩
def tAug (i : Nat) (te : TE) (ti : TIp) : TS := λ D σ H => ∃ x, σ[i]? = some (some x) /\ te σ H λ y H1 => ti x y H1 λ z H2 => D.nx (σ.set i (some z)) H2
theorem Ls {i : Nat} {x : Str} {e : Expr} {te : TE} {op : Operator} {ti : TIp} {pos' : Pos} (hN : X.N.Nodup) (hi : X.N[i]? = some x) (hx : Loc X.env.scope x) (he : PE X e te) (ho : PIp X op ti) (hf : X.fn x = true ∨ X.env.scope.names.lookup x = some .local := by first | exact .inl rfl | exact .inr rfl | assumption) :
  PS X (.AugAssign (.Name x pos') op e pos) (tAug i te ti) := by
 intro pins s σ H D I h
 obtain ⟨v, e1, h⟩ := h
 obtain ⟨m, hn, hl⟩ := I.loc
 have vis : Vis X.env.scope x := by rcases hx with k | k; exact .inl k; exact .inr (.inl k)
 obtain ⟨u, r, l⟩ := hl i x v hi e1 vis
 refine wpAny_AugAssign_Name ?_
 have go : wpAny (model X.prog X.w) X.A (eval e X.env) (λ w s₂ => wpAny (model X.prog X.w) X.A (inplaceOp op u w) (λ r s₃ => wpAny (model X.prog X.w) X.A (storeName X.env x r) (λ _ => SP X pins D .next) X.xe s₃) X.xe s₂) X.xe s := by
  refine thn (he pins s σ H _ I h) λ w s1 zq20 => ?_
  obtain ⟨y, H1, I1, r1, q1⟩ := zq20
  refine thn (ho pins s1 σ H1 v y u w _ I1 r r1 q1) λ z s2 zq21 => ?_
  obtain ⟨zv, H2, I2, r2, q2⟩ := zq21
  exact lE I2 hN hi hx r2 (λ s3 I3 => ⟨_, H2, I3, q2⟩) hf
 rcases l with ⟨hk, hm⟩ | ⟨hk, c, hc, hcell⟩
 .exact wpAny_loadName_local I.ok.kind hk hn hm go
 .rcases hk with hk | hk
  .exact wpAny_loadName_cell I.ok.kind hk hc hcell go
  .rcases hx with k | k
   .have : X.env.scope.names.lookup x = some .free := hk
    rw [k] at this; cases this
   .have : X.env.scope.names.lookup x = some .free := hk
    rw [k] at this; cases this
end
section
variable {X : Cx} {pos : Pos}
def Lg (c : TT) (tb : TS) : TS := λ D σ H => ∃ W : Nat -> St -> Hp -> Prop, (∃ m, W m σ H) /\ ∀ m σ H, W m σ H ->
 c σ H λ b H1 => if b = true then ∃ N : St -> Hp -> Prop, (∀ σ' H', N σ' H' -> ∃ m', m' < m /\ W m' σ' H') /\ tb { D with nx := N, ct := N, bk := D.nx } σ H1 else D.nx σ H1
theorem Ea {c : Expr} {body : List Stmt} {tc : TT} {tb : TS} (hp : PassesOwn (model X.prog X.w) X.A X.env X.xe) (hc : PT X c tc) (hb : PSs X body tb) : PS X (.While c body [] pos) (Lg tc tb) := by
 intro pins s σ H D I h
 obtain ⟨W, ⟨m0, w0⟩, turn⟩ := h
 refine wpAny_While (codeAny_whileLoop (λ n s' => ∃ σ' H', Inv X pins σ' H' s' /\ W n σ' H') ?_ m0 ⟨σ, H, I, w0⟩)
 rintro n s1 ⟨σ1, H1, I1, w1⟩
 refine wpAny_passesOwn hp (thn (hc pins s1 σ1 H1 _ I1 (turn n σ1 H1 w1)) λ b s2 zq27 => ?_)
 obtain ⟨H2, I2, q2⟩ := zq27
 cases b with
 | true =>
  obtain ⟨N, hN, q2⟩ := q2
  rw [if_pos rfl]
  refine wpAny_passesOwn hp (thn (hb pins s2 σ1 H2 _ I2 q2) λ f s3 q3 => ?_)
  cases f with
  | next =>
   obtain ⟨σ3, H3, I3, n3⟩ := q3
   obtain ⟨m', hm, w3⟩ := hN σ3 H3 n3
   exact ⟨m', hm, σ3, H3, I3, w3⟩
  | cont =>
   obtain ⟨σ3, H3, I3, n3⟩ := q3
   obtain ⟨m', hm, w3⟩ := hN σ3 H3 n3
   exact ⟨m', hm, σ3, H3, I3, w3⟩
  | brk => exact q3
  | ret v => exact q3
 | false =>
  rw [if_neg Bool.false_ne_true]
  exact wpAny_execs_nil ⟨σ1, H2, I2, q2⟩
end
structure It where
 go : Nat -> Hp -> Prop
 yld : Nat -> Hp -> V -> Hp -> Prop
 stop : Nat -> Hp -> Prop
def jM (X : Cx) (pins : List (Addr × Obj)) (H : Hp) (b : Addr) : Prop :=
 H b = none /\ b ≠ X.env.locals /\ b ∉ X.fs /\ (b ∈ X.ex ∨ X.s₀.heap.objs.size <= b) /\ (∀ x c, X.env.cells.lookup x = some c -> c ≠ b) /\ ∀ p ∈ X.pn ++ pins, p.1 ≠ b
theorem Inv.fpOk {X : Cx} {pins : List (Addr × Obj)} {σ : St} {H H' : Hp} {s : Shared} {b : Addr} (I : Inv X pins σ H s) (hb : s.heap.objs.size <= b) (hn : H' b = none) : jM X pins H' b := by
 refine ⟨hn, Nat.ne_of_gt (Nat.lt_of_lt_of_le I.lt hb), I.nofs hb, .inr (Nat.le_trans I.sz hb), λ x c e z => ?_, λ p hp z => ?_⟩
 .obtain ⟨v, q⟩ := I.cell x c e
  exact absurd (Nat.lt_of_lt_of_le q.lt (by rw [z]; exact hb)) (Nat.lt_irrefl _)
 .exact absurd (Nat.lt_of_lt_of_le (Heap.lt_size (I.pin p hp).1) (by rw [z]; exact hb)) (Nat.lt_irrefl _)
structure Turn (P : Program) (w : World) (K : PySem.W.Frag) (tg : Expr) (J : It) (fp : List Addr) (it : Addr) (tn : Nat -> Heap -> Prop) : Prop where
 mem : it ∈ fp
 obj : ∀ i h, tn i h -> ∀ b ∈ fp, ∃ o, h.get? b = some o /\ ∀ v, o.data ≠ .cell v
 keep : ∀ i h h', tn i h -> (∀ b ∈ fp, ∀ o, h.get? b = some o -> h'.get? b = some o) -> tn i h'
 item : ∀ (X : Cx), X.prog = P -> X.w = w -> X.K = K -> X.calm = true -> ∀ (i : Nat) (pins : List (Addr × Obj)) (s : Shared) (σ : St) (H : Hp) (E : Value -> Shared -> Prop), Inv X pins σ H s -> (∀ b ∈ fp, jM X pins H b) -> tn i s.heap -> J.go i H ->
  wpAny (model P w) X.A (pyNext (.ref it)) (λ r s1 => ∃ u, r = some u /\
   wpAny (model P w) X.A (letOwnedTupleGo tg (.ref it) u) (λ _ s2 => ∃ x H', Inv X pins σ H' s2 /\ RelV x u /\ J.yld i H x H' /\ tn (i + 1) s2.heap /\ ∀ b ∈ fp, H' b = none) E s1) E s
 done : ∀ (X : Cx), X.prog = P -> X.w = w -> X.K = K -> X.calm = true -> ∀ (i : Nat) (pins : List (Addr × Obj)) (s : Shared) (σ : St) (H : Hp) (E : Value -> Shared -> Prop), Inv X pins σ H s -> (∀ b ∈ fp, jM X pins H b) -> tn i s.heap -> J.stop i H ->
  wpAny (model P w) X.A (pyNext (.ref it)) (λ r s1 => r = none /\ Inv X pins σ H s1) E s
 self : ∀ (A : Around) (i : Nat) (s : Shared) (Q : Value -> Shared -> Prop) (E : Value -> Shared -> Prop), tn i s.heap -> Q (.ref it) s -> wpAny (model P w) A (pyIter (.ref it)) Q E s
abbrev TI := St -> Hp -> (It -> Hp -> Prop) -> Prop
def PIE (X : Cx) (pins : List (Addr × Obj)) (σ : St) (tg : Expr) (R : It -> Hp -> Prop) (itv : Value) (s2 : Shared) : Prop :=
 ∃ (it : Addr) (fp : List Addr) (tn : Nat -> Heap -> Prop) (J : It) (H' : Hp), itv = .ref it /\ Inv X pins σ H' s2 /\ Turn X.prog X.w X.K tg J fp it tn /\ tn 0 s2.heap /\ (∀ b ∈ fp, jM X pins H' b) /\ R J H'
def PI (X : Cx) (tg iter : Expr) (wi : TI) : Prop :=
 ∀ (pins : List (Addr × Obj)) (s : Shared) (σ : St) (H : Hp) (R : It -> Hp -> Prop), Inv X pins σ H s -> wi σ H R ->
  wpAny (model X.prog X.w) X.A (eval iter X.env) (λ v s1 => wpAny (model X.prog X.w) X.A (pyIter v) (PIE X pins σ tg R) X.xe s1) X.xe s
theorem Et {M : Model} {A : Around} {E : Value -> Shared -> Prop} {s : Shared} {tg : Expr} {it : Addr} {u : Value} {o : Obj} {n : String} {vs : Array Value} {Q : Unit -> Shared -> Prop} (ho : s.heap.get? it = some o) (hc : o.cls = .type n) (hd : o.data = .fields vs)
  (hn : ["enumerate", "zip", "dict_itemiterator", "dict_reverseitemiterator", "odict_iterator", "itertools.zip_longest", "itertools.pairwise"].contains n = false) (hQ : Q () s) : wpAny M A (letOwnedTupleGo tg (.ref it) u) Q E s := by
 unfold letOwnedTupleGo
 cases tg <;> first
  | exact wpAny_pure hQ
  | (cases u <;> first
    | exact wpAny_pure hQ
    | (refine wpAny_bind (wpAny_load ho ?_)
       rw [hc, hd]
       show wpAny M A (if (["enumerate", "zip", "dict_itemiterator", "dict_reverseitemiterator", "odict_iterator", "itertools.zip_longest", "itertools.pairwise"].contains n && vs[0]? == some (rawInt _)) = true then _ else _) Q E s
       rw [if_neg (by intro h; rw [hn, Bool.false_and] at h; cases h)]
       exact wpAny_pure hQ))
def Itl (K : PySem.W.Frag) (a : Addr) : It :=
 ⟨λ i H => ∃ xs x, SqL K H a xs /\ xs[i]? = some x, λ i H x H' => H' = H /\ ∀ xs, SqL K H a xs -> xs[i]? = some x, λ i H => ∃ xs, SqL K H a xs /\ xs.length <= i⟩
def Itt (K : PySem.W.Frag) (a : Addr) : It :=
 ⟨λ i H => ∃ xs x, SqT K H a xs /\ xs[i]? = some x, λ i H x H' => H' = H /\ ∀ xs, SqT K H a xs -> xs[i]? = some x, λ i H => ∃ xs, SqT K H a xs /\ xs.length <= i⟩
def Itr (lo : Int) (n : Nat) : It := ⟨λ i _ => i < n, λ i H x H' => H' = H /\ x = .int (lo + i), λ i _ => n <= i⟩
theorem uG {P : Program} {w : World} {K : PySem.W.Frag} {tg : Expr} (a it : Addr) : Turn P w K tg (Itl K a) [it] it (λ i h => h.IsListIter it a i) where
 mem := by simp
 obj := λ i h st b hb => by
  have e : b = it := by simpa using hb
  subst e
  obtain ⟨o, e, c, d⟩ := st
  exact ⟨o, e, λ v z => by rw [d] at z; cases z⟩
 keep := λ i h h' st k => st.at λ o e => k it (by simp) o e
 item := by
  intro X hP hw hK hc i pins s σ H E I hf st hg
  subst hP hw hK
  obtain ⟨xs, x, hq, hx⟩ := hg
  obtain ⟨its, rv, p, hz⟩ := I.list hq
  obtain ⟨u, hu, ru⟩ := rv.get hx
  obtain ⟨f0, f1, f2, f3, f4, f5⟩ := hf it (by simp)
  refine wpAny_pyNext_list_item st p.isList (x := u) (by simpa using hu) λ h' st' sb => ?_
  have I1 : Inv X pins σ H { s with heap := h' } := I.turned (t' := s.toks) (λ b o hb e => (sb.2 b hb).trans e) f0 f1 f3 f4 f5
  obtain ⟨o, e, c, d⟩ := id st'
  exact ⟨u, rfl, Et (s := { s with heap := h' }) e c d (by decide) ⟨x, H, I1, ru, ⟨rfl, λ ys hy => by rw [I.list_inj hy hq]; exact hx⟩, st', λ b hb => (hf b hb).1⟩⟩
 done := by
  intro X hP hw hK hc i pins s σ H E I hf st hg
  subst hP hw hK
  obtain ⟨xs, hq, hx⟩ := hg
  obtain ⟨its, rv, p, hz⟩ := I.list hq
  obtain ⟨f0, f1, f2, f3, f4, f5⟩ := hf it (by simp)
  have hl := rv.length
  exact wpAny_pyNext_list_end (I.ok.hd hc) st p.isList (by simp; omega) λ h' eb => ⟨rfl, I.turned (t' := s.toks) (λ b o hb e => eb b o hb e) f0 f1 f3 f4 f5⟩
 self := λ _ _ _ _ _ st h => wpAny_pyIter_listiter st h
theorem qN {P : Program} {w : World} {K : PySem.W.Frag} {tg : Expr} (a it : Addr) : Turn P w K tg (Itt K a) [it] it (λ i h => h.IsTupleIter it a i) where
 mem := by simp
 obj := λ i h st b hb => by
  have e : b = it := by simpa using hb
  subst e
  obtain ⟨o, e, c, d⟩ := st
  exact ⟨o, e, λ v z => by rw [d] at z; cases z⟩
 keep := λ i h h' st k => st.at λ o e => k it (by simp) o e
 item := by
  intro X hP hw hK hc i pins s σ H E I hf st hg
  subst hP hw hK
  obtain ⟨xs, x, hq, hx⟩ := hg
  obtain ⟨its, rv, p, hz⟩ := I.tuple hq
  obtain ⟨u, hu, ru⟩ := rv.get hx
  obtain ⟨f0, f1, f2, f3, f4, f5⟩ := hf it (by simp)
  refine wpAny_pyNext_tuple_item st (show s.heap.IsTuple a its.toArray from p) (x := u) (by simpa using hu) λ h' st' sb => ?_
  have I1 : Inv X pins σ H { s with heap := h' } := I.turned (t' := s.toks) (λ b o hb e => (sb.2 b hb).trans e) f0 f1 f3 f4 f5
  obtain ⟨o, e, c, d⟩ := id st'
  exact ⟨u, rfl, Et (s := { s with heap := h' }) e c d (by decide) ⟨x, H, I1, ru, ⟨rfl, λ ys hy => by rw [I.tuple_inj hy hq]; exact hx⟩, st', λ b hb => (hf b hb).1⟩⟩
 done := by
  intro X hP hw hK hc i pins s σ H E I hf st hg
  subst hP hw hK
  obtain ⟨xs, hq, hx⟩ := hg
  obtain ⟨its, rv, p, hz⟩ := I.tuple hq
  obtain ⟨f0, f1, f2, f3, f4, f5⟩ := hf it (by simp)
  have hl := rv.length
  exact wpAny_pyNext_tuple_end (I.ok.hd hc) st (show s.heap.IsTuple a its.toArray from p) (by simp; omega) λ h' eb => ⟨rfl, I.turned (t' := s.toks) (λ b o hb e => eb b o hb e) f0 f1 f3 f4 f5⟩
 self := λ _ _ _ _ _ st h => wpAny_pyIter_tupleiter st h
theorem yK {P : Program} {w : World} {K : PySem.W.Frag} {tg : Expr} (it : Addr) (lo : Int) (n : Nat) : Turn P w K tg (Itr lo n) [it] it (λ i h => IsRangeIter h it (lo + (i : Nat) * 1) ((n : Int) - (i : Nat)) 1) where
 mem := by simp
 obj := λ i h st b hb => by
  have e : b = it := by simpa using hb
  subst e
  exact ⟨_, st, λ v z => by
   have z' : Data.fields _ = Data.cell v := z
   cases z'⟩
 keep := λ i h h' st k => k it (by simp) _ st
 item := by
  intro X hP hw hK hc i pins s σ H E I hf st hg
  subst hP hw hK
  obtain ⟨f0, f1, f2, f3, f4, f5⟩ := hf it (by simp)
  have W := Walks.range (prog := X.prog) (w := X.w) (I.ok.hd hc) it lo 1 n
  refine W.item i s _ _ hg st λ v h' tk hv st' kk => ?_
  obtain ⟨t, rfl⟩ := hv
  have I1 : Inv X pins σ H { s with heap := h', toks := tk } := I.turned (λ b o hb e => kk b o (by simpa using hb) e) f0 f1 f3 f4 f5
  refine ⟨_, rfl, Et (s := { s with heap := h', toks := tk }) (n := "range_iterator") st' rfl rfl (by decide) ⟨.int (lo + i), H, I1, ⟨t, ?_⟩, ⟨rfl, rfl⟩, st', λ b hb => (hf b hb).1⟩⟩
  rw [Int.mul_one]
 done := by
  intro X hP hw hK hc i pins s σ H E I hf st hg
  subst hP hw hK
  obtain ⟨f0, f1, f2, f3, f4, f5⟩ := hf it (by simp)
  exact wpAny_pyNext_range_end (I.ok.hd hc) st (by have : n <= i := hg; omega) λ h' eb => ⟨rfl, I.turned (t' := s.toks) (λ b o hb e => eb b o hb e) f0 f1 f3 f4 f5⟩
 self := λ _ _ _ _ _ st h => wpAny_pyIter_rangeiter st h
section
variable {X : Cx} {tg : Expr}
theorem Ft {pins : List (Addr × Obj)} {σ : St} {H : Hp} {s : Shared} {R : It -> Hp -> Prop} {E : Value -> Shared -> Prop} {lo hi : Int} {t u v : Tok} {tk : Nat} (I : Inv X pins σ H s) (h1 : -(2 ^ 62) <= lo) (h2 : lo < 2 ^ 62) (h3 : -(2 ^ 62) <= hi) (h4 : hi < 2 ^ 62)
  (q : R (Itr lo (hi - lo).toNat) H) : wpAny (model X.prog X.w) X.A (pyIter (.ref s.heap.objs.size)) (PIE X pins σ tg R) E { s with heap := s.heap.push { cls := .type "range", data := .fields #[.int lo t, .int hi u, .int 1 v] }, toks := tk } := by
 refine wpAny_pyIter_range (IsRange.new ..) (small_one h1 h2 h3 h4) ?_
 have I1 : Inv X pins σ H { s with heap := s.heap.push { cls := .type "range", data := .fields #[.int lo t, .int hi u, .int 1 v] }, toks := tk } := I.kept λ b o e => Heap.get?_push_of_some _ e
 refine ⟨(s.heap.push { cls := .type "range", data := .fields #[.int lo t, .int hi u, .int 1 v] }).objs.size, [(s.heap.push { cls := .type "range", data := .fields #[.int lo t, .int hi u, .int 1 v] }).objs.size], _, _, H, rfl,
  I1.kept (t' := tk) λ b o e => Heap.get?_push_of_some _ e, yK _ lo (hi - lo).toNat, ?_, λ b hb => ?_, q⟩
 .have e1 : lo + ((0 : Nat) : Int) * 1 = lo := by simp
  have e2 : (((hi - lo).toNat : Nat) : Int) - ((0 : Nat) : Int) = Builtin.Range.rangeSize lo hi 1 := by rw [rangeSize_one]; split <;> omega
  show IsRangeIter _ _ (lo + ((0 : Nat) : Int) * 1) ((((hi - lo).toNat : Nat) : Int) - ((0 : Nat) : Int)) 1
  rw [e1, e2]
  exact Heap.get?_push_size _ rfl
 .have e : b = (s.heap.push { cls := .type "range", data := .fields #[.int lo t, .int hi u, .int 1 v] }).objs.size := by simpa using hb
  subst e
  exact I1.fpOk (Nat.le_refl _) (I1.hok.fresh (Nat.le_refl _))
def Pa (ta : TA) : TI := λ σ H R => ta σ H λ vs H1 => ∃ j : Int, vs = [.int j] /\ -(2 ^ 62) <= j /\ j < 2 ^ 62 /\ R (Itr 0 j.toNat) H1
theorem Bs {a : Expr} {ta : TA} {p pos : Pos} (hg : Gl X "range") (hm : X.mg "range" = none) (ha : PA X [a] ta) (hs : starEach [a] X.env = [(false, eval a X.env)] := by rfl) : PI X tg (.Call (.Name "range" p) [a] [] pos) (Pa ta) := by
 intro pins s σ H R I h
 refine Call_ (jG I hg hm boot_range (PyProof.Rows.callWith_type1 (thn (ha pos pins s σ H _ I h) λ us s1 ⟨vs, H1, I1, r1, q1⟩ => ?_) hs rfl))
 obtain ⟨j, e, q1, q2, q⟩ := q1
 subst e
 cases r1 with
 | cons r rr =>
  cases rr
  obtain ⟨t, rfl⟩ := r
  exact call_range_1 (Ft I1 (by omega) (by omega) q1 q2 (by simpa using q))
def tFor (wi : TI) (g : TG) (tb : TS) : TS := λ D σ H => wi σ H λ J H1 => ∃ W : Nat -> Nat -> St -> Hp -> Prop, (∃ m, W 0 m σ H1) /\ ∀ i m σ H, W i m σ H ->
 (J.stop i H /\ D.nx σ H) ∨ (J.go i H /\ ∃ N : St -> Hp -> Prop, (∀ σ' H', N σ' H' -> ∃ m', m' < m /\ W (i + 1) m' σ' H') /\ ∀ x H', J.yld i H x H' -> g x σ H' λ σ2 H2 => tb { D with nx := N, ct := N, bk := D.nx } σ2 H2)
def oR (fp : List Addr) (h : Heap) : List (Addr × Obj) := fp.filterMap λ b => (h.get? b).map λ o => (b, o)
theorem fL {fp : List Addr} {h : Heap} {b : Addr} {o : Obj} (hb : b ∈ fp) (e : h.get? b = some o) : (b, o) ∈ oR fp h := List.mem_filterMap.mpr ⟨b, hb, by rw [e]; rfl⟩
theorem BJ {fp : List Addr} {h : Heap} {p : Addr × Obj} (hp : p ∈ oR fp h) : p.1 ∈ fp /\ h.get? p.1 = some p.2 := by
 obtain ⟨b, hb, e⟩ := List.mem_filterMap.mp hp
 cases q : h.get? b with
 | none => rw [q] at e; cases e
 | some o =>
  rw [q] at e
  have e' : (b, o) = p := Option.some.inj e
  subst e'
  exact ⟨hb, q⟩
theorem Inv.pinned {pins : List (Addr × Obj)} {σ : St} {H : Hp} {s : Shared} {fp : List Addr} (I : Inv X pins σ H s) (hf : ∀ b ∈ fp, jM X pins H b) (ho : ∀ b ∈ fp, ∃ o, s.heap.get? b = some o /\ ∀ v, o.data ≠ .cell v) : Inv X (pins ++ oR fp s.heap) σ H s :=
 I.pins_of λ p hp => (List.mem_append.mp hp).elim (λ z => I.pin p (List.mem_append_right _ z)) λ z => by
  obtain ⟨hb, e⟩ := BJ z
  obtain ⟨f0, f1, f2, _⟩ := hf p.1 hb
  obtain ⟨o, e', d⟩ := ho p.1 hb
  rw [e] at e'; cases e'
  exact ⟨e, f0, f1, f2, d⟩
theorem Inv.unpinned {pins pl : List (Addr × Obj)} {σ : St} {H : Hp} {s : Shared} (I : Inv X (pins ++ pl) σ H s) : Inv X pins σ H s := I.pins_of λ p hp => I.pin p (List.mem_append_right _ (List.mem_append_left _ hp))
theorem KC {iter : Expr} {body : List Stmt} {wi : TI} {g : TG} {tb : TS} {pos : Pos} (hp : PassesOwn (model X.prog X.w) X.A X.env X.xe) (hc : X.calm = true) (hi : PI X tg iter wi) (hg : PG X tg g) (hb : PSs X body tb)
  (hs : ∀ x, foldedSetIterable iter X.env x = pure x := by intro _; rfl) : PS X (.For tg iter body [] pos) (tFor wi g tb) := by
 intro pins s σ H D I h
 refine wpAny_For (thn (hi pins s σ H _ I h) λ v s1 h1 => thn h1 λ itv s2 h2 => ?_) hs
 obtain ⟨it, fp, tn, J, H2, e, I2, T, st2, f2, W, ⟨m0, w0⟩, turn⟩ := h2
 subst e
 have stat : ∀ {H' : Hp}, (∀ b ∈ fp, H' b = none) -> ∀ b ∈ fp, jM X pins H' b := λ hn b hb => ⟨hn b hb, (f2 b hb).2⟩
 refine codeAny_forLoop_any (λ n s' => ∃ i σ' H', Inv X pins σ' H' s' /\ tn i s'.heap /\ (∀ b ∈ fp, H' b = none) /\ W i n σ' H') ?_ m0 ⟨0, σ, H2, I2, st2, λ b hb => (f2 b hb).1, w0⟩
 rintro n s3 ⟨i, σ3, H3, I3, st3, fr3, w3⟩
 rcases turn i n σ3 H3 w3 with ⟨stop, qn⟩ | ⟨go, N, hN, step⟩
 .refine wpAny_passesOwn hp (thn (T.done X rfl rfl rfl hc i pins s3 σ3 H3 X.xe I3 (stat fr3) st3 stop) λ r s4 zq30 => ?_)
  obtain ⟨hr, I4⟩ := zq30
  subst hr
  exact wpAny_execs_nil ⟨σ3, H3, I4, qn⟩
 .refine wpAny_passesOwn hp (thn (T.item X rfl rfl rfl hc i pins s3 σ3 H3 X.xe I3 (stat fr3) st3 go) λ r s4 zq31 => ?_)
  obtain ⟨u, hr, h4⟩ := zq31
  subst hr
  refine wpAny_passesOwn hp (thn h4 λ _ s5 zq32 => ?_)
  obtain ⟨x, H5, I5, r5, y5, st5, fr5⟩ := zq32
  have I5' := I5.pinned (stat fr5) (T.obj _ _ st5)
  refine wpAny_passesOwn hp (thn (hg _ s5 σ3 H5 x u _ I5' r5 (step x H5 y5)) λ _ s6 zq33 => ?_)
  obtain ⟨σ6, H6, I6, q6⟩ := zq33
  refine wpAny_passesOwn hp (thn (hb _ s6 σ6 H6 _ I6 q6) λ f s7 q7 => ?_)
  have again : ∀ {σ7 : St} {H7 : Hp}, Inv X (pins ++ oR fp s5.heap) σ7 H7 s7 -> N σ7 H7 -> ∃ m, m < n /\ ∃ i σ' H', Inv X pins σ' H' s7 /\ tn i s7.heap /\ (∀ b ∈ fp, H' b = none) /\ W i m σ' H' := λ {σ7 H7} I7 n7 => by
   obtain ⟨m', hm, w7⟩ := hN σ7 H7 n7
   refine ⟨m', hm, i + 1, σ7, H7, I7.unpinned, T.keep _ _ _ st5 λ b hb o e => (I7.pin (b, o) (List.mem_append_right _ (List.mem_append_right _ (fL hb e)))).1, λ b hb => ?_, w7⟩
   obtain ⟨o, e, d⟩ := T.obj _ _ st5 b hb
   exact (I7.pin (b, o) (List.mem_append_right _ (List.mem_append_right _ (fL hb e)))).2.1
  cases f with
  | next => obtain ⟨σ7, H7, I7, n7⟩ := q7; exact again I7 n7
  | cont => obtain ⟨σ7, H7, I7, n7⟩ := q7; exact again I7 n7
  | brk => obtain ⟨σ7, H7, I7, q7⟩ := q7; exact ⟨σ7, H7, I7.unpinned, q7⟩
  | ret v => obtain ⟨x7, σ7, H7, I7, r7, q7⟩ := q7; exact ⟨x7, σ7, H7, I7.unpinned, r7, q7⟩
end
abbrev R2 := V -> V -> Hp -> VK -> Prop
def OpR (X : Cx) (f : Value -> Value -> Sem Value) (r : R2) : Prop :=
 ∀ (pins : List (Addr × Obj)) (s : Shared) (σ : St) (H : Hp) (x y : V) (v u : Value) (Q : VK), Inv X pins σ H s -> RelV x v -> RelV y u -> r x y H Q ->
  wpAny (model X.prog X.w) X.A (f v u) (EP X pins σ Q) X.xe s
def UnR (X : Cx) (f : Value -> Sem Value) (r : V -> Hp -> VK -> Prop) : Prop :=
 ∀ (pins : List (Addr × Obj)) (s : Shared) (σ : St) (H : Hp) (x : V) (v : Value) (Q : VK), Inv X pins σ H s -> RelV x v -> r x H Q ->
  wpAny (model X.prog X.w) X.A (f v) (EP X pins σ Q) X.xe s
def jo (X : Cx) (f : Value) (r : List V -> Hp -> VK -> Prop) : Prop :=
 ∀ (pins : List (Addr × Obj)) (s : Shared) (σ : St) (H : Hp) (xs : List V) (us : List Value) (Q : VK), Inv X pins σ H s -> Vals xs us -> r xs H Q ->
  wpAny (model X.prog X.w) X.A (call f us) (EP X pins σ Q) X.xe s
def TruR (X : Cx) (r : V -> Hp -> (Bool -> Hp -> Prop) -> Prop) : Prop :=
 ∀ (pins : List (Addr × Obj)) (s : Shared) (σ : St) (H : Hp) (x : V) (v : Value) (Q : Bool -> Hp -> Prop), Inv X pins σ H s -> RelV x v -> r x H Q ->
  wpAny (model X.prog X.w) X.A (truthy v) (TP X pins σ Q) X.xe s
def tOp (r : R2) (ta tb : TE) : TE := λ σ H Q => ta σ H λ x H1 => tb σ H1 λ y H2 => r x y H2 Q
def tUn (r : V -> Hp -> VK -> Prop) (ta : TE) : TE := λ σ H Q => ta σ H λ x H1 => r x H1 Q
def rI (C : Int -> Int -> Prop) (g : Int -> Int -> V) : R2 := λ x y H Q => ∃ i j, x = .int i /\ y = .int j /\ C i j /\ Q (g i j) H
def rI0 (g : Int -> Int -> V) : R2 := λ x y H Q => ∃ i j, x = .int i /\ y = .int j /\ Q (g i j) H
def rU (g : Int -> V) : V -> Hp -> VK -> Prop := λ x H Q => ∃ i, x = .int i /\ Q (g i) H
section
variable {X : Cx} {a b c : Expr} {ta tb tc : TE} {pos : Pos}
theorem JT (ha : PE X a ta) (hb : PE X b tb) {pins : List (Addr × Obj)} {s : Shared} {σ : St} {H : Hp} {R : V -> V -> Hp -> Prop} (I : Inv X pins σ H s)
  (h : ta σ H λ x H1 => tb σ H1 λ y H2 => R x y H2) {Q : Value -> Shared -> Prop} {f : Value -> Value -> Sem Value}
  (hf : ∀ v u s2 x y H2, Inv X pins σ H2 s2 -> RelV x v -> RelV y u -> R x y H2 -> wpAny (model X.prog X.w) X.A (f v u) Q X.xe s2) :
  wpAny (model X.prog X.w) X.A (eval a X.env) (λ v s₁ => wpAny (model X.prog X.w) X.A (eval b X.env) (λ u s₂ => wpAny (model X.prog X.w) X.A (f v u) Q X.xe s₂) X.xe s₁) X.xe s := by
 refine thn (ha pins s σ H _ I h) λ v s1 zq34 => ?_
 obtain ⟨x, H1, I1, r1, q1⟩ := zq34
 refine thn (hb pins s1 σ H1 _ I1 q1) λ u s2 zq35 => ?_
 obtain ⟨y, H2, I2, r2, q2⟩ := zq35
 exact hf v u s2 x y H2 I2 r1 r2 q2
theorem Jc {op : Operator} {r : R2} (ho : OpR X (binaryOp op) r) (ha : PE X a ta) (hb : PE X b tb) : PE X (.BinOp a op b pos) (tOp r ta tb) := by
 intro pins s σ H Q I h
 exact wpAny_BinOp (JT ha hb I h λ v u s2 x y H2 I2 rx ry q => ho pins s2 σ H2 x y v u Q I2 rx ry q)
theorem Jg {op : UnaryOp} {r : V -> Hp -> VK -> Prop} (ho : UnR X (unaryOp op) r) (ha : PE X a ta) : PE X (.UnaryOp op a pos) (tUn r ta) := by
 intro pins s σ H Q I h
 exact UnaryOp_ (thn (ha pins s σ H _ I h) λ v s1 ⟨x, H1, I1, r1, q1⟩ => ho pins s1 σ H1 x v Q I1 r1 q1)
theorem opI {f : Value -> Value -> Sem Value} {C : Int -> Int -> Prop} {g : Int -> Int -> Int}
  (rule : ∀ (i j : Int) (t u : Tok) (s : Shared) (Q : Value -> Shared -> Prop) (E : Value -> Shared -> Prop), C i j -> Q (.int (g i j) s.toks) { s with toks := s.toks + 1 } -> wpAny (model X.prog X.w) X.A (f (.int i t) (.int j u)) Q E s) :
  OpR X f (rI C λ i j => .int (g i j)) := by
 intro pins s σ H x y v u Q I rx ry h
 obtain ⟨i, j, rfl, rfl, hc, q⟩ := h
 obtain ⟨t, rfl⟩ := rx
 obtain ⟨t', rfl⟩ := ry
 exact rule i j t t' s _ _ hc ⟨.int (g i j), H, I.tok _, ⟨_, rfl⟩, q⟩
theorem Oa {f : Value -> Value -> Sem Value} {g : Int -> Int -> Int}
  (rule : ∀ (i j : Int) (t u : Tok) (s : Shared) (Q : Value -> Shared -> Prop) (E : Value -> Shared -> Prop), Q (.int (g i j) s.toks) { s with toks := s.toks + 1 } -> wpAny (model X.prog X.w) X.A (f (.int i t) (.int j u)) Q E s) :
  OpR X f (rI0 λ i j => .int (g i j)) := by
 intro pins s σ H x y v u Q I rx ry h
 obtain ⟨i, j, rfl, rfl, q⟩ := h
 obtain ⟨t, rfl⟩ := rx
 obtain ⟨t', rfl⟩ := ry
 exact rule i j t t' s _ _ ⟨.int (g i j), H, I.tok _, ⟨_, rfl⟩, q⟩
theorem Lp {f : Value -> Value -> Sem Value} {g : Int -> Int -> Bool}
  (rule : ∀ (i j : Int) (t u : Tok) (s : Shared) (Q : Value -> Shared -> Prop) (E : Value -> Shared -> Prop), Q (.bool (g i j)) s -> wpAny (model X.prog X.w) X.A (f (.int i t) (.int j u)) Q E s) :
  OpR X f (rI0 λ i j => .bl (g i j)) := by
 intro pins s σ H x y v u Q I rx ry h
 obtain ⟨i, j, rfl, rfl, q⟩ := h
 obtain ⟨t, rfl⟩ := rx
 obtain ⟨t', rfl⟩ := ry
 exact rule i j t t' s _ _ ⟨.bl (g i j), H, I, rfl, q⟩
theorem La : OpR X (binaryOp .Add) (rI0 λ i j => .int (i + j)) := Oa λ _ _ _ _ _ _ _ q => add_int q
theorem Ko : OpR X (binaryOp .Sub) (rI0 λ i j => .int (i - j)) := Oa λ _ _ _ _ _ _ _ q => sub_int q
theorem Ie : OpR X (binaryOp .Mod) (rI (λ _ j => j ≠ 0) λ i j => .int (i.fmod j)) := opI λ _ _ _ _ _ _ _ hc q => mod_int' hc q
theorem unI {f : Value -> Sem Value} {g : Int -> Int}
  (rule : ∀ (i : Int) (t : Tok) (s : Shared) (Q : Value -> Shared -> Prop) (E : Value -> Shared -> Prop), Q (.int (g i) s.toks) { s with toks := s.toks + 1 } -> wpAny (model X.prog X.w) X.A (f (.int i t)) Q E s) :
  UnR X f (rU λ i => .int (g i)) := by
 intro pins s σ H x v Q I rx h
 obtain ⟨i, rfl, q⟩ := h
 obtain ⟨t, rfl⟩ := rx
 exact rule i t s _ _ ⟨.int (g i), H, I.tok _, ⟨_, rfl⟩, q⟩
theorem CV : UnR X (unaryOp .USub) (rU λ i => .int (-i)) := unI λ _ _ _ _ _ q => neg_int q
end
section
variable {X : Cx} {a b c : Expr} {ta tb tc : TE} {pos : Pos}
theorem Nt : OpR X (compareOp .Lt) (rI0 λ i j => .bl (decide (i < j))) := Lp λ _ _ _ _ _ _ _ q => lt_int q
theorem Ol : OpR X (compareOp .Gt) (rI0 λ i j => .bl (decide (j < i))) := Lp λ _ _ _ _ _ _ _ q => gt_int q
theorem Nk : OpR X (compareOp .GtE) (rI0 λ i j => .bl (decide (j <= i))) := Lp λ _ _ _ _ _ _ _ q => ge_int q
theorem OpR.or {f : Value -> Value -> Sem Value} {r r' : R2} (h : OpR X f r) (h' : OpR X f r') : OpR X f (λ x y H Q => r x y H Q ∨ r' x y H Q) := by
 intro pins s σ H x y v u Q I rx ry q
 rcases q with q | q
 .exact h pins s σ H x y v u Q I rx ry q
 .exact h' pins s σ H x y v u Q I rx ry q
theorem Gk {op : CmpOp} {r : R2} (ho : OpR X (compareOp op) r) (ha : PE X a ta) (hb : PE X b tb) (hm : behindInMarks op b = false) : PE X (.Compare a [op] [b] pos) (tOp r ta tb) := by
 intro pins s σ H Q I h
 exact wpAny_Compare1 (JT ha hb I h λ v u s2 x y H2 I2 rx ry q => ho pins s2 σ H2 x y v u Q I2 rx ry q) hm
def Og (t : TE) : TT := λ σ H Q => t σ H λ x H' => ∃ k, x = .bl k /\ Q k H'
theorem Gy {op : CmpOp} {r : R2} (ho : OpR X (compareOp op) r) (ha : PE X a ta) (hb : PE X b tb) (hm : behindInMarks op b = false) : PT X (.Compare a [op] [b] pos) (Og (tOp r ta tb)) := by
 intro pins s σ H Q I h
 refine wpAny_isTrue_Compare1 (thn (ha pins s σ H _ I h) λ v s1 ⟨x, H1, I1, r1, q1⟩ => thn (hb pins s1 σ H1 _ I1 q1) λ u s2 ⟨y, H2, I2, r2, q2⟩ =>
  thn (ho pins s2 σ H2 x y v u _ I2 r1 r2 q2) λ c s3 ⟨z, H3, I3, r3, k, e, q3⟩ => ?_) hm
 subst e
 cases r3
 exact wpAny_truthy_bool ⟨H3, I3, q3⟩
def Kq (K : PySem.W.Frag) (x : V) (H : Hp) (k : Bool) : Prop :=
 match x with
 | .non => k = false
 | .bl b => k = b
 | .int i => k = (i != 0)
 | .str y => y.length <= sizeLine /\ k = ((y.length : Int) != 0)
 | .byt y => y.size <= sizeLine /\ k = ((y.size : Int) != 0)
 | .ref p => (∃ xs, SqL K H p xs /\ k = !xs.isEmpty) ∨ (∃ xs, SqT K H p xs /\ k = !xs.isEmpty) ∨ ∃ kvs, H p = some (.dK kvs) /\ k = !kvs.isEmpty
 | _ => False
theorem yM {κ : Type} {kvs : List (κ × V)} {vs : List (κ × Value)} (r : KV kvs vs) : (!vs.isEmpty) = !kvs.isEmpty := by
 cases r <;> rfl
theorem sy {xs : List V} {its : List Value} (r : Vals xs its) : (!its.toArray.isEmpty) = !xs.isEmpty := by
 cases r <;> simp
theorem mZ : (sizeLine : Nat) < 2 ^ 63 := by rw [sizeLine_eq]; decide
theorem Mw : TruR X (λ x H Q => ∃ k, Kq X.K x H k /\ Q k H) := by
 intro pins s σ H x v Q I rx h
 obtain ⟨k, e, q⟩ := h
 have hl := mZ
 have hs : sizeLine = 16777216 := sizeLine_eq
 cases x with
 | non =>
  cases rx
  have e' : k = false := e
  subst e'
  exact truthy_none ⟨H, I, q⟩
 | bl b =>
  cases rx
  have e' : k = b := e
  subst e'
  exact wpAny_truthy_bool ⟨H, I, q⟩
 | int i =>
  obtain ⟨t, rfl⟩ := rx
  have e' : k = (i != 0) := e
  subst e'
  exact PySem.P.truthy_int ⟨H, I, q⟩
 | str y =>
  obtain ⟨t, rfl⟩ := rx
  obtain ⟨hy, e'⟩ : y.length <= sizeLine /\ k = ((y.length : Int) != 0) := e
  subst e'
  exact PySem.P.truthy_str (by omega) ⟨H, I.tok _, q⟩
 | byt y =>
  obtain ⟨t, rfl⟩ := rx
  obtain ⟨hy, e'⟩ : y.size <= sizeLine /\ k = ((y.size : Int) != 0) := e
  subst e'
  exact PySem.W.truthy_bytes (by omega) ⟨H, I.tok _, q⟩
 | ref p =>
  cases rx
  have e' : (∃ xs, SqL X.K H p xs /\ k = !xs.isEmpty) ∨ (∃ xs, SqT X.K H p xs /\ k = !xs.isEmpty) ∨ ∃ kvs, H p = some (.dK kvs) /\ k = !kvs.isEmpty := e
  rcases e' with ⟨xs, hx, e'⟩ | ⟨xs, hx, e'⟩ | ⟨kvs, hx, e'⟩
  .subst e'
   obtain ⟨its, r, pl, hz⟩ := I.list hx
   have hlen := r.length
   exact wpAny_truthy_list pl.isList (by simp only [List.size_toArray]; omega) ⟨H, I.tok _, by rw [sy r]; exact q⟩
  .subst e'
   obtain ⟨its, r, pl, hz⟩ := I.tuple hx
   have hlen := r.length
   exact truthy_tuple pl (by simp only [List.size_toArray]; omega) ⟨H, I.tok _, by rw [sy r]; exact q⟩
  .subst e'
   obtain ⟨hz, hS, vs, r, m⟩ : kvs.length <= sizeLine /\ (p == sysModules) = false /\ ∃ vs, KV kvs vs /\ s.heap.DictOf (vI X.prog X.w) p vs := I.hok p _ hx
   have hlen : kvs.length = vs.length := Paired.length r
   exact wpAny_truthy_dict hS m (by omega) ⟨H, I.tok _, by rw [yM r]; exact q⟩
 | _ => exact (show False from e).elim
theorem FJ (ha : PE X a ta) (he : ∀ whole, isTrue a X.env whole = (do let v <- whole; standAt a.pos; holding [v] (truthy v))) :
  PT X a (λ σ H Q => ta σ H λ x H' => ∃ k, Kq X.K x H' k /\ Q k H') := by
 intro pins s σ H Q I h
 exact isTrue_plain (thn (ha pins s σ H _ I h) λ v s1 ⟨x, H1, I1, r1, q1⟩ => Mw pins s1 σ H1 x v Q I1 r1 q1) (he _)
theorem zH : OpR X (binaryOp .Add) (λ x y H Q => ∃ i j, x = .str i /\ y = .str j /\ i.length + j.length <= sizeLine /\ Q (.str (i ++ j)) H) := by
 intro pins s σ H x y v u Q I rx ry h
 obtain ⟨i, j, rfl, rfl, hz, q⟩ := h
 obtain ⟨t, rfl⟩ := rx
 obtain ⟨t', rfl⟩ := ry
 exact add_str (λ t' tk => ⟨.str (i ++ j), H, I.tok _, ⟨_, rfl⟩, q⟩) hz
theorem vals1 {x : V} {us : List Value} (r : Vals [x] us) : ∃ u, us = [u] /\ RelV x u := by
 cases r with
 | cons r1 r2 => cases r2; exact ⟨_, rfl, r1⟩
theorem vals2 {x y : V} {us : List Value} (r : Vals [x, y] us) : ∃ u w', us = [u, w'] /\ RelV x u /\ RelV y w' := by
 cases r with
 | cons r1 r2 =>
  cases r2 with
  | cons r3 r4 => cases r4; exact ⟨_, _, rfl, r1, r3⟩
theorem Ep : jo X (.builtin "abs") (λ xs H Q => ∃ i, xs = [.int i] /\ Q (.int (if i < 0 then -i else i)) H) := by
 intro pins s σ H xs us Q I r h
 obtain ⟨i, rfl, q⟩ := h
 obtain ⟨u, rfl, t, rfl⟩ := vals1 r
 exact call_abs_int λ u tk => ⟨.int (if i < 0 then -i else i), H, I.tok _, ⟨_, rfl⟩, q⟩
theorem Ce (hc : X.calm = true) : jo X (.builtin "min") (λ xs H Q => ∃ i j, xs = [.int i, .int j] /\ Q (.int (if j < i then j else i)) H) := by
 intro pins s σ H xs us Q I r h
 obtain ⟨i, j, rfl, q⟩ := h
 obtain ⟨u, w', rfl, ⟨t, rfl⟩, ⟨t', rfl⟩⟩ := vals2 r
 refine min_two_ints (I.ok.hd hc) λ h' tk k => ⟨_, H, I.kept k, ?_, q⟩
 by_cases hj : j < i
 .rw [if_pos hj, if_pos hj]; exact ⟨_, rfl⟩
 .rw [if_neg hj, if_neg hj]; exact ⟨_, rfl⟩
end
def wy (f : Str) (v : V) : List (Str × V) -> List (Str × V)
 | [] => [(f, v)]
 | (g, x) :: r => if g = f then (g, v) :: r else (g, x) :: wy f v r
structure dZ (k : Nat) (A : Around) : Prop where
 hd : A.handled = none
 dp : A.depth + 3 * k + 5 < recursionLimit
 un : A.units + 16 * k + 200 < cLine
theorem dZ.mono {j k : Nat} {A : Around} (r : dZ k A) (h : j <= k) : dZ j A := ⟨r.hd, by have := r.dp; omega, by have := r.un; omega⟩
theorem dZ.deeper {k : Nat} {A : Around} (r : dZ (k + 1) A) (env : Env) : dZ k (A.deeper env) :=
 ⟨r.hd, by have := r.dp; show A.depth + 1 + 3 * k + 5 < _; omega, by have := r.un; show A.units + 3 + 16 * k + 200 < _; omega⟩
theorem dZ.depth {k : Nat} {A : Around} (r : dZ k A) : A.depth < recursionLimit := by have := r.dp; omega
def tNil : TA := λ _ H Q => Q [] H
def Ph (ta : TE) (tr : TA) : TA := λ σ H Q => ta σ H λ x H1 => tr σ H1 λ xs H2 => Q (x :: xs) H2
section
variable {X : Cx} {e : Expr} {es : List Expr} {te : TE} {t : TA} {pos : Pos}
theorem vL : PA X [] tNil := λ _ _ _ _ H Q I h => Calls.spliced_nil ⟨[], H, I, .nil, h⟩
theorem oE (ha : PE X e te) (hr : PA X es t) (hs : starEach (e :: es) X.env = (false, eval e X.env) :: starEach es X.env := by rfl) : PA X (e :: es) (Ph te t) := by
 intro pos pins s σ H Q I h
 rw [hs]
 show wpAny _ _ (spliced ((false, eval e X.env) :: backTo pos (starEach es X.env))) _ _ s
 refine Calls.spliced_cons (thn (ha pins s σ H _ I h) λ u s1 zq46 => ?_)
 obtain ⟨x, H1, I1, r1, q1⟩ := zq46
 exact thn (hr pos pins s1 σ H1 _ I1 q1) λ us s2 ⟨xs, H2, I2, r2, q2⟩ => ⟨x :: xs, H2, I2, .cons r1 r2, q2⟩
def tTup (t : TA) : TE := λ σ H Q => t σ H λ xs H1 => xs.length <= sizeLine /\ ∀ p, H1 p = none -> Q (.ref p) (upd H1 p (.tup xs))
def tLst (t : TA) : TE := λ σ H Q => t σ H λ xs H1 => xs.length <= sizeLine /\ ∀ p, H1 p = none -> Q (.ref p) (upd H1 p (.lst xs))
theorem Kf {x1} (h : PA X es t) : PE X (.Tuple es x1 pos) (tTup t) := by
 intro pins s σ H Q I hq
 refine wpAny_Tuple_spliced (thn (h pos pins s σ H _ I hq) λ us s1 ⟨xs, H1, I1, r, z, q⟩ => ⟨by rw [<- r.length]; exact z, ?_⟩)
 have hf : H1 s1.heap.objs.size = none := I1.hok.fresh (Nat.le_refl _)
 refine ⟨.ref s1.heap.objs.size, upd H1 s1.heap.objs.size (.tup xs), I1.laid (t' := s1.toks) (λ b u e => Heap.get?_push_of_some _ e) (Nat.le_refl _) ?_, rfl, q _ hf⟩
 exact ⟨z, us, r, ⟨_, Heap.get?_push_size _ rfl, rfl, _, rfl⟩⟩
theorem Fb (h : PA X es t) : PE X (.List es pos) (tLst t) := by
 intro pins s σ H Q I hq
 refine wpAny_List_spliced (thn (h pos pins s σ H _ I hq) λ us s1 ⟨xs, H1, I1, r, z, q⟩ => ⟨by rw [<- r.length]; exact z, ?_⟩)
 have hf : H1 s1.heap.objs.size = none := I1.hok.fresh (Nat.le_refl _)
 refine ⟨.ref s1.heap.objs.size, upd H1 s1.heap.objs.size (.lst xs), I1.laid (t' := s1.toks) (λ b u e => Heap.get?_push_of_some _ e) (Nat.le_refl _) ?_, rfl, q _ hf⟩
 exact ⟨z, us, 0, r, Heap.get?_push_size _ rfl⟩
end
abbrev Sp := List V -> Hp -> VK -> XK -> Prop
abbrev CXT := List Env -> Hp -> Shared -> XK -> Value -> Shared -> Prop
structure Gz (P : Program) (w : World) (K : PySem.W.Frag) (mg : Str -> Option Value) (base : Heap) (A : Around) (outer : List Env) (s : Shared) (H : Hp) : Prop where
 frames : A.frames = some outer
 mod : Mod K mg base
 bs : ∀ b o, base.get? b = some o -> s.heap.get? b = some o /\ H b = none
 bsz : base.objs.size <= s.heap.objs.size
 funs : s.heap.FunFrames base outer
 frf : ∀ b ∈ frs outer, H b = none
 hok : HOk P w H s.heap
 bare : AllBare s.gens
def CE (outer : List Env) (P : Program) (w : World) (H : Hp) (s : Shared) (Q : VK) (u : Value) (s' : Shared) : Prop :=
 ∃ v H', s'.os = s.os /\ GK s.gens s'.gens /\ Un (frs outer) [] H H' s.heap s'.heap /\ HOk P w H' s'.heap /\ RelV v u /\ Q v H'
def CR (CX : CXT) (outer : List Env) (P : Program) (w : World) (H : Hp) (s : Shared) (Q : VK) (E : XK) (r : Result) (s' : Shared) : Prop :=
 match r with
 | .ok (.ret u) => CE outer P w H s Q u s'
 | .ok _ => False
 | .error e => CX outer H s E e s'
structure nj (P : Program) (w : World) (K : PySem.W.Frag) (mg : Str -> Option Value) (base : Heap) (CX : CXT) (k : Nat) (f : Addr) (fd : FuncData) (ps : List Str) (sp : Sp) : Prop where
 len : ∀ vs H Q E, sp vs H Q E -> vs.length = ps.length
 run : ∀ (A : Around) (outer : List Env) (s : Shared) (H : Hp) (args : Args) (us : List Value) (vs : List V) (Q : VK) (E : XK), dZ k A -> Gz P w K mg base A outer s H -> BindsTo s fd args (ps.zip us) -> Vals vs us -> sp vs H Q E ->
  codeAny (model P w) A (.call (.ref f) args) (CR CX outer P w H s Q E) s
theorem nj.mono {P : Program} {w : World} {K : PySem.W.Frag} {mg : Str -> Option Value} {base : Heap} {CX : CXT} {j k : Nat} {f : Addr} {fd : FuncData} {ps : List Str} {sp : Sp} (F : nj P w K mg base CX j f fd ps sp) (h : j <= k) :
  nj P w K mg base CX k f fd ps sp := ⟨F.len, λ A outer s H args us vs Q E hr => F.run A outer s H args us vs Q E (hr.mono h)⟩
theorem nj.imp {P : Program} {w : World} {K : PySem.W.Frag} {mg : Str -> Option Value} {base : Heap} {CX : CXT} {k : Nat} {f : Addr} {fd : FuncData} {ps : List Str} {sp sp' : Sp} (F : nj P w K mg base CX k f fd ps sp)
  (h : ∀ vs H Q E, sp' vs H Q E -> sp vs H Q E) : nj P w K mg base CX k f fd ps sp' :=
 ⟨λ vs H Q E q => F.len vs H Q E (h _ _ _ _ q), λ A outer s H args us vs Q E hr he hb hv hs => F.run A outer s H args us vs Q E hr he hb hv (h _ _ _ _ hs)⟩
section
variable {X : Cx} {pins : List (Addr × Obj)} {σ : St} {H : Hp} {s s' : Shared}
theorem Inv.env0 (I : Inv X pins σ H s) : Gz X.prog X.w X.K X.mg X.base X.A X.stack s H :=
 ⟨I.ok.frames, I.ok.mod, I.bs, Nat.le_trans I.ok.bsz I.sz, I.stack, I.stkFree, I.hok, I.bare.bare⟩
theorem Inv.after {Q : VK} {u : Value} (I : Inv X pins σ H s) (h : CE X.stack X.prog X.w H s Q u s') : EP X pins σ Q u s' := by
 obtain ⟨v, H', os, bare, un, hok, r, q⟩ := h
 obtain ⟨hh, g, d, t, os'⟩ := s'
 obtain rfl : os' = s.os := os
 exact ⟨v, H', I.call (h' := hh) (g' := g) (d' := d) (t' := t) (ch := []) un hok bare (λ b z => absurd z (by simp)), r, q⟩
end
def PB (sp : Sp) (dvs : List V) (E : XK) (t : TA) : TE := λ σ H Q => t σ H λ vs H1 => sp (vs ++ dvs) H1 Q E
def Binds (K : PySem.W.Frag) (fd : FuncData) (ps : List Str) (ds : List Value) : Prop :=
 ∀ (s : Shared) (us : List Value), K.In s.heap -> (us ++ ds).length = ps.length -> BindsTo s fd ⟨us, []⟩ (ps.zip (us ++ ds))
theorem Binds.all {K : PySem.W.Frag} {fd : FuncData} {ps : List Str} (h : ∀ us : List Value, us.length = ps.length -> bindArgs fd ⟨us, []⟩ = pure (ps.zip us)) : Binds K fd ps [] := λ s us _ hl => by
 rw [List.append_nil] at hl ⊢
 exact .of_eq (h us hl)
def zm (CX : CXT) (X : Cx) (E : XK) : Prop := ∀ (pins : List (Addr × Obj)) (σ : St) (H : Hp) (s : Shared) (e : Value) (s' : Shared), Inv X pins σ H s -> CX X.stack H s E e s' -> X.xe e s'
section
variable {X : Cx} {CX : CXT} {k : Nat} {f C : Addr} {fd : FuncData} {ps : List Str} {sp : Sp} {dvs : List V} {ds : List Value} {E : XK} {x m : Str} {p pos apos : Pos} {e o : Expr} {es : List Expr} {ta : TE} {t : TA}
theorem JF {pins : List (Addr × Obj)} {σ : St} {H : Hp} {s : Shared} {Q : VK} {us : List Value} {vs : List V} (F : nj X.prog X.w X.K X.mg X.base CX k f fd ps sp) (hr : dZ k X.A) (hb : Binds X.K fd ps ds) (hd : Vals dvs ds) (hx : zm CX X E)
  (I : Inv X pins σ H s) (r : Vals vs us) (h : sp (vs ++ dvs) H Q E) : wpAny (model X.prog X.w) X.A (call (.ref f) us) (EP X pins σ Q) X.xe s := by
 have r2 : Vals (vs ++ dvs) (us ++ ds) := r.append hd
 have hl : (us ++ ds).length = ps.length := by rw [<- r2.length]; exact F.len _ _ _ _ h
 refine wpAny_call (codeAny_mono (F.run X.A X.stack s H ⟨us, []⟩ (us ++ ds) (vs ++ dvs) Q E hr I.env0 (hb s us I.kIn hl) r2 h) λ r s' hq => ?_)
 cases r with
 | error e => exact hx pins σ H s e s' I hq
 | ok fl =>
  cases fl with
  | ret u => exact I.after hq
  | next => exact False.elim hq
  | brk => exact False.elim hq
  | cont => exact False.elim hq
theorem Ip (F : nj X.prog X.w X.K X.mg X.base CX k f fd ps sp) (hr : dZ k X.A) (hg : Gl X x) (hm : X.mg x = some (.ref f)) (hk : PySem.W.keepIn X.K (.ref f) = true) (hb : Binds X.K fd ps ds) (hd : Vals dvs ds) (hx : zm CX X E)
  (ha : PA X (e :: es) t) (hdb : (x == ("__debug__" : Str)) = false := by decide) (he : starEach (e :: es) X.env = (false, eval e X.env) :: starEach es X.env := by rfl) (hpl : (backTo pos (starEach es X.env)).any (·.1) = false := by rfl) :
  PE X (.Call (.Name x p) (e :: es) [] pos) (PB sp dvs E t) := by
 intro pins s σ H Q I h
 refine wpAny_Call_Name_kw (Hg I hg hm ?_ hdb)
 refine PySem.W.callWith_K (h₀ := X.base) I.ok.mod.kin hk (thn (ha pos pins s σ H _ I h) λ us s1 ⟨vs, H1, I1, r, q⟩ => ⟨I1.kIn, ?_⟩) he hpl
 exact JF F hr hb hd hx I1 r q
end
structure aX (N P : List Str) (sc : Scope) : Prop where
 kind : sc.kind = .function
 co : sc.isCoroutine = false
 gen : sc.isGenerator = false
 nd : N.Nodup
 pre : N.take P.length = P
 par : ∀ x ∈ P, sc.names.lookup x = some .local ∨ sc.names.lookup x = some .cell
 nofree : ∀ y ∈ sc.names, y.2 ≠ .free
theorem uD {kindOf : Str -> Option NameKind} {x : Str} : ∀ {binds : List (Str × Value)} {m : Str -> Option Value}, (∀ v, (x, v) ∉ binds) -> bindL kindOf binds m x = m x
 | [], _, _ => rfl
 | (n, v) :: r, m, h => by
  unfold bindL
  rw [uD λ w hw => h w (List.mem_cons_of_mem _ hw)]
  split
  .have : x ≠ n := by rintro rfl; exact h v List.mem_cons_self
   simp [this]
  .rfl
theorem tZ {kindOf : Str -> Option NameKind} {x : Str} : ∀ {binds : List (Str × Value)} {m : Str -> Option Value}, (∀ v, (x, v) ∉ binds) -> bindC kindOf binds m x = m x
 | [], _, _ => rfl
 | (n, v) :: r, m, h => by
  unfold bindC
  rw [tZ λ w hw => h w (List.mem_cons_of_mem _ hw)]
  split
  .rfl
  .have : x ≠ n := by rintro rfl; exact h v List.mem_cons_self
   simp [this]
theorem uy {kindOf : Str -> Option NameKind} {x : Str} {v : Value} : ∀ {P : List Str} {vs : List Value} {i : Nat} {m : Str -> Option Value}, P.Nodup -> P[i]? = some x -> vs[i]? = some v -> kindOf x = some .local ->
  bindL kindOf (P.zip vs) m x = some v
 | [], _, _, _, _, h, _, _ => by simp at h
 | _ :: _, [], _, _, _, _, h, _ => by simp at h
 | p :: P, w :: vs, 0, m, nd, h1, h2, hk => by
  simp at h1 h2; subst h1; subst h2
  show bindL kindOf ((p, w) :: P.zip vs) m p = _
  unfold bindL
  rw [uD λ v hv => (List.nodup_cons.mp nd).1 (List.of_mem_zip hv).1, if_pos hk]
  simp
 | p :: P, w :: vs, i + 1, m, nd, h1, h2, hk => by
  show bindL kindOf ((p, w) :: P.zip vs) m x = _
  unfold bindL
  exact uy (i := i) (List.nodup_cons.mp nd).2 (by simpa using h1) (by simpa using h2) hk
theorem uH {kindOf : Str -> Option NameKind} {x : Str} {v : Value} : ∀ {P : List Str} {vs : List Value} {i : Nat} {m : Str -> Option Value}, P.Nodup -> P[i]? = some x -> vs[i]? = some v -> kindOf x ≠ some .local ->
  bindC kindOf (P.zip vs) m x = some v
 | [], _, _, _, _, h, _, _ => by simp at h
 | _ :: _, [], _, _, _, _, h, _ => by simp at h
 | p :: P, w :: vs, 0, m, nd, h1, h2, hk => by
  simp at h1 h2; subst h1; subst h2
  show bindC kindOf ((p, w) :: P.zip vs) m p = _
  unfold bindC
  rw [tZ λ v hv => (List.nodup_cons.mp nd).1 (List.of_mem_zip hv).1, if_neg hk]
  simp
 | p :: P, w :: vs, i + 1, m, nd, h1, h2, hk => by
  show bindC kindOf ((p, w) :: P.zip vs) m x = _
  unfold bindC
  exact uH (i := i) (List.nodup_cons.mp nd).2 (by simpa using h1) (by simpa using h2) hk
def start (N : List Str) (vs : List V) : St := vs.map some ++ List.replicate (N.length - vs.length) none
def yu (CX : CXT) (P : Program) (w : World) (K : PySem.W.Frag) (mg : Str -> Option Value) (base : Heap) (N : List Str) (qual : Str) (scope : Scope) (f : Addr) (cd : Value) (A : Around) (outer : List Env) (s : Shared) (H : Hp) (E : XK) : Cx where
 prog := P
 w := w
 K := K
 mg := mg
 base := base
 A := A.deeper (envOfC qual scope s.heap.objs.size f cd)
 N := N
 s₀ := s
 H₀ := H
 env := envOfC qual scope s.heap.objs.size f cd
 outer := outer
 stack := envOfC qual scope s.heap.objs.size f cd :: outer
 ex := []
 calm := true
 fn := λ _ => true
 pn := []
 xe := λ e s' => wpAny (model P w) (A.deeper (envOfC qual scope s.heap.objs.size f cd)) (leaving (envOfC qual scope s.heap.objs.size f cd) e) (λ _ s'' => CX outer H s E e s'') (λ e' s'' => CX outer H s E e' s'') s'
theorem xM {sc : Scope} {n : Nat} {x : Str} (h : sc.names.lookup x = some .cell) : ∃ c, (cellsFrom n sc.names []).lookup x = some c := by
 have q := PySem.W.cellsFrom_some sc.names n [] (.inl h)
 exact Option.isSome_iff_exists.mp q
theorem Bh {CX : CXT} {P : Program} {w : World} {K : PySem.W.Frag} {mg : Str -> Option Value} {base : Heap} {N ps : List Str} {qual : Str} {scope : Scope} {f : Addr} {cd : Value} {A : Around} {outer : List Env} {s s1 : Shared} {H : Hp} {E : XK} {us : List Value} {vs : List V}
  (S : aX N ps scope) (hd : A.handled = none) (e0 : Gz P w K mg base A outer s H) (hl : vs.length = ps.length) (r : Vals vs us)
  (x : InCallC s s.heap.objs.size (bindL (envOfC qual scope s.heap.objs.size f cd).kindOf (ps.zip us) λ _ => none) (cellsFrom (s.heap.objs.size + 1) scope.names []) (bindC (envOfC qual scope s.heap.objs.size f cd).kindOf (ps.zip us) λ _ => none) s1) :
  Inv (yu CX P w K mg base N qual scope f cd A outer s H E) [] (start N vs) H s1 := by
 have hpl : ps.length <= N.length := by have := congrArg List.length S.pre; rw [List.length_take] at this; omega
 obtain ⟨h1, tk, rfl, hk⟩ := x.done
 have noA : ∀ b : Addr, b ∉ (yu CX P w K mg base N qual scope f cd A outer s H E).ex := λ b z => absurd (show b ∈ ([] : List Addr) from z) (by simp)
 refine ⟨⟨e0.mod, S.kind, rfl, rfl, Nat.le_refl _, λ y z c h1 h2 => ?_, λ y hy => ?_, λ y c _ h => ?_, λ _ => hd, Around.frames_deeper e0.frames, .inr ⟨rfl, rfl⟩, λ b z => absurd z (noA b), e0.bs, e0.bsz, λ b _ _ => noA b, λ b z => absurd z (noA b), e0.funs, e0.frf⟩,
  rfl, GK.refl e0.bare, Un.kept hk, ⟨_, x.toInCall.ns, λ i y v h1 h2 h3 => ?_⟩, λ y c h => ⟨_, x.cell y c h⟩, e0.hok.fresh (Nat.le_refl _), λ y c h => ?_, λ p hp => absurd (show p ∈ ([] : List (Addr × Obj)) from hp) (by simp), e0.hok.kept hk, ?_⟩
 .exact name_of_addr x.apart (PySem.mem_of_lookup h1) (PySem.mem_of_lookup h2)
 .have hy : scope.names.lookup y = some .cell ∨ scope.names.lookup y = some .free := hy
  rcases hy with hy | hy
  .exact xM hy
  .exact absurd rfl (S.nofree _ (PySem.mem_of_lookup hy))
 .exact Nat.le_of_lt (x.above y c (PySem.mem_of_lookup h))
 .have hi : i < vs.length := by
   unfold start at h2
   by_cases hi : i < vs.length
   .exact hi
   .rw [List.getElem?_append_right (by simpa using hi)] at h2
    rw [List.getElem?_replicate] at h2
    split at h2 <;> cases h2
  have ha : vs[i]? = some v := by
   unfold start at h2
   rw [List.getElem?_append_left (by simpa using hi), List.getElem?_map] at h2
   cases e : vs[i]? with
   | none => rw [e] at h2; cases h2
   | some a => rw [e] at h2; cases h2; rfl
  obtain ⟨u, hu, rv⟩ := r.get ha
  have hp : ps[i]? = some y := by
   rw [<- S.pre, List.getElem?_take_of_lt (by omega)]; exact h1
  have ndP : ps.Nodup := by rw [<- S.pre]; exact S.nd.sublist (List.take_sublist _ _)
  refine ⟨u, rv, ?_⟩
  rcases S.par y (List.mem_of_getElem? hp) with k | k
  .exact .inl ⟨k, uy ndP hp hu k⟩
  .obtain ⟨c, e⟩ := xM (n := s.heap.objs.size + 1) k
   refine .inr ⟨.inl k, c, e, ?_⟩
   have q := x.cell y c e
   rw [uH ndP hp hu (by show scope.names.lookup y ≠ _; rw [k]; decide)] at q
   exact q
 .exact e0.hok.fresh (Nat.le_of_lt (x.above y c (PySem.mem_of_lookup h)))
 .unfold start
  show _ = N.length
  rw [List.length_append, List.length_map, List.length_replicate]
  omega
theorem Jr {CX : CXT} {P : Program} {w : World} {K : PySem.W.Frag} {mg : Str -> Option Value} {base : Heap} {k : Nat} {f : Addr} {name qual : Str} {params : Arguments} {body : List Stmt} {scope : Scope} {dV kV doc pm cdv ct oc : Value} {an od : Option Addr}
  {osl : Array (Option Value)} {N ps : List Str} {sp : Sp} (lk : K.lookup f = some ⟨oc, od, .func (PySem.W.fnOf name qual params body scope dV kV doc pm an cdv ct), osl⟩) (hcd : PySem.W.codeIn K cdv qual = true) (S : aX N ps scope)
  (len : ∀ vs H Q E, sp vs H Q E -> vs.length = ps.length)
  (hbody : ∀ (A : Around) (outer : List Env) (s : Shared) (H : Hp) (vs : List V) (Q : VK) (E : XK), dZ k (A.deeper (envOfC qual scope s.heap.objs.size f cdv)) -> sp vs H Q E ->
   ∃ t, PSs (yu CX P w K mg base N qual scope f cdv A outer s H E) body t /\ t { nx := λ _ H' => Q .non H', rt := Q } (start N vs) H) :
  nj P w K mg base CX (k + 1) f (PySem.W.fnOf name qual params body scope dV kV doc pm an cdv ct) ps sp := by
 refine ⟨len, λ A outer s H args us vs Q E hr e0 hb r hsp => ?_⟩
 have hl := len _ _ _ _ hsp
 have KX : K.In s.heap := e0.mod.kin.keeps λ b o e => (e0.bs b o e).1
 have lim : s.heap.NoLimit := e0.mod.nolimit.keeps λ b o e => (e0.bs b o e).1
 have hkind : ∀ y ∈ ps.zip us, scope.names.lookup y.1 = some .local ∨ (scope.names.lookup y.1 = some .cell /\ ((cellsFrom (s.heap.objs.size + 1) scope.names []).lookup y.1).isSome = true) := λ zq49 hy => by
  obtain ⟨n, v⟩ := zq49
  rcases S.par n (List.of_mem_zip hy).1 with q | q
  .exact .inl q
  .exact .inr ⟨q, PySem.W.cellsFrom_some _ _ _ (.inl q)⟩
 refine codeAny_call_function hr.depth (KX _ _ lk) rfl S.co S.gen rfl (PySem.W.codeRec_of KX hcd) (hb _ _ _ _ ?_)
 refine wpAny_newFunctionEnv_cells S.kind hkind λ env he s1 x => ?_
 subst he
 refine ⟨lim.keeps x.toInCall.keep, codeAny_func ?_⟩
 obtain ⟨t, ht, hq⟩ := hbody A outer s H vs Q E (hr.deeper _) hsp
 have I : Inv (yu CX P w K mg base N qual scope f cdv A outer s H E) [] (start N vs) H s1 := Bh S hr.hd e0 hl r x
 refine wpAny_mono (ht [] s1 (start N vs) H _ I hq) (λ fl s' hs => ?_) λ e s' hs => hs
 have fin : ∀ {σ' : St} {H' : Hp} {v : V} {u : Value}, Inv (yu CX P w K mg base N qual scope f cdv A outer s H E) [] σ' H' s' -> RelV v u -> Q v H' -> CE outer P w H s Q u s' :=
  λ {σ' H' v u} J rv q => ⟨v, H', J.os, J.bare, J.base, J.hok, rv, q⟩
 cases fl with
 | ret u =>
  obtain ⟨v, σ', H', J, rv, q⟩ := hs
  exact fin J rv q
 | next =>
  obtain ⟨σ', H', J, q⟩ := hs
  exact fin (v := V.non) (u := Value.none) J rfl q
 | brk =>
  obtain ⟨_, _, _, q⟩ := hs
  exact False.elim q
 | cont =>
  obtain ⟨_, _, _, q⟩ := hs
  exact False.elim q
section
variable {X : Cx} {x : Str} {p pos : Pos} {e : Expr} {es : List Expr} {t : TA} {id T : String} {r : List V -> Hp -> VK -> Prop}
def tCB (r : List V -> Hp -> VK -> Prop) (t : TA) : TE := λ σ H Q => t σ H λ vs H1 => r vs H1 Q
theorem nG (hc : jo X (.builtin id) r) (hg : Gl X x) (hm : X.mg x = none) (hv : bootBuiltins x = some (.builtin id)) (ha : PA X (e :: es) t) (hn : x ≠ "__name__" := by decide) (hdb : (x == ("__debug__" : Str)) = false := by decide)
  (he : starEach (e :: es) X.env = (false, eval e X.env) :: starEach es X.env := by rfl) (hpl : (backTo pos (starEach es X.env)).any (·.1) = false := by rfl) : PE X (.Call (.Name x p) (e :: es) [] pos) (tCB r t) := by
 intro pins s σ H Q I h
 refine wpAny_Call_Name_kw (jG I hg hm hv ?_ hn hdb)
 exact PyProof.Rows.callWith_builtin1 (thn (ha pos pins s σ H _ I h) λ us s1 ⟨vs, H1, I1, r1, q1⟩ => hc pins s1 σ H1 vs us Q I1 r1 q1) he hpl
theorem mq (hc : jo X (.type T) r) (hg : Gl X x) (hm : X.mg x = none) (hv : bootBuiltins x = some (.type T)) (ha : PA X (e :: es) t) (hn : x ≠ "__name__" := by decide) (hdb : (x == ("__debug__" : Str)) = false := by decide)
  (he : starEach (e :: es) X.env = (false, eval e X.env) :: starEach es X.env := by rfl) (hpl : (backTo pos (starEach es X.env)).any (·.1) = false := by rfl) : PE X (.Call (.Name x p) (e :: es) [] pos) (tCB r t) := by
 intro pins s σ H Q I h
 refine wpAny_Call_Name_kw (jG I hg hm hv ?_ hn hdb)
 exact PyProof.Rows.callWith_type1 (thn (ha pos pins s σ H _ I h) λ us s1 ⟨vs, H1, I1, r1, q1⟩ => hc pins s1 σ H1 vs us Q I1 r1 q1) he hpl
end
end L2
namespace HT
open PySem PyProof.Rows
section
variable {prog : Program} {w : World} {A : Around} {E : Value -> Shared -> Prop} {s : Shared}
theorem cat_tup {t b : Addr} {vs ws : List Value} {Q : Value -> Shared -> Prop} (ht : IsTup s.heap t vs.toArray) (hb : IsTup s.heap b ws.toArray) (hv : vs ≠ [])
  (h1 : ws = [] -> Q (.ref t) s) (h2 : ws ≠ [] -> Q (.ref s.heap.objs.size) { s with heap := s.heap.push { cls := .type "tuple", data := .seq (vs ++ ws).toArray } })
  (hsz : vs.length + ws.length <= sizeLine) : wpAny (model prog w) A (binaryOp .Add (.ref t) (.ref b)) Q E s := by
 obtain ⟨⟨cls, dd, data, sl⟩, ho, hc, n, hd⟩ := id ht
 obtain ⟨⟨cls2, dd2, data2, sl2⟩, ho2, hc2, n2, hd2⟩ := id hb
 simp only at hc hd hc2 hd2
 subst hc hd hc2 hd2
 have e : vs.toArray ++ ws.toArray = (vs ++ ws).toArray := by simp
 by_cases hw : ws = []
 .exact concat_meets ⟨_, ho, rfl⟩ ⟨_, ho2, rfl⟩ noFill_tuple_add seq_tuple_add PySem.F.slot_tuple_add PySem.F.entry_tuple_add (PySem.F.args_tuple_add_2 _ _)
   (tuple_addW1 t b vs.toArray ws.toArray n n2 dd dd2 sl sl2 (by simpa using hv) (by simp [hw])) ⟨ho, ho2, h1 hw⟩
 .refine concat_meets ⟨_, ho, rfl⟩ ⟨_, ho2, rfl⟩ noFill_tuple_add seq_tuple_add PySem.F.slot_tuple_add PySem.F.entry_tuple_add (PySem.F.args_tuple_add_2 _ _)
   (tuple_addW2 t b vs.toArray ws.toArray n n2 dd dd2 sl sl2 (by simpa using hv) (by simpa using hw) (by rw [List.size_toArray, List.size_toArray]; exact hsz)) ⟨ho, ho2, ?_⟩
  rw [e]
  exact h2 hw
def sIx (n d : Nat) : Option Int -> Nat
 | none => d
 | some v => if v < 0 then (v + (n : Int)).toNat else min v.toNat n
theorem Jt (n d : Nat) (hd : d <= n) (o : Option Int) : sIx n d o <= n := by
 cases o with
 | none => exact hd
 | some v =>
  show (if v < 0 then (v + (n : Int)).toNat else min v.toNat n) <= n
  by_cases hv : v < 0
  .rw [if_pos hv]; omega
  .rw [if_neg hv]; exact Nat.min_le_right _ _
theorem Af (v : Int) (n d : Nat) : (if v < 0 then max (v + (n : Int)) 0 else min v (n : Int)) = ((sIx n d (some v) : Nat) : Int) := by
 show (if v < 0 then max (v + (n : Int)) 0 else min v (n : Int)) = (((if v < 0 then (v + (n : Int)).toNat else min v.toNat n) : Nat) : Int)
 by_cases hv : v < 0
 .simp only [if_pos hv]; omega
 .simp only [if_neg hv]; omega
theorem yZ (lo hi : Option Int) (n : Nat) : Builtin.Slice.sliceAdjust lo hi 1 (n : Int) = (((sIx n 0 lo : Nat) : Int), ((sIx n n hi : Nat) : Int)) := by
 have h1 : ¬ ((1 : Int) < 0) := by omega
 unfold Builtin.Slice.sliceAdjust
 simp only [h1, if_false]
 refine Prod.ext ?_ ?_
 .cases lo with
  | none => rfl
  | some v => exact Af v n 0
 .cases hi with
  | none => rfl
  | some v => exact Af v n n
theorem zx (i j : Nat) : Builtin.Slice.slicePlaces (i : Int) (j : Int) 1 = j - i := by
 unfold Builtin.Slice.slicePlaces
 have h1 : (1 : Int) > 0 := by omega
 simp only [h1, if_true, Int.ediv_one]
 split <;> omega
theorem rC {v : Value} {o : Option Int} {Q : Option Int -> Shared -> Prop} (p : IsPart v o) (h : Q o s) : wpAny (model prog w) A (Builtin.Slice.slicePartIndex v) Q E s := by
 cases p with
 | none => exact slicePart_none h
 | int i t => exact slicePart_int h
theorem jK {sl : Addr} {vl vu : Value} {lo hi : Option Int} {n : Nat} {Q : Int × Int × Nat -> Shared -> Prop} (hs : s.heap.IsSliceOf sl vl vu .none) (pl : IsPart vl lo) (pu : IsPart vu hi)
  (h : Q (((sIx n 0 lo : Nat) : Int), 1, sIx n n hi - sIx n 0 lo) s) : wpAny (model prog w) A (Builtin.Slice.sliceApplied (.ref sl) (pure (n : Int))) Q E s := by
 obtain ⟨os, hos, hcs, hds⟩ := id hs
 unfold Builtin.Slice.sliceApplied Builtin.Slice.sliceFields
 refine wpAny_bind (wpAny_bind (wpAny_field hos hds (x := vl) rfl (wpAny_bind (wpAny_field hos hds (x := vu) rfl (wpAny_bind (wpAny_field hos hds (x := .none) rfl (wpAny_pure ?_)))))))
 refine wpAny_bind (slicePart_none ?_)
 show wpAny _ _ (if ((1 : Int) == 0) = true then _ else _) _ _ s
 rw [if_neg (by decide)]
 refine wpAny_bind (rC pl (wpAny_bind (rC pu (wpAny_bind (wpAny_pure ?_)))))
 show wpAny _ _ (match Builtin.Slice.sliceAdjust lo hi 1 (n : Int) with | (lo, hi) => pure (lo, (1 : Int), Builtin.Slice.slicePlaces lo hi 1)) _ _ s
 rw [yZ lo hi n]
 show wpAny _ _ (pure (((sIx n 0 lo : Nat) : Int), (1 : Int), Builtin.Slice.slicePlaces ((sIx n 0 lo : Nat) : Int) ((sIx n n hi : Nat) : Int) 1)) _ _ s
 rw [zx]
 exact wpAny_pure h
theorem Dv (xs : Array Value) (i k : Nat) : ((List.range k).filterMap λ (m : Nat) => xs[((i : Int) + (m : Int) * 1).toNat]?).toArray = ((xs.toList.drop i).take k).toArray := by
 have e : (λ (m : Nat) => xs[((i : Int) + (m : Int) * 1).toNat]?) = λ m => xs[i + m]? := by
  funext m
  have : ((i : Int) + (m : Int) * 1).toNat = i + m := by omega
  rw [this]
 rw [e]
 have := pick_run xs i k
 rw [List.filterMap_map] at this
 have e2 : ((λ x => xs[x]?) ∘ λ x => i + x) = λ m => xs[i + m]? := rfl
 rw [e2] at this
 rw [this]
theorem getItem_tuple_cut {t sl : Addr} {items : Array Value} {vl vu : Value} {lo hi : Option Int} {Q : Value -> Shared -> Prop} (ht : IsTup s.heap t items) (hs : s.heap.IsSliceOf sl vl vu .none) (pl : IsPart vl lo) (pu : IsPart vu hi)
  (hw : ¬ (sIx items.size 0 lo = 0 /\ sIx items.size items.size hi = items.size))
  (h : Q (.ref s.heap.objs.size) { s with heap := s.heap.push { cls := .type "tuple", data := .seq ((items.toList.drop (sIx items.size 0 lo)).take (sIx items.size items.size hi - sIx items.size 0 lo)).toArray } })
  (hsz : items.size <= sizeLine) : wpAny (model prog w) A (getItem (.ref t) (.ref sl)) Q E s := by
 have htake : sizeOk (.seq ((items.toList.drop (sIx items.size 0 lo)).take (sIx items.size items.size hi - sIx items.size 0 lo)).toArray) := by
  show ((items.toList.drop (sIx items.size 0 lo)).take (sIx items.size items.size hi - sIx items.size 0 lo)).toArray.size <= sizeLine
  rw [List.size_toArray, List.length_take, List.length_drop, Array.length_toList]
  omega
 have hj : sIx items.size items.size hi <= items.size := Jt _ _ (Nat.le_refl _) hi
 obtain ⟨os, hos, hcs, hds⟩ := id hs
 have hTs : s.TypeIs (.ref sl) "slice" := ⟨os, hos, hcs⟩
 unfold getItem
 try with_reducible refine wpAny_holding ?_
 first | refine wpAny_bind (wpAny_pure ?_) | skip
 refine wpAny_bind (wpAny_sequenceKey ht.typeIs (by decide) ?_)
 refine wpAny_bind (wpAny_callSpecial?_slot (name := Str.ofString "__getitem__") ht.typeIs PyProof.Rows.slot_tuple_getitem
  (wpAny_call_entry PyProof.Rows.slot_tuple_getitem ht.typeIs entry_tuple_getitem ?_ (args_tuple_getitem _ _)))
 show wpAny _ _ (Builtin.Tuple.tupleItemsOf (.ref t) >>= _) _ _ s
 refine wpAny_bind (tupleItemsOf_ ht ?_)
 refine wpAny_bind (wpAny_typeOf hTs ?_)
 rw [if_pos (by decide)]
 refine wpAny_bind (jK hs pl pu ?_)
 have hno : ¬ ((((sIx items.size 0 lo : Nat) : Int) == 0 && (1 : Int) == 1 && (sIx items.size items.size hi - sIx items.size 0 lo) == items.size) = true) := by
  intro q
  rw [Bool.and_eq_true, Bool.and_eq_true] at q
  have q1 : ((sIx items.size 0 lo : Nat) : Int) = 0 := eq_of_beq q.1.1
  have q2 : sIx items.size items.size hi - sIx items.size 0 lo = items.size := eq_of_beq q.2
  exact hw ⟨by omega, by omega⟩
 show wpAny _ _ (if (((sIx items.size 0 lo : Nat) : Int) == 0 && (1 : Int) == 1 && (sIx items.size items.size hi - sIx items.size 0 lo) == items.size) = true then _ else _) _ _ s
 rw [if_neg hno, Dv]
 first
  | exact wpAny_bind (m := Builtin.Tuple.tupleExact _) (wpAny_newObj_type (wpAny_pure ⟨_, rfl, wpAny_pure h⟩) htake)
  | exact wpAny_bind (m := Builtin.Tuple.tupleExact _) (wpAny_newObj_type (wpAny_bind (wpAny_pure (wpAny_pure ⟨_, rfl, wpAny_pure h⟩))) htake)
  | exact wpAny_bind (wpAny_bind (m := Builtin.Tuple.tupleExact _) (wpAny_newObj_type (wpAny_pure (wpAny_pure ⟨_, rfl, wpAny_pure h⟩)) htake))
  | exact wpAny_bind (wpAny_bind (m := Builtin.Tuple.tupleExact _) (wpAny_newObj_type (wpAny_pure ⟨_, rfl, wpAny_pure h⟩) htake))
end
end HT
namespace L2
open PySem PySem.Spec PyProof.Rows
abbrev TO := St -> Hp -> (Option Int -> Hp -> Prop) -> Prop
def PO (X : Cx) (e : Option Expr) (t : TO) : Prop :=
 ∀ (pins : List (Addr × Obj)) (s : Shared) (σ : St) (H : Hp) (Q : Option Int -> Hp -> Prop), Inv X pins σ H s -> t σ H Q ->
  wpAny (model X.prog X.w) X.A (evalPart e X.env) (λ u s' => ∃ o H', Inv X pins σ H' s' /\ IsPart u o /\ Q o H') X.xe s
def Ge : TO := λ _ H Q => Q none H
def Ot (t : TE) : TO := λ σ H Q => t σ H λ x H1 => ∃ i, x = .int i /\ Q (some i) H1
section
variable {X : Cx} {e : Expr} {te : TE} {lo hi : Option Expr} {tl th : TO} {pos p2 : Pos}
theorem Hn : PO X none Ge := by
 intro pins s σ H Q I h
 rw [evalPart_none]
 exact wpAny_pure ⟨none, H, I, .none, h⟩
theorem GR (h : PE X e te) : PO X (some e) (Ot te) := by
 intro pins s σ H Q I hw
 rw [evalPart_some]
 refine thn (h pins s σ H _ I hw) λ u s1 zq50 => ?_
 obtain ⟨x, H1, I1, r1, q1⟩ := zq50
 obtain ⟨i, rfl, q⟩ := q1
 obtain ⟨t, rfl⟩ := r1
 exact ⟨some i, H1, I1, .int i t, q⟩
def SlR (X : Cx) (r : V -> Option Int -> Option Int -> Hp -> VK -> Prop) : Prop :=
 ∀ (pins : List (Addr × Obj)) (s : Shared) (σ : St) (H : Hp) (x : V) (v vl vu : Value) (lo hi : Option Int) (sl : Addr) (Q : VK), Inv X pins σ H s -> RelV x v -> s.heap.IsSliceOf sl vl vu .none -> IsPart vl lo -> IsPart vu hi -> r x lo hi H Q ->
  ∃ T id, typeLookup (.type T) "__getitem__" = pure (some (.builtin id)) /\ s.TypeIs v T /\ wpAny (model X.prog X.w) X.A (getItem v (.ref sl)) (EP X pins σ Q) X.xe s
theorem SlR.or {r r' : V -> Option Int -> Option Int -> Hp -> VK -> Prop} (h : SlR X r) (h' : SlR X r') : SlR X (λ x lo hi H Q => r x lo hi H Q ∨ r' x lo hi H Q) := by
 intro pins s σ H x v vl vu lo hi sl Q I rx hs pl pu q
 rcases q with q | q
 .exact h pins s σ H x v vl vu lo hi sl Q I rx hs pl pu q
 .exact h' pins s σ H x v vl vu lo hi sl Q I rx hs pl pu q
def tSl (r : V -> Option Int -> Option Int -> Hp -> VK -> Prop) (te : TE) (tl th : TO) : TE := λ σ H Q => te σ H λ x H1 => tl σ H1 λ l H2 => th σ H2 λ u H3 => r x l u H3 Q
theorem xU {r : V -> Option Int -> Option Int -> Hp -> VK -> Prop} (hr : SlR X r) (he : PE X e te) (hl : PO X lo tl) (hu : PO X hi th) : PE X (.Subscript e (.Slice lo hi none p2) pos) (tSl r te tl th) := by
 intro pins s σ H Q I h
 refine Subscript_ (thn (he pins s σ H _ I h) λ v s1 zq51 => ?_)
 obtain ⟨x, H1, I1, r1, q1⟩ := zq51
 refine wpAny_Slice (thn (hl pins s1 σ H1 _ I1 q1) λ vl s2 ⟨l, H2, I2, pl, q2⟩ => thn (hu pins s2 σ H2 _ I2 q2) λ vu s3 zq52 => ?_)
 obtain ⟨u, H3, I3, pu, q3⟩ := zq52
 rw [evalPart_none]
 refine wpAny_pure ?_
 have I4 : Inv X pins σ H3 { s3 with heap := s3.heap.push { cls := .type "slice", data := .fields #[vl, vu, .none] } } := I3.kept (t' := s3.toks) λ b ob q => Heap.get?_push_of_some _ q
 obtain ⟨T, id, hT, ht, hg⟩ := hr pins { s3 with heap := s3.heap.push { cls := .type "slice", data := .fields #[vl, vu, .none] } } σ H3 x v vl vu l u s3.heap.objs.size Q I4 r1 (Heap.IsSliceOf.new ..) pl pu q3
 show wpAny (model X.prog X.w) X.A (subscriptTail e (.Slice lo hi none p2) v (.ref s3.heap.objs.size)) (EP X pins σ Q) X.xe { s3 with heap := s3.heap.push { cls := .type "slice", data := .fields #[vl, vu, .none] } }
 exact tail_any (ops := [.ref s3.heap.objs.size, v]) ht hT hg (by with_unfolding_all rfl)
def yf (xs : List V) (lo hi : Option Int) : List V := (xs.drop (HT.sIx xs.length 0 lo)).take (HT.sIx xs.length xs.length hi - HT.sIx xs.length 0 lo)
theorem pY (xs : List V) (lo hi : Option Int) : (yf xs lo hi).length <= xs.length := by
 unfold yf
 rw [List.length_take, List.length_drop]
 omega
def rSlT (K : PySem.W.Frag) : V -> Option Int -> Option Int -> Hp -> VK -> Prop := λ x lo hi H Q => ∃ a xs, x = .ref a /\ SqT K H a xs /\
 ¬ (HT.sIx xs.length 0 lo = 0 /\ HT.sIx xs.length xs.length hi = xs.length) /\ ∀ p, H p = none -> Q (.ref p) (upd H p (.tup (yf xs lo hi)))
theorem Jx : SlR X (rSlT X.K) := by
 intro pins s σ H x v vl vu lo hi sl Q I rx hs pl pu h
 obtain ⟨a, xs, rfl, hx, hw, q⟩ := h
 cases rx
 obtain ⟨its, r, ht, hz⟩ := I.tuple hx
 have hlen : its.toArray.size = xs.length := by rw [List.size_toArray]; exact r.length.symm
 refine ⟨"tuple", _, PyProof.Rows.slot_tuple_getitem.lookup, ht.typeIs, ?_⟩
 refine HT.getItem_tuple_cut ht hs pl pu (by rw [hlen]; exact hw) ?_ (by rw [hlen]; exact hz)
 rw [hlen]
 refine ⟨.ref s.heap.objs.size, _, I.laid (t' := s.toks) (o := .tup (yf xs lo hi)) (λ b ob q => Heap.get?_push_of_some _ q) (Nat.le_refl _) ?_, rfl, q _ (I.hok.fresh (Nat.le_refl _))⟩
 exact ⟨Nat.le_trans (pY xs lo hi) hz, _, (r.drop (HT.sIx xs.length 0 lo)).take (HT.sIx xs.length xs.length hi - HT.sIx xs.length 0 lo), IsTup.new _ _⟩
def Pg (K : PySem.W.Frag) : R2 := λ x y H Q => ∃ a b xs ys, x = .ref a /\ y = .ref b /\ SqT K H a xs /\ SqT K H b ys /\ xs ≠ [] /\ xs.length + ys.length <= sizeLine /\
 (ys = [] -> Q (.ref a) H) /\ (ys ≠ [] -> ∀ p, H p = none -> Q (.ref p) (upd H p (.tup (xs ++ ys))))
theorem Vals.jW {xs : List V} {us : List Value} (r : Vals xs us) : us = [] ↔ xs = [] := by
 cases r with
 | nil => simp
 | cons _ _ => simp
theorem Ij : OpR X (binaryOp .Add) (Pg X.K) := by
 intro pins s σ H x y v u Q I rx ry h
 obtain ⟨a, b, xs, ys, rfl, rfl, ha, hb, hx, hz, q1, q2⟩ := h
 cases rx
 cases ry
 obtain ⟨its, r1, p1, _⟩ := I.tuple ha
 obtain ⟨its2, r2, p2, _⟩ := I.tuple hb
 refine HT.cat_tup p1 p2 (λ z => hx (r1.jW.mp z)) (λ z => ⟨.ref a, H, I, rfl, q1 (r2.jW.mp z)⟩) (λ z => ?_) (by rw [<- r1.length, <- r2.length]; exact hz)
 refine ⟨.ref s.heap.objs.size, _, I.laid (t' := s.toks) (o := .tup (xs ++ ys)) (λ b ob q => Heap.get?_push_of_some _ q) (Nat.le_refl _) ?_, rfl, q2 (λ w => z (r2.jW.mpr w)) _ (I.hok.fresh (Nat.le_refl _))⟩
 exact ⟨by rw [List.length_append]; exact hz, _, r1.append r2, IsTup.new _ _⟩
end
def ixN (n : Nat) (i : Int) : Option Nat := if 0 <= i then (if i < n then some i.toNat else none) else if -(n : Int) <= i then some (i + n).toNat else none
def atI {α : Type} (xs : List α) (i : Int) : Option α := (ixN xs.length i).bind λ j => xs[j]?
theorem zM {n : Nat} {i : Int} {j : Nat} (h : ixN n i = some j) : seqIndex? i n = some j /\ j < n /\ -(n : Int) <= i /\ i < n := by
 unfold ixN at h
 by_cases h0 : 0 <= i
 .rw [if_pos h0] at h
  by_cases h1 : i < n
  .rw [if_pos h1] at h
   have e : i.toNat = j := Option.some.inj h
   exact ⟨by rw [seqIndex_of h0 h1, e], by omega, by omega, h1⟩
  .rw [if_neg h1] at h; cases h
 .rw [if_neg h0] at h
  by_cases h1 : -(n : Int) <= i
  .rw [if_pos h1] at h
   have e : (i + n).toNat = j := Option.some.inj h
   exact ⟨by rw [seqIndex_neg (by omega) h1, e], by omega, h1, by omega⟩
  .rw [if_neg h1] at h; cases h
theorem vQ {α : Type} {xs : List α} {i : Int} {v : α} (h : atI xs i = some v) : ∃ j, seqIndex? i xs.length = some j /\ xs[j]? = some v /\ j < xs.length /\ -(xs.length : Int) <= i /\ i < xs.length := by
 unfold atI at h
 cases e : ixN xs.length i with
 | none => rw [e] at h; cases h
 | some j =>
  rw [e] at h
  obtain ⟨h1, h2, h3, h4⟩ := zM e
  exact ⟨j, h1, h, h2, h3, h4⟩
theorem GX {α : Type} {xs : List α} {j : Nat} {v : α} (h : xs[j]? = some v) : atI xs (j : Int) = some v := by
 have hj : j < xs.length := (List.getElem?_eq_some_iff.mp h).1
 have e : ixN xs.length (j : Int) = some j := by
  unfold ixN
  rw [if_pos (by omega), if_pos (by omega)]; simp
 unfold atI; rw [e]; exact h
theorem vY {α : Type} (xs : List α) (v : α) : atI (xs ++ [v]) (-1) = some v := by
 have hl : (xs ++ [v]).length = xs.length + 1 := by simp
 have e : ixN (xs ++ [v]).length (-1) = some xs.length := by
  unfold ixN
  rw [hl, if_neg (by decide), if_pos (by omega)]
  congr 1
  omega
 unfold atI
 rw [e]
 show (xs ++ [v])[xs.length]? = some v
 simp
def zP (b : Expr) : Prop := ∀ o i, subscripted b false o i = operate [o, i] (getItem o i)
def IxR (X : Cx) (r : R2) : Prop :=
 ∀ (value slice : Expr) (pins : List (Addr × Obj)) (s : Shared) (σ : St) (H : Hp) (x y : V) (v u : Value) (Q : VK), Inv X pins σ H s -> RelV x v -> RelV y u -> r x y H Q ->
  subscripted slice false v u = operate [v, u] (getItem v u) -> wpAny (model X.prog X.w) X.A (subscriptTail value slice v u) (EP X pins σ Q) X.xe s
def MtR (X : Cx) (id : String) (r : V -> List V -> Hp -> VK -> Prop) : Prop :=
 ∀ (pins : List (Addr × Obj)) (s : Shared) (σ : St) (H : Hp) (x : V) (xs : List V) (v : Value) (us : List Value) (Q : VK), Inv X pins σ H s -> RelV x v -> Vals xs us -> r x xs H Q ->
  wpAny (model X.prog X.w) X.A (call (.builtin id) (v :: us)) (EP X pins σ Q) X.xe s
section
variable {X : Cx} {a b : Expr} {ta tb : TE} {pos : Pos}
theorem IxR.or {r r' : R2} (h : IxR X r) (h' : IxR X r') : IxR X (λ x y H Q => r x y H Q ∨ r' x y H Q) := by
 intro value slice pins s σ H x y v u Q I rx ry q hs
 rcases q with q | q
 .exact h value slice pins s σ H x y v u Q I rx ry q hs
 .exact h' value slice pins s σ H x y v u Q I rx ry q hs
theorem NZ {r : R2} (hr : IxR X r) (ha : PE X a ta) (hb : PE X b tb) (hs : zP b) : PE X (.Subscript a b pos) (tOp r ta tb) := by
 intro pins s σ H Q I h
 exact Subscript_ (JT ha hb I h λ v u s2 x y H2 I2 rx ry q => hr a b pins s2 σ H2 x y v u Q I2 rx ry q (hs _ _))
def Oi (K : PySem.W.Frag) : R2 := λ x y H Q => ∃ p xs i v, x = .ref p /\ y = .int i /\ SqL K H p xs /\ atI xs i = some v /\ Q v H
def Pj (K : PySem.W.Frag) : R2 := λ x y H Q => ∃ p xs i v, x = .ref p /\ y = .int i /\ SqT K H p xs /\ atI xs i = some v /\ Q v H
def Nm : R2 := λ x y H Q => ∃ z i c, x = .str z /\ y = .int i /\ z.length <= sizeLine /\ atI z.cps.toList i = some c /\ Q (.str ⟨#[c]⟩) H
theorem HQ : IxR X (Oi X.K) := by
 intro value slice pins s σ H x y v u Q I rx ry h hs
 obtain ⟨p, xs, i, z, rfl, rfl, hq, he, q⟩ := h
 cases rx
 obtain ⟨t, rfl⟩ := ry
 obtain ⟨its, r, pl, hz⟩ := I.list hq
 obtain ⟨j, h1, h2, h3, h4, h5⟩ := vQ he
 obtain ⟨w, ew, rw'⟩ := r.get h2
 have hl := r.length
 have hn := mZ
 have fin : EP X pins σ Q w s := ⟨z, H, I, rw', q⟩
 by_cases h0 : 0 <= i
 .have hj : i.toNat = j := by
   rw [seqIndex_of h0 h5] at h1
   exact Option.some.inj h1
  exact item_listR pl.isList h0 (by omega) (by rw [hj]; simpa using ew) fin hs
 .have hj : (i + (its.toArray.size : Int)).toNat = j := by
   rw [seqIndex_neg (by omega) h4] at h1
   rw [List.size_toArray, <- hl]
   exact Option.some.inj h1
  exact subscriptTail_builtinR (x := w) pl.isList.typeIs slot_list_getitem.lookup
   (wpAny_getItem_list_neg (Q := λ r s' => r = w /\ EP X pins σ Q r s') pl.isList (by omega) (by rw [List.size_toArray] <;> omega) (by omega) (by rw [hj]; simpa using ew) ⟨rfl, fin⟩) hs
theorem Kz : IxR X (Pj X.K) := by
 intro value slice pins s σ H x y v u Q I rx ry h hs
 obtain ⟨p, xs, i, z, rfl, rfl, hq, he, q⟩ := h
 cases rx
 obtain ⟨t, rfl⟩ := ry
 obtain ⟨its, r, pl, hz⟩ := I.tuple hq
 obtain ⟨j, h1, h2, h3, h4, h5⟩ := vQ he
 obtain ⟨w, ew, rw'⟩ := r.get h2
 have hl := r.length
 have hn := mZ
 have fin : EP X pins σ Q w s := ⟨z, H, I, rw', q⟩
 exact subscriptTail_builtinR (x := w) pl.typeIs slot_tuple_getitem.lookup
  (getItem_tuple (j := j) (Q := λ r s' => r = w /\ EP X pins σ Q r s') pl (by omega) (by omega) (by rw [List.size_toArray, <- hl]; exact h1) (by simpa using ew) ⟨rfl, fin⟩) hs
theorem Lh : IxR X Nm := by
 intro value slice pins s σ H x y v u Q I rx ry h hs
 obtain ⟨z, i, c, rfl, rfl, hz, he, q⟩ := h
 obtain ⟨t, rfl⟩ := rx
 obtain ⟨t', rfl⟩ := ry
 obtain ⟨j, h1, h2, h3, h4, h5⟩ := vQ he
 have hl : z.cps.toList.length = z.length := by simp [Str.length]
 rw [hl] at h1 h4 h5
 have hn := mZ
 exact tail_any (typeIs_str s z t) slot_str_getitem.lookup (getItem_str (c := c) (by
  have e1 : decide (i < -(2 ^ 63 : Int)) = false := decide_eq_false (by omega)
  have e2 : decide (i >= 2 ^ 63) = false := decide_eq_false (by omega)
  rw [e1, e2, Bool.or_false]) (by rw [h1]; simpa using h2) ⟨.str ⟨#[c]⟩, H, I.tok _, ⟨_, rfl⟩, q⟩) hs
def rIx (K : PySem.W.Frag) : R2 := λ x y H Q => Oi K x y H Q ∨ Pj K x y H Q ∨ Nm x y H Q
theorem Lq : IxR X (rIx X.K) := HQ.or (Kz.or Lh)
theorem zy (its : List Value) (n j : Nat) (u : Value) : Obj.mapSeq (·.setIfInBounds j u) { cls := .type "list", data := .seq its.toArray n } = { cls := .type "list", data := .seq (its.set j u).toArray n } := by
 simp [Obj.mapSeq]
theorem Inv.lst {pins : List (Addr × Obj)} {σ : St} {H : Hp} {s : Shared} {p : Addr} {xs : List V} (I : Inv X pins σ H s) (h : H p = some (.lst xs)) :
  ∃ (its : List Value) (n : Nat), Vals xs its /\ s.heap.get? p = some { cls := .type "list", data := .seq its.toArray n } /\ xs.length <= sizeLine := by
 obtain ⟨z, its, n, r, e⟩ := I.hok p _ h
 exact ⟨its, n, r, e, z⟩
theorem Inv.lstUpd {pins : List (Addr × Obj)} {σ : St} {H : Hp} {s : Shared} {p : Addr} {xs ys : List V} {its its' : List Value} {n n' : Nat} {f : Obj -> Obj} (I : Inv X pins σ H s) (h : H p = some (.lst xs))
  (ho : s.heap.get? p = some { cls := .type "list", data := .seq its.toArray n }) (hf : f { cls := .type "list", data := .seq its.toArray n } = { cls := .type "list", data := .seq its'.toArray n' }) (r : Vals ys its') (hz : ys.length <= sizeLine) (t : Nat) :
  Inv X pins σ (upd H p (.lst ys)) { s with heap := s.heap.update p f, toks := t } := by
 have e : (s.heap.update p f).get? p = some { cls := .type "list", data := .seq its'.toArray n' } := by
  rw [Heap.get?_update_self f ho (by rw [hf] <;> rfl), hf]
 refine I.write (x := p) (e := p) (by rw [h]; trivial) (.inl rfl) (λ b u hb q => (Heap.get?_update_other _ _ (Ne.symm hb)).trans q) ⟨_, e⟩ ?_
 exact ⟨hz, its', n', r, e⟩
def Nq : V -> V -> V -> Hp -> (Hp -> Prop) -> Prop := λ o i v H Q => ∃ p xs k j, o = .ref p /\ i = .int k /\ H p = some (.lst xs) /\ ixN xs.length k = some j /\ Q (upd H p (.lst (xs.set j v)))
theorem set_list : PL X Nq := by
 intro pins s σ H o i v ov iv u Q I ro ri rv h
 obtain ⟨p, xs, k, j, rfl, rfl, hp, hj, q⟩ := h
 cases ro
 obtain ⟨t, rfl⟩ := ri
 obtain ⟨its, n, r, ho, hz⟩ := I.lst hp
 obtain ⟨h1, h2, h3, h4⟩ := zM hj
 have hl := r.length
 have hn := mZ
 have I' : Inv X pins σ (upd H p (.lst (xs.set j v))) { s with heap := s.heap.update p (Obj.mapSeq (·.setIfInBounds j u)) } :=
  I.lstUpd hp ho (zy its n j u) (r.set rv j) (by rw [List.length_set]; exact hz) s.toks
 by_cases h0 : 0 <= k
 .have hk : k.toNat = j := by
   rw [seqIndex_of h0 h4] at h1
   exact Option.some.inj h1
  exact PySem.W.ki_setAt ho h0 (by omega) (by rw [List.size_toArray, <- hl]; exact h4) (by rw [hk]; exact ⟨_, I', q⟩)
 .have hk : (k + (its.toArray.size : Int)).toNat = j := by
   rw [seqIndex_neg (by omega) h3] at h1
   rw [List.size_toArray, <- hl]
   exact Option.some.inj h1
  exact PySem.W.ki_setBack ho (by omega) (by rw [List.size_toArray, <- hl]; exact h3) (by omega) (by rw [hk]; exact ⟨_, I', q⟩)
theorem uU (lo hi : Option Int) (n : Nat) : (sliceBounds lo hi none n).1 = ((HT.sIx n 0 lo : Nat) : Int) /\ (sliceBounds lo hi none n).2.1 = ((HT.sIx n n hi : Nat) : Int) /\ (sliceBounds lo hi none n).2.2 = 1 := by
 refine ⟨?_, ?_, rfl⟩
 .cases lo with
  | none => simp [sliceBounds, HT.sIx]
  | some i =>
   simp only [sliceBounds, HT.sIx, Option.getD_none, show (1 : Int) > 0 by decide, if_true]
   by_cases h : i < 0
   .simp only [h, if_true] <;> omega
   .simp only [h, if_false] <;> omega
 .cases hi with
  | none => simp [sliceBounds, HT.sIx]
  | some i =>
   simp only [sliceBounds, HT.sIx, Option.getD_none, show (1 : Int) > 0 by decide, if_true]
   by_cases h : i < 0
   .simp only [h, if_true] <;> omega
   .simp only [h, if_false] <;> omega
theorem tL (its : List Value) (lo hi : Option Int) : slicePick its.toArray lo hi none = ((its.drop (HT.sIx its.length 0 lo)).take (HT.sIx its.length its.length hi - HT.sIx its.length 0 lo)).toArray := by
 obtain ⟨h1, h2, h3⟩ := uU lo hi its.toArray.size
 unfold slicePick
 rw [h1, h2, h3]
 simp only [sliceRange_one, pick_run, List.size_toArray] <;> rfl
def rSlL (K : PySem.W.Frag) : V -> Option Int -> Option Int -> Hp -> VK -> Prop := λ x lo hi H Q => ∃ a xs, x = .ref a /\ SqL K H a xs /\ ∀ p, H p = none -> Q (.ref p) (upd H p (.lst (yf xs lo hi)))
theorem zZ : SlR X (rSlL X.K) := by
 intro pins s σ H x v vl vu lo hi sl Q I rx hs pl pu h
 obtain ⟨a, xs, rfl, hx, q⟩ := h
 cases rx
 obtain ⟨its, r, ht, hz⟩ := I.list hx
 have hlen := r.length
 refine ⟨"list", _, slot_list_getitem.lookup, ht.isList.typeIs, ?_⟩
 refine wpAny_getItem_list_slice ht.isList hs pl pu .none (by simp) ?_ (by rw [List.size_toArray] <;> omega)
 rw [tL, <- hlen]
 refine ⟨.ref s.heap.objs.size, _, I.laid (t' := s.toks) (o := .lst (yf xs lo hi)) (λ b ob q => Heap.get?_push_of_some _ q) (Nat.le_refl _) ?_, rfl, q _ (I.hok.fresh (Nat.le_refl _))⟩
 exact ⟨Nat.le_trans (pY xs lo hi) hz, _, 0, (r.drop (HT.sIx xs.length 0 lo)).take (HT.sIx xs.length xs.length hi - HT.sIx xs.length 0 lo), Heap.get?_push_size _ rfl⟩
theorem vC : jo X (.builtin "len") (λ xs H Q => ∃ p ys, xs = [.ref p] /\ (SqL X.K H p ys ∨ SqT X.K H p ys) /\ Q (.int ys.length) H) := by
 intro pins s σ H xs us Q I r h
 obtain ⟨p, ys, rfl, hq, q⟩ := h
 obtain ⟨u, rfl, rx⟩ := vals1 r
 cases rx
 have hn := mZ
 rcases hq with hq | hq
 .obtain ⟨its, r', pl, hz⟩ := I.list hq
  have hlen := r'.length
  exact Calls.call_len_list pl.isList (by simp only [List.size_toArray] <;> omega) ⟨.int ys.length, H, I.tok _, ⟨s.toks + 1, by rw [List.size_toArray, hlen]⟩, q⟩
 .obtain ⟨its, r', pl, hz⟩ := I.tuple hq
  have hlen := r'.length
  exact len_tuple pl (by simp only [List.size_toArray] <;> omega) ⟨.int ys.length, H, I.tok _, ⟨s.toks + 1, by rw [List.size_toArray, hlen]⟩, q⟩
theorem vg : jo X (.builtin "len") (λ xs H Q => ∃ z, xs = [.str z] /\ z.length <= sizeLine /\ Q (.int z.length) H) := by
 intro pins s σ H xs us Q I r h
 obtain ⟨z, rfl, hz, q⟩ := h
 obtain ⟨u, rfl, t, rfl⟩ := vals1 r
 have hn := mZ
 exact len_str (by omega) ⟨.int z.length, H, I.tok _, ⟨_, rfl⟩, q⟩
theorem jo.or {f : Value} {r r' : List V -> Hp -> VK -> Prop} (h : jo X f r) (h' : jo X f r') : jo X f (λ xs H Q => r xs H Q ∨ r' xs H Q) := by
 intro pins s σ H xs us Q I rs q
 rcases q with q | q
 .exact h pins s σ H xs us Q I rs q
 .exact h' pins s σ H xs us Q I rs q
theorem uW : jo X (.type "list") (λ xs H Q => ∃ p ys, xs = [.ref p] /\ (SqL X.K H p ys ∨ SqT X.K H p ys) /\ ∀ l, H l = none -> Q (.ref l) (upd H l (.lst ys))) := by
 intro pins s σ H xs us Q I r h
 obtain ⟨p, ys, rfl, hq, q⟩ := h
 obtain ⟨u, rfl, rx⟩ := vals1 r
 cases rx
 have fin : ∀ (its : List Value), Vals ys its -> ys.length <= sizeLine -> ∀ (h' : Heap) (c' : Nat), (∀ b o', s.heap.get? b = some o' -> h'.get? b = some o') ->
   h'.get? s.heap.objs.size = some { cls := .type "list", dict := none, data := .seq its.toArray c', slots := #[] } -> EP X pins σ Q (.ref s.heap.objs.size) { s with heap := h' } := λ its r' hz h' c' kp e =>
  ⟨.ref s.heap.objs.size, _, I.laid (t' := s.toks) kp (Nat.le_refl _) (show iK X.prog X.w _ h' _ (.lst ys) from ⟨hz, its, c', r', e⟩), rfl, q _ (I.hok.fresh (Nat.le_refl _))⟩
 rcases hq with hq | hq
 .obtain ⟨its, r', pl, hz⟩ := I.list hq
  have hlen := r'.length
  obtain ⟨o, ho, hc, n, hd⟩ := pl.isList
  exact call_list_seq p (.inl rfl) ho hc hd (λ h' c' kp e => fin its r' hz h' c' kp e) (by simp only [List.size_toArray] <;> omega)
 .obtain ⟨its, r', pl, hz⟩ := I.tuple hq
  have hlen := r'.length
  obtain ⟨o, ho, hc, n, hd⟩ := pl
  exact call_list_seq p (.inr rfl) ho hc hd (λ h' c' kp e => fin its r' hz h' c' kp e) (by simp only [List.size_toArray] <;> omega)
theorem tB : jo X (.type "tuple") (λ xs H Q => ∃ p ys, xs = [.ref p] /\ ((SqL X.K H p ys /\ ∀ l, H l = none -> Q (.ref l) (upd H l (.tup ys))) ∨ (SqT X.K H p ys /\ Q (.ref p) H))) := by
 intro pins s σ H xs us Q I r h
 obtain ⟨p, ys, rfl, h⟩ := h
 obtain ⟨u, rfl, rx⟩ := vals1 r
 cases rx
 rcases h with ⟨hq, q⟩ | ⟨hq, q⟩
 .obtain ⟨its, r', pl, hz⟩ := I.list hq
  have hlen := r'.length
  refine call_tuple_list pl.isList (λ h' kp => ?_) (by simp only [List.size_toArray] <;> omega)
  have I1 : Inv X pins σ H { s with heap := h' } := I.kept (t' := s.toks) kp
  have I2 : Inv X pins σ (upd H h'.objs.size (.tup ys)) { s with heap := h'.push { cls := .type "tuple", data := .seq its.toArray } } :=
   I1.laid (t' := s.toks) (λ b o e => Heap.get?_push_of_some _ e) (Nat.le_refl _) (show iK X.prog X.w _ _ _ (.tup ys) from ⟨hz, its, r', IsTup.new _ _⟩)
  exact ⟨.ref h'.objs.size, _, I2, rfl, q _ (I1.hok.fresh (Nat.le_refl _))⟩
 .obtain ⟨its, r', pl, hz⟩ := I.tuple hq
  exact call_tuple_same pl ⟨.ref p, H, I, rfl, q⟩
def tyV (K : PySem.W.Frag) (T : String) (x : V) (H : Hp) : Prop := match x with
 | .str _ => T = "str"
 | .int _ => T = "int"
 | .ref p => (T = "list" /\ ∃ xs, SqL K H p xs) ∨ (T = "tuple" /\ ∃ o, K.lookup p = some o /\ o.cls = .type "tuple" /\ o.dict = none) ∨
   (T = "dict" /\ ((∃ kvs, H p = some (.dK kvs)) ∨ ∃ kvs, H p = some (.dT kvs))) ∨ (T = "set" /\ ∃ S n, H p = some (.set S n))
 | _ => False
theorem Ku {pins : List (Addr × Obj)} {σ : St} {H : Hp} {s : Shared} {T : String} {x : V} {v : Value} (I : Inv X pins σ H s) (r : RelV x v) (ty : tyV X.K T x H) :
  s.TypeIs v T /\ ∀ a, v = .ref a -> ∃ ob, s.heap.get? a = some ob /\ ob.dict = none := by
 cases x with
 | str z =>
  obtain ⟨t, rfl⟩ := r
  cases (show T = "str" from ty)
  exact ⟨typeIs_str s z t, λ _ e => nomatch e⟩
 | int i =>
  obtain ⟨t, rfl⟩ := r
  cases (show T = "int" from ty)
  exact ⟨typeIs_int s i t, λ _ e => nomatch e⟩
 | ref p =>
  cases r
  rcases ty with ⟨rfl, xs, hq⟩ | ⟨rfl, o, hk, hc, hd⟩ | ⟨rfl, hk⟩ | ⟨rfl, S, n, hk⟩
  .obtain ⟨its, _, pl, _⟩ := I.list hq
   refine ⟨pl.isList.typeIs, λ a e => ?_⟩
   cases e
   obtain ⟨o, n, e, c, hd, _⟩ := pl
   exact ⟨o, e, hd⟩
  .refine ⟨⟨o, I.kIn p o hk, hc⟩, λ a e => ?_⟩
   cases e
   exact ⟨o, I.kIn _ o hk, hd⟩
  .have z : ∃ o, s.heap.get? p = some o /\ o.ExactDict := by
    rcases hk with ⟨kvs, hk⟩ | ⟨kvs, hk⟩
    .obtain ⟨_, _, _, _, o, _, _, e, ex, _⟩ := I.hok p _ hk
     exact ⟨o, e, ex⟩
    .obtain ⟨_, _, _, _, o, _, _, e, ex, _⟩ := I.hok p _ hk
     exact ⟨o, e, ex⟩
   obtain ⟨o, e, ex⟩ := z
   refine ⟨⟨o, e, ex.1⟩, λ a e2 => ?_⟩
   cases e2
   exact ⟨o, e, ex.2.1⟩
  .obtain ⟨o, _, _, _, e, ex, _⟩ := I.hok p _ hk
   refine ⟨⟨o, e, ex.1⟩, λ a e2 => ?_⟩
   cases e2
   exact ⟨o, e, ex.2.1⟩
 | _ => exact False.elim ty
def tBM (K : PySem.W.Frag) (T : String) (r : V -> List V -> Hp -> VK -> Prop) (to : TE) (t : TA) : TE := λ σ H Q => to σ H λ x H1 => tyV K T x H1 /\ t σ H1 λ xs H2 => r x xs H2 Q
variable {o e : Expr} {es : List Expr} {to : TE} {t : TA} {name : Str} {apos cpos : Pos} {T id : String} {r : V -> List V -> Hp -> VK -> Prop}
theorem IV (pa : PlainAttrs T) (slot : Slot T name id) (hty : typeOf (.builtin id) = pure (.type "method_descriptor")) (hm : MtR X id r) (ho : PE X o to) (ha : PA X (e :: es) t)
  (hbase : attributeBase o name X.env (eval o X.env) = eval o X.env := by rfl)
  (hfew : ((backTo cpos (starEach (e :: es) X.env)).all (λ x => !x.1) && (backToKw cpos (keywordEach [] X.env)).all (λ x => x.1.isSome)
   && decide ((e :: es).length + ([] : List Keyword).length + (if ([] : List Keyword).isEmpty then 0 else 1) < 30)) = true := by rfl)
  (hline : (apos.endLine == cpos.line) = true := by rfl) (hs : starEach (e :: es) X.env = (false, eval e X.env) :: starEach es X.env := by rfl) (hplain : (backTo cpos (starEach es X.env)).any (·.1) = false := by rfl) :
  PE X (.Call (.Attribute o name apos) (e :: es) [] cpos) (tBM X.K T r to t) := by
 intro pins s σ H Q I h
 refine wpAny_Call_method_late hbase hfew hline rfl (thn (ho pins s σ H _ I h) λ v s1 zq54 => ?_)
 obtain ⟨x, H1, I1, r1, ty, q1⟩ := zq54
 obtain ⟨h1, h2⟩ := Ku I1 r1 ty
 refine ⟨T, id, pa, slot, hty, h1, h2, ?_⟩
 have hA := ha cpos pins s1 σ H1 _ I1 q1
 rw [hs] at hA ⊢
 refine Calls.callWith_builtin (by show (false || (backTo cpos (starEach es X.env)).any (·.1)) = false; rw [hplain] <;> rfl) (Calls.evalArgs_plain ?_)
 exact thn hA λ us s2 ⟨vs, H2, I2, r2, q2⟩ => hm pins s2 σ H2 x vs v us Q I2 r1 r2 q2
end
def MtM (X : Cx) (id : String) (r : V -> List V -> Hp -> VK -> Prop) : Prop :=
 ∀ (pins : List (Addr × Obj)) (s : Shared) (σ : St) (H : Hp) (x : V) (xs : List V) (v : Value) (us : List Value) (Q : VK), Inv X pins σ H s -> RelV x v -> Vals xs us -> r x xs H Q ->
  wpAny (model X.prog X.w) X.A (call (.builtin id) (v :: us)) (EP X pins σ Q) X.xe s
theorem Vals.one : ∀ {x : V} {us : List Value}, Vals [x] us -> ∃ u, us = [u] /\ RelV x u
 | _, _, .cons r .nil => ⟨_, rfl, r⟩
theorem Vals.eraseIdx : ∀ {xs : List V} {us : List Value} (i : Nat), Vals xs us -> Vals (xs.eraseIdx i) (us.eraseIdx i)
 | _, _, _, .nil => .nil
 | _, _, 0, .cons _ t => t
 | _, _, i + 1, .cons r t => .cons r (Vals.eraseIdx i t)
theorem Vals.reverse {xs : List V} {us : List Value} (h : Vals xs us) : Vals xs.reverse us.reverse := by
 induction h with
 | nil => exact .nil
 | cons r t ih => rw [List.reverse_cons, List.reverse_cons]; exact Vals.append ih (.cons r .nil)
theorem Vals.rep {xs : List V} {us : List Value} (h : Vals xs us) : ∀ k : Nat, Vals (List.replicate k xs).flatten (List.replicate k us).flatten
 | 0 => .nil
 | k + 1 => by
  rw [List.replicate_succ, List.replicate_succ, List.flatten_cons, List.flatten_cons]
  exact Vals.append h (Vals.rep h k)
theorem uv {α : Type} : ∀ (l : List α) (i : Nat), (l.eraseIdx i).length <= l.length
 | [], _ => Nat.le_refl _
 | _ :: _, 0 => Nat.le_succ _
 | _ :: r, i + 1 => Nat.succ_le_succ (uv r i)
theorem foldl_rep (its : List Value) : ∀ (k : Nat) (acc : List Value),
  List.foldl (λ x1 x2 => x1 ++ x2) acc.toArray (List.replicate k its.toArray) = (acc ++ (List.replicate k its).flatten).toArray
 | 0, acc => by simp
 | k + 1, acc => by
  have e : acc.toArray ++ its.toArray = (acc ++ its).toArray := by simp
  have e2 : (acc ++ its) ++ (List.replicate k its).flatten = acc ++ (List.replicate (k + 1) its).flatten := by
   rw [List.replicate_succ, List.flatten_cons, List.append_assoc]
  rw [<- e2, <- foldl_rep its k (acc ++ its), <- e, List.replicate_succ, List.foldl_cons]
section
variable {X : Cx} {pins : List (Addr × Obj)} {σ : St} {H : Hp} {s : Shared} {l b : Addr} {xs ys zs : List V}
theorem Inv.lset {its its' : List Value} {n : Nat} {f : Array Value -> Array Value} {t' : Nat} (I : Inv X pins σ H s) (hH : H l = some (.lst xs))
  (e : s.heap.get? l = some { cls := .type "list", data := .seq its.toArray n }) (hf : f its.toArray = its'.toArray) (hv : Vals ys its') (hz : ys.length <= sizeLine) :
  Inv X pins σ (upd H l (.lst ys)) { s with heap := s.heap.update l (Obj.mapSeq f), toks := t' } := by
 have q := PySem.IsL.update e f
 rw [hf] at q
 refine I.write (x := l) (e := l) (by rw [hH]; exact trivial) (.inl rfl) (λ b' u hb hu => (Heap.get?_update_other s.heap (Obj.mapSeq f) (Ne.symm hb)).trans hu) ⟨_, q⟩ ?_
 exact ⟨hz, its', _, hv, q⟩
theorem Inv.lnew {its : List Value} {t' : Nat} (I : Inv X pins σ H s) (hv : Vals ys its) (hz : ys.length <= sizeLine) :
  Inv X pins σ (upd H s.heap.objs.size (.lst ys)) { s with heap := s.heap.push { cls := .type "list", data := .seq its.toArray }, toks := t' } :=
 I.laid (λ _ _ q => Heap.get?_push_of_some _ q) (Nat.le_refl _) ⟨hz, its, 0, hv, Heap.get?_push_size _ rfl⟩
theorem Inv.fresh (I : Inv X pins σ H s) : H s.heap.objs.size = none := I.hok.fresh (Nat.le_refl _)
theorem Inv.lstM (I : Inv X pins σ H s) (hH : H l = some (.lst xs)) : xs.length <= sizeLine /\ ∃ (its : List Value) (n : Nat), Vals xs its /\ xs.length = its.length /\ s.heap.get? l = some { cls := .type "list", data := .seq its.toArray n } := by
 obtain ⟨z, its, n, r, e⟩ := I.hok l _ hH
 exact ⟨z, its, n, r, r.length, e⟩
theorem xr {n : Nat} (h : n <= sizeLine) : Builtin.List.listTooLong n = false := by
 unfold Builtin.List.listTooLong
 exact decide_eq_false (by omega)
end
section
variable {X : Cx}
def Ht : V -> List V -> Hp -> VK -> Prop := λ x vs H Q => ∃ l xs y, x = .ref l /\ vs = [y] /\ H l = some (.lst xs) /\ xs.length < sizeLine /\ Q .non (upd H l (.lst (xs ++ [y])))
theorem Bo : MtM X "list.append" Ht := by
 intro pins s σ H x vs v us Q I rx rv h
 obtain ⟨l, xs, y, rfl, rfl, hH, hz, q⟩ := h
 cases rx
 obtain ⟨u, rfl, ru⟩ := rv.one
 obtain ⟨z, its, n, r, hl, e⟩ := I.lstM hH
 refine call_meets F.slot_list_append ⟨_, e, rfl⟩ F.entry_list_append (F.args_list_append_2 _ _) (PySem.list_append l its.toArray n u (by rw [List.size_toArray]; omega)) ⟨e, ?_⟩
 refine ⟨.non, _, I.lset (its' := its ++ [u]) hH e (by simp) (r.append (.cons ru .nil)) ?_, rfl, q⟩
 rw [List.length_append, List.length_singleton]
 omega
def Gr : V -> List V -> Hp -> VK -> Prop := λ x vs H Q => ∃ l b xs zs, x = .ref l /\ vs = [.ref b] /\ H l = some (.lst xs) /\ H b = some (.lst zs) /\ xs.length + zs.length <= sizeLine /\ Q .non (upd H l (.lst (xs ++ zs)))
theorem MP : MtM X "list.extend" Gr := by
 intro pins s σ H x vs v us Q I rx rv h
 obtain ⟨l, b, xs, zs, rfl, rfl, hH, hB, hz, q⟩ := h
 cases rx
 obtain ⟨u, rfl, ru⟩ := rv.one
 cases ru
 obtain ⟨z, its, n, r, hl, e⟩ := I.lstM hH
 obtain ⟨z2, its2, n2, r2, hl2, e2⟩ := I.lstM hB
 have hsz : its.toArray.size + its2.toArray.size <= sizeLine := by rw [List.size_toArray, List.size_toArray]; omega
 have hlong : ¬ (!its.toArray.isEmpty && Builtin.List.listTooLong (its.toArray.size + its2.toArray.size)) = true := by
  rw [xr hsz, Bool.and_false]
  exact Bool.false_ne_true
 refine call_meets F.slot_list_extend ⟨_, e, rfl⟩ F.entry_list_extend (F.args_list_extend_2 _ _)
  (AutoSeq1.list_extend_list_list_0 l its.toArray n b its2.toArray n2 hlong (by rw [List.size_toArray]; omega) (by omega)) ⟨e, e2, ?_⟩
 refine ⟨.non, _, I.lset (its' := its ++ its2) hH e (by simp) (r.append r2) ?_, rfl, q⟩
 rw [List.length_append]
 omega
def My : V -> List V -> Hp -> VK -> Prop := λ x vs H Q => ∃ l xs i k y, x = .ref l /\ vs = [.int i] /\ H l = some (.lst xs) /\ -(2 ^ 63) <= i /\ i < 2 ^ 63 /\ seqIndex? i xs.length = some k /\ xs[k]? = some y /\ Q y (upd H l (.lst (xs.eraseIdx k)))
theorem Fg : MtM X "list.pop" My := by
 intro pins s σ H x vs v us Q I rx rv h
 obtain ⟨l, xs, i, k, y, rfl, rfl, hH, h1, h2, hk, hy, q⟩ := h
 cases rx
 obtain ⟨u, rfl, ru⟩ := rv.one
 obtain ⟨t, rfl⟩ := ru
 obtain ⟨z, its, n, r, hl, e⟩ := I.lstM hH
 obtain ⟨w, hw, rw'⟩ := r.get hy
 refine call_meets F.slot_list_pop ⟨_, e, rfl⟩ F.entry_list_pop (F.args_list_pop_2 _ _)
  (MeetsSeq.list_pop_at l its.toArray n i t k w (fitsIndex_both h1 h2) (by rw [List.size_toArray, <- hl]; exact hk) (by rw [<- Array.getElem?_toList]; exact hw) (by rw [List.size_toArray]; omega)) ⟨e, ?_⟩
 refine ⟨y, _, I.lset (its' := its.eraseIdx k) hH e ?_ (r.eraseIdx k) ?_, rw', q⟩
 .show its.toArray.eraseIdxIfInBounds k = (its.eraseIdx k).toArray
  rw [List.eraseIdxIfInBounds_toArray]
 .have := uv xs k
  omega
def rCat : R2 := λ x y H Q => ∃ l b xs zs, x = .ref l /\ y = .ref b /\ H l = some (.lst xs) /\ H b = some (.lst zs) /\ xs.length + zs.length <= sizeLine /\ ∀ p, H p = none -> Q (.ref p) (upd H p (.lst (xs ++ zs)))
theorem KN : OpR X (binaryOp .Add) rCat := by
 intro pins s σ H x y v u Q I rx ry h
 obtain ⟨l, b, xs, zs, rfl, rfl, hH, hB, hz, q⟩ := h
 cases rx
 cases ry
 obtain ⟨z, its, n, r, hl, e⟩ := I.lstM hH
 obtain ⟨z2, its2, n2, r2, hl2, e2⟩ := I.lstM hB
 refine PySem.P.add_list e e2 ?_ (by rw [List.size_toArray, List.size_toArray]; omega)
 have ea : its.toArray ++ its2.toArray = (its ++ its2).toArray := by simp
 rw [ea]
 exact ⟨.ref _, _, I.lnew (t' := s.toks) (r.append r2) (by rw [List.length_append]; omega), rfl, q _ I.fresh⟩
def rRep : R2 := λ x y H Q => ∃ l k xs, x = .ref l /\ y = .int k /\ H l = some (.lst xs) /\ -(2 ^ 63) <= k /\ k < 2 ^ 63 /\ xs.length * k.toNat <= sizeLine /\
 ∀ p, H p = none -> Q (.ref p) (upd H p (.lst (List.replicate k.toNat xs).flatten))
theorem len_rep {α : Type} (xs : List α) (k : Nat) : (List.replicate k xs).flatten.length = k * xs.length := by
 induction k with
 | zero => simp
 | succ k ih => rw [List.replicate_succ, List.flatten_cons, List.length_append, ih, Nat.succ_mul, Nat.add_comm]
theorem Es : OpR X (binaryOp .Mult) rRep := by
 intro pins s σ H x y v u Q I rx ry h
 obtain ⟨l, k, xs, rfl, rfl, hH, h1, h2, hz, q⟩ := h
 cases rx
 obtain ⟨t, rfl⟩ := ry
 obtain ⟨z, its, n, r, hl, e⟩ := I.lstM hH
 have hlen : its.toArray.size * k.toNat <= sizeLine := by rw [List.size_toArray, <- hl]; exact hz
 have hcap : ¬ its.toArray.size * k.toNat > (2 ^ 63 - 1) / 8 := by
  have : (sizeLine : Nat) <= (2 ^ 63 - 1) / 8 := by decide
  omega
 have hfit : ¬ (!Builtin.List.listFitsIndex k) = true := by
  rw [fitsIndex_both h1 h2]
  exact Bool.false_ne_true
 have hlong : ¬ Builtin.List.listTooLong (its.toArray.size * k.toNat) = true := by
  rw [xr hlen]
  exact Bool.false_ne_true
 have hnew : List.foldl (λ x1 x2 => x1 ++ x2) #[] (List.replicate (if its.toArray.isEmpty = true then 0 else k.toNat) its.toArray) = (List.replicate k.toNat its).flatten.toArray := by
  have f0 : ∀ m : Nat, List.foldl (λ x1 x2 => x1 ++ x2) #[] (List.replicate m its.toArray) = (List.replicate m its).flatten.toArray := λ m => by
   have := foldl_rep its m []
   rw [List.nil_append] at this
   exact this
  rw [f0]
  cases its with
  | nil => simp
  | cons a r' => rw [if_neg (by simp)]
 refine wpAny_binaryOp_repeat_ref (T := "list") (U := "int") (by decide) ⟨_, e, rfl⟩ (λ s' => typeIs_int s' k t) noFill_list_mul F.fills_int_mul F.slot_int_rmul repeat_list F.slot_int_index.lookup
  (call_meets F.slot_int_rmul (typeIs_int s k t) F.entry_int_rmul (F.args_int_rmul_2 _ _) (int___rmul___int_list k t l its.toArray n)
   ⟨e, rfl, ⟨_, e, rfl⟩, call_meets F.slot_list_mul ⟨_, e, rfl⟩ F.entry_list_mul (F.args_list_mul_2 _ _) (AutoListH.list___mul___list_int_3 l its.toArray n k t hfit hcap hlong) ⟨e, ?_⟩⟩)
 rw [hnew]
 exact ⟨.ref _, _, I.lnew (t' := s.toks) (r.rep k.toNat) (by rw [len_rep, Nat.mul_comm]; exact hz), rfl, q _ I.fresh⟩
end
end L2
namespace Att
open PySem PySem.W PySem.Calls PyProof.Rows
theorem qp {P : Params} {h : Heap} : ∀ (ns : List Int) (vs : List Value), WellAll P h vs (ns.map WData.int) -> IntsAre vs ns := by
 intro ns
 induction ns with
 | nil =>
  intro vs w
  rw [List.map_nil] at w
  cases w
  exact .nil
 | cons n ns ih =>
  intro vs w
  rw [List.map_cons] at w
  cases w with
  | cons a b =>
   cases a
   exact .cons _ _ (ih _ b)
theorem Bb {l : OpenLaw} {n : Nat} (hn : l.most = some n) {P : Params} {h : Heap} {args : List WData} {vals : List Value}
  (hpre : l.row.toRowW.claim.pre args = true) (hwl : WellAll P h vals args) :
  ∃ a vs ns, vals = [Value.ref a] /\ args = [WData.list (ns.map WData.int)] /\ h.get? a = some { cls := .type "list", data := .seq vs.toArray } /\ IntsAre vs ns /\ ns.length <= n := by
 have hsh : WShape.hasAll [] args [.list .int] = true := (pre_splitW hpre).1
 have hc : l.pre.holds [] { args := args } = true := (pre_splitW hpre).2
 obtain ⟨d, r, rfl, h1, h2⟩ := hasAllW_cons hsh
 obtain rfl := hasAllW_nil h2
 obtain ⟨xs, rfl, h3⟩ := hasW_list h1
 obtain ⟨ns, rfl⟩ := items_int h3
 have hlen : ns.length <= n := by
  unfold OpenLaw.pre at hc
  have h4 : (WTm.not (.lt (.lit (.int (n : Int))) (.len (.arg 0)))).holds [] { args := [.list (ns.map .int)] } = true := by
   have h4 := (holds_andW hc).1
   rw [hn] at h4
   exact h4
  have h5 := condW_of h4 (w_not (w_lt w_lit (w_len_list (w_arg rfl))))
  rw [List.length_map] at h5
  refine Nat.le_of_not_lt λ q => ?_
  have q' : (n : Int) < ((ns.length : Nat) : Int) := by omega
  first
   | (rw [decide_eq_true q'] at h5; exact absurd h5 (by decide))
   | (simp at h5; omega)
 cases hwl with
 | cons w1 w2 =>
  cases w2
  cases w1 with
  | list ho hall => exact ⟨_, _, ns, rfl, rfl, ho, qp ns _ hall, hlen⟩
theorem Cg (l : OpenLaw) (args : List WData) : l.row.toRowW.claim.post args (.bool true) args = true :=
 postW_of (r := l.row.toRowW) (X := (true == true))
  (show WShape.has [] (.bool true) .bool = true by first | rfl | decide | simp [WShape.has, WShape.arms, WShape.armsAll])
  (show (WTm.eq .res (.lit (.bool true))).value [] { args := args, res := some (.bool true), after := args } = some (.bool (true == true)) from w_eq_bool (w_res rfl) w_lit) rfl
theorem attach_call {l : OpenLaw} {n : Nat} {q : Program} {loose : List Str} {XP : (Str -> Option Value) -> Heap -> Prop} {YP : World -> Heap -> Prop} {d : DefRec}
  (hn : l.most = some n) (hdf : d.params.defaults = [])
  (call : ∀ (w : World) (s₀ s₁ : Shared) (mg mb : Str -> Option Value) (fa : Addr) (o : Obj) (pm cd doc : Value) (a : Addr) (vs : List Value) (ns : List Int),
   Ground q loose [] XP w s₀ mg mb s₁.heap -> YP w s₁.heap ->
   s₁.heap.get? fa = some o -> o.data = .func (docDef d.name d.params d.body d.scope pm cd doc) -> s₁.heap.CodeRec cd d.name -> mg d.name = some (.ref fa) ->
   s₁.heap.get? a = some { cls := .type "list", data := .seq vs.toArray } -> IntsAre vs ns -> ns.length <= n -> s₁.gens = #[] ->
   codeAny (model l.prog w) callerA (.call (.ref fa) ⟨[.ref a], []⟩) (λ r s' => r = .ok (.ret (.bool true)) /\ OldK s₁.heap s'.heap /\ s'.os = s₁.os /\ AllBare s'.gens) s₁) :
  WalkO q loose XP YP l.row.toRowW d [] (λ f vs => PySem.call f vs) := by
 intro w s₀ s₁ mg mb G Y fa o pm cd doc dV kV ho hd hcd hD hmg hg args vals as hpre hlay hrd hwl hlo
 obtain rfl : dV = .none := Dflts.none hD hdf
 obtain rfl : kV = .none := Dflts.noKw hD
 obtain ⟨a, vs, ns, rfl, rfl, hobj, hints, hlen⟩ := Bb hn hpre hwl
 refine enter_call (codeAny_mono (call w s₀ s₁ mg mb fa o pm cd doc a vs ns G Y ho (fd_plain hd) hcd hmg hobj hints hlen hg) λ r s' hq => ?_)
 obtain ⟨rfl, h2, h3, h4⟩ := hq
 exact ⟨.inl ⟨.bool true, .bool true, [], rfl, λ _ => rfl, .bool true, Cg l _, λ _ => ⟨List.Pairwise.nil, λ _ hm => (nomatch hm)⟩⟩, h2, h3, h4⟩
end Att
namespace L2
open PySem PySem.Spec PyProof.Rows
theorem tX : ∀ {vs : List Value} {ns : List Int}, IntsAre vs ns -> Vals (ns.map V.int) vs
 | _, _, .nil => .nil
 | _, _, .cons n t h => .cons ⟨t, rfl⟩ (tX h)
def jw (s : Stmt) : Arguments := match s with
 | .FunctionDef _ a _ _ _ _ _ _ _ _ => a
 | _ => { posonlyargs := [], args := [], vararg := none, kwonlyargs := [], kw_defaults := [], kwarg := none, defaults := [] }
def iB (s : Stmt) : List Stmt := match s with
 | .FunctionDef _ _ b _ _ _ _ _ _ _ => b
 | _ => []
def aN (s : Stmt) : Scope := match s with
 | .FunctionDef _ _ _ _ _ _ sc _ _ _ => sc
 | _ => { kind := .function, names := [], isGenerator := false, isCoroutine := false }
abbrev CX0 : CXT := λ _ _ _ _ _ _ => False
abbrev E0 : XK := λ _ _ _ => False
theorem Nr {X : Cx} : zm CX0 X E0 := λ _ _ _ _ _ _ _ h => h.elim
def kO (H H' : Hp) : Prop := ∀ b o, H b = some o -> H' b = some o
theorem kO.refl (H : Hp) : kO H H := λ _ _ h => h
theorem kO.trans {H H1 H2 : Hp} (a : kO H H1) (b : kO H1 H2) : kO H H2 := λ c o h => b c o (a c o h)
def xO (X : Cx) : List Nat -> List Str -> Prop
 | [], [] => True
 | i :: is, x :: xs => (X.N[i]? = some x /\ (X.env.kindOf x = some .cell ∨ X.env.kindOf x = some .free)) /\ xO X is xs
 | _, _ => False
theorem xO.length {X : Cx} : ∀ {is : List Nat} {xs : List Str}, xO X is xs -> is.length = xs.length
 | [], [], _ => rfl
 | _ :: _, _ :: _, h => by rw [List.length_cons, List.length_cons, xO.length h.2]
theorem xO.get {X : Cx} : ∀ {is : List Nat} {xs : List Str} {j i : Nat}, xO X is xs -> is[j]? = some i -> ∃ x, xs[j]? = some x /\ X.N[i]? = some x /\ (X.env.kindOf x = some .cell ∨ X.env.kindOf x = some .free)
 | [], [], _, _, _, e => by simp at e
 | i :: is, x :: xs, 0, k, h, e => by
  simp at e; subst e
  exact ⟨x, rfl, h.1⟩
 | i :: is, x :: xs, j + 1, k, h, e => by
  obtain ⟨y, e1, e2⟩ := xO.get (j := j) (i := k) h.2 (by simpa using e)
  exact ⟨y, by simpa using e1, e2⟩
def jT (σ : St) (is : List Nat) : St := is.map λ i => (σ[i]?).join
theorem pB {σ : St} {is : List Nat} {j : Nat} {v : V} (e : (jT σ is)[j]? = some (some v)) : ∃ i, is[j]? = some i /\ σ[i]? = some (some v) := by
 unfold jT at e
 rw [List.getElem?_map] at e
 cases q : is[j]? with
 | none => rw [q] at e; cases e
 | some i =>
  rw [q] at e
  have e1 : (σ[i]?).join = some v := by simpa using e
  cases q2 : σ[i]? with
  | none => rw [q2] at e1; cases e1
  | some o =>
   rw [q2] at e1
   have e2 : o = some v := e1
   subst e2
   exact ⟨i, rfl, q2⟩
def bM (env : Env) : List (Str × NameKind) -> List (Str × Addr) -> List (Str × Addr)
 | [], acc => acc
 | (n, k) :: r, acc => bM env r (if k == .free then (match env.cells.lookup n with | some c => (n, c) :: acc | none => acc) else acc)
theorem xF {env : Env} : ∀ (names : List (Str × NameKind)) (acc : List (Str × Addr)), (∀ y ∈ names, y.2 = .free -> ∃ c, env.cells.lookup y.1 = some c) ->
  (forIn names acc λ (p : Str × NameKind) (r : List (Str × Addr)) => if p.2 == .free then (do let c <- cellOf env p.1; pure (ForInStep.yield ((p.1, c) :: r))) else pure (ForInStep.yield r) : Sem (List (Str × Addr))) = pure (bM env names acc)
 | [], acc, _ => rfl
 | (n, k) :: r, acc, h => by
  have hr := xF (env := env) r
  rw [List.forIn_cons]
  unfold bM
  by_cases hk : (k == NameKind.free) = true
  .obtain ⟨c, hc⟩ := h (n, k) List.mem_cons_self (by simpa using hk)
   simp only [hk, if_true]
   unfold cellOf
   simp only at hc
   rw [hc]
   simp only [pure_bind]
   exact hr _ λ y hy => h y (List.mem_cons_of_mem _ hy)
  .simp only [hk]
   simp only [pure_bind, Bool.false_eq_true, if_false]
   exact hr _ λ y hy => h y (List.mem_cons_of_mem _ hy)
theorem iC {scope : Scope} {env : Env} (h : ∀ y ∈ scope.names, y.2 = .free -> ∃ c, env.cells.lookup y.1 = some c) : closureFor scope env = pure (bM env scope.names []) := by
 have e := xF (env := env) scope.names [] h
 rw [<- e]
 unfold closureFor
 simp only [bind_pure]
theorem jO {env : Env} : ∀ {names : List (Str × NameKind)} {acc : List (Str × Addr)} {p : Str × Addr}, p ∈ bM env names acc -> p ∈ acc ∨ env.cells.lookup p.1 = some p.2
 | [], acc, p, h => .inl h
 | (n, k) :: r, acc, p, h => by
  unfold bM at h
  rcases jO h with h | h
  .split at h
   .split at h
    .rename_i c hc
     rcases List.mem_cons.mp h with e | h
     .subst e; exact .inr hc
     .exact .inl h
    .exact .inl h
   .exact .inl h
  .exact .inr h
theorem lW {env : Env} {x : Str} : ∀ {names : List (Str × NameKind)} {acc : List (Str × Addr)}, (∀ k, (x, k) ∈ names -> k ≠ .free) -> (bM env names acc).lookup x = acc.lookup x
 | [], acc, _ => rfl
 | (n, k) :: r, acc, h => by
  unfold bM
  rw [lW λ k hk => h k (List.mem_cons_of_mem _ hk)]
  by_cases hk : (k == NameKind.free) = true
  .rw [if_pos hk]
   have hne : x ≠ n := by
    rintro rfl
    exact h k List.mem_cons_self (by simpa using hk)
   split
   .rw [List.lookup_cons]
    have : (x == n) = false := by simpa using hne
    rw [this]
   .rfl
  .rw [if_neg hk]
theorem jm {env : Env} {x : Str} {c : Addr} (hc : env.cells.lookup x = some c) : ∀ {names : List (Str × NameKind)} {acc : List (Str × Addr)}, (x, NameKind.free) ∈ names ∨ acc.lookup x = some c -> (bM env names acc).lookup x = some c
 | [], acc, h => by
  rcases h with h | h
  .simp at h
  .exact h
 | (n, k) :: r, acc, h => by
  unfold bM
  apply jm hc
  by_cases hr : (x, NameKind.free) ∈ r
  .exact .inl hr
  .right
   by_cases hx : x = n
   .subst hx
    by_cases hk : (k == NameKind.free) = true
    .rw [if_pos hk, hc]
     simp
    .rw [if_neg hk]
     rcases h with h | h
     .rcases List.mem_cons.mp h with e | h
      .exfalso; apply hk
       cases e; rfl
      .exact absurd h hr
     .exact h
   .have h' : acc.lookup x = some c := by
     rcases h with h | h
     .rcases List.mem_cons.mp h with e | h
      .cases e; exact absurd rfl hx
      .exact absurd h hr
     .exact h
    have hxn : (x == n) = false := by simpa using hx
    split
    .split
     .rw [List.lookup_cons, hxn]; exact h'
     .exact h'
    .exact h'
structure CO (lo : Nat) (h : Heap) (acc : List (Str × Addr)) : Prop where
 lt : ∀ p ∈ acc, p.2 < h.objs.size
 em : ∀ p ∈ acc, lo <= p.2 -> h.IsCell p.2 none
 ap : ∀ p ∈ acc, ∀ q ∈ acc, p.2 = q.2 -> lo <= p.2 -> p.1 = q.1
theorem CO.go {lo : Nat} : ∀ (names : List (Str × NameKind)) (h : Heap) (acc : List (Str × Addr)), CO lo h acc -> lo <= h.objs.size -> CO lo (pushCells h names) (cellsFrom h.objs.size names acc)
 | [], h, acc, x, _ => x
 | (n, k) :: r, h, acc, x, hl => by
  unfold pushCells cellsFrom
  by_cases hk : (k == NameKind.cell) = true
  .rw [if_pos hk, if_pos hk]
   have := CO.go (lo := lo) r (h.push { cls := .type "cell", data := .cell none }) ((n, h.objs.size) :: acc) ⟨λ p hp => ?_, λ p hp hlo => ?_, λ p hp q hq e hlo => ?_⟩ (by rw [Heap.size_push]; omega)
   .rwa [Heap.size_push] at this
   .rw [Heap.size_push]
    rcases List.mem_cons.mp hp with e | hp
    .subst e; exact Nat.lt_succ_self _
    .exact Nat.lt_succ_of_lt (x.lt p hp)
   .rcases List.mem_cons.mp hp with e | hp
    .subst e; exact ⟨_, Heap.get?_push_size _ rfl, rfl⟩
    .exact (x.em p hp hlo).keeps λ b o e => Heap.get?_push_of_some _ e
   .rcases List.mem_cons.mp hp with e1 | hp <;> rcases List.mem_cons.mp hq with e2 | hq
    .subst e1; subst e2; rfl
    .subst e1
     have e' : h.objs.size = q.2 := e
     exact absurd (x.lt q hq) (by rw [<- e']; exact Nat.lt_irrefl _)
    .subst e2
     have e' : p.2 = h.objs.size := e
     exact absurd (x.lt p hp) (by rw [e']; exact Nat.lt_irrefl _)
    .exact x.ap p hp q hq e hlo
  .rw [if_neg hk, if_neg hk]
   exact CO.go r h acc x hl
theorem uT : ∀ {names : List (Str × NameKind)} {m : Nat} {acc : List (Str × Addr)} {p : Str × Addr}, p ∈ cellsFrom m names acc -> p ∈ acc ∨ m <= p.2
 | [], m, acc, p, h => .inl h
 | (n, k) :: r, m, acc, p, h => by
  unfold cellsFrom at h
  by_cases hk : (k == NameKind.cell) = true
  .rw [if_pos hk] at h
   rcases uT h with h | h
   .rcases List.mem_cons.mp h with e | h
    .subst e; exact .inr (Nat.le_refl _)
    .exact .inl h
   .exact .inr (by omega)
  .rw [if_neg hk] at h
   exact uT h
theorem yU {x : Str} : ∀ {names : List (Str × NameKind)} {m : Nat} {acc : List (Str × Addr)}, (∀ k, (x, k) ∈ names -> k ≠ .cell) -> (cellsFrom m names acc).lookup x = acc.lookup x
 | [], m, acc, _ => rfl
 | (n, k) :: r, m, acc, h => by
  unfold cellsFrom
  by_cases hk : (k == NameKind.cell) = true
  .rw [if_pos hk, yU λ k hk => h k (List.mem_cons_of_mem _ hk), List.lookup_cons]
   have hne : x ≠ n := by
    rintro rfl
    exact h k List.mem_cons_self (by simpa using hk)
   have : (x == n) = false := by simpa using hne
   rw [this]
  .rw [if_neg hk]
   exact yU λ k hk => h k (List.mem_cons_of_mem _ hk)
section
variable {M : Model} {A : Around} {E : Value -> Shared -> Prop} {s : Shared}
theorem mH {scope : Scope} {globals : Addr} {closure : List (Str × Addr)} {qual : Str} {func : Option Addr} {code : Value} {around : Option Env} {builtins : Addr} {Q : Env -> Shared -> Prop}
  (h : Q (newEnv scope s.heap.objs.size globals (cellsFrom (s.heap.objs.size + 1) scope.names closure) qual func code around builtins)
   { s with heap := pushCells (s.heap.push { cls := .type (if around.isSome then "dict" else "frame"), data := .dict #[] }) scope.names }) :
  wpAny M A (newFunctionEnv scope globals closure [] qual func code around builtins) Q E s := by
 simp only [newFunctionEnv]
 refine wpAny_bind (wpAny_alloc ?_)
 refine wpAny_bind (wpAny_layCells _ (λ name kind cells => by cases hkc : kind == NameKind.cell <;> simp [hkc]) _ _ _ _ ?_)
 rw [List.forIn_nil]
 refine wpAny_bind (wpAny_pure (wpAny_pure ?_))
 have e : (s.heap.push ({ cls := .type (if around.isSome then "dict" else "frame"), data := .dict #[] } : Obj)).objs.size = s.heap.objs.size + 1 := Heap.size_push ..
 rw [<- e] at h
 cases around <;> exact h
end
structure eN (X : Cx) (own cap : List Str) (capI : List Nat) (scope : Scope) : Prop where
 kind : scope.kind = .function
 nd : (scope.names.map (·.1)).Nodup
 caps : xO X capI cap
 fre : ∀ y ∈ scope.names, y.2 = .free -> y.1 ∈ cap
 cfr : ∀ x ∈ cap, (x, NameKind.free) ∈ scope.names
theorem sU {x : Str} {k k' : NameKind} : ∀ {names : List (Str × NameKind)}, (names.map (·.1)).Nodup -> (x, k) ∈ names -> (x, k') ∈ names -> k = k'
 | [], _, h, _ => by simp at h
 | p :: r, nd, h1, h2 => by
  rw [List.map_cons, List.nodup_cons] at nd
  rcases List.mem_cons.mp h1 with e1 | h1 <;> rcases List.mem_cons.mp h2 with e2 | h2
  .rw [<- e2] at e1; exact (Prod.mk.inj e1).2
  .exact absurd (by rw [<- e1]; exact List.mem_map.mpr ⟨_, h2, rfl⟩) nd.1
  .exact absurd (by rw [<- e2]; exact List.mem_map.mpr ⟨_, h1, rfl⟩) nd.1
  .exact sU nd.2 h1 h2
theorem cR {α : Type} {x : Str} {k : α} : ∀ {names : List (Str × α)}, (names.map (·.1)).Nodup -> (x, k) ∈ names -> names.lookup x = some k
 | [], _, h => by simp at h
 | (n, k') :: r, nd, h => by
  rw [List.map_cons, List.nodup_cons] at nd
  rw [List.lookup_cons]
  rcases List.mem_cons.mp h with e | hr
  .cases e; simp
  .have hne : x ≠ n := by
    intro e
    subst e
    exact nd.1 (List.mem_map.mpr ⟨_, hr, rfl⟩)
   have : (x == n) = false := by simpa using hne
   rw [this]
   exact cR nd.2 hr
theorem pR {scope : Scope} {env : Env} {x : Str} {k : NameKind} (h : (x, k) ∈ (relabel scope env).names) : (x, k) ∈ scope.names ∨ (k = .cell /\ (x, NameKind.free) ∈ scope.names) := by
 unfold relabel at h
 obtain ⟨⟨n, k'⟩, hm, e⟩ := List.mem_map.mp h
 dsimp only at e
 split at e
 .rename_i hc
  cases e
  have hk : k' = NameKind.free := by
   simp only [Bool.and_eq_true, beq_iff_eq] at hc
   exact hc.1.1
  subst hk
  exact .inr ⟨rfl, hm⟩
 .cases e; exact .inl hm
theorem vO {scope : Scope} {env : Env} : (relabel scope env).names.map (·.1) = scope.names.map (·.1) := by
 unfold relabel
 rw [List.map_map]
 apply List.map_congr_left
 rintro ⟨n, k⟩ _
 show (if _ then (n, NameKind.cell) else (n, k)).1 = n
 split <;> rfl
theorem uV {scope : Scope} {env : Env} {x : Str} (nd : (scope.names.map (·.1)).Nodup) (h : (x, NameKind.free) ∈ scope.names) : (relabel scope env).names.lookup x = some .cell ∨ (relabel scope env).names.lookup x = some .free := by
 have nd' : ((relabel scope env).names.map (·.1)).Nodup := by rw [vO]; exact nd
 by_cases hc : (NameKind.free == NameKind.free && env.scope.kind == .function && env.kindOf x == some .cell) = true
 .left
  refine cR nd' ?_
  unfold relabel
  refine List.mem_map.mpr ⟨(x, NameKind.free), h, ?_⟩
  dsimp only
  rw [if_pos hc]
 .right
  refine cR nd' ?_
  unfold relabel
  refine List.mem_map.mpr ⟨(x, NameKind.free), h, ?_⟩
  dsimp only
  rw [if_neg hc]
def dJ (X : Cx) (own cap : List Str) (scope : Scope) (cs : List (Str × Addr)) (C : Addr) (fp : List Addr) (s2 : Shared) (H2 : Hp) : Cx where
 prog := X.prog
 w := X.w
 K := X.K
 mg := X.mg
 base := X.base
 A := X.A
 N := own ++ cap
 s₀ := s2
 H₀ := H2
 env := compEnvC scope cs C X.env
 outer := X.stack
 stack := X.stack
 ex := fp
 fn := λ x => own.contains x
 calm := X.calm
 pn := []
 xe := λ _ _ => False
def cF (own : List Str) (σ : St) (capI : List Nat) : St := List.replicate own.length none ++ jT σ capI
section
variable {X : Cx} {pins : List (Addr × Obj)} {σ : St} {H : Hp} {s : Shared} {own cap : List Str} {capI : List Nat} {scope : Scope}
theorem eN.cells (B : eN X own cap capI scope) (I : Inv X pins σ H s) : ∀ y ∈ scope.names, y.2 = .free -> ∃ c, X.env.cells.lookup y.1 = some c := λ y hy e => by
 have hm := B.fre y hy e
 obtain ⟨j, hj⟩ := List.getElem?_of_mem hm
 have hlt : j < capI.length := by rw [B.caps.length]; exact (List.getElem?_eq_some_iff.mp hj).1
 obtain ⟨x, e1, _, k⟩ := B.caps.get (j := j) (i := capI[j]) (by simp [hlt])
 rw [hj] at e1
 cases e1
 exact I.ok.has _ k
theorem Inv.comp {fp : List Addr} {h0 h1 : Heap} {C : Addr} {tk : Nat} (I : Inv X pins σ H s) (B : eN X own cap capI scope) (hown : ∀ x ∈ own, (x, NameKind.free) ∉ scope.names) (hf : ∀ b ∈ fp, jM X pins H b) (ho : ∀ b ∈ fp, ∃ o, s.heap.get? b = some o)
  (hk0 : ∀ b o, s.heap.get? b = some o -> h0.get? b = some o) (hsz : s.heap.objs.size <= h0.objs.size) (hC : C = h0.objs.size) (h1e : h1 = pushCells (h0.push { cls := .type "dict", data := .dict #[] }) scope.names) :
  Inv (dJ X own cap scope (cellsFrom (C + 1) scope.names (bM X.env scope.names [])) C fp s H) [] (cF own σ capI) H { s with heap := h1, toks := tk } := by
 have hCs : s.heap.objs.size <= C := by rw [hC]; exact hsz
 have hpush : (h0.push ({ cls := .type "dict", data := .dict #[] } : Obj)).objs.size = C + 1 := by rw [hC]; exact Heap.size_push ..
 have keep1 : ∀ b o, h0.get? b = some o -> h1.get? b = some o := λ b o e => by rw [h1e]; exact pushCells_keeps _ _ _ _ (Heap.get?_push_of_some _ e)
 have keep : ∀ b o, s.heap.get? b = some o -> h1.get? b = some o := λ b o e => keep1 b o (hk0 b o e)
 have hCo : h1.get? C = some { cls := .type "dict", data := .dict #[] } := by
  rw [h1e]
  refine pushCells_keeps _ _ _ _ ?_
  rw [hC]; exact Heap.get?_push_size _ rfl
 have clo_old : ∀ p ∈ bM X.env scope.names [], X.env.cells.lookup p.1 = some p.2 := λ p hp => (jO hp).elim (λ z => by simp at z) id
 have old_lt : ∀ x c, X.env.cells.lookup x = some c -> c < s.heap.objs.size := λ x c e => let ⟨v, q⟩ := I.cell x c e; q.lt
 have co0 : CO (C + 1) (h0.push { cls := .type "dict", data := .dict #[] }) (bM X.env scope.names []) := by
  refine ⟨λ p hp => ?_, λ p hp hlo => ?_, λ p hp q hq e hlo => ?_⟩
  .rw [hpush]; exact Nat.lt_succ_of_lt (Nat.lt_of_lt_of_le (old_lt _ _ (clo_old p hp)) hCs)
  .exact absurd (Nat.lt_of_lt_of_le (old_lt _ _ (clo_old p hp)) (Nat.le_trans hCs (Nat.le_trans (Nat.le_succ _) hlo))) (Nat.lt_irrefl _)
  .exact absurd (Nat.lt_of_lt_of_le (old_lt _ _ (clo_old p hp)) (Nat.le_trans hCs (Nat.le_trans (Nat.le_succ _) hlo))) (Nat.lt_irrefl _)
 have co := CO.go scope.names _ _ co0 (by rw [hpush]; exact Nat.le_refl _)
 rw [hpush, <- h1e] at co
 have csm : ∀ x c, (cellsFrom (C + 1) scope.names (bM X.env scope.names [])).lookup x = some c -> (X.env.cells.lookup x = some c /\ c < s.heap.objs.size) ∨ (C + 1 <= c /\ h1.IsCell c none) := λ x c e => by
  have hm := PySem.mem_of_lookup e
  rcases uT hm with z | z
  .have q := clo_old _ z
   exact .inl ⟨q, old_lt _ _ q⟩
  .exact .inr ⟨z, co.em _ hm z⟩
 have fresh : ∀ b, s.heap.objs.size <= b -> H b = none := λ b hb => I.hok.fresh hb
 have eout : (dJ X own cap scope (cellsFrom (C + 1) scope.names (bM X.env scope.names [])) C fp s H).fs = frs X.stack := rfl
 refine ⟨⟨I.ok.mod, ?_, I.ok.glob, I.ok.blt, hCs, ?_, ?_, ?_, I.ok.hd, I.ok.frames, .inl rfl, ?_, I.bs, Nat.le_trans I.ok.bsz I.sz, ?_, ?_, I.stack, I.stkFree⟩, rfl, I.bare.again, Un.kept keep, ?_, ?_, fresh C hCs, ?_, ?_, I.hok.kept keep, ?_⟩
 .exact B.kind
 .
  intro x y c e1 e2
  have e1' : (cellsFrom (C + 1) scope.names (bM X.env scope.names [])).lookup x = some c := e1
  have e2' : (cellsFrom (C + 1) scope.names (bM X.env scope.names [])).lookup y = some c := e2
  rcases csm x c e1' with ⟨z1, l1⟩ | ⟨z1, _⟩
  .rcases csm y c e2' with ⟨z2, _⟩ | ⟨z2, _⟩
   .exact I.ok.inj x y c z1 z2
   .exact absurd (Nat.lt_of_lt_of_le l1 (Nat.le_trans hCs (Nat.le_trans (Nat.le_succ _) z2))) (Nat.lt_irrefl _)
  .exact co.ap _ (PySem.mem_of_lookup e1') _ (PySem.mem_of_lookup e2') rfl z1
 .
  intro x hx
  have hx' : (relabel scope X.env).names.lookup x = some .cell ∨ (relabel scope X.env).names.lookup x = some .free := hx
  have hm : (x, NameKind.cell) ∈ scope.names ∨ (x, NameKind.free) ∈ scope.names := by
   rcases hx' with e | e
   .rcases pR (PySem.mem_of_lookup e) with q | q
    .exact .inl q
    .exact .inr q.2
   .rcases pR (PySem.mem_of_lookup e) with q | q
    .exact .inr q
    .cases q.1
  rcases hm with q | q
  .exact Option.isSome_iff_exists.mp (PySem.W.cellsFrom_some scope.names (C + 1) _ (.inl (cR B.nd q)))
  .obtain ⟨c, hc⟩ := B.cells I _ q rfl
   exact Option.isSome_iff_exists.mp (PySem.W.cellsFrom_some scope.names (C + 1) _ (.inr (by rw [jm hc (.inl q)]; rfl)))
 .
  intro x c hx e
  have e' : (cellsFrom (C + 1) scope.names (bM X.env scope.names [])).lookup x = some c := e
  have hxo : x ∈ own := by simpa [dJ] using hx
  rcases uT (PySem.mem_of_lookup e') with z | z
  .exfalso
   have nf := hown x hxo
   have : (bM X.env scope.names []).lookup x = none := by
    rw [lW λ k hk => by rintro rfl; exact nf hk]; rfl
   have hl : (cellsFrom (C + 1) scope.names (bM X.env scope.names [])).lookup x = some c := e'
   have q : ∀ (l : List (Str × Addr)), (x, c) ∈ l -> l.lookup x ≠ none := by
    intro l
    induction l with
    | nil => intro h; simp at h
    | cons p r ih =>
     intro h
     obtain ⟨n, d⟩ := p
     rw [List.lookup_cons]
     by_cases hn : (x == n) = true
     .rw [hn]; simp
     .have hn' : (x == n) = false := by simpa using hn
      rw [hn']
      rcases List.mem_cons.mp h with e | h
      .cases e; simp at hn'
      .exact ih h
   exact q _ z this
  .exact Nat.le_trans hCs (Nat.le_trans (Nat.le_succ _) z)
 .
  intro b hb
  obtain ⟨o, hbo⟩ := ho b hb
  have hlt := Heap.lt_size hbo
  refine ⟨Nat.ne_of_lt (Nat.lt_of_lt_of_le hlt hCs), λ x c e => ?_⟩
  rcases csm x c e with ⟨z, _⟩ | ⟨z, _⟩
  .exact (hf b hb).2.2.2.2.1 x c z
  .exact Nat.ne_of_gt (Nat.lt_of_lt_of_le hlt (Nat.le_trans hCs (Nat.le_trans (Nat.le_succ _) z)))
 .
  intro b o e hb
  rcases (hf b hb).2.2.2.1 with z | z
  .exact I.ok.noex b o e z
  .exact absurd (Nat.lt_of_lt_of_le (Heap.lt_size e) (Nat.le_trans I.ok.bsz z)) (Nat.lt_irrefl _)
 .
  intro b hb hz
  rcases List.mem_cons.mp (I.stkSub b hz) with z | z
  .exact (hf b hb).2.1 z
  .exact (hf b hb).2.2.1 z
 .
  obtain ⟨m, hn, hl⟩ := I.loc
  refine ⟨λ _ => none, ⟨_, #[], 0, hCo, rfl, by intro e he; simp at he, λ _ => rfl⟩, λ i x v e1 e2 hv => ?_⟩
  have e2' : (cF own σ capI)[i]? = some (some v) := e2
  have e1' : (own ++ cap)[i]? = some x := e1
  unfold cF at e2'
  by_cases hi : i < own.length
  .rw [List.getElem?_append_left (by simpa using hi), List.getElem?_replicate] at e2'
   split at e2' <;> cases e2'
  .rw [List.getElem?_append_right (by simpa using hi)] at e2'
   rw [List.getElem?_append_right (by simpa using hi)] at e1'
   rw [List.length_replicate] at e2'
   obtain ⟨i0, q1, q2⟩ := pB e2'
   obtain ⟨y, q3, q4, q5⟩ := B.caps.get q1
   rw [e1'] at q3
   cases q3
   have hxf : (x, NameKind.free) ∈ scope.names := B.cfr x (List.mem_of_getElem? e1')
   have vis : Vis X.env.scope x := by
    rcases q5 with q5 | q5
    .exact .inr (.inl q5)
    .exact .inr (.inr q5)
   obtain ⟨u, ru, lk⟩ := hl i0 x v q4 q2 vis
   refine ⟨u, ru, .inr ⟨uV B.nd hxf, ?_⟩⟩
   rcases lk with ⟨k, _⟩ | ⟨_, c, ec, hc⟩
   .rcases q5 with q5 | q5 <;> rw [k] at q5 <;> cases q5
   .refine ⟨c, ?_, hc.keeps keep⟩
    show (cellsFrom (C + 1) scope.names (bM X.env scope.names [])).lookup x = some c
    rw [yU λ k hk => ?_]
    .exact jm ec (.inl hxf)
    .rintro rfl
     cases sU B.nd hk hxf
 .
  intro x c e
  rcases csm x c e with ⟨z, _⟩ | ⟨_, z⟩
  .obtain ⟨v, q⟩ := I.cell x c z
   exact ⟨v, q.keeps keep⟩
  .exact ⟨none, z⟩
 .
  intro x c e
  rcases csm x c e with ⟨z, _⟩ | ⟨z, _⟩
  .exact I.freeC x c z
  .exact fresh c (Nat.le_trans hCs (Nat.le_trans (Nat.le_succ _) z))
 .intro p hp
  exact absurd (show p ∈ ([] : List (Addr × Obj)) from hp) (by simp)
 .show (cF own σ capI).length = (own ++ cap).length
  unfold cF jT
  rw [List.length_append, List.length_append, List.length_replicate, List.length_map, B.caps.length]
end
section
variable {prog : Program} {w : World} {A : Around} {R : Result -> Shared -> Prop} {s : Shared}
theorem tV {elt target iter : Expr} {ifs : List Expr} {scope : Scope} {pos : Pos} {it acc : Value} {env : Env} {E' : Value -> Shared -> Prop} (I : Nat -> Shared -> Prop)
  (hE : ∀ e s', E' e s' -> notedBy (model prog w) A env (λ e s' => R (.error e) s') e s')
  (turn : ∀ n s, I n s -> wpAny (model prog w) A (pyNext it) (λ r s₁ => match r with
   | none => R (.ok .next) s₁
   | some v => wpAny (model prog w) A (letOwnedTupleGo target it v) (λ _ s₂ => wpAny (model prog w) A (assign target env v) (λ _ s₃ =>
     wpAny (model prog w) A (forIn ifs true λ c r => if r = true then do let ok <- isTrue c env (eval c env); pure (ForInStep.yield ok) else pure (ForInStep.yield r)) (λ ok s₄ =>
      if ok = true then wpAny (model prog w) A (eval elt env) (λ x s₅ =>
       wpAny (model prog w) A (call (.builtin "list.append") [acc, x]) (λ _ s₆ => ∃ m, m < n /\ I m s₆) E' s₅) E' s₄
      else ∃ m, m < n /\ I m s₄) E' s₃) E' s₂) E' s₁) E' s)
  (n : Nat) (h : I n s) :
  codeAny (model prog w) A (.compLoop (.ListComp elt [⟨target, iter, ifs, 0⟩] scope pos) 0 it acc env) R s := by
 refine codeAny_loop rfl I (λ n s hI => ?_) n h
 show wpAny _ A ((compTurn (.ListComp elt [⟨target, iter, ifs, 0⟩] scope pos) 0 it acc env).onRaise (λ x => do noteFrame x env; theTreesLotGoes x)) _ _ s
 refine wpAny_noted ?_
 rw [compTurn_list]
 refine wpAny_bind (wpAny_standAt (wpAny_bind (wpAny_mono (turn n s hI) (λ r s₁ h₁ => ?_) hE)))
 cases r with
 | none => exact wpAny_pure h₁
 | some v =>
  refine wpAny_bind (wpAny_mono h₁ (λ _ s₂ h₂ => ?_) hE)
  refine wpAny_bind (wpAny_mono h₂ (λ _ s₂ h₂ => wpAny_bind (wpAny_mono h₂ (λ ok s₃ h₃ => ?_) hE)) hE)
  cases ok with
  | false => exact wpAny_pure ⟨rfl, h₃⟩
  | true =>
   exact wpAny_bind (wpAny_bind (wpAny_mono h₃ (λ x s₄ h₄ => wpAny_bind (wpAny_mono h₄ (λ _ s₅ h₅ => wpAny_pure (wpAny_pure ⟨rfl, h₅⟩)) hE)) hE))
end
def PIf (X : Cx) (ifs : List Expr) (t : TT) : Prop :=
 ∀ (pins : List (Addr × Obj)) (s : Shared) (σ : St) (H : Hp) (Q : Bool -> Hp -> Prop), Inv X pins σ H s -> t σ H Q ->
  wpAny (model X.prog X.w) X.A (forIn ifs true λ c r => if r = true then do let ok <- isTrue c X.env (eval c X.env); pure (ForInStep.yield ok) else pure (ForInStep.yield r)) (TP X pins σ Q) X.xe s
def tYes : TT := λ _ H Q => Q true H
section
variable {X : Cx} {c : Expr} {t : TT}
theorem Gm : PIf X [] tYes := λ _ _ _ H _ I h => wpAny_tests_nil ⟨H, I, h⟩
theorem Iv (h : PT X c t) : PIf X [c] t := λ pins s σ H Q I hq => wpAny_tests_one (h pins s σ H Q I hq)
end
def Fits (a b : St) : Prop := b.length = a.length /\ ∀ (i : Nat) v, a[i]? = some (some v) -> b[i]? = some (some v)
def tLC (own : List Str) (capI : List Nat) (wi : TI) (g : TG) (tt : TT) (te : TE) : TE := λ σ H Q => wi σ H λ J H1 => ∃ W : Nat -> Nat -> List V -> Hp -> Prop, (∃ m, W 0 m [] H1) /\ ∀ i m ys H, W i m ys H ->
 (J.stop i H /\ ∀ l, H l = none -> Q (.ref l) (upd H l (.lst ys))) ∨
 (J.go i H /\ ys.length < sizeLine /\ ∀ x H', J.yld i H x H' -> g x (cF own σ capI) H' λ σ2 H2 => Fits (cF own σ capI) σ2 /\ tt σ2 H2 λ b H3 =>
  if b = true then te σ2 H3 (λ y H4 => ∃ m', m' < m /\ W (i + 1) m' (ys ++ [y]) H4) else ∃ m', m' < m /\ W (i + 1) m' ys H3)
abbrev bR (us : List Value) (k : Nat) : Obj := { cls := .type "list", data := .seq us.toArray k }
section
variable {X : Cx} {tg iter elt : Expr} {ifs : List Expr} {wi : TI} {g : TG} {tt : TT} {te : TE} {own cap : List Str} {capI : List Nat} {scope : Scope} {pos : Pos}
theorem Inv.compEnd {X' : Cx} {pins pins' : List (Addr × Obj)} {σ σ' : St} {H H2 : Hp} {s2 s1 : Shared} {fp : List Addr} {l C : Addr} {ys : List V} {us : List Value} {k : Nat} {h' : Heap}
  (I2 : Inv X pins σ H2 s2) (f2 : ∀ b ∈ fp, jM X pins H2 b) (hP : X'.prog = X.prog) (hw : X'.w = X.w) (hfs : X'.fs = frs X.stack) (hex : X'.ex = fp) (hs : X'.s₀ = s2) (hH : X'.H₀ = H2) (hC : X'.env.locals = C)
  (I : Inv X' pins' σ' H s1) (hl : s2.heap.objs.size <= l) (hlC : l ≠ C) (hCs : s2.heap.objs.size <= C) (ho : s1.heap.get? l = some (bR us k)) (hn : H l = none) (hv : Vals ys us) (hz : ys.length <= sizeLine)
  (sb : Heap.SameBut C s1.heap h') : Inv X pins σ (upd H l (.lst ys)) { s1 with heap := h' } := by
 subst hs hH hC
 have ne2 : ∀ b o, X'.s₀.heap.get? b = some o -> b ≠ X'.env.locals /\ b ≠ l := λ b o e => ⟨Nat.ne_of_lt (Nat.lt_of_lt_of_le (Heap.lt_size e) hCs), Nat.ne_of_lt (Nat.lt_of_lt_of_le (Heap.lt_size e) hl)⟩
 have ub := I.base
 rw [hfs, hex] at ub
 have nl : ∀ b u, H b = some u -> b ≠ l := λ b u e z => by rw [z, hn] at e; cases e
 have nC : ∀ b u, H b = some u -> b ≠ X'.env.locals := λ b u e z => by rw [z, I.free] at e; cases e
 refine I2.call' (ch := fp) (s' := { s1 with heap := h' }) I.os ⟨λ b o e n hb hx => ?_, λ b o e n hb hx => ?_, λ b o e n hx => ?_, λ b o e hx => ?_, λ b xs e => ?_, λ b o u e => ?_, λ b ps e => ?_⟩ ?_ I.bare λ b hb => ?_
 .exact (sb.2 b (ne2 b o e).1).trans (ub.keep b o e n hb hx)
 .obtain ⟨sl, q⟩ := ub.slot b o e n hb hx
  exact ⟨sl, (sb.2 b (ne2 b o e).1).trans q⟩
 .rw [aM (ne2 b o e).2]
  exact ub.free b o e n hx
 .obtain ⟨o', q⟩ := ub.there b o e hx
  exact ⟨o', (sb.2 b (ne2 b o e).1).trans q⟩
 .have q := ub.tups b xs e
  rw [aM (nl b _ q)]; exact q
 .have q := ub.frzs b o u e
  rw [aM (nl b _ q)]; exact q
 .obtain ⟨more, q⟩ := ub.tbls b ps e
  exact ⟨more, by rw [aM (nl b _ q)]; exact q⟩
 .intro a o e
  have hok := I.hok
  rw [hP, hw] at hok
  by_cases ha : a = l
  .subst ha
   rw [dq] at e
   cases e
   exact ⟨hz, us, k, hv, (sb.2 a hlC).trans ho⟩
  .rw [aM ha] at e
   refine (hok a o e).stay (λ b u hb q => (sb.2 b ?_).trans q) (λ b q => by rw [aM (nl b _ q)]; exact q) λ b xs q => by rw [aM (nl b _ q)]; exact q
   rcases hb with z | z
   .rw [z]; exact nC a o e
   .exact nC b _ z
 .obtain ⟨q0, q1, q2, q3, q4, q5⟩ := f2 b hb
  exact ⟨q3.imp id λ z => z, q1, q4, q5⟩
theorem Nz (hc : X.calm = true) (B : eN X own cap capI scope) (hown : ∀ x ∈ own, (x, NameKind.free) ∉ scope.names) (hi : PI X tg iter wi)
  (hg : ∀ cs C fp s2 H2, PG (dJ X own cap scope cs C fp s2 H2) tg g) (ht : ∀ cs C fp s2 H2, PIf (dJ X own cap scope cs C fp s2 H2) ifs tt) (he : ∀ cs C fp s2 H2, PE (dJ X own cap scope cs C fp s2 H2) elt te)
  (hs : ∀ x, foldedSetIterable iter X.env x = pure x := by intro _; rfl) : PE X (.ListComp elt [⟨tg, iter, ifs, 0⟩] scope pos) (tLC own capI wi g tt te) := by
 intro pins s σ H Q I h
 rw [eval_ListComp]
 refine wpAny_comprehension_free (use := none) (cl := bM X.env scope.names []) rfl hs (iC (B.cells I)) B.kind (λ y hy e => cR B.nd (by rw [<- e]; exact hy)) ?_
 refine thn (hi pins s σ H _ I h) λ v s1 h1 => thn h1 λ itv s2 h2 => ?_
 obtain ⟨it, fp, tn, J, H2, e, I2, T, st2, f2, W, ⟨m0, w0⟩, turn⟩ := h2
 subst e
 refine wpAny_newObj_type (mH ?_)
 dsimp only
 generalize hl : s2.heap.objs.size = l
 generalize hh0 : s2.heap.push { cls := .type "list", dict := none, data := .seq ([] : List Value).toArray } = h0
 have hsz0 : h0.objs.size = l + 1 := by rw [<- hh0, Heap.size_push, hl]
 generalize hC : h0.objs.size = C
 generalize hh1 : pushCells (h0.push { cls := .type (if (some X.env).isSome = true then "dict" else "frame"), data := .dict #[] }) scope.names = h1
 have hl0 : h0.get? l = some (bR [] 0) := by rw [<- hh0, <- hl]; exact Heap.get?_push_size _ rfl
 have hk0 : ∀ b o, s2.heap.get? b = some o -> h0.get? b = some o := λ b o e => by rw [<- hh0]; exact Heap.get?_push_of_some _ e
 have hlC : l ≠ C := by rw [<- hC, hsz0]; exact Nat.ne_of_lt (Nat.lt_succ_self _)
 have hls : s2.heap.objs.size <= l := Nat.le_of_eq hl
 have hCs : s2.heap.objs.size <= C := by rw [<- hC, hsz0, hl]; exact Nat.le_succ _
 have ho2 : ∀ b ∈ fp, ∃ o, s2.heap.get? b = some o := λ b hb => let ⟨o, e, _⟩ := T.obj 0 _ st2 b hb; ⟨o, e⟩
 have hfl : ∀ b ∈ fp, b ≠ l /\ b ≠ C := λ b hb => let ⟨o, e⟩ := ho2 b hb; ⟨Nat.ne_of_lt (Nat.lt_of_lt_of_le (Heap.lt_size e) hls), Nat.ne_of_lt (Nat.lt_of_lt_of_le (Heap.lt_size e) hCs)⟩
 have hl1 : h1.get? l = some (bR [] 0) := by rw [<- hh1]; exact pushCells_keeps _ _ _ _ (Heap.get?_push_of_some _ hl0)
 have keep1 : ∀ b o, s2.heap.get? b = some o -> h1.get? b = some o := λ b o e => by rw [<- hh1]; exact pushCells_keeps _ _ _ _ (Heap.get?_push_of_some _ (hk0 b o e))
 generalize hcs : cellsFrom (C + 1) scope.names (bM X.env scope.names []) = cs
 have I0 : Inv (dJ X own cap scope cs C fp s2 H2) [] (cF own σ capI) H2 { s2 with heap := h1 } := by
  have q := I2.comp (tk := s2.toks) B hown f2 ho2 hk0 (by rw [hsz0, hl]; exact Nat.le_succ _) hC.symm hh1.symm
  rw [hcs] at q
  exact q
 have henv : (newEnv scope C X.env.globals cs X.env.qual none .none (some X.env) builtinsNs) = { compEnvC scope cs C X.env with scope := scope } := rfl
 have henv2 : ({ newEnv scope C X.env.globals cs X.env.qual none .none (some X.env) builtinsNs with scope := relabel scope X.env } : Env) = (dJ X own cap scope cs C fp s2 H2).env := rfl
 generalize hX' : dJ X own cap scope cs C fp s2 H2 = X' at I0 henv2
 have eP : X'.prog = X.prog := by rw [<- hX']; rfl
 have eW : X'.w = X.w := by rw [<- hX']; rfl
 have eK : X'.K = X.K := by rw [<- hX']; rfl
 have eA : X'.A = X.A := by rw [<- hX']; rfl
 have eFs : X'.fs = frs X.stack := by rw [<- hX']; rfl
 have eEx : X'.ex = fp := by rw [<- hX']; rfl
 have eS : X'.s₀ = s2 := by rw [<- hX']; rfl
 have eH : X'.H₀ = H2 := by rw [<- hX']; rfl
 have eL : X'.env.locals = C := by rw [<- hX']; rfl
 have eC : X'.calm = true := by rw [<- hX']; exact hc
 have eX : X'.xe = λ _ _ => False := by rw [<- hX']; rfl
 have ePn : X'.pn = [] := by rw [<- hX']; rfl
 have hg' : PG X' tg g := by rw [<- hX']; exact hg cs C fp s2 H2
 have ht' : PIf X' ifs tt := by rw [<- hX']; exact ht cs C fp s2 H2
 have he' : PE X' elt te := by rw [<- hX']; exact he cs C fp s2 H2
 have stat : ∀ {H' : Hp} {P : List (Addr × Obj)}, X'.Ok -> (∀ b ∈ fp, H' b = none) -> (∀ p ∈ P, p.1 = l) -> ∀ b ∈ fp, jM X' P H' b := λ {H' P} ok hn hP b hb => by
  refine ⟨hn b hb, ?_, ?_, .inl (by rw [eEx]; exact hb), ?_, λ p hp => ?_⟩
  .exact (ok.exf b (by rw [eEx]; exact hb)).1
  .exact ok.exfs b (by rw [eEx]; exact hb)
  .exact (ok.exf b (by rw [eEx]; exact hb)).2
  .rw [ePn, List.nil_append] at hp
   rw [hP p hp]
   exact Ne.symm (hfl b hb).1
 have lfs : X'.Ok -> l ∉ X'.fs := λ ok hz => by
  rw [eFs] at hz
  exact (Inv.nofs (X := X) I2 hls) ((List.mem_cons.mp (I2.stkSub l hz)).elim (λ z => absurd I2.lt (by rw [<- z, hl]; exact Nat.lt_irrefl _)) id)
 have pinL : ∀ {σ' : St} {H' : Hp} {s' : Shared} {us : List Value} {k : Nat}, Inv X' [] σ' H' s' -> s'.heap.get? l = some (bR us k) -> H' l = none -> Inv X' [(l, bR us k)] σ' H' s' := λ {σ' H' s' us k} I' e n =>
  I'.pins_of λ p hp => by
   obtain rfl : p = (l, bR us k) := by simpa using hp
   exact ⟨e, n, by rw [eL]; exact hlC, lfs I'.ok, λ v z => by cases z⟩
 have loop : ∀ s3 : Shared, s3 = { s2 with heap := h1 } -> codeAny (model X.prog X.w) X.A (.compLoop (.ListComp elt [⟨tg, iter, ifs, 0⟩] scope pos) 0 (.ref it) (.ref l) X'.env) (compPost (model X.prog X.w) X.A X.xe none (EP X pins σ Q) (.ref l) C) s3 := by
  rintro s3 rfl
  refine tV (E' := λ _ _ => False) (λ n s' => ∃ i ys us k H', Inv X' [] (cF own σ capI) H' s' /\ tn i s'.heap /\ (∀ b ∈ fp, H' b = none) /\ W i n ys H' /\ Vals ys us /\ s'.heap.get? l = some (bR us k) /\ H' l = none /\ ys.length <= sizeLine) (λ _ _ z => z.elim) ?_ m0
   ⟨0, [], [], 0, H2, I0, T.keep _ _ _ st2 λ b _ o e => keep1 b o e, λ b hb => (f2 b hb).1, w0, .nil, hl1, I2.hok.fresh hls, Nat.zero_le _⟩
  rintro n s3 ⟨i, ys, us, k, H3, I3, st3, fr3, w3, v3, o3, n3, z3⟩
  have I3p := pinL I3 o3 n3
  have P1 : ∀ p ∈ [(l, bR us k)], p.1 = l := λ p hp => by
   obtain rfl : p = (l, bR us k) := by simpa using hp
   rfl
  rcases turn i n ys H3 w3 with ⟨stop, qn⟩ | ⟨go, hlt, step⟩
  .have q := T.done X' eP eW eK eC i _ s3 _ H3 (λ _ _ => False) I3p (stat I3.ok fr3 P1) st3 stop
   rw [eA] at q
   refine wpAny_mono q (λ r s4 ⟨hr, I4⟩ => ?_) λ _ _ z => z
   subst hr
   have pl := I4.pin (l, bR us k) (by simp)
   obtain ⟨m4, hn4, _⟩ := I4.loc
   rw [eL] at hn4
   refine ⟨m4, hn4, λ h' sb => ⟨.ref l, upd H3 l (.lst ys), ?_, rfl, qn l n3⟩⟩
   exact I2.compEnd f2 eP eW eFs eEx eS eH eL I4 hls hlC hCs pl.1 n3 v3 z3 sb
  .have q := T.item X' eP eW eK eC i _ s3 _ H3 (λ _ _ => False) I3p (stat I3.ok fr3 P1) st3 go
   rw [eA] at q
   refine wpAny_mono q (λ r s4 ⟨u, hr, h4⟩ => ?_) λ _ _ z => z
   subst hr
   refine wpAny_mono h4 (λ _ s5 ⟨x, H5, I5, r5, y5, st5, fr5⟩ => ?_) λ _ _ z => z
   have I5' := I5.pinned (stat I5.ok fr5 P1) (T.obj _ _ st5)
   have a1 := hg' _ s5 _ H5 x u _ I5' r5 (step x H5 y5)
   rw [eP, eW, eA, eX] at a1
   refine wpAny_mono a1 (λ _ s6 ⟨σ6, H6, I6, ft6, q6⟩ => ?_) λ _ _ z => z
   have a2 := ht' _ s6 σ6 H6 _ I6 q6
   rw [eP, eW, eA, eX] at a2
   refine wpAny_mono a2 (λ ok s7 ⟨H7, I7, q7⟩ => ?_) λ _ _ z => z
   have back : ∀ {H8 : Hp} {s8 : Shared}, Inv X' ([(l, bR us k)] ++ oR fp s5.heap) σ6 H8 s8 -> Inv X' [] (cF own σ capI) H8 s8 /\ tn (i + 1) s8.heap /\ (∀ b ∈ fp, H8 b = none) /\ s8.heap.get? l = some (bR us k) /\ H8 l = none := λ {H8 s8} I8 => by
    have pl := I8.pin (l, bR us k) (by simp)
    refine ⟨(I8.weak ft6.1.symm ft6.2).pins_of λ p hp => absurd hp (by simp), T.keep _ _ _ st5 λ b hb o e => ?_, λ b hb => ?_, pl.1, pl.2.1⟩
    .exact (I8.pin (b, o) (List.mem_append_right _ (List.mem_append_right _ (fL hb e)))).1
    .obtain ⟨o, e, d⟩ := T.obj _ _ st5 b hb
     exact (I8.pin (b, o) (List.mem_append_right _ (List.mem_append_right _ (fL hb e)))).2.1
   cases ok with
   | false =>
    rw [if_neg Bool.false_ne_true]
    rw [if_neg Bool.false_ne_true] at q7
    obtain ⟨m', hm, w7⟩ := q7
    obtain ⟨I8, st8, fr8, o8, n8⟩ := back I7
    exact ⟨m', hm, i + 1, ys, us, k, H7, I8, st8, fr8, w7, v3, o8, n8, z3⟩
   | true =>
    rw [if_pos rfl]
    rw [if_pos rfl] at q7
    have a3 := he' _ s7 σ6 H7 _ I7 q7
    rw [eP, eW, eA, eX] at a3
    refine wpAny_mono a3 (λ yv s8 ⟨y, H8, I8', r8, m', hm, w8⟩ => ?_) λ _ _ z => z
    obtain ⟨I8, st8, fr8, o8, n8⟩ := back I8'
    refine append_at (hsz := by show us.toArray.size <= sizeLine; rw [List.size_toArray, <- v3.length]; exact z3) o8 λ h9 sb9 o9 => ?_
    have I9 : Inv X' [] (cF own σ capI) H8 { s8 with heap := h9 } := I8.turned (t' := s8.toks) (λ b o hb e => (sb9.2 b hb).trans e) n8 (by rw [eL]; exact hlC) (.inr (by rw [eS]; exact hls)) (λ x c e => by
     rintro rfl
     obtain ⟨v', ho', hd', hd''⟩ := I8.cell x c e
     rw [o8] at hd'
     cases hd'
     cases hd'') (λ p hp => by rw [ePn] at hp; exact absurd hp (by simp))
    refine ⟨m', hm, i + 1, ys ++ [y], us ++ [yv], k + 1, H8, I9, T.keep _ _ _ st8 λ b hb o e => (sb9.2 b (hfl b hb).1).trans e, fr8, w8, v3.append (.cons r8 .nil), ?_, n8, ?_⟩
    .rw [o9]
     simp [bR]
    .rw [List.length_append]
     exact hlt
 have T0 := T.keep 0 s2.heap h1 st2 λ b _ o e => keep1 b o e
 rw [henv2]
 exact codeAny_compStart_list (loop _ rfl) (T.self X.A 0 _ _ _ T0 (loop _ rfl))
end
def bW (M : Model) (A : Around) (c : Code) (t : Sem Fin) (fs : List Frame) (s : Shared) (Φ : End -> Shared -> Prop) : Prop :=
 ∀ Γ p, Γ.code = c -> Γ.Woken A -> ∃ e s', Runs M Γ p t fs s e s' /\ Φ e s'
section
variable {M : Model} {A : Around} {c : Code} {fs : List Frame} {s : Shared} {Φ : End -> Shared -> Prop}
theorem bW.wrap {α : Type} {m : Sem α} {K : α -> Sem Fin} {H : Value -> Sem Fin} {gd : Bool -> Bool} {lv : List Value -> List Value}
  (h : wpAny M (A.over c fs) m (λ a s' => bW M A c (K a) fs s' Φ) (λ x s' => bW M A c (H x) fs s' Φ) s) : bW M A c (m.wrap K H gd lv) fs s Φ := by
 rintro Γ p rfl hΓ
 exact runs_wrap_of_wp K H gd lv m (h (Γ.over fs) p (hΓ.over fs)) (λ a p' s' h' => h' Γ p' rfl hΓ) (λ x p' s' h' => h' Γ p' rfl hΓ)
theorem bW.bindWrap {α β : Type} {m : Sem α} {K : α -> Sem β} {K' : β -> Sem Fin} {H' : Value -> Sem Fin} {gd : Bool -> Bool} {lv : List Value -> List Value}
  (h : wpAny M (A.over c fs) m (λ a s' => bW M A c ((K a).wrap K' H' gd lv) fs s' Φ) (λ x s' => bW M A c (H' x) fs s' Φ) s) : bW M A c ((m >>= K).wrap K' H' gd lv) fs s Φ := by
 rw [Sem.bind_eq_wrap', Sem.wrap_wrap]; exact bW.wrap h
theorem bW.at {p' : Pos} {k : Unit -> Sem Fin} (h : bW M A c (k ()) fs s Φ) : bW M A c (.at p' k) fs s Φ :=
 bW.wrap (m := standAt p') (K := k) (H := .raise) (gd := id) (lv := id) (wpAny_standAt h)
theorem bW.again {c' : Code} (hq : c'.quiet = true) (hc : bW M A c' (M.den c') fs s Φ) : bW M A c (.pure (.again c')) fs s Φ := by
 rintro Γ p rfl hΓ
 obtain ⟨e, s', hr, he⟩ := hc (Γ.goto c') p rfl (hΓ.goto c')
 exact ⟨e, s', Runs.head (c₁ := c') (λ _ _ x => .again hq x) hr, he⟩
theorem bW.end (r : Result) (h : Φ (.ret r) s) : bW M A c (leafOf r) [] s Φ := by
 rintro Γ p rfl _
 exact ⟨.ret r, s, Runs.leaf r, h⟩
theorem bW.yield {v : Value} {g : Bool} {l : List Value} {k : Resume -> Sem Fin} (hfs : splitAtGen fs = none) (h : ∀ p, Φ (.susp v g l k c p fs) s) : bW M A c (.yield v g l k) fs s Φ := by
 rintro Γ p rfl _
 exact ⟨_, s, Runs.yield' fs hfs, h p⟩
def Jq (M : Model) (A : Around) (gs : GenState) (s : Shared) (Φ : End -> Shared -> Prop) : Prop :=
 match gs with
 | .fresh c => bW M A c (M.den c) [] s Φ
 | .suspended k _ c _ fs _ => bW M A c (k (.send .none)) fs s Φ
 | _ => False
theorem Ha {E : Value -> Shared -> Prop} {g : Nat} {gs : GenState} {l : List Value} {α : Type} {k : GenResult -> Sem α} {Q : α -> Shared -> Prop} (hg : s.gens[g]? = some gs)
  (hgo : Jq M A gs (s.setGen g .running) Φ) (hq : ∀ e s₁, Φ e s₁ -> e.quiet = true) (hΦ : ∀ e s₁, Φ e s₁ -> wpAny M A (k e.result) Q E (s₁.setGen g e.genState)) :
  wpAny M A (.resume g (.send .none) l k) Q E s := by
 intro Γ p hΓ
 rw [Sem.wp_resume]
 have hB : ∀ c, (Γ.wake c p).Woken A := λ c => hΓ.wake c p
 cases gs with
 | fresh c =>
  obtain ⟨e₁, s₁, hr, he⟩ := hgo (Γ.wake c p) p rfl (hB c)
  exact ⟨_, _, by unfold Wakes; rw [hg]; exact ⟨e₁, s₁, hr, hq e₁ s₁ he, rfl, rfl⟩, hΦ e₁ s₁ he Γ p hΓ⟩
 | suspended k₀ l₀ c₀ p₀ fs₀ cl =>
  obtain ⟨e₁, s₁, hr, he⟩ := hgo (Γ.wake c₀ p) p₀ rfl (hB c₀)
  exact ⟨_, _, by unfold Wakes; rw [hg]; exact ⟨e₁, s₁, hr, hq e₁ s₁ he, rfl, rfl⟩, hΦ e₁ s₁ he Γ p hΓ⟩
 | running => exact hgo.elim
 | finished => exact hgo.elim
end
section
variable {prog : Program} {w : World} {A : Around} {E : Value -> Shared -> Prop} {s : Shared} {Φ : End -> Shared -> Prop}
theorem qb {a : Addr} {g : Nat} {gs : GenState} {Q : Option Value -> Shared -> Prop} (hh : A.handled = none) (hl : s.heap.NoLimit) (hroom : A.depth < recursionLimit)
  (hg : s.heap.IsGen a g) (hgs : s.gens[g]? = some gs) (hgo : Jq (model prog w) A.in1 gs (s.setGen g .running) Φ) (hq : ∀ e s₁, Φ e s₁ -> e.quiet = true)
  (hΦ : ∀ e s₁, Φ e s₁ -> (∃ v gd l k c p fs, e = .susp v gd l k c p fs /\ Q (some v) (s₁.setGen g e.genState)) ∨
   (e = .ret (.ok .next) /\ ∀ h', (∀ b o, s₁.heap.get? b = some o -> h'.get? b = some o) -> Q none { s₁.setGen g .finished with heap := h' })) :
  wpAny (model prog w) A (pyNext (.ref a)) Q E s := by
 unfold pyNext
 refine wpAny_bind (wpAny_attempt (wpAny_callSpecial?_slot (name := Str.ofString "__next__") hg.typeIs slot_gen_next
  (wpAny_call_entry slot_gen_next hg.typeIs entry_gen_next ?_ (args_gen_next _))))
 show wpAny _ A.in1 (Builtin.Generator.genWake (.ref a) (.send .none)) _ _ s
 unfold Builtin.Generator.genWake
 refine wpAny_bind (wpAny_holding (wpAny_genNumber hg (wpAny_bind (wpAny_genState hgs ?_))))
 cases gs with
 | running => exact hgo.elim
 | finished => exact hgo.elim
 | _ =>
  refine wpAny_bind (wpAny_roomToWake hl hroom ?_)
  show wpAny _ A.in1 (.resume g (.send .none) [] _) _ _ s
  refine Ha hgs hgo hq λ e s₁ he => ?_
  rcases hΦ e s₁ he with ⟨v, gd, l, k, c, p, fs, rfl, hQ⟩ | ⟨rfl, hP⟩
  .exact wpAny_pure ⟨v, rfl, wpAny_pure hQ⟩
  .show wpAny _ A.in1 (newExc (.type "StopIteration") [] >>= _) _ _ _
   refine wpAny_bind ?_
   simp only [newExc, newTuple]
   refine wpAny_bind (wpAny_newObj_type ?_ (by size_fits))
   refine wpAny_bind (m := firstArgMember _ _) (wpAny_of_eq (a := Value.none) (by first | rfl | (simp only [firstArgMember]; rfl)) ?_)
   refine wpAny_newObj_type ?_ (by size_fits)
   simp only [raiseNew]
   refine wpAny_bind (wpAny_bind (wpAny_handled ?_))
   first | rw [show A.in1.handled = none from hh] | rw [hh]
   refine wpAny_throw ?_
   refine wpAny_bind (wpAny_isInstance (T := "StopIteration") (b := true) ⟨_, Heap.get?_push_size _ rfl, rfl⟩ isSubtype_stop ?_)
   exact wpAny_pure (hP _ λ b o hb => Heap.get?_push_of_some _ (Heap.get?_push_of_some _ hb))
end
def su (X : Cx) (AG : Around) (own cap : List Str) (scope : Scope) (cs : List (Str × Addr)) (C : Addr) (code : Value) (fp : List Addr) (s2 : Shared) (H2 : Hp) : Cx where
 prog := X.prog
 w := X.w
 K := X.K
 mg := X.mg
 base := X.base
 A := AG
 N := own ++ cap
 s₀ := { s2 with gens := s2.gens.push .running }
 H₀ := H2
 env := genEnv scope cs C code builtinsNs X.env
 outer := X.stack
 stack := genEnv scope cs C code builtinsNs X.env :: X.stack
 ex := fp
 fn := λ x => own.contains x
 calm := true
 pn := []
 xe := λ _ _ => False
section
variable {X : Cx} {pins : List (Addr × Obj)} {σ : St} {H : Hp} {s : Shared} {own cap : List Str} {capI : List Nat} {scope : Scope}
theorem Inv.gen {AG : Around} {fp : List Addr} {h1 : Heap} {C : Addr} {tk : Nat} {code : Value} {m : Str -> Option Value} (I : Inv X pins σ H s) (B : eN X own cap capI scope) (hown : ∀ x ∈ own, (x, NameKind.free) ∉ scope.names) (hnc : ∀ y ∈ scope.names, y.2 ≠ .cell)
  (hf : ∀ b ∈ fp, jM X pins H b) (ho : ∀ b ∈ fp, ∃ o, s.heap.get? b = some o)
  (keep : ∀ b o, s.heap.get? b = some o -> h1.get? b = some o) (hCs : s.heap.objs.size <= C) (hm : h1.Ns C m) (hAf : AG.frames = some (genEnv scope (bM X.env scope.names []) C code builtinsNs X.env :: X.stack)) (hAh : AG.handled = none) :
  Inv (su X AG own cap scope (bM X.env scope.names []) C code fp s H) [] (cF own σ capI) H { s with heap := h1, toks := tk, gens := s.gens.push .running } := by
 have clo_old : ∀ p ∈ bM X.env scope.names [], X.env.cells.lookup p.1 = some p.2 := λ p hp => (jO hp).elim (λ z => by simp at z) id
 have old_lt : ∀ x c, X.env.cells.lookup x = some c -> c < s.heap.objs.size := λ x c e => let ⟨v, q⟩ := I.cell x c e; q.lt
 have csm : ∀ x c, (bM X.env scope.names []).lookup x = some c -> X.env.cells.lookup x = some c /\ c < s.heap.objs.size := λ x c e => by
  have q := clo_old _ (PySem.mem_of_lookup e)
  exact ⟨q, old_lt _ _ q⟩
 have fresh : ∀ b, s.heap.objs.size <= b -> H b = none := λ b hb => I.hok.fresh hb
 have brun : AllBare (s.gens.push .running) := AllBare.push I.bare.bare rfl
 refine ⟨⟨I.ok.mod, ?_, I.ok.glob, rfl, hCs, ?_, ?_, ?_, λ _ => hAh, hAf, .inr ⟨rfl, rfl⟩, ?_, I.bs, Nat.le_trans I.ok.bsz I.sz, ?_, ?_, I.stack, I.stkFree⟩, rfl, GK.refl brun, Un.kept keep, ?_, ?_, fresh C hCs, ?_, ?_, I.hok.kept keep, ?_⟩
 .exact B.kind
 .intro x y c e1 e2
  exact I.ok.inj x y c (csm x c e1).1 (csm y c e2).1
 .intro x hx
  have hx' : scope.names.lookup x = some .cell ∨ scope.names.lookup x = some .free := hx
  rcases hx' with e | e
  .exact absurd rfl (hnc _ (PySem.mem_of_lookup e))
  .have q := PySem.mem_of_lookup e
   obtain ⟨c, hc⟩ := B.cells I _ q rfl
   exact ⟨c, jm hc (.inl q)⟩
 .intro x c hx e
  exfalso
  have hxo : x ∈ own := by simpa [su] using hx
  have nf := hown x hxo
  have q : (bM X.env scope.names []).lookup x = none := by
   rw [lW λ k hk => by rintro rfl; exact nf hk]; rfl
  have e' : (bM X.env scope.names []).lookup x = some c := e
  rw [q] at e'; cases e'
 .intro b hb
  obtain ⟨o, hbo⟩ := ho b hb
  have hlt := Heap.lt_size hbo
  exact ⟨Nat.ne_of_lt (Nat.lt_of_lt_of_le hlt hCs), λ x c e => (hf b hb).2.2.2.2.1 x c (csm x c e).1⟩
 .intro b o e hb
  rcases (hf b hb).2.2.2.1 with z | z
  .exact I.ok.noex b o e z
  .exact absurd (Nat.lt_of_lt_of_le (Heap.lt_size e) (Nat.le_trans I.ok.bsz z)) (Nat.lt_irrefl _)
 .intro b hb hz
  rcases List.mem_cons.mp (I.stkSub b hz) with z | z
  .exact (hf b hb).2.1 z
  .exact (hf b hb).2.2.1 z
 .obtain ⟨m', hn, hl⟩ := I.loc
  refine ⟨m, hm, λ i x v e1 e2 hv => ?_⟩
  have e2' : (cF own σ capI)[i]? = some (some v) := e2
  have e1' : (own ++ cap)[i]? = some x := e1
  unfold cF at e2'
  by_cases hi : i < own.length
  .rw [List.getElem?_append_left (by simpa using hi), List.getElem?_replicate] at e2'
   split at e2' <;> cases e2'
  .rw [List.getElem?_append_right (by simpa using hi)] at e2'
   rw [List.getElem?_append_right (by simpa using hi)] at e1'
   rw [List.length_replicate] at e2'
   obtain ⟨i0, q1, q2⟩ := pB e2'
   obtain ⟨y, q3, q4, q5⟩ := B.caps.get q1
   rw [e1'] at q3
   cases q3
   have hxf : (x, NameKind.free) ∈ scope.names := B.cfr x (List.mem_of_getElem? e1')
   have vis : Vis X.env.scope x := by
    rcases q5 with q5 | q5
    .exact .inr (.inl q5)
    .exact .inr (.inr q5)
   obtain ⟨u, ru, lk⟩ := hl i0 x v q4 q2 vis
   refine ⟨u, ru, .inr ⟨.inr (cR B.nd hxf), ?_⟩⟩
   rcases lk with ⟨k, _⟩ | ⟨_, c, ec, hc⟩
   .rcases q5 with q5 | q5 <;> rw [k] at q5 <;> cases q5
   .exact ⟨c, jm ec (.inl hxf), hc.keeps keep⟩
 .intro x c e
  obtain ⟨v, q⟩ := I.cell x c (csm x c e).1
  exact ⟨v, q.keeps keep⟩
 .intro x c e
  exact I.freeC x c (csm x c e).1
 .intro p hp
  exact absurd (show p ∈ ([] : List (Addr × Obj)) from hp) (by simp)
 .show (cF own σ capI).length = (own ++ cap).length
  unfold cF jT
  rw [List.length_append, List.length_append, List.length_replicate, List.length_map, B.caps.length]
end
abbrev Bp (elt tg iter : Expr) (scope : Scope) (pos : Pos) : Expr := .GeneratorExp elt [⟨tg, iter, [], 0⟩] scope pos
abbrev jq (elt tg iter : Expr) (scope : Scope) (pos : Pos) (it : Addr) (cenv : Env) : Code := .compLoop (Bp elt tg iter scope pos) 0 (.ref it) .none cenv
abbrev genS (elt tg iter : Expr) (scope : Scope) (pos : Pos) (it : Addr) (cenv : Env) : Code := .compStart (Bp elt tg iter scope pos) 0 (.ref it) .none cenv
section
variable {X' : Cx} {A1 : Around} {elt tg iter : Expr} {scope : Scope} {pos : Pos} {it : Addr} {fp : List Addr} {tn : Nat -> Heap -> Prop} {J : It} {σb : St} {g : TG} {te : TE}
theorem Dw (T : Turn X'.prog X'.w X'.K tg J fp it tn) (hA : X'.A = A1.over (jq elt tg iter scope pos it X'.env) []) (hc : X'.calm = true) (hex : X'.ex = fp) (hpn : X'.pn = []) (hco : X'.env.scope.isCoroutine = false)
  (hxe : X'.xe = λ _ _ => False) (hg : PG X' tg g) (he : PE X' elt te) {i : Nat} {H : Hp} {s : Shared} {Q : VK} {P : List (Addr × Obj)} (hP : ∀ p ∈ P, p.1 ∉ fp) (I : Inv X' P σb H s) (st : tn i s.heap) (fr : ∀ b ∈ fp, H b = none)
  (go : J.go i H) (step : ∀ x H', J.yld i H x H' -> g x σb H' λ σ2 H2 => Fits σb σ2 /\ te σ2 H2 Q) :
  bW (model X'.prog X'.w) A1 (jq elt tg iter scope pos it X'.env) ((model X'.prog X'.w).den (jq elt tg iter scope pos it X'.env)) [] s λ e s' =>
   ∃ v k p y H', e = .susp v false [] k (jq elt tg iter scope pos it X'.env) p [] /\ k (.send .none) = .pure (.again (jq elt tg iter scope pos it X'.env)) /\ RelV y v /\ Q y H' /\ Inv X' P σb H' s' /\ tn (i + 1) s'.heap /\ ∀ b ∈ fp, H' b = none := by
 have stat : ∀ {H' : Hp}, X'.Ok -> (∀ b ∈ fp, H' b = none) -> ∀ b ∈ fp, jM X' P H' b := λ {H'} ok hn b hb =>
  ⟨hn b hb, (ok.exf b (by rw [hex]; exact hb)).1, ok.exfs b (by rw [hex]; exact hb), .inl (by rw [hex]; exact hb), (ok.exf b (by rw [hex]; exact hb)).2, λ p hp e => by rw [hpn] at hp; exact hP p hp (e ▸ hb)⟩
 show bW _ A1 _ ((compTurn (Bp elt tg iter scope pos) 0 (.ref it) .none X'.env).onRaise (leaving X'.env)) [] s _
 rw [compTurn_gen, Sem.onRaise_eq_wrap]
 refine bW.bindWrap (wpAny_standAt ?_)
 have q := T.item X' rfl rfl rfl hc i P s σb H (λ _ _ => False) I (stat I.ok fr) st go
 rw [hA] at q
 refine bW.bindWrap (wpAny_mono q (λ r s1 ⟨u, hr, h1⟩ => ?_) λ _ _ z => z.elim)
 subst hr
 refine bW.bindWrap (wpAny_mono h1 (λ _ s2 ⟨x, H2, I2, r2, y2, st2, fr2⟩ => ?_) λ _ _ z => z.elim)
 have I2' := I2.pinned (stat I2.ok fr2) (T.obj _ _ st2)
 have a1 := hg _ s2 σb H2 x u _ I2' r2 (step x H2 y2)
 rw [hA, hxe] at a1
 refine bW.bindWrap (wpAny_mono a1 (λ _ s3 ⟨σ3, H3, I3, ft3, q3⟩ => ?_) λ _ _ z => z.elim)
 refine bW.bindWrap (wpAny_tests_nil ?_)
 simp only [if_true]
 have hy : ∀ v, yieldOut X'.env v = yieldValue v := λ v => by simp only [yieldOut, hco, Bool.false_eq_true, if_false]
 simp only [hy]
 rw [Sem.bind_eq_wrap', Sem.bind_eq_wrap', Sem.wrap_wrap, Sem.wrap_wrap]
 have a2 := he _ s3 σ3 H3 _ I3 q3
 rw [hA, hxe] at a2
 refine bW.wrap (wpAny_mono a2 (λ v s4 ⟨y, H4, I4, r4, q4⟩ => ?_) λ _ _ z => z.elim)
 refine bW.at (bW.yield rfl λ p => ⟨v, _, p, y, H4, rfl, rfl, r4, q4, (I4.weak ft3.1.symm ft3.2).unpinned, T.keep _ _ _ st2 λ b hb o e => ?_, λ b hb => ?_⟩)
 .exact (I4.pin (b, o) (List.mem_append_right _ (List.mem_append_right _ (fL hb e)))).1
 .obtain ⟨o, e, d⟩ := T.obj _ _ st2 b hb
  exact (I4.pin (b, o) (List.mem_append_right _ (List.mem_append_right _ (fL hb e)))).2.1
theorem Ec (T : Turn X'.prog X'.w X'.K tg J fp it tn) (hA : X'.A = A1.over (jq elt tg iter scope pos it X'.env) []) (hc : X'.calm = true) (hex : X'.ex = fp) (hpn : X'.pn = [])
  {i : Nat} {H : Hp} {s : Shared} {P : List (Addr × Obj)} (hP : ∀ p ∈ P, p.1 ∉ fp) (I : Inv X' P σb H s) (st : tn i s.heap) (fr : ∀ b ∈ fp, H b = none) (stop : J.stop i H) :
  bW (model X'.prog X'.w) A1 (jq elt tg iter scope pos it X'.env) ((model X'.prog X'.w).den (jq elt tg iter scope pos it X'.env)) [] s λ e s' => e = .ret (.ok .next) /\ Inv X' P σb H s' := by
 have stat : ∀ b ∈ fp, jM X' P H b := λ b hb =>
  ⟨fr b hb, (I.ok.exf b (by rw [hex]; exact hb)).1, I.ok.exfs b (by rw [hex]; exact hb), .inl (by rw [hex]; exact hb), (I.ok.exf b (by rw [hex]; exact hb)).2, λ p hp e => by rw [hpn] at hp; exact hP p hp (e ▸ hb)⟩
 show bW _ A1 _ ((compTurn (Bp elt tg iter scope pos) 0 (.ref it) .none X'.env).onRaise (leaving X'.env)) [] s _
 rw [compTurn_gen, Sem.onRaise_eq_wrap]
 refine bW.bindWrap (wpAny_standAt ?_)
 have q := T.done X' rfl rfl rfl hc i P s σb H (λ _ _ => False) I stat st stop
 rw [hA] at q
 refine bW.bindWrap (wpAny_mono q (λ r s1 ⟨hr, I1⟩ => ?_) λ _ _ z => z.elim)
 subst hr
 exact bW.end (.ok .next) ⟨rfl, I1⟩
theorem tQ {A0 : Around} {P : Program} {w : World} {K : PySem.W.Frag} {cenv : Env} {Φ : End -> Shared -> Prop} {s : Shared} {i : Nat} (T : Turn P w K tg J fp it tn) (st : tn i s.heap)
  (h : bW (model P w) A0 (jq elt tg iter scope pos it cenv) ((model P w).den (jq elt tg iter scope pos it cenv)) [] s Φ) :
  bW (model P w) A0 (genS elt tg iter scope pos it cenv) ((model P w).den (genS elt tg iter scope pos it cenv)) [] s Φ := by
 show bW _ A0 _ ((compStart (Bp elt tg iter scope pos) 0 (.ref it) .none cenv).onRaise (leaving cenv)) [] s _
 unfold compStart
 rw [Sem.onRaise_eq_wrap]
 show bW _ A0 _ ((ask >>= _).wrap _ _ _ _) [] s _
 refine bW.bindWrap (wpAny_askSetting ?_)
 split
 .exact bW.again rfl h
 .first
   | exact bW.bindWrap (wpAny_rule (bW.bindWrap (wpAny_standAt (bW.bindWrap (T.self _ i s _ _ st (bW.again rfl h))))))
   | (refine bW.bindWrap (wpAny_rule ?_); show bW _ A0 _ ((standAt iter.pos >>= _).wrap _ _ _ _) [] s _; exact bW.bindWrap (wpAny_standAt (bW.bindWrap (T.self _ i s _ _ st (bW.again rfl h)))))
end
structure qg where
 nxt : Nat -> Hp -> (V -> Hp -> Prop) -> Prop
 fin : Nat -> Hp -> Prop
structure Ba (X : Cx) (pins : List (Addr × Obj)) (σ : St) (A' : Around) (it : Addr) (lo : Nat) (S : qg) (SS : List (Addr × Obj) -> Nat -> Hp -> Shared -> Prop) : Prop where
 inv : ∀ {P i H s}, SS P i H s -> Inv X (pins ++ P) σ H s
 next : ∀ {P i H s Q} (E : Value -> Shared -> Prop), SS P i H s -> S.nxt i H Q -> wpAny (model X.prog X.w) A' (pyNext (.ref it)) (λ r s1 => ∃ u y H', r = some u /\ RelV y u /\ Q y H' /\ SS P (i + 1) H' s1) E s
 stop : ∀ {P i H s} (E : Value -> Shared -> Prop), SS P i H s -> S.fin i H -> wpAny (model X.prog X.w) A' (pyNext (.ref it)) (λ r s1 => r = none /\ Inv X (pins ++ P) σ H s1) E s
 keep : ∀ {P i H s h' tk}, SS P i H s -> (∀ b o, s.heap.get? b = some o -> h'.get? b = some o) -> SS P i H { s with heap := h', toks := tk }
 pin : ∀ {P i H s D o}, SS P i H s -> lo <= D -> s.heap.get? D = some o -> H D = none -> (∀ v, o.data ≠ .cell v) -> SS ((D, o) :: P) i H s
 unpin : ∀ {p P i H s}, SS (p :: P) i H s -> SS P i H s
 acc : ∀ {P i H s h' tk D}, SS P i H s -> lo <= D -> H D = none -> (∀ p ∈ P, p.1 ≠ D) -> (∀ b o, b ≠ D -> s.heap.get? b = some o -> h'.get? b = some o) -> SS P i H { s with heap := h', toks := tk }
def Ready (X : Cx) (pins : List (Addr × Obj)) (σ : St) (S : qg) (v : Value) (H : Hp) (s : Shared) : Prop :=
 ∀ (A' : Around) (E : Value -> Shared -> Prop), A'.handled = none -> A'.frames = some X.stack -> A'.depth <= X.A.depth + 1 -> A'.units <= X.A.units + 8 ->
  wpAny (model X.prog X.w) A' (pyIter v) (λ itv s2 => ∃ it lo SS, itv = .ref it /\ Ba X pins σ A' it lo S SS /\ SS [] 0 H s2 /\ lo <= s2.heap.objs.size) E s
abbrev qe := St -> Hp -> (qg -> Hp -> Prop) -> Prop
def xm (X : Cx) (e : Expr) (ts : qe) : Prop :=
 ∀ (pins : List (Addr × Obj)) (s : Shared) (σ : St) (H : Hp) (R : qg -> Hp -> Prop), Inv X pins σ H s -> ts σ H R ->
  wpAny (model X.prog X.w) X.A (eval e X.env) (λ v s1 => ∃ S H1, Inv X pins σ H1 s1 /\ Ready X pins σ S v H1 s1 /\ R S H1) X.xe s
def Ml (X : Cx) (pins : List (Addr × Obj)) (σ : St) (S : qg) (a : Addr) (H : Hp) (s : Shared) : Prop :=
 ∀ (A' : Around), A'.handled = none -> A'.frames = some X.stack -> A'.depth <= X.A.depth + 1 -> A'.units <= X.A.units + 8 ->
  ∃ lo SS, Ba X pins σ A' a lo S SS /\ SS [] 0 H s /\ a < lo /\ lo <= s.heap.objs.size /\ ∀ P i H s, SS P i H s -> ∃ g, s.heap.IsGen a g
def xf (X : Cx) (e : Expr) (ts : qe) : Prop :=
 ∀ (pins : List (Addr × Obj)) (s : Shared) (σ : St) (H : Hp) (R : qg -> Hp -> Prop), Inv X pins σ H s -> ts σ H R ->
  wpAny (model X.prog X.w) X.A (eval e X.env) (λ v s1 => ∃ a S H1, v = .ref a /\ Inv X pins σ H1 s1 /\ Ml X pins σ S a H1 s1 /\ R S H1) X.xe s
theorem wg {X : Cx} {e : Expr} {ts : qe} (h : xf X e ts) : xm X e ts := by
 intro pins s σ H R I hq
 refine thn (h pins s σ H R I hq) λ v s1 ⟨a, S, H1, e, I1, rdy, r⟩ => ⟨S, H1, I1, ?_, r⟩
 subst e
 intro A' E h1 h2 h3 h4
 obtain ⟨lo, SS, sm, s0, _, hl, hg⟩ := rdy A' h1 h2 h3 h4
 obtain ⟨g, ig⟩ := hg _ _ _ _ s0
 exact wpAny_pyIter_gen ig ⟨a, lo, SS, rfl, sm, s0, hl⟩
section
variable {X : Cx} {pins : List (Addr × Obj)} {σ : St} {H : Hp} {s : Shared}
theorem Inv.grown {h' : Heap} {g' : Array GenState} {tk : Nat} (I : Inv X pins σ H s) (k : ∀ b o, s.heap.get? b = some o -> h'.get? b = some o) (hg : GK s.gens g') : Inv X pins σ H { s with heap := h', gens := g', toks := tk } :=
 I.call (ch := []) (g' := g') (t' := tk) (d' := s.drawn) (Un.kept k) (I.hok.kept k) hg λ b hb => absurd hb (by simp)
theorem Inv.more {Q : List (Addr × Obj)} (I : Inv X pins σ H s) (h : ∀ p ∈ Q, s.heap.get? p.1 = some p.2 /\ H p.1 = none /\ p.1 ≠ X.env.locals /\ p.1 ∉ X.fs /\ ∀ v, p.2.data ≠ .cell v) : Inv X (pins ++ Q) σ H s :=
 I.pins_of λ p hp => (List.mem_append.mp hp).elim (λ z => I.pin p (List.mem_append_right _ z)) (h p)
theorem Inv.tbl {P : Addr} {ps ps' : Array Value} {h' : Heap} {tk : Nat} (I : Inv X pins σ H s) (hP : H P = some (.tbl ps)) (hm : ∃ more, ps' = ps ++ more) (k : ∀ b o, b ≠ P -> s.heap.get? b = some o -> h'.get? b = some o)
  (ho : h'.get? P = some { cls := .none, data := .fields ps' }) : Inv X pins σ (upd H P (.tbl ps')) { s with heap := h', toks := tk } := by
 have nP : ∀ b, H b = none -> b ≠ P := λ b e z => by rw [z, hP] at e; cases e
 refine I.un ⟨λ b o e n _ _ => k b o (nP b n) e, λ b o e n _ _ => ⟨o.slots, k b o (nP b n) e⟩, λ b o e n _ => by rw [aM (nP b n)]; exact n, λ b o e _ => ?_, λ b xs e => ?_, λ b o u e => ?_, λ b qs e => ?_⟩ λ a o e => ?_
 .by_cases z : b = P
  .subst z; exact ⟨_, ho⟩
  .exact ⟨o, k b o z e⟩
 .have z : b ≠ P := λ z => by rw [z, hP] at e; cases e
  rw [aM z]; exact e
 .have z : b ≠ P := λ z => by rw [z, hP] at e; cases e
  rw [aM z]; exact e
 .by_cases z : b = P
  .subst z
   rw [hP] at e; cases e
   obtain ⟨more, e⟩ := hm
   exact ⟨more, by rw [dq, e]⟩
  .exact ⟨#[], by rw [aM z, e]; simp⟩
 .by_cases z : a = P
  .subst z
   rw [dq] at e; cases e
   exact ho
  .rw [aM z] at e
   refine (I.hok a o e).stay (λ b u hb q => k b u ?_ q) (λ b q => ?_) λ b xs q => ?_
   .rcases hb with r | r
    .rw [r]; exact z
    .exact λ y => by rw [y, hP] at r; cases r
   .have y : b ≠ P := λ y => by rw [y, hP] at q; cases q
    rw [aM y]; exact q
   .have y : b ≠ P := λ y => by rw [y, hP] at q; cases q
    rw [aM y]; exact q
def vo (H : Hp) (v : Value) : Prop := ∃ c o vs u, v = .ref c /\ H c = some (.frz o (.own 0)) /\ o.data = .fields vs /\ vs[1]? = some u
def TOk (H : Hp) (ps : Array Value) : Prop := TriplesOk ps.toList /\ ∀ pos v, codeAmong pos ps.toList = some v -> vo H v
theorem TOk.mono {H H' : Hp} {ps : Array Value} (h : TOk H ps) (k : ∀ c o, H c = some (.frz o (.own 0)) -> H' c = some (.frz o (.own 0))) : TOk H' ps :=
 ⟨h.1, λ pos v e => let ⟨c, o, vs, u, e1, e2, e3⟩ := h.2 pos v e; ⟨c, o, vs, u, e1, k c o e2, e3⟩⟩
theorem TOk.nil {H : Hp} : TOk H #[] := ⟨by unfold TriplesOk; trivial, λ pos v e => by simp [codeAmong] at e⟩
theorem yL {pos : Pos} {a b : Int} {c v : Value} : ∀ (l : List Value), TriplesOk l -> codeAmong pos (l ++ [rawInt a, rawInt b, c]) = some v -> codeAmong pos l = some v ∨ v = c := λ l h => by
 fun_induction TriplesOk l with
 | case1 =>
  intro e
  right
  simp only [List.nil_append, rawInt, codeAmong] at e
  split at e
  .cases e; rfl
  .cases e
 | case2 line t col u x rest ih =>
  intro e
  simp only [List.cons_append, codeAmong] at e ⊢
  split at e
  .rename_i hc
   left; rw [if_pos hc]; exact e
  .rename_i hc
   rw [if_neg hc]
   exact ih h e
 | case3 => exact h.elim
structure zB (lo : Nat) (P : Addr) (ps ps' : Array Value) (H H' : Hp) : Prop where
 tab : H' P = some (.tbl ps')
 more : ∃ more, ps' = ps ++ more
 ok : TOk H' ps'
 keep : ∀ b o, b ≠ P -> H b = some o -> H' b = some o
 none : ∀ b, b < lo -> H b = none -> H' b = none
theorem Inv.reg {c : Addr} {o : Obj} (I : Inv X pins σ H s) (ho : s.heap.get? c = some o) (hn : H c = none) (hnew : X.s₀.heap.objs.size <= c) (hL : c ≠ X.env.locals) (hc : ∀ x d, X.env.cells.lookup x = some d -> d ≠ c) (hp : ∀ p ∈ X.pn ++ pins, p.1 ≠ c) :
  Inv X pins σ (upd H c (.frz o (.own 0))) s := by
 have ne : ∀ b u, H b = some u -> b ≠ c := λ b u e z => by rw [z, hn] at e; cases e
 refine ⟨I.ok, I.os, I.bare, ⟨I.base.keep, I.base.slot, λ b ob e n hx => ?_, I.base.there, λ b xs e => ?_, λ b ob u e => ?_, λ b ps e => ?_⟩, I.loc, I.cell, ?_, λ x d e => ?_, λ p hp' => ?_, λ a u e => ?_, I.len⟩
 .rw [aM (Nat.ne_of_lt (Nat.lt_of_lt_of_le (Heap.lt_size e) hnew))]; exact I.base.free b ob e n hx
 .have q := I.base.tups b xs e
  rw [aM (ne _ _ q)]; exact q
 .have q := I.base.frzs b ob u e
  rw [aM (ne _ _ q)]; exact q
 .obtain ⟨more, q⟩ := I.base.tbls b ps e
  exact ⟨more, by rw [aM (ne _ _ q)]; exact q⟩
 .rw [aM (Ne.symm hL)]; exact I.free
 .rw [aM (hc x d e)]; exact I.freeC x d e
 .obtain ⟨a, b, r⟩ := I.pin p hp'
  exact ⟨a, by rw [aM (hp p hp')]; exact b, r⟩
 .by_cases z : a = c
  .subst z
   rw [dq] at e; cases e
   exact ⟨ho, o, ho⟩
  .rw [aM z] at e
   exact (I.hok a u e).stay (λ b v _ q => q) (λ b q => by rw [aM (ne _ _ q)]; exact q) λ b xs q => by rw [aM (ne _ _ q)]; exact q
theorem ut {P c' : Addr} {ps vs : Array Value} {u : Value} {oc : Obj} {h' : Heap} {tk : Nat} {pos : Pos} {G : Prop} (I : Inv X pins σ H s) (hP : H P = some (.tbl ps)) (ht : TOk H ps) (hge : s.heap.objs.size <= c') (hoc : h'.get? c' = some oc) (hdd : oc.data = .fields vs) (hv : vs[1]? = some u)
  (k : ∀ b o, b ≠ P -> s.heap.get? b = some o -> h'.get? b = some o) (ho : h'.get? P = some { cls := .none, data := .fields (ps ++ #[rawInt pos.line, rawInt pos.col, .ref c']) })
  (h : zB s.heap.objs.size P ps (ps ++ #[rawInt pos.line, rawInt pos.col, .ref c']) H (upd (upd H P (.tbl (ps ++ #[rawInt pos.line, rawInt pos.col, .ref c']))) c' (.frz oc (.own 0))) -> Inv X pins σ (upd (upd H P (.tbl (ps ++ #[rawInt pos.line, rawInt pos.col, .ref c']))) c' (.frz oc (.own 0))) { s with heap := h', toks := tk } -> G) : G := by
 have lt := λ {b : Addr} {o : Obj} (e : s.heap.get? b = some o) => Nat.lt_of_lt_of_le (Heap.lt_size e) hge
 have cP : P ≠ c' := Nat.ne_of_lt (lt (I.hok P _ hP))
 have hn : H c' = none := I.hok.fresh hge
 generalize hps : ps ++ #[rawInt pos.line, rawInt pos.col, .ref c'] = ps' at *
 have I1 : Inv X pins σ (upd H P (.tbl ps')) { s with heap := h', toks := tk } := I.tbl hP ⟨_, hps.symm⟩ k ho
 have I2 : Inv X pins σ (upd (upd H P (.tbl ps')) c' (.frz oc (.own 0))) { s with heap := h', toks := tk } := I1.reg hoc (by rw [aM (Ne.symm cP)]; exact hn) (Nat.le_trans I.sz hge) (Nat.ne_of_gt (Nat.lt_of_lt_of_le I.lt hge))
  (λ x d e => by
   obtain ⟨v, o, e2, _⟩ := I.cell x d e
   exact Nat.ne_of_lt (lt e2)) λ p hp => Nat.ne_of_lt (lt (I.pin p hp).1)
 have kp : ∀ b o, b ≠ P -> H b = some o -> upd (upd H P (.tbl ps')) c' (.frz oc (.own 0)) b = some o := λ b o hb e => by
  have hbc : b ≠ c' := λ z => by rw [z, hn] at e; cases e
  rw [aM hbc, aM hb]; exact e
 refine h ⟨by rw [aM cP, dq], ⟨_, hps.symm⟩, ⟨?_, λ p v e => ?_⟩, kp, λ b hb e => ?_⟩ I2
 .rw [<- hps]
  have hl : (ps ++ #[rawInt pos.line, rawInt pos.col, Value.ref c']).toList = ps.toList ++ [rawInt pos.line, rawInt pos.col, .ref c'] := by simp
  rw [hl]; exact TriplesOk_snoc _ _ _ _ ht.1
 .rw [<- hps] at e
  have hl : (ps ++ #[rawInt pos.line, rawInt pos.col, Value.ref c']).toList = ps.toList ++ [rawInt pos.line, rawInt pos.col, .ref c'] := by simp
  rw [hl] at e
  rcases yL _ ht.1 e with e | e
  .obtain ⟨c, o, ws, w, q1, q2, q3⟩ := ht.2 p v e
   exact ⟨c, o, ws, w, q1, kp c _ (λ z => by rw [z, hP] at q2; cases q2) q2, q3⟩
  .exact ⟨c', oc, vs, u, e, dq, hdd, hv⟩
 .have hbc : b ≠ c' := Nat.ne_of_lt (Nat.lt_of_lt_of_le hb hge)
  have hbP : b ≠ P := λ z => by rw [z, hP] at e; cases e
  rw [aM hbc, aM hbP]; exact e
theorem Nh {c P : Addr} {ps : Array Value} {pos : Pos} {q : Str} {scope : Scope} {Q : Value -> Shared -> Prop} {A : Around} {E : Value -> Shared -> Prop} (I : Inv X pins σ H s) (hc : X.env.code = .ref c) (hd : PySem.W.CodeHd X.base c P) (hP : H P = some (.tbl ps)) (ht : TOk H ps)
  (h : ∀ code s' H' ps', zB s.heap.objs.size P ps ps' H H' -> Inv X pins σ H' s' -> s'.gens = s.gens -> (∀ b o, b ≠ P -> s.heap.get? b = some o -> s'.heap.get? b = some o) -> Q code s') :
  wpAny (model X.prog X.w) A (genexprCode X.env pos q scope) Q E s := by
 have hd' : PySem.W.CodeHd s.heap c P := hd.keeps I.bk
 have oP : s.heap.get? P = some (PySem.W.tabObj ps) := I.hok P _ hP
 have hok : s.heap.IsCode c P ps := hd'.code oP ht.1
 have htab : s.heap.TableAt c P ps := hd'.tab oP
 cases hnf : codeAmong pos ps.toList with
 | some cv =>
  obtain ⟨o, vs, file, tf, flags, tg, inF, text, tt, op, ho, hdd, h11, h2, h7, h9, h10, hop, hpd, htr, hne⟩ := id hok
  unfold genexprCode codeAt
  rw [hc, if_neg (show ¬ ((Value.ref c == Value.none) = true) from Bool.false_ne_true)]
  refine wpAny_bind (wpAny_fieldsOf ho hdd ?_)
  rw [h11]
  refine wpAny_bind (wpAny_fieldsOf hop hpd ?_)
  rw [hnf]
  exact wpAny_pure (h cv s H ps ⟨hP, ⟨#[], by simp⟩, ht, λ _ _ _ e => e, λ _ _ e => e⟩ I rfl λ b o _ e => e)
 | none =>
  refine wpAny_genexprCodeX hc hok htab hnf λ c' h' tk hx hge hlt hcode hrec htab' _ => ?_
  obtain ⟨c2, oc, vs, t, e2, hoc, hdd, hv⟩ := hrec
  cases e2
  exact ut I hP ht hge hoc hdd hv (λ b o hb e => hx b o hb e) htab'.2 λ hG I' => h (.ref c') _ _ _ hG I' rfl λ b o hb e => hx b o hb e
end
def Dl (J : It) (g : TG) (te : TE) (σb : St) : qg where
 nxt := λ i H Q => J.go i H /\ ∀ x H', J.yld i H x H' -> g x σb H' λ σ2 H2 => Fits σb σ2 /\ te σ2 H2 Q
 fin := λ i H => J.stop i H
def tGen (own : List Str) (capI : List Nat) (P : Addr) (wi : TI) (g : TG) (te : TE) : qe := λ σ H R => wi σ H λ J H1 => ∃ ps, H1 P = some (.tbl ps) /\ TOk H1 ps /\
 ∀ lo H2 ps', zB lo P ps ps' H1 H2 -> R (Dl J g te (cF own σ capI)) H2
theorem xq {A : Around} {elt tg iter : Expr} {scope : Scope} {pos : Pos} {it : Addr} {cenv : Env} {l : List Env} (h : A.frames = some l) : (A.over (jq elt tg iter scope pos it cenv) []).frames = some (cenv :: l) := by
 unfold Around.over
 show pushEnvs (Code.envs (jq elt tg iter scope pos it cenv)) (pushEnvs (envsOf []) A.frames) = _
 rw [h]; rfl
theorem Ci {X : Cx} {A' : Around} {elt tg iter : Expr} {scope : Scope} {pos : Pos} {it : Addr} {cenv : Env} (hh : A'.handled = none) (hd : A'.depth <= X.A.depth + 1) (hu : A'.units <= X.A.units + 8) :
  ∀ k, dZ (k + 1) X.A -> dZ k (A'.in1.over (jq elt tg iter scope pos it cenv) []) := λ k r => by
 have e1 : (A'.in1.over (jq elt tg iter scope pos it cenv) []).depth = A'.depth + 1 := rfl
 have e2 : (A'.in1.over (jq elt tg iter scope pos it cenv) []).units = A'.units + 1 + 3 := rfl
 have e3 : (A'.in1.over (jq elt tg iter scope pos it cenv) []).handled = A'.handled := rfl
 have := r.dp
 have := r.un
 exact ⟨e3.trans hh, by rw [e1]; omega, by rw [e2]; omega⟩
section
variable {X : Cx} {tg iter elt : Expr} {wi : TI} {g : TG} {te : TE} {own cap : List Str} {capI : List Nat} {scope : Scope} {pos : Pos} {P : Addr} {kr : Nat}
theorem DR (hc : X.calm = true) (hr : dZ kr X.A) (B : eN X own cap capI scope) (hown : ∀ x ∈ own, (x, NameKind.free) ∉ scope.names) (hnc : ∀ y ∈ scope.names, y.2 ≠ .cell) (h0 : scope.names.lookup (".0" : Str) = some NameKind.local)
  (hco : scope.isCoroutine = false) (htb : ∃ c, X.env.code = .ref c /\ PySem.W.CodeHd X.base c P) (hi : PI X tg iter wi) (hg : ∀ AG cs C code fp s2 H2, PG (su X AG own cap scope cs C code fp s2 H2) tg g)
  (he : ∀ AG cs C code fp s2 H2, (∀ k, dZ (k + 1) X.A -> dZ k AG) -> PE (su X AG own cap scope cs C code fp s2 H2) elt te) (hs : ∀ x, genFold iter X.env x = pure x := by intro _; rfl) :
  xf X (Bp elt tg iter scope pos) (tGen own capI P wi g te) := by
 intro pins s σ H R I h
 obtain ⟨c, hcode, hhd⟩ := htb
 refine wpAny_GeneratorExp_make hco (iC (B.cells I)) hnc h0 B.kind hr.depth ?_ hs
 refine thn (hi pins s σ H _ I h) λ v s1 h1 => thn h1 λ itv s2 h2 => ?_
 obtain ⟨it, fp, tn, J, H2, e, I2, T, st2, f2, ps, hP, htr, hR⟩ := h2
 subst e
 refine ⟨I2.nolimit, Nh I2 hcode hhd hP htr λ code s4 H4 ps' hG I4 hgens hk4 => ?_⟩
 obtain ⟨bm, ob, b1, b2, b3, b4, b5, b6⟩ := I4.mod.bmain
 refine wpAny_builtinsFor (bm := bm) (by rw [I4.ok.glob]; exact I4.mod.glob.keeps I4.bk) b1 b2 (I4.bk _ _ b3) b4 b5 b6 ?_
 intro h5 hn5 hs5
 generalize hC : s4.heap.objs.size = C at hn5 hs5 ⊢
 have hCs : s4.heap.objs.size <= C := Nat.le_of_eq hC
 have hR' := hR _ H4 ps' hG
 have k5 : ∀ b o, s4.heap.get? b = some o -> h5.get? b = some o := λ b o e => hs5.extBut b o (Nat.ne_of_lt (Nat.lt_of_lt_of_le (Heap.lt_size e) hCs)) (Heap.get?_push_of_some _ e)
 have sz5 : h5.objs.size = C + 1 := by rw [hs5.1, Heap.size_push, hC]
 generalize ha : h5.objs.size = a
 have hCa : C < a := by rw [<- ha, sz5]; exact Nat.lt_succ_self _
 generalize hgi : s4.gens.size = gi
 generalize hgo : ({ cls := .type "generator", data := .fields #[.int (gi : Int) 0, .str "<genexpr>" (s4.toks + 1), .str (X.env.qual ++ "<genexpr>") (s4.toks + 1 + 1)] } : Obj) = gob
 generalize hh6 : h5.push gob = h6
 have k6 : ∀ b o, h5.get? b = some o -> h6.get? b = some o := λ b o e => by rw [<- hh6]; exact Heap.get?_push_of_some _ e
 have k46 : ∀ b o, s4.heap.get? b = some o -> h6.get? b = some o := λ b o e => k6 b o (k5 b o e)
 have oa6 : h6.get? a = some gob := by rw [<- hh6, <- ha]; refine Heap.get?_push_size _ ?_; rw [<- hgo]; rfl
 have isg : ∀ {h : Heap}, h.get? a = some gob -> h.IsGen a gi := λ {h} e => ⟨gob, .str "<genexpr>" (s4.toks + 1), .str (X.env.qual ++ "<genexpr>") (s4.toks + 1 + 1), e, by rw [<- hgo], by rw [<- hgo], by rw [<- hgo]⟩
 have hfr4 : ∀ b ∈ fp, H4 b = none := λ b hb => let ⟨o, e, _⟩ := T.obj 0 _ st2 b hb; hG.none b (Heap.lt_size e) (f2 b hb).1
 have f4 : ∀ b ∈ fp, jM X pins H4 b := λ b hb => ⟨hfr4 b hb, (f2 b hb).2⟩
 have hbP : ∀ b ∈ fp, b ≠ P := λ b hb z => by have n2 := (f2 b hb).1; rw [z, hP] at n2; cases n2
 have o4 : ∀ b ∈ fp, ∃ o, s4.heap.get? b = some o := λ b hb => let ⟨o, e, _⟩ := T.obj 0 _ st2 b hb; ⟨o, hk4 b o (hbP b hb) e⟩
 have st4 : tn 0 s4.heap := T.keep _ _ _ st2 λ b hb o e => hk4 b o (hbP b hb) e
 have hfa : ∀ b ∈ fp, b ≠ a /\ b ≠ C := λ b hb => let ⟨o, e⟩ := o4 b hb
  have l := Nat.lt_of_lt_of_le (Heap.lt_size e) hCs
  ⟨Nat.ne_of_lt (Nat.lt_trans l hCa), Nat.ne_of_lt l⟩
 generalize hcenv : genEnv scope (bM X.env scope.names []) C code builtinsNs X.env = cenv
 have gk6 : GK s4.gens (s4.gens.push (.fresh (genS elt tg iter scope pos it cenv))) := by
  refine ⟨AllBare.push I4.bare.bare rfl, λ k x e => ?_⟩
  have hlt : k < s4.gens.size := by
   rcases Nat.lt_or_ge k s4.gens.size with z | z
   .exact z
   .rw [Array.getElem?_eq_none z] at e; cases e
  rw [Array.getElem?_push_lt hlt, <- Array.getElem?_eq_getElem hlt]; exact e
 refine ⟨a, Dl J g te (cF own σ capI), H4, rfl, I4.grown k46 gk6, ?_, hR'⟩
 intro A' hAh hAf hAd hAu
 have gi6 : (s4.gens.push (.fresh (genS elt tg iter scope pos it cenv)))[gi]? = some (.fresh (genS elt tg iter scope pos it cenv)) := by rw [<- hgi]; simp
 generalize hX' : su X (A'.in1.over (jq elt tg iter scope pos it cenv) []) own cap scope (bM X.env scope.names []) C code fp s4 H4 = X'
 have eP : X'.prog = X.prog := by rw [<- hX']; rfl
 have eW : X'.w = X.w := by rw [<- hX']; rfl
 have eK : X'.K = X.K := by rw [<- hX']; rfl
 have eFs : X'.fs = frs X.stack := by rw [<- hX']; rfl
 have eEx : X'.ex = fp := by rw [<- hX']; rfl
 have eS : X'.s₀ = { s4 with gens := s4.gens.push .running } := by rw [<- hX']; rfl
 have eH : X'.H₀ = H4 := by rw [<- hX']; rfl
 have eL : X'.env.locals = C := by rw [<- hX']; rfl
 have eC : X'.calm = true := by rw [<- hX']; rfl
 have eX : X'.xe = λ _ _ => False := by rw [<- hX']; rfl
 have ePn : X'.pn = [] := by rw [<- hX']; rfl
 have eE : X'.env = cenv := by rw [<- hX', <- hcenv]; rfl
 have eA : X'.A = A'.in1.over (jq elt tg iter scope pos it X'.env) [] := by rw [eE, <- hX']; rfl
 have eCo : X'.env.scope.isCoroutine = false := by rw [<- hX']; exact hco
 have hg' : PG X' tg g := by rw [<- hX']; exact hg _ _ _ _ _ _ _
 have he' : PE X' elt te := by rw [<- hX']; exact he _ _ _ _ _ _ _ (Ci hAh hAd hAu)
 have T' : Turn X'.prog X'.w X'.K tg J fp it tn := by rw [eP, eW, eK]; exact T
 have pfp : ∀ {Q : List (Addr × Obj)}, (∀ p ∈ Q, a < p.1) -> ∀ p ∈ (a, gob) :: Q, p.1 ∉ fp := λ {Q} hQ p hp hb => by
  obtain ⟨o, e⟩ := o4 _ hb
  have l := Nat.lt_of_lt_of_le (Heap.lt_size e) hCs
  rcases List.mem_cons.mp hp with z | z
  .subst z; exact absurd (Nat.lt_trans l hCa) (Nat.lt_irrefl _)
  .exact absurd (Nat.lt_trans (Nat.lt_trans l hCa) (hQ p z)) (Nat.lt_irrefl _)
 have afs : a ∉ X'.fs := λ hz => by
  rw [eFs] at hz
  have l4 : s4.heap.objs.size <= a := Nat.le_trans hCs (Nat.le_of_lt hCa)
  rcases List.mem_cons.mp (I4.stkSub a hz) with z | z
  .exact absurd I4.lt (by rw [<- z]; exact Nat.not_lt.mpr l4)
  .exact I4.nofs l4 z
 have setg : ∀ (s : Shared) (x : GenState), (s.setGen gi x).gens = s.gens.setIfInBounds gi x := λ s x => rfl
 have hSS : ∀ {Q : List (Addr × Obj)} {i : Nat} {H : Hp} {s : Shared}, (∀ p ∈ Q, a < p.1) -> Inv X' ((a, gob) :: Q) (cF own σ capI) H s -> s.heap.get? a = some gob /\ s.gens[gi]? = some .running /\
   ∀ (x : GenState) (h' : Heap) (tk : Nat), x.bare = true -> (∀ b o, s.heap.get? b = some o -> h'.get? b = some o) -> Inv X (pins ++ Q) σ H { s.setGen gi x with heap := h', toks := tk } := λ {Q i H s} hQ I' => by
  have pa := (I'.pin (a, gob) (by simp)).1
  have gr : s.gens[gi]? = some .running := I'.bare.kept gi .running (by rw [eS, <- hgi]; simp)
  refine ⟨pa, gr, λ x h' tk hx hk => ?_⟩
  have ub := I'.base
  rw [eFs, eEx, eS, eH] at ub
  have hok := I'.hok
  rw [eP, eW] at hok
  refine Inv.more ?_ λ p hp => by
   have q := I'.pin p (by simp [hp])
   have l4 : s4.heap.objs.size <= p.1 := Nat.le_trans hCs (Nat.le_of_lt (Nat.lt_trans hCa (hQ p hp)))
   exact ⟨hk _ _ q.1, q.2.1, λ z => absurd I4.lt (by rw [<- z]; exact Nat.not_lt.mpr l4), I4.nofs l4, q.2.2.2.2⟩
  refine I4.call' (ch := fp) (s' := { s.setGen gi x with heap := h', toks := tk }) (by have := I'.os; rw [eS] at this; exact this)
   ⟨λ b o e n hb hx' => hk b o (ub.keep b o e n hb hx'), λ b o e n hb hx' => let ⟨sl, q⟩ := ub.slot b o e n hb hx'; ⟨sl, hk b _ q⟩, ub.free, λ b o e hx' => let ⟨o', q⟩ := ub.there b o e hx'; ⟨o', hk b o' q⟩, ub.tups, ub.frzs, ub.tbls⟩
   (hok.kept hk) ⟨λ y hy => ?_, λ k y e => ?_⟩ λ b hb => ?_
  .have hy' : y ∈ s.gens.setIfInBounds gi x := hy
   rcases Array.mem_or_eq_of_mem_setIfInBounds hy' with z | z
   .exact I'.bare.bare y z
   .rw [z]; exact hx
  .have hlt : k < gi := by
    rw [<- hgi]
    rcases Nat.lt_or_ge k s4.gens.size with z | z
    .exact z
    .rw [Array.getElem?_eq_none z] at e; cases e
   have q := I'.bare.kept k y (by rw [eS]; show (s4.gens.push .running)[k]? = some y; rw [Array.getElem?_push_lt (by rw [hgi]; exact hlt), <- Array.getElem?_eq_getElem (by rw [hgi]; exact hlt)]; exact e)
   show (s.gens.setIfInBounds gi x)[k]? = some y
   rw [Array.getElem?_setIfInBounds_ne (Nat.ne_of_gt hlt)]
   exact q
  .obtain ⟨q0, q1, q2, q3, q4, q5⟩ := f4 b hb
   exact ⟨q3, q1, q4, q5⟩
 refine ⟨a + 1, λ Q i H s => (∀ p ∈ Q, a < p.1) /\ Inv X (pins ++ Q) σ H s /\ (∃ gs, s.gens[gi]? = some gs /\ gs.bare = true /\ (gs = .fresh (genS elt tg iter scope pos it X'.env) ∨ ∃ k l p cl, gs = .suspended k l (jq elt tg iter scope pos it X'.env) p [] cl /\ k (.send .none) = .pure (.again (jq elt tg iter scope pos it X'.env)))) /\
   Inv X' ((a, gob) :: Q) (cF own σ capI) H (s.setGen gi .running) /\ tn i s.heap /\ ∀ b ∈ fp, H b = none, ⟨λ st => st.2.1, ?_, ?_, ?_, ?_, ?_, ?_⟩, ?_, Nat.lt_succ_self _, ?_, λ Q i H s st => ⟨gi, isg (hSS (i := i) st.1 st.2.2.2.1).1⟩⟩
 .
  rintro PP i H s Q E ⟨hQ, I1, ⟨gs, hgs, hb, hgs'⟩, Ib, st, fr⟩ ⟨go, step⟩
  have tr := Dw (A1 := A'.in1) (elt := elt) (tg := tg) (iter := iter) (scope := scope) (pos := pos) T' eA eC eEx ePn eCo eX hg' he' (pfp hQ) Ib st fr go step
  have oa := (hSS (i := i) hQ Ib).1
  rw [eP, eW] at tr
  refine qb hAh I1.nolimit (by have := hr.dp; omega) (isg oa) hgs (Φ := λ e s' => ∃ v k p y H', e = .susp v false [] k (jq elt tg iter scope pos it X'.env) p [] /\ k (.send .none) = .pure (.again (jq elt tg iter scope pos it X'.env)) /\ RelV y v /\ Q y H' /\ Inv X' ((a, gob) :: PP) (cF own σ capI) H' s' /\ tn (i + 1) s'.heap /\ ∀ b ∈ fp, H' b = none) ?_ ?_ ?_
  .rcases hgs' with e | ⟨k, l, p, cl, e, ek⟩
   .subst e
    exact tQ (i := i) T st tr
   .subst e
    show bW _ _ _ (k (.send .none)) [] _ _
    rw [ek]
    exact bW.again rfl tr
  .rintro e s' ⟨v, k, p, y, H', rfl, _⟩
   rfl
  .rintro e s' ⟨v, k, p, y, H', rfl, ek, ry, qy, I', st', fr'⟩
   left
   refine ⟨v, false, [], k, _, p, [], rfl, v, y, H', rfl, ry, qy, ?_⟩
   obtain ⟨oa', gr', mk⟩ := hSS (i := i) hQ I'
   have e1 : ((s'.setGen gi (End.susp v false [] k (jq elt tg iter scope pos it X'.env) p []).genState).setGen gi .running) = s' := by
    have hl : gi < s'.gens.size := by
     rcases Nat.lt_or_ge gi s'.gens.size with z | z
     .exact z
     .rw [Array.getElem?_eq_none z] at gr'; cases gr'
    obtain ⟨hh, gg, dd, tt, oo⟩ := s'
    show (Shared.mk hh ((gg.setIfInBounds gi _).setIfInBounds gi .running) dd tt oo) = _
    congr 1
    apply Array.ext_getElem?
    intro j
    by_cases hj : gi = j
    .subst hj
     have gr'' : gg[gi]? = some .running := gr'
     have hl' : gi < gg.size := hl
     rw [gr'']
     simp [hl']
    .simp [hj]
   refine ⟨hQ, mk _ s'.heap s'.toks rfl λ b o e => e, ⟨_, setGen_self gr', rfl, .inr ⟨k, [], p, _, rfl, ek⟩⟩, by rw [e1]; exact I', st', fr'⟩
 .
  rintro PP i H s E ⟨hQ, I1, ⟨gs, hgs, hb, hgs'⟩, Ib, st, fr⟩ hfin
  have tr := Ec (A1 := A'.in1) (elt := elt) (tg := tg) (iter := iter) (scope := scope) (pos := pos) T' eA eC eEx ePn (pfp hQ) Ib st fr hfin
  have oa := (hSS (i := i) hQ Ib).1
  rw [eP, eW] at tr
  refine qb hAh I1.nolimit (by have := hr.dp; omega) (isg oa) hgs (Φ := λ e s' => e = .ret (.ok .next) /\ Inv X' ((a, gob) :: PP) (cF own σ capI) H s') ?_ ?_ ?_
  .rcases hgs' with e | ⟨k, l, p, cl, e, ek⟩
   .subst e
    exact tQ (i := i) T st tr
   .subst e
    show bW _ _ _ (k (.send .none)) [] _ _
    rw [ek]
    exact bW.again rfl tr
  .rintro e s' ⟨rfl, _⟩
   rfl
  .rintro e s' ⟨rfl, I'⟩
   right
   obtain ⟨oa', gr', mk⟩ := hSS (i := i) hQ I'
   exact ⟨rfl, λ h' hk => ⟨rfl, mk .finished h' s'.toks rfl hk⟩⟩
 .
  rintro PP i H s h' tk ⟨hQ, I1, hgs, Ib, st, fr⟩ hk
  exact ⟨hQ, I1.kept hk, hgs, Ib.kept (s := s.setGen gi .running) hk, T.keep _ _ _ st λ b _ o e => hk b o e, fr⟩
 .
  rintro PP i H s D o ⟨hQ, I1, hgs, Ib, st, fr⟩ hD ho hn hcell
  have hDa : a < D := hD
  have hD4 : s4.heap.objs.size <= D := Nat.le_of_lt (Nat.lt_of_le_of_lt hCs (Nat.lt_trans hCa hDa))
  refine ⟨λ p hp => ?_, ?_, hgs, ?_, st, fr⟩
  .rcases List.mem_cons.mp hp with z | z
   .subst z; exact hDa
   .exact hQ p z
  .refine I1.pins_of λ p hp => ?_
   rcases List.mem_append.mp hp with z | z
   .exact I1.pin p (by simp [z])
   .rcases List.mem_cons.mp z with z | z
    .subst z
     exact ⟨ho, hn, λ z => absurd I4.lt (by rw [<- z]; exact Nat.not_lt.mpr hD4), I4.nofs hD4, hcell⟩
    .exact I1.pin p (by simp [z])
  .refine Ib.pins_of λ p hp => ?_
   rcases List.mem_cons.mp hp with z | z
   .exact Ib.pin p (by simp [z])
   .rcases List.mem_cons.mp z with z | z
    .subst z
     refine ⟨ho, hn, by rw [eL]; exact Nat.ne_of_gt (Nat.lt_trans hCa hDa), λ hz => ?_, hcell⟩
     rw [eFs] at hz
     rcases List.mem_cons.mp (I4.stkSub D hz) with z | z
     .exact absurd I4.lt (by rw [<- z]; exact Nat.not_lt.mpr hD4)
     .exact I4.nofs hD4 z
    .exact Ib.pin p (by simp [z])
 .
  rintro p PP i H s ⟨hQ, I1, hgs, Ib, st, fr⟩
  exact ⟨λ q hq => hQ q (List.mem_cons_of_mem _ hq), I1.pins_of λ q hq => I1.pin q (by rcases List.mem_append.mp hq with z | z <;> simp [z]), hgs, Ib.pins_of λ q hq => Ib.pin q (by rcases List.mem_cons.mp hq with z | z <;> simp [z]), st, fr⟩
 .
  rintro PP i H s h' tk D ⟨hQ, I1, hgs, Ib, st, fr⟩ hD hn hPD hk
  have hDa : a < D := hD
  have hDC : C < D := Nat.lt_trans hCa hDa
  have hD4 : s4.heap.objs.size <= D := Nat.le_of_lt (Nat.lt_of_le_of_lt hCs hDC)
  have l4 : ∀ b, b < s4.heap.objs.size -> b ≠ D := λ b hb => Nat.ne_of_lt (Nat.lt_of_lt_of_le hb hD4)
  have cl4 : ∀ x c, X.env.cells.lookup x = some c -> c ≠ D := λ x c e => let ⟨v, q⟩ := I4.cell x c e; l4 c q.lt
  refine ⟨hQ, I1.turned hk hn (Ne.symm (l4 _ I4.lt)) (.inr (Nat.le_trans I4.sz hD4)) cl4 (λ p hp => ?_), hgs, Ib.turned (s := s.setGen gi .running) hk hn (by rw [eL]; exact Nat.ne_of_gt hDC) (.inr (by rw [eS]; exact hD4)) (λ x c e => ?_) (λ p hp => ?_), T.keep _ _ _ st λ b hb o e => hk b o ?_ e, fr⟩
  .rcases List.mem_append.mp hp with z | z
   .exact l4 _ (Heap.lt_size (I4.pin p (by simp [z])).1)
   .rcases List.mem_append.mp z with z | z
    .exact l4 _ (Heap.lt_size (I4.pin p (by simp [z])).1)
    .exact hPD p z
  .obtain ⟨v, q⟩ := Ib.cell x c e
   have e' : (bM X.env scope.names []).lookup x = some c := by rw [<- hX'] at e; exact e
   exact cl4 x c ((jO (PySem.mem_of_lookup e')).elim (λ z => by simp at z) id)
  .rw [ePn, List.nil_append] at hp
   rcases List.mem_cons.mp hp with z | z
   .subst z; exact Nat.ne_of_lt hDa
   .exact hPD p z
  .obtain ⟨o', e'⟩ := o4 b hb
   exact l4 b (Heap.lt_size e')
 .
  have Ib0 : Inv X' [] (cF own σ capI) H4 { s4 with heap := h6, toks := s4.toks + 1 + 1 + 1, gens := s4.gens.push .running } := by
   rw [<- hX']
   refine I4.gen B hown hnc f4 o4 k46 hCs (hn5.at' λ o e => k6 _ o e) ?_ hAh
   rw [hcenv]
   exact xq hAf
  refine ⟨λ p hp => absurd hp (by simp), by rw [List.append_nil]; exact (I4.grown k46 gk6 : Inv X pins σ H4 _), ⟨_, gi6, rfl, .inl (by rw [eE])⟩, ?_, T.keep _ _ _ st4 λ b _ o e => k46 b o e, hfr4⟩
  have e1 : (Shared.setGen { s4 with gens := s4.gens.push (.fresh (genS elt tg iter scope pos it cenv)), toks := s4.toks + 1 + 1 + 1, heap := h6 } gi .running) = { s4 with heap := h6, toks := s4.toks + 1 + 1 + 1, gens := s4.gens.push .running } := by
   show Shared.mk _ ((s4.gens.push _).setIfInBounds gi .running) _ _ _ = _
   congr 1
   rw [<- hgi]
   apply Array.ext_getElem?
   intro j
   by_cases hj : s4.gens.size = j
   .subst hj; simp
   .simp [hj, Array.getElem?_push, Ne.symm hj]
  rw [e1]
  exact Ib0.pins_of λ p hp => by
   obtain rfl : p = (a, gob) := by simpa using hp
   refine ⟨oa6, ?_, by rw [eL]; exact Nat.ne_of_gt hCa, afs, λ v z => ?_⟩
   .exact I4.hok.fresh (Nat.le_trans hCs (Nat.le_of_lt hCa))
   .rw [<- hgo] at z; cases z
 .show a + 1 <= h6.objs.size
  rw [<- hh6, Heap.size_push, ha]
  exact Nat.le_refl _
end
end L2
namespace L3
open PySem PySem.Spec PyProof.Rows L2
inductive D where
 | non | bl (b : Bool) | int (i : Int) | str (x : Str) | tup (ds : List D) | lst (ds : List D) | ro (ds : List D) | dic (kvs : List (Key × D)) | cell (n : Nat)
abbrev Mu := List (Option (List D))
abbrev En := List (Option D)
mutual
def aV (K : PySem.W.Frag) (F : Hp) (ad : List Addr) : D -> V -> Prop
 | .non, v => v = .non
 | .bl b, v => v = .bl b
 | .int i, v => v = .int i
 | .str x, v => v = .str x
 | .tup ds, v => ∃ a xs, v = .ref a /\ SqT K F a xs /\ aA K F ad ds xs
 | .lst ds, v => ∃ a xs, v = .ref a /\ F a = some (.lst xs) /\ aA K F ad ds xs
 | .ro ds, v => ∃ a xs, v = .ref a /\ SqL K F a xs /\ aA K F ad ds xs
 | .dic kvs, v => ∃ a ps, v = .ref a /\ F a = some (.dK ps) /\ iJ K F ad kvs ps
 | .cell n, v => ∃ a, v = .ref a /\ ad[n]? = some a
def aA (K : PySem.W.Frag) (F : Hp) (ad : List Addr) : List D -> List V -> Prop
 | [], vs => vs = []
 | d :: ds, vs => ∃ u us, vs = u :: us /\ aV K F ad d u /\ aA K F ad ds us
def iJ (K : PySem.W.Frag) (F : Hp) (ad : List Addr) : List (Key × D) -> List (Key × V) -> Prop
 | [], vs => vs = []
 | p :: ds, vs => ∃ u us, vs = u :: us /\ (u.1 = p.1 /\ aV K F ad p.2 u.2) /\ iJ K F ad ds us
end
def mF (a b : List Addr) : Prop := ∀ (i : Nat) x, a[i]? = some x -> b[i]? = some x
theorem mF.refl (a : List Addr) : mF a a := λ _ _ e => e
theorem mF.trans {a b c : List Addr} (x : mF a b) (y : mF b c) : mF a c := λ i z e => y i z (x i z e)
theorem SqT.mono {K : PySem.W.Frag} {F F' : Hp} {a : Addr} {xs : List V} (s : kO F F') (h : SqT K F a xs) : SqT K F' a xs := by
 rcases h with (h | ⟨o, h⟩) | h
 .exact .inl (.inl (s _ _ h))
 .exact .inl (.inr ⟨o, s _ _ h⟩)
 .exact .inr h
theorem SqL.mono {K : PySem.W.Frag} {F F' : Hp} {a : Addr} {xs : List V} (s : kO F F') (h : SqL K F a xs) : SqL K F' a xs := by
 rcases h with (h | ⟨o, h⟩) | h
 .exact .inl (.inl (s _ _ h))
 .exact .inl (.inr ⟨o, s _ _ h⟩)
 .exact .inr h
section
variable {K : PySem.W.Frag} {F F' : Hp} {ad ad' : List Addr}
mutual
theorem aV.mono (s : kO F F') (l : mF ad ad') : ∀ (d : D) (v : V), aV K F ad d v -> aV K F' ad' d v
 | .non, v, h => by unfold aV at h ⊢; exact h
 | .bl _, v, h => by unfold aV at h ⊢; exact h
 | .int _, v, h => by unfold aV at h ⊢; exact h
 | .str _, v, h => by unfold aV at h ⊢; exact h
 | .tup ds, v, h => by
  unfold aV at h ⊢
  obtain ⟨a, xs, e, q, r⟩ := h
  exact ⟨a, xs, e, SqT.mono s q, aA.mono s l ds xs r⟩
 | .lst ds, v, h => by
  unfold aV at h ⊢
  obtain ⟨a, xs, e, q, r⟩ := h
  exact ⟨a, xs, e, s _ _ q, aA.mono s l ds xs r⟩
 | .ro ds, v, h => by
  unfold aV at h ⊢
  obtain ⟨a, xs, e, q, r⟩ := h
  exact ⟨a, xs, e, SqL.mono s q, aA.mono s l ds xs r⟩
 | .dic kvs, v, h => by
  unfold aV at h ⊢
  obtain ⟨a, ps, e, q, r⟩ := h
  exact ⟨a, ps, e, s _ _ q, iJ.mono s l kvs ps r⟩
 | .cell n, v, h => by
  unfold aV at h ⊢
  obtain ⟨a, e, q⟩ := h
  exact ⟨a, e, l _ _ q⟩
theorem aA.mono (s : kO F F') (l : mF ad ad') : ∀ (ds : List D) (vs : List V), aA K F ad ds vs -> aA K F' ad' ds vs
 | [], vs, h => by unfold aA at h ⊢; exact h
 | d :: ds, vs, h => by
  unfold aA at h ⊢
  obtain ⟨u, us, e, p, r⟩ := h
  exact ⟨u, us, e, aV.mono s l d u p, aA.mono s l ds us r⟩
theorem iJ.mono (s : kO F F') (l : mF ad ad') : ∀ (ds : List (Key × D)) (vs : List (Key × V)), iJ K F ad ds vs -> iJ K F' ad' ds vs
 | [], vs, h => by unfold iJ at h ⊢; exact h
 | p :: ds, vs, h => by
  unfold iJ at h ⊢
  obtain ⟨u, us, e, ⟨p1, p2⟩, r⟩ := h
  exact ⟨u, us, e, ⟨p1, aV.mono s l p.2 u.2 p2⟩, iJ.mono s l ds us r⟩
end
theorem aA.nil : aA K F ad [] [] := by unfold aA; rfl
theorem aA.cons {d : D} {v : V} {ds : List D} {vs : List V} (h : aV K F ad d v) (r : aA K F ad ds vs) : aA K F ad (d :: ds) (v :: vs) := by unfold aA; exact ⟨v, vs, rfl, h, r⟩
theorem aA.length : ∀ {ds : List D} {vs : List V}, aA K F ad ds vs -> ds.length = vs.length
 | [], vs, h => by unfold aA at h; subst h; rfl
 | d :: ds, vs, h => by
  unfold aA at h
  obtain ⟨u, us, rfl, _, r⟩ := h
  rw [List.length_cons, List.length_cons, aA.length r]
theorem aA.get : ∀ {ds : List D} {vs : List V} {i : Nat} {d : D}, aA K F ad ds vs -> ds[i]? = some d -> ∃ v, vs[i]? = some v /\ aV K F ad d v
 | [], _, _, _, _, e => by simp at e
 | d :: ds, vs, 0, x, h, e => by
  unfold aA at h
  obtain ⟨u, us, rfl, p, r⟩ := h
  simp at e; subst e
  exact ⟨u, rfl, p⟩
 | d :: ds, vs, i + 1, x, h, e => by
  unfold aA at h
  obtain ⟨u, us, rfl, p, r⟩ := h
  obtain ⟨v, e1, e2⟩ := aA.get (i := i) r (by simpa using e)
  exact ⟨v, by simpa using e1, e2⟩
theorem aA.get' : ∀ {ds : List D} {vs : List V} {i : Nat} {v : V}, aA K F ad ds vs -> vs[i]? = some v -> ∃ d, ds[i]? = some d /\ aV K F ad d v
 | [], vs, i, v, h, e => by unfold aA at h; subst h; simp at e
 | d :: ds, vs, 0, x, h, e => by
  unfold aA at h
  obtain ⟨u, us, rfl, p, r⟩ := h
  simp at e; subst e
  exact ⟨d, rfl, p⟩
 | d :: ds, vs, i + 1, x, h, e => by
  unfold aA at h
  obtain ⟨u, us, rfl, p, r⟩ := h
  obtain ⟨y, e1, e2⟩ := aA.get' (i := i) r (by simpa using e)
  exact ⟨y, by simpa using e1, e2⟩
theorem aA.append : ∀ {ds es : List D} {vs us : List V}, aA K F ad ds vs -> aA K F ad es us -> aA K F ad (ds ++ es) (vs ++ us)
 | [], es, vs, us, h, r => by unfold aA at h; subst h; exact r
 | d :: ds, es, vs, us, h, r => by
  unfold aA at h
  obtain ⟨u, ws, rfl, p, q⟩ := h
  exact aA.cons p (aA.append q r)
theorem aA.drop : ∀ {ds : List D} {vs : List V} (n : Nat), aA K F ad ds vs -> aA K F ad (ds.drop n) (vs.drop n)
 | ds, vs, 0, h => h
 | [], vs, n + 1, h => by unfold aA at h; subst h; exact aA.nil
 | d :: ds, vs, n + 1, h => by
  unfold aA at h
  obtain ⟨u, ws, rfl, p, q⟩ := h
  exact aA.drop n q
theorem aA.take : ∀ {ds : List D} {vs : List V} (n : Nat), aA K F ad ds vs -> aA K F ad (ds.take n) (vs.take n)
 | ds, vs, 0, h => aA.nil
 | [], vs, n + 1, h => by unfold aA at h; subst h; exact aA.nil
 | d :: ds, vs, n + 1, h => by
  unfold aA at h
  obtain ⟨u, ws, rfl, p, q⟩ := h
  exact aA.cons p (aA.take n q)
theorem aA.reverse : ∀ {ds : List D} {vs : List V}, aA K F ad ds vs -> aA K F ad ds.reverse vs.reverse
 | [], vs, h => by unfold aA at h; subst h; exact aA.nil
 | d :: ds, vs, h => by
  unfold aA at h
  obtain ⟨u, ws, rfl, p, q⟩ := h
  rw [List.reverse_cons, List.reverse_cons]
  exact aA.append (aA.reverse q) (aA.cons p aA.nil)
theorem aA.two {d e : D} {vs : List V} (h : aA K F ad [d, e] vs) : ∃ u v, vs = [u, v] /\ aV K F ad d u /\ aV K F ad e v := by
 unfold aA at h
 obtain ⟨u, us, rfl, p, h⟩ := h
 unfold aA at h
 obtain ⟨v, ws, rfl, q, h⟩ := h
 unfold aA at h
 subst h
 exact ⟨u, v, rfl, p, q⟩
theorem aA.one {d : D} {vs : List V} (h : aA K F ad [d] vs) : ∃ u, vs = [u] /\ aV K F ad d u := by
 unfold aA at h
 obtain ⟨u, us, rfl, p, h⟩ := h
 unfold aA at h
 subst h
 exact ⟨u, rfl, p⟩
theorem aA.zero {vs : List V} (h : aA K F ad [] vs) : vs = [] := by unfold aA at h; exact h
end
structure Wd where
 H : Hp
 ad : List Addr
 mu : Mu
def lA (ad : List Addr) (mu : Mu) (b : Addr) : Prop := ∃ (i : Nat) (ds : List D), ad[i]? = some b /\ mu[i]? = some (some ds)
open Classical in
noncomputable def Wd.fz (tb : List Addr) (W : Wd) : Hp := λ b => if lA W.ad W.mu b ∨ b ∈ tb then none else W.H b
abbrev Den (K : PySem.W.Frag) (tb : List Addr) (W : Wd) : D -> V -> Prop := aV K (W.fz tb) W.ad
abbrev cu (K : PySem.W.Frag) (tb : List Addr) (W : Wd) : List D -> List V -> Prop := aA K (W.fz tb) W.ad
structure WOk (K : PySem.W.Frag) (tb : List Addr) (W : Wd) : Prop where
 len : W.ad.length = W.mu.length
 cont : ∀ (i : Nat) a ds, W.ad[i]? = some a -> W.mu[i]? = some (some ds) -> ∃ xs, W.H a = some (.lst xs) /\ cu K tb W ds xs
 inj : ∀ (i j : Nat) a ds es, W.ad[i]? = some a -> W.ad[j]? = some a -> W.mu[i]? = some (some ds) -> W.mu[j]? = some (some es) -> i = j
 tab : ∀ P ∈ tb, ∃ ps, W.H P = some (.tbl ps) /\ TOk W.H ps
structure Le (tb : List Addr) (W W' : Wd) : Prop where
 same : kO (W.fz tb) (W'.fz tb)
 ad : mF W.ad W'.ad
theorem Le.refl {tb : List Addr} (W : Wd) : Le tb W W := ⟨kO.refl _, mF.refl _⟩
theorem Le.trans {tb : List Addr} {W W1 W2 : Wd} (a : Le tb W W1) (b : Le tb W1 W2) : Le tb W W2 := ⟨a.same.trans b.same, a.ad.trans b.ad⟩
section
variable {K : PySem.W.Frag} {tb : List Addr} {W W' : Wd} {d : D} {v : V} {ds : List D} {vs : List V}
theorem Den.mono' (h : Den K tb W d v) (l : Le tb W W') : Den K tb W' d v := aV.mono l.same l.ad d v h
theorem cu.mono' (h : cu K tb W ds vs) (l : Le tb W W') : cu K tb W' ds vs := aA.mono l.same l.ad ds vs h
theorem cX {b : Addr} {o : HO} (h : W.fz tb b = some o) : W.H b = some o /\ ¬ lA W.ad W.mu b /\ b ∉ tb := by
 unfold Wd.fz at h
 split at h
 .cases h
 .rename_i q
  exact ⟨h, λ z => q (.inl z), λ z => q (.inr z)⟩
theorem mO {b : Addr} (h1 : ¬ lA W.ad W.mu b) (h2 : b ∉ tb) : W.fz tb b = W.H b := by
 unfold Wd.fz
 rw [if_neg]
 rintro (z | z)
 .exact h1 z
 .exact h2 z
theorem SqT.fz {a : Addr} {xs : List V} (h : SqT K (W.fz tb) a xs) : SqT K W.H a xs := by
 rcases h with (h | ⟨o, h⟩) | h
 .exact .inl (.inl (cX h).1)
 .exact .inl (.inr ⟨o, (cX h).1⟩)
 .exact .inr h
theorem SqL.fz {a : Addr} {xs : List V} (h : SqL K (W.fz tb) a xs) : SqL K W.H a xs := by
 rcases h with (h | ⟨o, h⟩) | h
 .exact .inl (.inl (cX h).1)
 .exact .inl (.inr ⟨o, (cX h).1⟩)
 .exact .inr h
theorem WOk.live (ok : WOk K tb W) {b : Addr} (h : lA W.ad W.mu b) : ∃ xs, W.H b = some (.lst xs) := by
 obtain ⟨i, ds, e1, e2⟩ := h
 obtain ⟨xs, e, _⟩ := ok.cont i b ds e1 e2
 exact ⟨xs, e⟩
theorem WOk.alloc (ok : WOk K tb W) {p : Addr} {o : HO} (hp : W.H p = none) : WOk K tb ⟨upd W.H p o, W.ad, W.mu⟩ /\ Le tb W ⟨upd W.H p o, W.ad, W.mu⟩ /\ (Wd.fz tb ⟨upd W.H p o, W.ad, W.mu⟩) p = some o := by
 have nl : ¬ lA W.ad W.mu p := λ z => by obtain ⟨xs, e⟩ := ok.live z; rw [hp] at e; cases e
 have nt : p ∉ tb := λ z => by obtain ⟨ps, e, _⟩ := ok.tab p z; rw [hp] at e; cases e
 have le : Le tb W ⟨upd W.H p o, W.ad, W.mu⟩ := ⟨λ b u e => by
  obtain ⟨e1, e2, e3⟩ := cX e
  have hb : b ≠ p := bZ e1 hp
  have q := mO (tb := tb) (W := ⟨upd W.H p o, W.ad, W.mu⟩) e2 e3
  rw [q]
  show upd W.H p o b = some u
  rw [aM hb]; exact e1, mF.refl _⟩
 refine ⟨⟨ok.len, λ i a ds e1 e2 => ?_, ok.inj, λ P hP => ?_⟩, le, ?_⟩
 .obtain ⟨xs, e, r⟩ := ok.cont i a ds e1 e2
  refine ⟨xs, ?_, cu.mono' r le⟩
  show upd W.H p o a = _
  rw [aM (bZ e hp)]; exact e
 .obtain ⟨ps, e, r⟩ := ok.tab P hP
  refine ⟨ps, ?_, r.mono λ c u q => (aM (bZ q hp)).trans q⟩
  show upd W.H p o P = _
  rw [aM (bZ e hp)]; exact e
 .have q := mO (tb := tb) (W := ⟨upd W.H p o, W.ad, W.mu⟩) nl nt
  rw [q]; exact dq
theorem WOk.new (ok : WOk K tb W) {p : Addr} (hp : W.H p = none) (r : cu K tb W ds vs) :
  WOk K tb ⟨upd W.H p (.lst vs), W.ad ++ [p], W.mu ++ [some ds]⟩ /\ Le tb W ⟨upd W.H p (.lst vs), W.ad ++ [p], W.mu ++ [some ds]⟩ /\ Den K tb ⟨upd W.H p (.lst vs), W.ad ++ [p], W.mu ++ [some ds]⟩ (.cell W.mu.length) (.ref p) := by
 have adl : mF W.ad (W.ad ++ [p]) := λ i x e => by
  rw [List.getElem?_append_left (List.getElem?_eq_some_iff.mp e).1]; exact e
 have lv : ∀ b, lA (W.ad ++ [p]) (W.mu ++ [some ds]) b -> lA W.ad W.mu b ∨ b = p := λ b zq1 => by
  obtain ⟨i, es, e1, e2⟩ := zq1
  by_cases hi : i < W.ad.length
  .rw [List.getElem?_append_left hi] at e1
   rw [List.getElem?_append_left (by rw [<- ok.len]; exact hi)] at e2
   exact .inl ⟨i, es, e1, e2⟩
  .rw [List.getElem?_append_right (Nat.le_of_not_lt hi)] at e1
   right
   have : (i - W.ad.length) = 0 := by
    have := (List.getElem?_eq_some_iff.mp e1).1
    simp at this
    omega
   rw [this] at e1
   simpa using e1.symm
 have le : Le tb W ⟨upd W.H p (.lst vs), W.ad ++ [p], W.mu ++ [some ds]⟩ := ⟨λ b u e => by
  obtain ⟨e1, e2, e3⟩ := cX e
  have hb : b ≠ p := bZ e1 hp
  have q := mO (tb := tb) (W := ⟨upd W.H p (.lst vs), W.ad ++ [p], W.mu ++ [some ds]⟩) (b := b) (λ z => (lv b z).elim e2 hb) e3
  rw [q]
  show upd W.H p (.lst vs) b = some u
  rw [aM hb]; exact e1, adl⟩
 refine ⟨⟨by simp [ok.len], λ i a es e1 e2 => ?_, λ i j a es fs e1 e2 e3 e4 => ?_, λ P hP => ?_⟩, le, ?_⟩
 .by_cases hi : i < W.ad.length
  .have e1' : W.ad[i]? = some a := by rw [<- List.getElem?_append_left (l₂ := [p]) hi]; exact e1
   have e2' : W.mu[i]? = some (some es) := by rw [<- List.getElem?_append_left (l₂ := [some ds]) (by rw [<- ok.len]; exact hi)]; exact e2
   obtain ⟨xs, e, q⟩ := ok.cont i a es e1' e2'
   refine ⟨xs, ?_, cu.mono' q le⟩
   show upd W.H p (.lst vs) a = _
   rw [aM (bZ e hp)]; exact e
  .have h0 : i = W.ad.length := by
    have h1 : i < (W.ad ++ [p]).length := (List.getElem?_eq_some_iff.mp e1).1
    simp at h1
    omega
   have e1' : (W.ad ++ [p])[i]? = some a := e1
   have e2' : (W.mu ++ [some ds])[i]? = some (some es) := e2
   rw [h0] at e1' e2'
   rw [ok.len] at e2'
   simp at e1' e2'
   subst e1' e2'
   exact ⟨vs, dq, cu.mono' r le⟩
 .have old : ∀ (k : Nat) es, (W.ad ++ [p])[k]? = some a -> (W.mu ++ [some ds])[k]? = some (some es) -> (k < W.ad.length /\ W.ad[k]? = some a /\ W.mu[k]? = some (some es)) ∨ (k = W.ad.length /\ a = p) := λ k es q1 q2 => by
   by_cases hk : k < W.ad.length
   .left
    refine ⟨hk, ?_, ?_⟩
    .rw [<- List.getElem?_append_left (l₂ := [p]) hk]; exact q1
    .rw [<- List.getElem?_append_left (l₂ := [some ds]) (by rw [<- ok.len]; exact hk)]; exact q2
   .right
    have h1 : k < (W.ad ++ [p]).length := (List.getElem?_eq_some_iff.mp q1).1
    simp at h1
    have h0 : k = W.ad.length := by omega
    subst h0
    simp at q1
    exact ⟨rfl, q1.symm⟩
  rcases old i es e1 e3 with ⟨_, a1, a2⟩ | ⟨a1, a2⟩ <;> rcases old j fs e2 e4 with ⟨_, b1, b2⟩ | ⟨b1, b2⟩
  .exact ok.inj i j a es fs a1 b1 a2 b2
  .obtain ⟨xs, e, _⟩ := ok.cont i a es a1 a2
   rw [b2, hp] at e; cases e
  .obtain ⟨xs, e, _⟩ := ok.cont j a fs b1 b2
   rw [a2, hp] at e; cases e
  .rw [a1, b1]
 .obtain ⟨ps, e, q⟩ := ok.tab P hP
  refine ⟨ps, ?_, q.mono λ c u q => (aM (bZ q hp)).trans q⟩
  show upd W.H p (.lst vs) P = _
  rw [aM (bZ e hp)]; exact e
 .show aV K _ _ (.cell W.mu.length) (.ref p)
  unfold aV
  refine ⟨p, rfl, ?_⟩
  rw [<- ok.len]
  simp
theorem WOk.write (ok : WOk K tb W) {i : Nat} {a : Addr} {es : List D} (e1 : W.ad[i]? = some a) (e2 : W.mu[i]? = some (some es)) (r : cu K tb W ds vs) :
  WOk K tb ⟨upd W.H a (.lst vs), W.ad, W.mu.set i (some ds)⟩ /\ Le tb W ⟨upd W.H a (.lst vs), W.ad, W.mu.set i (some ds)⟩ := by
 have hi : i < W.mu.length := (List.getElem?_eq_some_iff.mp e2).1
 have lv : ∀ b, lA W.ad (W.mu.set i (some ds)) b -> lA W.ad W.mu b := λ b zq2 => by
  obtain ⟨j, fs, q1, q2⟩ := zq2
  by_cases hj : i = j
  .subst hj; exact ⟨i, es, q1, e2⟩
  .rw [List.getElem?_set_ne hj] at q2; exact ⟨j, fs, q1, q2⟩
 have la : lA W.ad W.mu a := ⟨i, es, e1, e2⟩
 have le : Le tb W ⟨upd W.H a (.lst vs), W.ad, W.mu.set i (some ds)⟩ := ⟨λ b u e => by
  obtain ⟨p1, p2, p3⟩ := cX e
  have hb : b ≠ a := λ z => p2 (z ▸ la)
  have q := mO (tb := tb) (W := ⟨upd W.H a (.lst vs), W.ad, W.mu.set i (some ds)⟩) (b := b) (λ z => p2 (lv b z)) p3
  rw [q]
  show upd W.H a (.lst vs) b = some u
  rw [aM hb]; exact p1, mF.refl _⟩
 refine ⟨⟨by show W.ad.length = (W.mu.set i (some ds)).length; rw [List.length_set]; exact ok.len, λ j b fs q1 q2 => ?_, λ j k b fs gs q1 q2 q3 q4 => ?_, λ P hP => ?_⟩, le⟩
 .have q2' : (W.mu.set i (some ds))[j]? = some (some fs) := q2
  by_cases hj : i = j
  .subst hj
   have q1' : W.ad[i]? = some b := q1
   rw [e1] at q1'; cases q1'
   rw [List.getElem?_set_self hi] at q2'
   cases q2'
   exact ⟨vs, dq, cu.mono' r le⟩
  .rw [List.getElem?_set_ne hj] at q2'
   obtain ⟨xs, e, q⟩ := ok.cont j b fs q1 q2'
   refine ⟨xs, ?_, cu.mono' q le⟩
   show upd W.H a (.lst vs) b = _
   have hba : b ≠ a := by
    intro z
    subst z
    exact hj (ok.inj i j b es fs e1 q1 e2 q2')
   rw [aM hba]; exact e
 .have up : ∀ (j : Nat) fs, (W.mu.set i (some ds))[j]? = some (some fs) -> ∃ gs, W.mu[j]? = some (some gs) := λ j fs q => by
   by_cases hj : i = j
   .subst hj; exact ⟨es, e2⟩
   .rw [List.getElem?_set_ne hj] at q; exact ⟨fs, q⟩
  obtain ⟨fs', q3'⟩ := up j fs q3
  obtain ⟨gs', q4'⟩ := up k gs q4
  exact ok.inj j k b fs' gs' q1 q2 q3' q4'
 .obtain ⟨ps, e, q⟩ := ok.tab P hP
  obtain ⟨xs, ea, _⟩ := ok.cont i a es e1 e2
  refine ⟨ps, ?_, q.mono λ c u q => (aM (xu q ea (by intro z; cases z))).trans q⟩
  show upd W.H a (.lst vs) P = _
  rw [aM (xu e ea (by intro z; cases z))]; exact e
theorem WOk.freeze (ok : WOk K tb W) {i : Nat} {a : Addr} {es : List D} (e1 : W.ad[i]? = some a) (e2 : W.mu[i]? = some (some es)) :
  WOk K tb ⟨W.H, W.ad, W.mu.set i none⟩ /\ Le tb W ⟨W.H, W.ad, W.mu.set i none⟩ /\ Den K tb ⟨W.H, W.ad, W.mu.set i none⟩ (.lst es) (.ref a) := by
 have hi : i < W.mu.length := (List.getElem?_eq_some_iff.mp e2).1
 have up : ∀ (j : Nat) fs, (W.mu.set i none)[j]? = some (some fs) -> i ≠ j /\ W.mu[j]? = some (some fs) := λ j fs q => by
  by_cases hj : i = j
  .subst hj; rw [List.getElem?_set_self hi] at q; cases q
  .rw [List.getElem?_set_ne hj] at q; exact ⟨hj, q⟩
 have lv : ∀ b, lA W.ad (W.mu.set i none) b -> lA W.ad W.mu b := λ b ⟨j, fs, q1, q2⟩ => ⟨j, fs, q1, (up j fs q2).2⟩
 have le : Le tb W ⟨W.H, W.ad, W.mu.set i none⟩ := ⟨λ b u e => by
  obtain ⟨p1, p2, p3⟩ := cX e
  have q := mO (tb := tb) (W := ⟨W.H, W.ad, W.mu.set i none⟩) (b := b) (λ z => p2 (lv b z)) p3
  rw [q]; exact p1, mF.refl _⟩
 obtain ⟨xs, ea, ra⟩ := ok.cont i a es e1 e2
 refine ⟨⟨by show W.ad.length = (W.mu.set i none).length; rw [List.length_set]; exact ok.len, λ j b fs q1 q2 => ?_, λ j k b fs gs q1 q2 q3 q4 => ?_, ok.tab⟩, le, ?_⟩
 .obtain ⟨xs, e, q⟩ := ok.cont j b fs q1 (up j fs q2).2
  exact ⟨xs, e, cu.mono' q le⟩
 .exact ok.inj j k b fs gs q1 q2 (up j fs q3).2 (up k gs q4).2
 .show aV K _ _ (.lst es) (.ref a)
  unfold aV
  refine ⟨a, xs, rfl, ?_, cu.mono' ra le⟩
  have nl : ¬ lA W.ad (W.mu.set i none) a := λ zq3 => by
   obtain ⟨j, fs, q1, q2⟩ := zq3
   obtain ⟨hj, q⟩ := up j fs q2
   exact hj (ok.inj i j a es fs e1 q1 e2 q)
  have nt : a ∉ tb := λ z => by
   obtain ⟨ps, e, _⟩ := ok.tab a z
   rw [ea] at e; cases e
  have q := mO (tb := tb) (W := ⟨W.H, W.ad, W.mu.set i none⟩) nl nt
  rw [q]; exact ea
theorem WOk.tbl (ok : WOk K tb W) {P : Addr} {lo : Nat} {ps ps' : Array Value} {H' : Hp} (hP : P ∈ tb) (e : W.H P = some (.tbl ps)) (hG : zB lo P ps ps' W.H H') :
  WOk K tb ⟨H', W.ad, W.mu⟩ /\ Le tb W ⟨H', W.ad, W.mu⟩ := by
 have le : Le tb W ⟨H', W.ad, W.mu⟩ := ⟨λ b u q => by
  obtain ⟨p1, p2, p3⟩ := cX q
  have q := mO (tb := tb) (W := ⟨H', W.ad, W.mu⟩) (b := b) p2 p3
  rw [q]
  exact hG.keep b u (λ z => p3 (z ▸ hP)) p1, mF.refl _⟩
 refine ⟨⟨ok.len, λ i a ds e1 e2 => ?_, ok.inj, λ Q hQ => ?_⟩, le⟩
 .obtain ⟨xs, ea, r⟩ := ok.cont i a ds e1 e2
  exact ⟨xs, hG.keep a _ (xu ea e (by intro z; cases z)) ea, cu.mono' r le⟩
 .by_cases hq : Q = P
  .subst hq; exact ⟨ps', hG.tab, hG.ok⟩
  .obtain ⟨qs, e', r⟩ := ok.tab Q hQ
   exact ⟨qs, hG.keep Q _ hq e', r.mono λ c u q => hG.keep c _ (xu q e (by intro z; cases z)) q⟩
end
abbrev SV := L2.St
abbrev EF := En -> Mu -> Option (D × Mu)
abbrev AF := En -> Mu -> Option (List D × Mu)
abbrev TF := En -> Mu -> Option (Bool × Mu)
inductive Fl where
 | nx | bk | ct | rt (d : D)
abbrev SF := En -> Mu -> Option (Fl × En × Mu)
def iT (K : PySem.W.Frag) (tb : List Addr) (W : Wd) (δ : En) (σ : SV) : Prop := δ.length = σ.length /\ ∀ (i : Nat) d, δ[i]? = some (some d) -> ∃ v, σ[i]? = some (some v) /\ Den K tb W d v
section
variable {K : PySem.W.Frag} {tb : List Addr} {W W' : Wd} {δ : En} {σ : SV}
theorem iT.mono' (h : iT K tb W δ σ) (l : Le tb W W') : iT K tb W' δ σ := ⟨h.1, λ i d e => let ⟨v, e1, e2⟩ := h.2 i d e; ⟨v, e1, Den.mono' e2 l⟩⟩
theorem iT.set (h : iT K tb W δ σ) {i : Nat} {d : D} {v : V} (r : Den K tb W d v) : iT K tb W (δ.set i (some d)) (σ.set i (some v)) := by
 refine ⟨by rw [List.length_set, List.length_set]; exact h.1, λ j e q => ?_⟩
 by_cases hj : i = j
 .subst hj
  have hi : i < δ.length := by
   have := (List.getElem?_eq_some_iff.mp q).1
   rwa [List.length_set] at this
  rw [List.getElem?_set_self hi] at q
  cases q
  exact ⟨v, by rw [List.getElem?_set_self (by rw [<- h.1]; exact hi)], r⟩
 .rw [List.getElem?_set_ne hj] at q ⊢
  exact h.2 j e q
end
def tD (K : PySem.W.Frag) (tb : List Addr) (f : EF) : TE := λ σ H Q => ∃ W δ d μ', W.H = H /\ WOk K tb W /\ iT K tb W δ σ /\ f δ W.mu = some (d, μ') /\
 ∀ v W', WOk K tb W' -> Le tb W W' -> W'.mu = μ' -> Den K tb W' d v -> Q v W'.H
def tDA (K : PySem.W.Frag) (tb : List Addr) (f : AF) : TA := λ σ H Q => ∃ W δ ds μ', W.H = H /\ WOk K tb W /\ iT K tb W δ σ /\ f δ W.mu = some (ds, μ') /\
 ∀ vs W', WOk K tb W' -> Le tb W W' -> W'.mu = μ' -> cu K tb W' ds vs -> Q vs W'.H
def tDT (K : PySem.W.Frag) (tb : List Addr) (f : TF) : TT := λ σ H Q => ∃ W δ b μ', W.H = H /\ WOk K tb W /\ iT K tb W δ σ /\ f δ W.mu = some (b, μ') /\
 ∀ W', WOk K tb W' -> Le tb W W' -> W'.mu = μ' -> Q b W'.H
def EndD (K : PySem.W.Frag) (tb : List Addr) (E : Ends) (fl : Fl) (σ : SV) (W : Wd) : Prop := match fl with
 | .nx => E.nx σ W.H
 | .bk => E.bk σ W.H
 | .ct => E.ct σ W.H
 | .rt d => ∀ v, Den K tb W d v -> E.rt v W.H
def tDS (K : PySem.W.Frag) (tb : List Addr) (g : SF) : TS := λ E σ H => ∃ W δ fl δ' μ', W.H = H /\ WOk K tb W /\ iT K tb W δ σ /\ g δ W.mu = some (fl, δ', μ') /\
 ∀ σ' W', WOk K tb W' -> Le tb W W' -> W'.mu = μ' -> iT K tb W' δ' σ' -> EndD K tb E fl σ' W'
def PD (X : Cx) (tb : List Addr) (e : Expr) (f : EF) : Prop := PE X e (tD X.K tb f)
def PAD (X : Cx) (tb : List Addr) (es : List Expr) (f : AF) : Prop := PA X es (tDA X.K tb f)
def PTD (X : Cx) (tb : List Addr) (e : Expr) (f : TF) : Prop := PT X e (tDT X.K tb f)
def PWD (X : Cx) (tb : List Addr) (e : Expr) (f : TF) : Prop := PW X e (tDT X.K tb f)
def PSD (X : Cx) (tb : List Addr) (st : Stmt) (g : SF) : Prop := PS X st (tDS X.K tb g)
def tu (X : Cx) (tb : List Addr) (st : List Stmt) (g : SF) : Prop := PSs X st (tDS X.K tb g)
theorem dY {X : Cx} {e : Expr} {t t' : TE} (h : PE X e t) (k : ∀ σ H Q, t' σ H Q -> t σ H Q) : PE X e t' := λ pins s σ H Q I hq => h pins s σ H Q I (k σ H Q hq)
theorem Jl {X : Cx} {e : List Expr} {t t' : TA} (h : PA X e t) (k : ∀ σ H Q, t' σ H Q -> t σ H Q) : PA X e t' := λ pos pins s σ H Q I hq => h pos pins s σ H Q I (k σ H Q hq)
theorem Cz {X : Cx} {e : Expr} {t t' : TT} (h : PT X e t) (k : ∀ σ H Q, t' σ H Q -> t σ H Q) : PT X e t' := λ pins s σ H Q I hq => h pins s σ H Q I (k σ H Q hq)
theorem IK {X : Cx} {e : Expr} {t t' : TT} (h : PW X e t) (k : ∀ σ H Q, t' σ H Q -> t σ H Q) : PW X e t' := λ wh pins s σ H Q I hq => h wh pins s σ H Q I (k σ H Q hq)
theorem lw {X : Cx} {e : Stmt} {t t' : TS} (h : PS X e t) (k : ∀ E σ H, t' E σ H -> t E σ H) : PS X e t' := λ pins s σ H E I hq => h pins s σ H E I (k E σ H hq)
theorem Ez {X : Cx} {e : List Stmt} {t t' : TS} (h : PSs X e t) (k : ∀ E σ H, t' E σ H -> t E σ H) : PSs X e t' := λ pins s σ H E I hq => h pins s σ H E I (k E σ H hq)
def ak (i : Nat) : EF := λ δ μ => match δ[i]? with
 | some (some d) => some (d, μ)
 | _ => none
def mC (d : D) : EF := λ _ μ => some (d, μ)
def M1 (fa : EF) (op : D -> Mu -> Option (D × Mu)) : EF := λ δ μ => (fa δ μ).bind λ r => op r.1 r.2
def M2 (fa fb : EF) (op : D -> D -> Mu -> Option (D × Mu)) : EF := λ δ μ => (fa δ μ).bind λ r => (fb δ r.2).bind λ q => op r.1 q.1 q.2
def aq : AF := λ _ μ => some ([], μ)
def aa (f : EF) (fs : AF) : AF := λ δ μ => (f δ μ).bind λ r => (fs δ r.2).bind λ q => some (r.1 :: q.1, q.2)
def MC (fs : AF) (op : List D -> Mu -> Option (D × Mu)) : EF := λ δ μ => (fs δ μ).bind λ r => op r.1 r.2
def RD1 (K : PySem.W.Frag) (tb : List Addr) (r : V -> Hp -> VK -> Prop) (op : D -> Mu -> Option (D × Mu)) : Prop := ∀ (W : Wd) (x : D) (v : V) (d : D) (μ' : Mu) (Q : VK), WOk K tb W -> Den K tb W x v -> op x W.mu = some (d, μ') ->
 (∀ v W', WOk K tb W' -> Le tb W W' -> W'.mu = μ' -> Den K tb W' d v -> Q v W'.H) -> r v W.H Q
def RD2 (K : PySem.W.Frag) (tb : List Addr) (r : R2) (op : D -> D -> Mu -> Option (D × Mu)) : Prop := ∀ (W : Wd) (x y : D) (v u : V) (d : D) (μ' : Mu) (Q : VK), WOk K tb W -> Den K tb W x v -> Den K tb W y u -> op x y W.mu = some (d, μ') ->
 (∀ v W', WOk K tb W' -> Le tb W W' -> W'.mu = μ' -> Den K tb W' d v -> Q v W'.H) -> r v u W.H Q
def RDN (K : PySem.W.Frag) (tb : List Addr) (r : List V -> Hp -> VK -> Prop) (op : List D -> Mu -> Option (D × Mu)) : Prop := ∀ (W : Wd) (xs : List D) (vs : List V) (d : D) (μ' : Mu) (Q : VK), WOk K tb W -> cu K tb W xs vs -> op xs W.mu = some (d, μ') ->
 (∀ v W', WOk K tb W' -> Le tb W W' -> W'.mu = μ' -> Den K tb W' d v -> Q v W'.H) -> r vs W.H Q
section
variable {K : PySem.W.Frag} {tb : List Addr}
theorem put {W : Wd} {Q : VK} {d : D} {v : V} (ok : WOk K tb W) (h : ∀ v W', WOk K tb W' -> Le tb W W' -> W'.mu = W.mu -> Den K tb W' d v -> Q v W'.H) (r : Den K tb W d v) : Q v W.H := h v W ok (Le.refl _) rfl r
theorem dO {W : Wd} {i : Int} : Den K tb W (.int i) (.int i) := by show aV _ _ _ _ _; unfold aV; rfl
theorem gG {W : Wd} {b : Bool} : Den K tb W (.bl b) (.bl b) := by show aV _ _ _ _ _; unfold aV; rfl
theorem qF {W : Wd} : Den K tb W .non .non := by show aV _ _ _ _ _; unfold aV; rfl
theorem Hk {W : Wd} {x : Str} : Den K tb W (.str x) (.str x) := by show aV _ _ _ _ _; unfold aV; rfl
theorem bj {W : Wd} {i : Int} {v : V} (h : Den K tb W (.int i) v) : v = .int i := by have h : aV _ _ _ _ _ := h; unfold aV at h; exact h
theorem pZ {W : Wd} {b : Bool} {v : V} (h : Den K tb W (.bl b) v) : v = .bl b := by have h : aV _ _ _ _ _ := h; unfold aV at h; exact h
theorem CZ {W : Wd} {v : V} (h : Den K tb W .non v) : v = .non := by have h : aV _ _ _ _ _ := h; unfold aV at h; exact h
theorem uR {W : Wd} {x : Str} {v : V} (h : Den K tb W (.str x) v) : v = .str x := by have h : aV _ _ _ _ _ := h; unfold aV at h; exact h
theorem iQ {W : Wd} {ds : List D} {v : V} (h : Den K tb W (.tup ds) v) : ∃ a xs, v = .ref a /\ SqT K (W.fz tb) a xs /\ cu K tb W ds xs := by have h : aV _ _ _ _ _ := h; unfold aV at h; exact h
theorem lV {W : Wd} {ds : List D} {v : V} (h : Den K tb W (.lst ds) v) : ∃ a xs, v = .ref a /\ W.fz tb a = some (.lst xs) /\ cu K tb W ds xs := by have h : aV _ _ _ _ _ := h; unfold aV at h; exact h
theorem jF {W : Wd} {ds : List D} {v : V} (h : Den K tb W (.lst ds) v) : ∃ a xs, v = .ref a /\ SqL K (W.fz tb) a xs /\ cu K tb W ds xs := let ⟨a, xs, e, q, r⟩ := lV h; ⟨a, xs, e, SqL.of q, r⟩
theorem uB {W : Wd} {ds : List D} {v : V} (h : Den K tb W (.ro ds) v) : ∃ a xs, v = .ref a /\ SqL K (W.fz tb) a xs /\ cu K tb W ds xs := by have h : aV _ _ _ _ _ := h; unfold aV at h; exact h
theorem LC {W : Wd} {kvs : List (Key × D)} {v : V} (h : Den K tb W (.dic kvs) v) : ∃ a ps, v = .ref a /\ W.fz tb a = some (.dK ps) /\ iJ K (W.fz tb) W.ad kvs ps := by have h : aV _ _ _ _ _ := h; unfold aV at h; exact h
theorem gK {W : Wd} {n : Nat} {v : V} (h : Den K tb W (.cell n) v) : ∃ a, v = .ref a /\ W.ad[n]? = some a := by have h : aV _ _ _ _ _ := h; unfold aV at h; exact h
theorem lU {W : Wd} {Q : VK} {ds : List D} {vs : List V} {p : Addr} (ok : WOk K tb W) (h : ∀ v W', WOk K tb W' -> Le tb W W' -> W'.mu = W.mu -> Den K tb W' (.tup ds) v -> Q v W'.H) (r : cu K tb W ds vs) (hp : W.H p = none) : Q (.ref p) (upd W.H p (.tup vs)) := by
 obtain ⟨ok', le, e⟩ := ok.alloc (o := .tup vs) hp
 refine h (.ref p) _ ok' le rfl ?_
 show aV _ _ _ _ _
 unfold aV
 exact ⟨p, vs, rfl, .inl (.inl e), cu.mono' r le⟩
theorem iV {W : Wd} {Q : VK} {ds : List D} {vs : List V} {p : Addr} (ok : WOk K tb W) (h : ∀ v W', WOk K tb W' -> Le tb W W' -> W'.mu = W.mu -> Den K tb W' (.lst ds) v -> Q v W'.H) (r : cu K tb W ds vs) (hp : W.H p = none) : Q (.ref p) (upd W.H p (.lst vs)) := by
 obtain ⟨ok', le, e⟩ := ok.alloc (o := .lst vs) hp
 refine h (.ref p) _ ok' le rfl ?_
 show aV _ _ _ _ _
 unfold aV
 exact ⟨p, vs, rfl, e, cu.mono' r le⟩
end
section
variable {X : Cx} {tb : List Addr} {a b c e : Expr} {fa fb fc f : EF} {pos : Pos}
theorem Lz {i : Nat} {x : Str} (hN : X.N[i]? = some x) (hv : Vis X.env.scope x) (hd : (x == ("__debug__" : Str)) = false := by decide) (hcd : (x == ("__classdict__" : Str)) = false := by decide) : PD X tb (.Name x pos) (ak i) :=
 dY (JX hN hv hd hcd) λ σ H Q zq1 => by
  obtain ⟨W, δ, d, μ', e, ok, hd, hf, h⟩ := zq1
  subst e
  unfold ak at hf
  split at hf
  .rename_i d' e
   cases hf
   obtain ⟨v, ev, r⟩ := hd.2 i _ e
   exact ⟨v, ev, put ok h r⟩
  .cases hf
theorem wk {d : D} {v : V} (hp : PE X e (tC v)) (hd : ∀ W, Den X.K tb W d v) : PD X tb e (mC d) :=
 dY hp λ σ H Q zq2 => by
  obtain ⟨W, δ, d', μ', e, ok, _, hf, h⟩ := zq2
  subst e
  cases hf
  exact put ok h (hd W)
theorem az {i j} : PD X tb (.Constant (.int i) j pos) (mC (.int i)) := wk zp λ _ => dO
theorem qP {i j} : PD X tb (.Constant (.bool i) j pos) (mC (.bl i)) := wk Np λ _ => gG
theorem Mq {r : V -> Hp -> VK -> Prop} {op : D -> Mu -> Option (D × Mu)} (hp : ∀ ta, PE X a ta -> PE X e (tUn r ta)) (ho : RD1 X.K tb r op) (ha : PD X tb a fa) : PD X tb e (M1 fa op) :=
 dY (hp _ ha) λ σ H Q zq3 => by
  obtain ⟨W, δ, d, μ', e, ok, hd, hf, h⟩ := zq3
  unfold M1 at hf
  obtain ⟨⟨x, μ1⟩, e1, e2⟩ := Option.bind_eq_some_iff.mp hf
  exact ⟨W, δ, x, μ1, e, ok, hd, e1, λ v W1 ok1 l1 m1 d1 => ho W1 x v d μ' Q ok1 d1 (by rw [m1]; exact e2) λ v' W' ok' l' m' d' => h v' W' ok' (l1.trans l') m' d'⟩
theorem yr {r : R2} {op : D -> D -> Mu -> Option (D × Mu)} (hp : ∀ ta tb, PE X a ta -> PE X b tb -> PE X e (tOp r ta tb)) (ho : RD2 X.K tb r op) (ha : PD X tb a fa) (hb : PD X tb b fb) : PD X tb e (M2 fa fb op) :=
 dY (hp _ _ ha hb) λ σ H Q zq4 => by
  obtain ⟨W, δ, d, μ', e, ok, hd, hf, h⟩ := zq4
  unfold M2 at hf
  obtain ⟨⟨x, μ1⟩, e1, hf⟩ := Option.bind_eq_some_iff.mp hf
  obtain ⟨⟨y, μ2⟩, e2, e3⟩ := Option.bind_eq_some_iff.mp hf
  refine ⟨W, δ, x, μ1, e, ok, hd, e1, λ v W1 ok1 l1 m1 d1 => ⟨W1, δ, y, μ2, rfl, ok1, hd.mono' l1, (by rw [m1]; exact e2), λ u W2 ok2 l2 m2 d2 => ?_⟩⟩
  exact ho W2 x y v u d μ' Q ok2 (Den.mono' d1 l2) d2 (by rw [m2]; exact e3) λ v' W' ok' l' m' d' => h v' W' ok' ((l1.trans l2).trans l') m' d'
theorem ao : PAD X tb [] aq := Jl vL λ σ H Q zq5 => by
 obtain ⟨W, δ, d, μ', e, ok, hd, hf, h⟩ := zq5
 subst e; cases hf
 exact h [] W ok (Le.refl _) rfl aA.nil
theorem aj {es : List Expr} {fs : AF} (ha : PD X tb e f) (hr : PAD X tb es fs) (hs : starEach (e :: es) X.env = (false, eval e X.env) :: starEach es X.env := by rfl) : PAD X tb (e :: es) (aa f fs) :=
 Jl (oE ha hr hs) λ σ H Q zq6 => by
  obtain ⟨W, δ, ds, μ', e, ok, hd, hf, h⟩ := zq6
  unfold aa at hf
  obtain ⟨⟨x, μ1⟩, e1, hf⟩ := Option.bind_eq_some_iff.mp hf
  obtain ⟨⟨xs, μ2⟩, e2, e3⟩ := Option.bind_eq_some_iff.mp hf
  cases e3
  refine ⟨W, δ, x, μ1, e, ok, hd, e1, λ v W1 ok1 l1 m1 d1 => ⟨W1, δ, xs, _, rfl, ok1, hd.mono' l1, (by rw [m1]; exact e2), λ vs W2 ok2 l2 m2 d2 => ?_⟩⟩
  exact h (v :: vs) W2 ok2 (l1.trans l2) m2 (aA.cons (Den.mono' d1 l2) d2)
theorem BX {es : List Expr} {fs : AF} {r : List V -> Hp -> VK -> Prop} {op : List D -> Mu -> Option (D × Mu)} (hp : ∀ ta, PA X es ta -> PE X e (tCB r ta)) (ho : RDN X.K tb r op) (ha : PAD X tb es fs) : PD X tb e (MC fs op) :=
 dY (hp _ ha) λ σ H Q zq7 => by
  obtain ⟨W, δ, d, μ', e, ok, hd, hf, h⟩ := zq7
  unfold MC at hf
  obtain ⟨⟨x, μ1⟩, e1, e2⟩ := Option.bind_eq_some_iff.mp hf
  exact ⟨W, δ, x, μ1, e, ok, hd, e1, λ v W1 ok1 l1 m1 d1 => ho W1 x v d μ' Q ok1 d1 (by rw [m1]; exact e2) λ v' W' ok' l' m' d' => h v' W' ok' (l1.trans l') m' d'⟩
def oTup (ds : List D) (μ : Mu) : Option (D × Mu) := if ds.length <= sizeLine then some (.tup ds, μ) else none
def oLst (ds : List D) (μ : Mu) : Option (D × Mu) := if ds.length <= sizeLine then some (.lst ds, μ) else none
theorem jZ {es : List Expr} {fs : AF} {x1} (h : PAD X tb es fs) : PD X tb (.Tuple es x1 pos) (MC fs oTup) :=
 BX (r := λ xs H Q => xs.length <= sizeLine /\ ∀ p, H p = none -> Q (.ref p) (upd H p (.tup xs))) (λ ta h => Kf h) (λ W xs vs d μ' Q ok r ho h => by
  unfold oTup at ho
  split at ho
  .rename_i hl
   cases ho
   exact ⟨by rw [<- aA.length r]; exact hl, λ p hp => lU ok h r hp⟩
  .cases ho) h
theorem cM {es : List Expr} {fs : AF} (h : PAD X tb es fs) : PD X tb (.List es pos) (MC fs oLst) :=
 BX (r := λ xs H Q => xs.length <= sizeLine /\ ∀ p, H p = none -> Q (.ref p) (upd H p (.lst xs))) (λ ta h => Fb h) (λ W xs vs d μ' Q ok r ho h => by
  unfold oLst at ho
  split at ho
  .rename_i hl
   cases ho
   exact ⟨by rw [<- aA.length r]; exact hl, λ p hp => iV ok h r hp⟩
  .cases ho) h
def xT : D -> Mu -> Option Bool
 | .bl b, _ => some b
 | .int i, _ => some (i != 0)
 | .non, _ => some false
 | .tup ds, _ => some !ds.isEmpty
 | .lst ds, _ => some !ds.isEmpty
 | .cell n, μ => match μ[n]? with
  | some (some ds) => some !ds.isEmpty
  | _ => none
 | _, _ => none
end
section
variable {K : PySem.W.Frag} {tb : List Addr}
theorem Hs {W : Wd} {x : D} {v : V} {k : Bool} (ok : WOk K tb W) (h : Den K tb W x v) (e : xT x W.mu = some k) : Kq K v W.H k := by
 cases x with
 | non => rw [CZ h]; cases e; rfl
 | bl b => rw [pZ h]; cases e; rfl
 | int i => rw [bj h]; cases e; rfl
 | str y => cases e
 | dic y => cases e
 | ro y => cases e
 | tup ds =>
  obtain ⟨a, xs, rfl, q, r⟩ := iQ h
  cases e
  refine .inr (.inl ⟨xs, SqT.fz q, ?_⟩)
  have := aA.length r
  cases ds <;> cases xs <;> simp_all
 | lst ds =>
  obtain ⟨a, xs, rfl, q, r⟩ := jF h
  cases e
  refine .inl ⟨xs, SqL.fz q, ?_⟩
  have := aA.length r
  cases ds <;> cases xs <;> simp_all
 | cell n =>
  obtain ⟨a, rfl, q⟩ := gK h
  have e' : (match W.mu[n]? with | some (some ds) => some !ds.isEmpty | _ => none) = some k := e
  cases e2 : W.mu[n]? with
  | none => rw [e2] at e'; cases e'
  | some o =>
   cases o with
   | none => rw [e2] at e'; cases e'
   | some ds =>
    rw [e2] at e'
    have e'' : some (!ds.isEmpty) = some k := e'
    cases e''
    obtain ⟨xs, e3, r⟩ := ok.cont n a ds q e2
    refine .inl ⟨xs, SqL.of e3, ?_⟩
    have := aA.length r
    cases ds <;> cases xs <;> simp_all
end
section
variable {X : Cx} {tb : List Addr} {a b c e : Expr} {fa fb fc f : EF} {ta tc : TF} {pos : Pos}
def sW (f : EF) : TF := λ δ μ => (f δ μ).bind λ r => (xT r.1 r.2).map λ k => (k, r.2)
theorem nZ (h : PD X tb e f) (he : ∀ whole, isTrue e X.env whole = (do let v <- whole; standAt e.pos; holding [v] (truthy v)) := by intro _; rfl) : PTD X tb e (sW f) :=
 Cz (FJ h he) λ σ H Q zq1 => by
  obtain ⟨W, δ, k, μ', e, ok, hd, hf, h⟩ := zq1
  unfold sW at hf
  obtain ⟨⟨x, μ1⟩, e1, e2⟩ := Option.bind_eq_some_iff.mp hf
  obtain ⟨k', e3, e4⟩ := Option.map_eq_some_iff.mp e2
  cases e4
  exact ⟨W, δ, x, _, e, ok, hd, e1, λ v W1 ok1 l1 m1 d1 => ⟨k, Hs ok1 d1 (by rw [m1]; exact e3), h W1 ok1 l1 m1⟩⟩
structure OpD (X : Cx) (tb : List Addr) (sem : Value -> Value -> Sem Value) (op : D -> D -> Mu -> Option (D × Mu)) : Prop where
 ex : ∃ r, OpR X sem r /\ RD2 X.K tb r op
theorem aC {o : Operator} {op : D -> D -> Mu -> Option (D × Mu)} (ho : OpD X tb (binaryOp o) op) (ha : PD X tb a fa) (hb : PD X tb b fb) : PD X tb (.BinOp a o b pos) (M2 fa fb op) := by
 obtain ⟨r, h1, h2⟩ := ho.ex
 exact yr (λ ta tb ha hb => Jc h1 ha hb) h2 ha hb
theorem Mh {o : CmpOp} {op : D -> D -> Mu -> Option (D × Mu)} (ho : OpD X tb (compareOp o) op) (ha : PD X tb a fa) (hb : PD X tb b fb) (hm : behindInMarks o b = false := by first | exact wV _ (by decide) (by decide) | rfl) : PD X tb (.Compare a [o] [b] pos) (M2 fa fb op) := by
 obtain ⟨r, h1, h2⟩ := ho.ex
 exact yr (λ ta tb ha hb => Gk h1 ha hb hm) h2 ha hb
def toB (f : EF) : TF := λ δ μ => (f δ μ).bind λ r => match r.1 with
 | .bl k => some (k, r.2)
 | _ => none
theorem aW {o : CmpOp} {op : D -> D -> Mu -> Option (D × Mu)} (ho : OpD X tb (compareOp o) op) (ha : PD X tb a fa) (hb : PD X tb b fb) (hm : behindInMarks o b = false := by first | exact wV _ (by decide) (by decide) | rfl) : PTD X tb (.Compare a [o] [b] pos) (toB (M2 fa fb op)) := by
 obtain ⟨r, h1, h2⟩ := ho.ex
 refine Cz (Gy h1 ha hb hm) λ σ H Q zq2 => ?_
 obtain ⟨W, δ, k, μ', e, ok, hd, hf, h⟩ := zq2
 unfold toB at hf
 obtain ⟨⟨z, μz⟩, hf, ez⟩ := Option.bind_eq_some_iff.mp hf
 unfold M2 at hf
 obtain ⟨⟨x, μ1⟩, e1, hf⟩ := Option.bind_eq_some_iff.mp hf
 obtain ⟨⟨y, μ2⟩, e2, e3⟩ := Option.bind_eq_some_iff.mp hf
 cases z with
 | bl k' =>
  cases ez
  refine ⟨W, δ, x, μ1, e, ok, hd, e1, λ v W1 ok1 l1 m1 d1 => ⟨W1, δ, y, μ2, rfl, ok1, hd.mono' l1, (by rw [m1]; exact e2), λ u W2 ok2 l2 m2 d2 => ?_⟩⟩
  refine h2 W2 x y v u _ _ _ ok2 (Den.mono' d1 l2) d2 (by rw [m2]; exact e3) λ v' W' ok' l' m' d' => ?_
  exact ⟨k, pZ d', h W' ok' ((l1.trans l2).trans l') m'⟩
 | _ => cases ez
def MCh (fa fb fc : EF) (op op' : D -> D -> Mu -> Option (D × Mu)) : EF := λ δ μ => (fa δ μ).bind λ r => (fb δ r.2).bind λ q => (op r.1 q.1 q.2).bind λ z => match z.1 with
 | .bl true => (fc δ z.2).bind λ t => op' q.1 t.1 t.2
 | .bl false => some (.bl false, z.2)
 | _ => none
def lF (ta tc : TF) : TF := λ δ μ => (ta δ μ).bind λ r => if r.1 = true then tc δ r.2 else some (false, r.2)
def qt (ta tc : TF) : TF := λ δ μ => (ta δ μ).bind λ r => if r.1 = true then some (true, r.2) else tc δ r.2
def lD (ta : TF) : TF := λ δ μ => (ta δ μ).bind λ r => some (!r.1, r.2)
theorem xN (ha : PTD X tb a ta) : PWD X tb (.BoolOp .And [a] pos) ta := Hc ha
theorem vV (ha : PTD X tb a ta) : PWD X tb (.BoolOp .Or [a] pos) ta := Ld ha
theorem vN {rest : List Expr} (ha : PTD X tb a ta) (hb : PWD X tb (.BoolOp .And (b :: rest) pos) tc) : PWD X tb (.BoolOp .And (a :: b :: rest) pos) (lF ta tc) :=
 IK (Ju ha hb) λ σ H Q zq4 => by
  obtain ⟨W, δ, k, μ', e, ok, hd, hf, h⟩ := zq4
  unfold lF at hf
  obtain ⟨⟨z, μz⟩, e1, e2⟩ := Option.bind_eq_some_iff.mp hf
  refine ⟨W, δ, z, μz, e, ok, hd, e1, λ W1 ok1 l1 m1 => ?_⟩
  cases z with
  | true => exact ⟨W1, δ, k, μ', rfl, ok1, hd.mono' l1, (by rw [m1]; exact e2), λ W' ok' l' m' => h W' ok' (l1.trans l') m'⟩
  | false => cases e2; exact h W1 ok1 l1 m1
theorem rQ {rest : List Expr} (ha : PTD X tb a ta) (hb : PWD X tb (.BoolOp .Or (b :: rest) pos) tc) : PWD X tb (.BoolOp .Or (a :: b :: rest) pos) (qt ta tc) :=
 IK (Om ha hb) λ σ H Q zq5 => by
  obtain ⟨W, δ, k, μ', e, ok, hd, hf, h⟩ := zq5
  unfold qt at hf
  obtain ⟨⟨z, μz⟩, e1, e2⟩ := Option.bind_eq_some_iff.mp hf
  refine ⟨W, δ, z, μz, e, ok, hd, e1, λ W1 ok1 l1 m1 => ?_⟩
  cases z with
  | false => exact ⟨W1, δ, k, μ', rfl, ok1, hd.mono' l1, (by rw [m1]; exact e2), λ W' ok' l' m' => h W' ok' (l1.trans l') m'⟩
  | true => cases e2; exact h W1 ok1 l1 m1
theorem sE (h : PWD X tb a ta) : PTD X tb a ta := PW.pt h
theorem oJ (ha : PTD X tb a ta) : PTD X tb (.UnaryOp .Not a pos) (lD ta) :=
 Cz (JG ha) λ σ H Q zq6 => by
  obtain ⟨W, δ, k, μ', e, ok, hd, hf, h⟩ := zq6
  unfold lD at hf
  obtain ⟨⟨z, μz⟩, e1, e2⟩ := Option.bind_eq_some_iff.mp hf
  cases e2
  exact ⟨W, δ, z, _, e, ok, hd, e1, λ W1 ok1 l1 m1 => h W1 ok1 l1 m1⟩
def pU (fa fb : EF) : EF := λ δ μ => (fa δ μ).bind λ r => match r.1 with
 | .bl true => fb δ r.2
 | .bl false => some (.bl false, r.2)
 | _ => none
def rm (fa : EF) : EF := λ δ μ => (fa δ μ).bind λ r => match r.1 with
 | .bl k => some (.bl !k, r.2)
 | _ => none
theorem qJ {o} (ha : PD X tb a fa) : PD X tb (.BoolOp o [a] pos) fa := JK ha
theorem vR {rest : List Expr} (ha : PD X tb a fa) (hb : PD X tb (.BoolOp .And (b :: rest) pos) fb) : PD X tb (.BoolOp .And (a :: b :: rest) pos) (pU fa fb) :=
 dY (KJ ha hb) λ σ H Q zq7 => by
  obtain ⟨W, δ, d, μ', e, ok, hd, hf, h⟩ := zq7
  unfold pU at hf
  obtain ⟨⟨z, μz⟩, e1, e2⟩ := Option.bind_eq_some_iff.mp hf
  refine ⟨W, δ, z, μz, e, ok, hd, e1, λ v W1 ok1 l1 m1 d1 => ?_⟩
  cases z with
  | bl k =>
   cases k with
   | true =>
   refine ⟨true, pZ d1, ?_⟩
   rw [if_pos rfl]
   exact ⟨W1, δ, d, μ', rfl, ok1, hd.mono' l1, (by rw [m1]; exact e2), λ v W' ok' l' m' d' => h v W' ok' (l1.trans l') m' d'⟩
   | false =>
   cases e2
   refine ⟨false, pZ d1, ?_⟩
   rw [if_neg Bool.false_ne_true]
   exact h _ W1 ok1 l1 m1 gG
  | _ => cases e2
theorem zf (ha : PD X tb a fa) : PD X tb (.UnaryOp .Not a pos) (rm fa) :=
 dY (Mg ha) λ σ H Q zq9 => by
  obtain ⟨W, δ, d, μ', e, ok, hd, hf, h⟩ := zq9
  unfold rm at hf
  obtain ⟨⟨z, μz⟩, e1, e2⟩ := Option.bind_eq_some_iff.mp hf
  refine ⟨W, δ, z, μz, e, ok, hd, e1, λ v W1 ok1 l1 m1 d1 => ?_⟩
  cases z with
  | bl k =>
   cases e2
   exact ⟨k, pZ d1, h _ W1 ok1 l1 m1 gG⟩
  | _ => cases e2
end
def bT : SF := λ δ μ => some (.nx, δ, μ)
def aP (g h : SF) : SF := λ δ μ => (g δ μ).bind λ r => match r.1 with
 | .nx => h r.2.1 r.2.2
 | _ => some r
def fK (f : EF) : SF := λ δ μ => (f δ μ).bind λ r => some (.nx, δ, r.2)
def bF (f : EF) : SF := λ δ μ => (f δ μ).bind λ r => some (.rt r.1, δ, r.2)
def sIf (c : TF) (g h : SF) : SF := λ δ μ => (c δ μ).bind λ r => if r.1 = true then g δ r.2 else h δ r.2
def aY (i : Nat) (f : EF) : SF := λ δ μ => (f δ μ).bind λ r => some (.nx, δ.set i (some r.1), r.2)
section
variable {X : Cx} {tb : List Addr} {e : Expr} {f : EF} {g h : SF} {st : Stmt} {rest : List Stmt} {pos : Pos}
theorem bw : tu X tb [] bT := Ez HD λ E σ H zq11 => by
 obtain ⟨W, δ, fl, δ', μ', e, ok, hd, hf, h⟩ := zq11
 subst e; cases hf
 exact h σ W ok (Le.refl _) rfl hd
theorem aD (h1 : PSD X tb st g) : tu X tb [st] g := Io h1
theorem aB (h1 : PSD X tb st g) (h2 : tu X tb rest h) : tu X tb (st :: rest) (aP g h) :=
 Ez (Dn h1 h2) λ E σ H zq12 => by
  obtain ⟨W, δ, fl, δ', μ', e, ok, hd, hf, k⟩ := zq12
  unfold aP at hf
  obtain ⟨⟨fl1, δ1, μ1⟩, e1, e2⟩ := Option.bind_eq_some_iff.mp hf
  refine ⟨W, δ, fl1, δ1, μ1, e, ok, hd, e1, λ σ1 W1 ok1 l1 m1 d1 => ?_⟩
  cases fl1 with
  | nx => exact ⟨W1, δ1, fl, δ', μ', rfl, ok1, d1, (by rw [m1]; exact e2), λ σ' W' ok' l' m' d' => k σ' W' ok' (l1.trans l') m' d'⟩
  | bk => cases e2; exact k σ1 W1 ok1 l1 m1 d1
  | ct => cases e2; exact k σ1 W1 ok1 l1 m1 d1
  | rt d => cases e2; exact k σ1 W1 ok1 l1 m1 d1
theorem gj (he : PD X tb e f) (hs : swapsWith e none pos.line X.env = pure false := by rfl) : PSD X tb (.Expr e pos) (fK f) :=
 lw (Il he hs) λ E σ H zq16 => by
  obtain ⟨W, δ, fl, δ', μ', e, ok, hd, hf, h⟩ := zq16
  unfold fK at hf
  obtain ⟨⟨x, μ1⟩, e1, e2⟩ := Option.bind_eq_some_iff.mp hf
  cases e2
  exact ⟨W, δ, x, _, e, ok, hd, e1, λ v W1 ok1 l1 m1 d1 => h σ W1 ok1 l1 m1 (hd.mono' l1)⟩
theorem aQ (he : PD X tb e f) : PSD X tb (.Return (some e) pos) (bF f) :=
 lw (Ks he) λ E σ H zq17 => by
  obtain ⟨W, δ, fl, δ', μ', e, ok, hd, hf, h⟩ := zq17
  unfold bF at hf
  obtain ⟨⟨x, μ1⟩, e1, e2⟩ := Option.bind_eq_some_iff.mp hf
  cases e2
  exact ⟨W, δ, x, _, e, ok, hd, e1, λ v W1 ok1 l1 m1 d1 => h σ W1 ok1 l1 m1 (hd.mono' l1) v d1⟩
theorem cN {c : Expr} {tc : TF} {as bs : List Stmt} (hc : PTD X tb c tc) (ha : tu X tb as g) (hb : tu X tb bs h) : PSD X tb (.If c as bs pos) (sIf tc g h) :=
 lw (Od hc ha hb) λ E σ H zq18 => by
  obtain ⟨W, δ, fl, δ', μ', e, ok, hd, hf, k⟩ := zq18
  unfold sIf at hf
  obtain ⟨⟨z, μ1⟩, e1, e2⟩ := Option.bind_eq_some_iff.mp hf
  refine ⟨W, δ, z, μ1, e, ok, hd, e1, λ W1 ok1 l1 m1 => ?_⟩
  cases z with
  | true => exact ⟨W1, δ, fl, δ', μ', rfl, ok1, hd.mono' l1, (by rw [m1]; exact e2), λ σ' W' ok' l' m' d' => k σ' W' ok' (l1.trans l') m' d'⟩
  | false => exact ⟨W1, δ, fl, δ', μ', rfl, ok1, hd.mono' l1, (by rw [m1]; exact e2), λ σ' W' ok' l' m' d' => k σ' W' ok' (l1.trans l') m' d'⟩
theorem aO {i : Nat} {x : Str} {pos' : Pos} (hN : X.N.Nodup) (he : PD X tb e f) (hi : X.N[i]? = some x := by rfl) (hx : Loc X.env.scope x := by first | exact Or.inl rfl | exact Or.inr rfl) (hs : swapsWith e (some (.Name x pos')) pos.line X.env = pure false := by rfl)
  (hf : X.fn x = true ∨ X.env.scope.names.lookup x = some .local := by first | exact .inl rfl | exact .inr rfl | assumption) : PSD X tb (.Assign [.Name x pos'] e pos) (aY i f) :=
 lw (Lx hN hi hx he hs hf) λ E σ H zq19 => by
  obtain ⟨W, δ, fl, δ', μ', e, ok, hd, hf, h⟩ := zq19
  unfold aY at hf
  obtain ⟨⟨x, μ1⟩, e1, e2⟩ := Option.bind_eq_some_iff.mp hf
  cases e2
  exact ⟨W, δ, x, _, e, ok, hd, e1, λ v W1 ok1 l1 m1 d1 => h _ W1 ok1 l1 m1 ((hd.mono' l1).set d1)⟩
def sX (i j : Nat) (fs : AF) : SF := λ δ μ => (fs δ μ).bind λ r => match r.1 with
 | [x, y] => some (.nx, (δ.set i (some x)).set j (some y), r.2)
 | _ => none
theorem qH {i j : Nat} {x y : Str} {a b : Expr} {fs : AF} {px py pt : Pos} {kt k2 pt2} (hc : X.calm = true) (hN : X.N.Nodup) (ha : PAD X tb [a, b] fs) (hij : i ≠ j := by decide) (hi : X.N[i]? = some x := by rfl) (hj : X.N[j]? = some y := by rfl)
  (hx : X.env.scope.names.lookup x = some .local := by rfl) (hy : X.env.scope.names.lookup y = some .local := by rfl)
  (hw : swappedStores [.Tuple [.Name x px, .Name y py] kt pt] (.Tuple [a, b] k2 pt2) X.env = pure (some [x, y]) := by rfl)
  (hs : swapsWithSole [.Tuple [.Name x px, .Name y py] kt pt] (.Tuple [a, b] k2 pt2) pos.line X.env = pure false := by rfl) :
  PSD X tb (.Assign [.Tuple [.Name x px, .Name y py] kt pt] (.Tuple [a, b] k2 pt2) pos) (sX i j fs) :=
 lw (Ms hc hN hi hj hij hx hy ha hw hs) λ E σ H zq20 => by
  obtain ⟨W, δ, fl, δ', μ', e, ok, hd, hf, h⟩ := zq20
  unfold sX at hf
  obtain ⟨⟨xs, μ1⟩, e1, e2⟩ := Option.bind_eq_some_iff.mp hf
  match xs, e1, e2 with
  | [x, y], e1, e2 =>
   cases e2
   refine ⟨W, δ, _, _, e, ok, hd, e1, λ vs W1 ok1 l1 m1 d1 => ?_⟩
   obtain ⟨u, v, rfl, du, dv⟩ := aA.two d1
   exact ⟨u, v, rfl, h _ W1 ok1 l1 m1 (((hd.mono' l1).set du).set dv)⟩
def eY (c : TF) (b : SF) : Nat -> SF
 | 0 => λ _ _ => none
 | n + 1 => λ δ μ => (c δ μ).bind λ r => if r.1 = true then (b δ r.2).bind λ q => match q.1 with
   | .nx => eY c b n q.2.1 q.2.2
   | .ct => eY c b n q.2.1 q.2.2
   | .bk => some (.nx, q.2)
   | .rt d => some (.rt d, q.2)
  else some (.nx, δ, r.2)
theorem jz {c : TF} {b : SF} : ∀ {n m : Nat} {δ : En} {μ : Mu} {r : Fl × En × Mu}, n <= m -> eY c b n δ μ = some r -> eY c b m δ μ = some r
 | 0, _, _, _, _, _, h => by cases h
 | n + 1, 0, _, _, _, hl, _ => by omega
 | n + 1, m + 1, δ, μ, r, hl, h => by
  unfold eY at h ⊢
  obtain ⟨q, e1, e2⟩ := Option.bind_eq_some_iff.mp h
  rw [e1]
  show (if q.1 = true then _ else _) = _
  by_cases hq : q.1 = true
  .rw [if_pos hq] at e2 ⊢
   obtain ⟨t, e3, e4⟩ := Option.bind_eq_some_iff.mp e2
   rw [e3]
   show (match t.1 with | .nx => _ | .ct => _ | .bk => _ | .rt d => _) = _
   cases ht : t.1 with
   | nx => rw [ht] at e4; exact jz (by omega) e4
   | ct => rw [ht] at e4; exact jz (by omega) e4
   | bk => rw [ht] at e4; exact e4
   | rt d => rw [ht] at e4; exact e4
  .rw [if_neg hq] at e2 ⊢; exact e2
open Classical in
noncomputable def km (c : TF) (b : SF) : SF := λ δ μ => if h : ∃ n r, eY c b n δ μ = some r then some (choose (choose_spec h)) else none
theorem pP {c : TF} {b : SF} {n : Nat} {δ : En} {μ : Mu} {r : Fl × En × Mu} (h : eY c b n δ μ = some r) : km c b δ μ = some r := by
 have hx : ∃ n r, eY c b n δ μ = some r := ⟨n, r, h⟩
 unfold km
 rw [dif_pos hx]
 have q := Classical.choose_spec (Classical.choose_spec hx)
 have a := jz (Nat.le_max_left n (Classical.choose hx)) h
 have b := jz (Nat.le_max_right n (Classical.choose hx)) q
 rw [a] at b
 exact b.symm
theorem Bw {c : TF} {b : SF} {δ : En} {μ : Mu} {r : Fl × En × Mu} (h : km c b δ μ = some r) : ∃ n, eY c b n δ μ = some r := by
 unfold km at h
 split at h
 .rename_i hx
  cases h
  exact ⟨_, Classical.choose_spec (Classical.choose_spec hx)⟩
 .cases h
theorem pF {c : Expr} {tc : TF} {body : List Stmt} (hp : PassesOwn (model X.prog X.w) X.A X.env X.xe) (hc : PTD X tb c tc) (hb : tu X tb body g) : PSD X tb (.While c body [] pos) (km tc g) :=
 lw (Ea hp hc hb) λ E σ H zq21 => by
  obtain ⟨W, δ, fl, δ', μ', e, ok, hd, hf, h⟩ := zq21
  obtain ⟨n0, hn0⟩ := Bw hf
  refine ⟨λ m σ1 H1 => ∃ W1 δ1, W1.H = H1 /\ WOk X.K tb W1 /\ Le tb W W1 /\ iT X.K tb W1 δ1 σ1 /\ eY tc g m δ1 W1.mu = some (fl, δ', μ'), ⟨n0, W, δ, e, ok, Le.refl _, hd, hn0⟩, ?_⟩
  rintro m σ1 H1 ⟨W1, δ1, rfl, ok1, l1, d1, hn⟩
  cases m with
  | zero => cases hn
  | succ m =>
   unfold eY at hn
   obtain ⟨⟨k, μ2⟩, e1, e2⟩ := Option.bind_eq_some_iff.mp hn
   refine ⟨W1, δ1, k, μ2, rfl, ok1, d1, e1, λ W2 ok2 l2 m2 => ?_⟩
   cases k with
   | false =>
    cases e2
    rw [if_neg Bool.false_ne_true]
    exact h σ1 W2 ok2 (l1.trans l2) m2 (d1.mono' l2)
   | true =>
    rw [if_pos rfl]
    obtain ⟨⟨fl3, δ3, μ3⟩, e3, e4⟩ := Option.bind_eq_some_iff.mp e2
    refine ⟨λ σ3 H3 => ∃ W3, W3.H = H3 /\ WOk X.K tb W3 /\ Le tb W W3 /\ iT X.K tb W3 δ3 σ3 /\ eY tc g m δ3 W3.mu = some (fl, δ', μ'), λ σ3 H3 ⟨W3, q1, q2, q3, q4, q5⟩ => ⟨m, Nat.lt_succ_self _, W3, δ3, q1, q2, q3, q4, q5⟩, ?_⟩
    refine ⟨W2, δ1, fl3, δ3, μ3, rfl, ok2, d1.mono' l2, (by rw [m2]; exact e3), λ σ3 W3 ok3 l3 m3 d3 => ?_⟩
    cases fl3 with
    | nx => exact ⟨W3, rfl, ok3, (l1.trans l2).trans l3, d3, by rw [m3]; exact e4⟩
    | ct => exact ⟨W3, rfl, ok3, (l1.trans l2).trans l3, d3, by rw [m3]; exact e4⟩
    | bk => cases e4; exact h σ3 W3 ok3 ((l1.trans l2).trans l3) m3 d3
    | rt d => cases e4; exact h σ3 W3 ok3 ((l1.trans l2).trans l3) m3 d3
end
abbrev GF := D -> En -> Mu -> Option En
abbrev GsF := List D -> En -> Mu -> Option En
def tDG (K : PySem.W.Frag) (tb : List Addr) (ts : List Nat) (h : GF) : TG := λ v σ H Q => ∃ W δ d δ', W.H = H /\ WOk K tb W /\ iT K tb W δ σ /\ Den K tb W d v /\ h d δ W.mu = some δ' /\
 ∀ σ', iT K tb W δ' σ' -> σ'.length = σ.length -> (∀ i, i ∉ ts -> σ'[i]? = σ[i]?) -> Q σ' H
def tDGs (K : PySem.W.Frag) (tb : List Addr) (ts : List Nat) (h : GsF) : TGs := λ vs σ H Q => ∃ W δ ds δ', W.H = H /\ WOk K tb W /\ iT K tb W δ σ /\ cu K tb W ds vs /\ h ds δ W.mu = some δ' /\
 ∀ σ', iT K tb W δ' σ' -> σ'.length = σ.length -> (∀ i, i ∉ ts -> σ'[i]? = σ[i]?) -> Q σ' H
def PGD (X : Cx) (tb : List Addr) (tg : Expr) (ts : List Nat) (h : GF) : Prop := PG X tg (tDG X.K tb ts h)
def Gp (X : Cx) (tb : List Addr) (tg : List Expr) (ts : List Nat) (h : GsF) : Prop := PGs X tg (tDGs X.K tb ts h)
theorem Je {X : Cx} {e : Expr} {t t' : TG} (h : PG X e t) (k : ∀ v σ H Q, t' v σ H Q -> t v σ H Q) : PG X e t' := λ pins s σ H v u Q I r hq => h pins s σ H v u Q I r (k v σ H Q hq)
theorem Cr {X : Cx} {e : List Expr} {t t' : TGs} (h : PGs X e t) (k : ∀ v σ H Q, t' v σ H Q -> t v σ H Q) : PGs X e t' := λ pins s σ H v u Q I r hq => h pins s σ H v u Q I r (k v σ H Q hq)
def hName (i : Nat) : GF := λ d δ _ => some (δ.set i (some d))
def kY : GsF := λ ds δ _ => match ds with
 | [] => some δ
 | _ => none
def cB (h : GF) (hs : GsF) : GsF := λ ds δ μ => match ds with
 | [] => none
 | d :: r => (h d δ μ).bind λ δ1 => hs r δ1 μ
def kW (n : Nat) (hs : GsF) : GF := λ d δ μ => match d with
 | .tup ds => if ds.length = n then hs ds δ μ else none
 | _ => none
section
variable {X : Cx} {tb : List Addr} {e tg iter elt : Expr} {f : EF} {pos : Pos}
theorem aJ {i : Nat} {x : Str} (hN : X.N.Nodup) (hi : X.N[i]? = some x := by rfl) (hx : Loc X.env.scope x := by first | exact Or.inl rfl | exact Or.inr rfl)
  (hf : X.fn x = true ∨ X.env.scope.names.lookup x = some .local := by first | exact .inl rfl | exact .inr rfl | assumption) : PGD X tb (.Name x pos) [i] (hName i) :=
 Je (HH hN hi hx hf) λ v σ H Q zq1 => by
  obtain ⟨W, δ, d, δ', e, ok, hd, dv, hh, h⟩ := zq1
  cases hh
  refine h _ (hd.set dv) (by rw [List.length_set]) λ j hj => ?_
  rw [List.getElem?_set_ne (λ z => hj (by simp [z]))]
theorem gV : Gp X tb [] [] kY :=
 Cr Gx λ vs σ H Q zq2 => by
  obtain ⟨W, δ, ds, δ', e, ok, hd, dv, hh, h⟩ := zq2
  match ds, dv, hh with
  | [], dv, hh =>
   cases hh
   exact ⟨aA.zero dv, h σ hd rfl λ _ _ => rfl⟩
theorem bB {es : List Expr} {ts us : List Nat} {h : GF} {hs : GsF} (h1 : PGD X tb e ts h) (h2 : Gp X tb es us hs)
  (ha : (assignEach (e :: es) X.env).map (·.2) = assign e X.env :: (assignEach es X.env).map (·.2) := by rfl) : Gp X tb (e :: es) (ts ++ us) (cB h hs) :=
 Cr (El h1 h2 ha) λ vs σ H Q zq3 => by
  obtain ⟨W, δ, ds, δ', e, ok, hd, dv, hh, k⟩ := zq3
  match ds, dv, hh with
  | d :: r, dv, hh =>
   obtain ⟨δ1, e1, e2⟩ := Option.bind_eq_some_iff.mp hh
   have dv' : aA _ _ _ _ _ := dv
   unfold aA at dv'
   obtain ⟨u, us', rfl, p, q⟩ := dv'
   refine ⟨u, us', rfl, W, δ, d, δ1, e, ok, hd, p, e1, λ σ1 d1 l1 s1 => ⟨W, δ1, r, δ', e, ok, d1, q, e2, λ σ2 d2 l2 s2 => ?_⟩⟩
   exact k σ2 d2 (l2.trans l1) λ i hi => (s2 i λ z => hi (List.mem_append_right _ z)).trans (s1 i λ z => hi (List.mem_append_left _ z))
theorem iW {es : List Expr} {k : Nat} {ts : List Nat} {hs : GsF} {n : Nat} (hc : X.calm = true) (h : Gp X tb es ts hs) (hn : (assignEach es X.env).length = n := by rfl) (hst : (assignEach es X.env).findIdx? (·.1) = none := by rfl) :
  PGD X tb (.Tuple es k pos) ts (kW n hs) :=
 Je (Mx hc h hn hst) λ v σ H Q zq4 => by
  obtain ⟨W, δ, d, δ', e, ok, hd, dv, hh, k⟩ := zq4
  cases d with
  | tup ds =>
   obtain ⟨a, xs, rfl, q, r⟩ := iQ dv
   have hh' : (if ds.length = n then hs ds δ W.mu else none) = some δ' := hh
   by_cases hl : ds.length = n
   .rw [if_pos hl] at hh'
    have q' : SqT X.K H a xs := by rw [<- e]; exact SqT.fz q
    have hl' : xs.length = n := by rw [<- aA.length r]; exact hl
    exact ⟨a, xs, rfl, q', hl', ⟨W, δ, ds, δ', e, ok, hd, r, hh', k⟩⟩
   .rw [if_neg hl] at hh'; cases hh'
  | _ => cases hh
def HN (f : EF) (h : GF) : SF := λ δ μ => (f δ μ).bind λ r => (h r.1 δ r.2).bind λ δ' => some (.nx, δ', r.2)
theorem Ir {ts : List Nat} {h : GF} (he : PD X tb e f) (hg : PGD X tb tg ts h) (hs : swapsWithSole [tg] e pos.line X.env = pure false := by rfl) (hw : swappedStores [tg] e X.env = pure none := by rfl)
  (h1 : (assignEach [tg] X.env).map (·.2) = [assign tg X.env] := by rfl) : PSD X tb (.Assign [tg] e pos) (HN f h) :=
 lw (Fw he hg hs hw h1) λ E σ H zq5 => by
  obtain ⟨W, δ, fl, δ', μ', e, ok, hd, hf, k⟩ := zq5
  unfold HN at hf
  obtain ⟨⟨x, μ1⟩, e1, hf⟩ := Option.bind_eq_some_iff.mp hf
  obtain ⟨δ1, e2, e3⟩ := Option.bind_eq_some_iff.mp hf
  cases e3
  refine ⟨W, δ, x, _, e, ok, hd, e1, λ v W1 ok1 l1 m1 d1 => ⟨W1, δ, x, _, rfl, ok1, hd.mono' l1, d1, (by rw [m1]; exact e2), λ σ1 d2 _ _ => ?_⟩⟩
  exact k σ1 W1 ok1 l1 m1 d2
structure Src where
 items : List D
 cel : Option Nat
def Src.ok (S : Src) (μ : Mu) : Prop := ∀ n, S.cel = some n -> μ[n]? = some (some S.items)
theorem Src.bK {S : Src} {μ : Mu} (h : S.cel = none) : S.ok μ := λ n e => by rw [h] at e; cases e
abbrev IF := En -> Mu -> Option (Src × Mu)
structure Ax (K : PySem.W.Frag) (tb : List Addr) (J : It) (S : Src) (W0 : Wd) : Prop where
 go : ∀ (i : Nat) W d, Le tb W0 W -> WOk K tb W -> S.ok W.mu -> S.items[i]? = some d -> J.go i W.H /\ ∀ x H', J.yld i W.H x H' -> ∃ W', W'.H = H' /\ WOk K tb W' /\ Le tb W W' /\ W'.mu = W.mu /\ Den K tb W' d x
 stop : ∀ (i : Nat) W, Le tb W0 W -> WOk K tb W -> S.ok W.mu -> S.items.length <= i -> J.stop i W.H
def tDI (K : PySem.W.Frag) (tb : List Addr) (f : IF) : TI := λ σ H R => ∃ W δ S μ', W.H = H /\ WOk K tb W /\ iT K tb W δ σ /\ f δ W.mu = some (S, μ') /\
 ∀ J W', WOk K tb W' -> Le tb W W' -> W'.mu = μ' -> Ax K tb J S W' -> R J W'.H
def PID (X : Cx) (tb : List Addr) (tg iter : Expr) (f : IF) : Prop := PI X tg iter (tDI X.K tb f)
theorem Aa {w w' : TI} (h : PI X tg iter w) (k : ∀ σ H R, w' σ H R -> w σ H R) : PI X tg iter w' := λ pins s σ H R I hq => h pins s σ H R I (k σ H R hq)
theorem Ly {l : Expr} {tl : TE} (hl : PE X l tl) : PI X tg l (λ σ H R => tl σ H λ x H1 => ∃ a, x = .ref a /\ ((∃ xs, SqL X.K H1 a xs) /\ R (Itl X.K a) H1 ∨ (∃ xs, SqT X.K H1 a xs) /\ R (Itt X.K a) H1)) := by
 intro pins s σ H R I h
 refine thn (hl pins s σ H _ I h) λ v s1 zq6 => ?_
 obtain ⟨x, H1, I1, r1, q1⟩ := zq6
 obtain ⟨a, e, q⟩ := q1
 subst e
 cases r1
 rcases q with ⟨⟨xs, hq⟩, q⟩ | ⟨⟨xs, hq⟩, q⟩
 .obtain ⟨its, rv, p, hz⟩ := I1.list hq
  refine wpAny_pyIter_list p.isList ?_
  refine ⟨s1.heap.objs.size, [s1.heap.objs.size], _, _, H1, rfl, I1.kept (t' := s1.toks) λ b o e => Heap.get?_push_of_some _ e, uG a _, ⟨_, Heap.get?_push_size _ rfl, rfl, rfl⟩, λ b hb => ?_, q⟩
  have e : b = s1.heap.objs.size := by simpa using hb
  subst e
  exact I1.fpOk (Nat.le_refl _) (I1.hok.fresh (Nat.le_refl _))
 .obtain ⟨its, rv, p, hz⟩ := I1.tuple hq
  refine wpAny_pyIter_tuple (show s1.heap.IsTuple a its.toArray from p) ?_
  refine ⟨s1.heap.objs.size, [s1.heap.objs.size], _, _, H1, rfl, I1.kept (t' := s1.toks) λ b o e => Heap.get?_push_of_some _ e, qN a _, ⟨_, Heap.get?_push_size _ rfl, rfl, rfl⟩, λ b hb => ?_, q⟩
  have e : b = s1.heap.objs.size := by simpa using hb
  subst e
  exact I1.fpOk (Nat.le_refl _) (I1.hok.fresh (Nat.le_refl _))
def srcOf (d : D) (μ : Mu) : Option Src := match d with
 | .tup ds => some ⟨ds, none⟩
 | .lst ds => some ⟨ds, none⟩
 | .cell n => match μ[n]? with
  | some (some ds) => some ⟨ds, some n⟩
  | _ => none
 | _ => none
theorem Cw {K : PySem.W.Frag} {W0 : Wd} {a : Addr} {xs : List V} {ds : List D} (q : SqL K (W0.fz tb) a xs) (r : cu K tb W0 ds xs) : Ax K tb (Itl K a) ⟨ds, none⟩ W0 where
 go := λ i W d l ok _ e => by
  have q' : SqL K W.H a xs := SqL.fz (SqL.mono l.same q)
  obtain ⟨v, ev, dv⟩ := aA.get (cu.mono' r l) e
  exact ⟨⟨xs, v, q', ev⟩, λ x H' ⟨e1, e2⟩ => ⟨W, e1.symm, ok, Le.refl _, rfl, by have := e2 xs q'; rw [ev] at this; cases this; exact dv⟩⟩
 stop := λ i W l ok _ hi => ⟨xs, SqL.fz (SqL.mono l.same q), by rw [<- aA.length r]; exact hi⟩
theorem Du {K : PySem.W.Frag} {W0 : Wd} {a : Addr} {xs : List V} {ds : List D} (q : SqT K (W0.fz tb) a xs) (r : cu K tb W0 ds xs) : Ax K tb (Itt K a) ⟨ds, none⟩ W0 where
 go := λ i W d l ok _ e => by
  have q' : SqT K W.H a xs := SqT.fz (SqT.mono l.same q)
  obtain ⟨v, ev, dv⟩ := aA.get (cu.mono' r l) e
  exact ⟨⟨xs, v, q', ev⟩, λ x H' ⟨e1, e2⟩ => ⟨W, e1.symm, ok, Le.refl _, rfl, by have := e2 xs q'; rw [ev] at this; cases this; exact dv⟩⟩
 stop := λ i W l ok _ hi => ⟨xs, SqT.fz (SqT.mono l.same q), by rw [<- aA.length r]; exact hi⟩
theorem KH {K : PySem.W.Frag} {W0 : Wd} {a : Addr} {n : Nat} {ds : List D} (q : W0.ad[n]? = some a) : Ax K tb (Itl K a) ⟨ds, some n⟩ W0 where
 go := λ i W d l ok hs e => by
  obtain ⟨xs, ex, r⟩ := ok.cont n a ds (l.ad _ _ q) (hs n rfl)
  obtain ⟨v, ev, dv⟩ := aA.get r e
  exact ⟨⟨xs, v, SqL.of ex, ev⟩, λ x H' ⟨e1, e2⟩ => ⟨W, e1.symm, ok, Le.refl _, rfl, by have := e2 xs (SqL.of ex); rw [ev] at this; cases this; exact dv⟩⟩
 stop := λ i W l ok hs hi => by
  obtain ⟨xs, ex, r⟩ := ok.cont n a ds (l.ad _ _ q) (hs n rfl)
  exact ⟨xs, SqL.of ex, by rw [<- aA.length r]; exact hi⟩
def eZ (f : EF) : IF := λ δ μ => (f δ μ).bind λ r => (srcOf r.1 r.2).map λ S => (S, r.2)
theorem cL (he : PD X tb e f) : PID X tb tg e (eZ f) :=
 Aa (Ly he) λ σ H R zq7 => by
  obtain ⟨W, δ, S, μ', e, ok, hd, hf, h⟩ := zq7
  unfold eZ at hf
  obtain ⟨⟨x, μ1⟩, e1, hf⟩ := Option.bind_eq_some_iff.mp hf
  obtain ⟨S', e2, e3⟩ := Option.map_eq_some_iff.mp hf
  cases e3
  refine ⟨W, δ, x, _, e, ok, hd, e1, λ v W1 ok1 l1 m1 d1 => ?_⟩
  cases x with
  | tup ds =>
   cases e2
   obtain ⟨a, xs, rfl, q, r⟩ := iQ d1
   exact ⟨a, rfl, .inr ⟨⟨xs, SqT.fz q⟩, h _ W1 ok1 l1 m1 (Du q r)⟩⟩
  | lst ds =>
   cases e2
   obtain ⟨a, xs, rfl, q, r⟩ := jF d1
   exact ⟨a, rfl, .inl ⟨⟨xs, SqL.fz q⟩, h _ W1 ok1 l1 m1 (Cw q r)⟩⟩
  | cell n =>
   obtain ⟨a, rfl, q⟩ := gK d1
   have e2' : (match μ1[n]? with | some (some ds) => some (⟨ds, some n⟩ : Src) | _ => none) = some S := e2
   cases e4 : μ1[n]? with
   | none => rw [e4] at e2'; cases e2'
   | some o =>
    cases o with
    | none => rw [e4] at e2'; cases e2'
    | some ds =>
     rw [e4] at e2'
     cases e2'
     obtain ⟨xs, ex, _⟩ := ok1.cont n a ds q (by rw [m1]; exact e4)
     exact ⟨a, rfl, .inl ⟨⟨xs, SqL.of ex⟩, h _ W1 ok1 l1 m1 (KH q)⟩⟩
  | _ => cases e2
def cU (lo : Int) (n : Nat) : List D := (List.range n).map λ (k : Nat) => D.int (lo + (k : Int))
theorem Jy {K : PySem.W.Frag} {W0 : Wd} {lo : Int} {n : Nat} : Ax K tb (Itr lo n) ⟨cU lo n, none⟩ W0 where
 go := λ i W d l ok _ e => by
  unfold cU at e
  rw [List.getElem?_map] at e
  by_cases hi : i < n
  .rw [List.getElem?_range hi] at e
   cases e
   exact ⟨hi, λ x H' ⟨e1, e2⟩ => ⟨W, e1.symm, ok, Le.refl _, rfl, by rw [e2]; exact dO⟩⟩
  .rw [List.getElem?_eq_none (by simpa using hi)] at e; cases e
 stop := λ i W l ok _ hi => by
  unfold cU at hi
  have hi' : n <= i := by simpa using hi
  exact hi'
def bO (fs : AF) : IF := λ δ μ => (fs δ μ).bind λ r => match r.1 with
 | [.int j] => if -(2 ^ 62) <= j /\ j < 2 ^ 62 then some (⟨cU 0 j.toNat, none⟩, r.2) else none
 | _ => none
theorem bY {a : Expr} {fs : AF} {p : Pos} (hm : X.mg "range" = none) (ha : PAD X tb [a] fs) (hg : Gl X "range" := by rfl) (hs : starEach [a] X.env = [(false, eval a X.env)] := by rfl) : PID X tb tg (.Call (.Name "range" p) [a] [] pos) (bO fs) :=
 Aa (Bs hg hm ha hs) λ σ H R zq8 => by
  obtain ⟨W, δ, S, μ', e, ok, hd, hf, h⟩ := zq8
  unfold bO at hf
  obtain ⟨⟨xs, μ1⟩, e1, e2⟩ := Option.bind_eq_some_iff.mp hf
  match xs, e1, e2 with
  | [.int j], e1, e2 =>
   have e2' : (if -(2 ^ 62) <= j /\ j < 2 ^ 62 then some ((⟨cU 0 j.toNat, none⟩ : Src), μ1) else none) = some (S, μ') := e2
   split at e2'
   .rename_i hj
    cases e2'
    refine ⟨W, δ, _, _, e, ok, hd, e1, λ vs W1 ok1 l1 m1 d1 => ?_⟩
    obtain ⟨u, rfl, du⟩ := aA.one d1
    rw [bj du]
    exact ⟨j, rfl, hj.1, hj.2, h _ W1 ok1 l1 m1 Jy⟩
   .cases e2'
open Classical in
noncomputable def forL (S : Src) (h : GF) (b : SF) : List D -> SF
 | [], δ, μ => if S.ok μ then some (.nx, δ, μ) else none
 | d :: r, δ, μ => if S.ok μ then (h d δ μ).bind λ δ1 => (b δ1 μ).bind λ q => match q.1 with
   | .nx => forL S h b r q.2.1 q.2.2
   | .ct => forL S h b r q.2.1 q.2.2
   | .bk => some (.nx, q.2)
   | .rt d => some (.rt d, q.2)
  else none
noncomputable def gZ (f : IF) (h : GF) (b : SF) : SF := λ δ μ => (f δ μ).bind λ r => forL r.1 h b r.1.items δ r.2
theorem dj {body : List Stmt} {fi : IF} {ts : List Nat} {h : GF} {b : SF} (hp : PassesOwn (model X.prog X.w) X.A X.env X.xe) (hc : X.calm = true) (hi : PID X tb tg iter fi) (hg : PGD X tb tg ts h) (hb : tu X tb body b)
  (hs : ∀ x, foldedSetIterable iter X.env x = pure x := by intro _; rfl) : PSD X tb (.For tg iter body [] pos) (gZ fi h b) :=
 lw (KC hp hc hi hg hb hs) λ E σ H zq10 => by
  obtain ⟨W, δ, fl, δ', μ', e, ok, hd, hf, k⟩ := zq10
  unfold gZ at hf
  obtain ⟨⟨S, μ1⟩, e1, e2⟩ := Option.bind_eq_some_iff.mp hf
  refine ⟨W, δ, S, μ1, e, ok, hd, e1, λ J W1 ok1 l1 m1 io => ?_⟩
  refine ⟨λ i m σ2 H2 => m = S.items.length - i /\ i <= S.items.length /\ ∃ W2 δ2, W2.H = H2 /\ WOk X.K tb W2 /\ Le tb W1 W2 /\ iT X.K tb W2 δ2 σ2 /\ forL S h b (S.items.drop i) δ2 W2.mu = some (fl, δ', μ'),
   ⟨S.items.length, rfl, Nat.zero_le _, W1, δ, rfl, ok1, Le.refl _, hd.mono' l1, by rw [m1]; exact e2⟩, ?_⟩
  rintro i m σ2 H2 ⟨hm, hi', W2, δ2, rfl, ok2, l2, d2, hn⟩
  by_cases hlt : i < S.items.length
  .right
   have hdr : S.items.drop i = S.items[i] :: S.items.drop (i + 1) := List.drop_eq_getElem_cons hlt
   rw [hdr] at hn
   unfold forL at hn
   split at hn
   .rename_i hok
    obtain ⟨δ3, e3, hn⟩ := Option.bind_eq_some_iff.mp hn
    obtain ⟨⟨fl4, δ4, μ4⟩, e4, e5⟩ := Option.bind_eq_some_iff.mp hn
    obtain ⟨go, yl⟩ := io.go i W2 S.items[i] l2 ok2 hok (by simp [hlt])
    refine ⟨go, λ σ5 H5 => ∃ W5, W5.H = H5 /\ WOk X.K tb W5 /\ Le tb W1 W5 /\ iT X.K tb W5 δ4 σ5 /\ forL S h b (S.items.drop (i + 1)) δ4 W5.mu = some (fl, δ', μ'), λ σ5 H5 ⟨W5, q1, q2, q3, q4, q5⟩ => ⟨S.items.length - (i + 1), by omega, rfl, hlt, W5, δ4, q1, q2, q3, q4, q5⟩, λ x H' y => ?_⟩
    obtain ⟨W3, rfl, ok3, l3, m3, d3⟩ := yl x H' y
    refine ⟨W3, δ2, S.items[i], δ3, rfl, ok3, d2.mono' l3, d3, (by rw [m3]; exact e3), λ σ3 d3' _ _ => ?_⟩
    refine ⟨W3, δ3, fl4, δ4, μ4, rfl, ok3, d3', (by rw [m3]; exact e4), λ σ4 W4 ok4 l4 m4 d4 => ?_⟩
    cases fl4 with
    | nx => exact ⟨W4, rfl, ok4, (l2.trans l3).trans l4, d4, by rw [m4]; exact e5⟩
    | ct => exact ⟨W4, rfl, ok4, (l2.trans l3).trans l4, d4, by rw [m4]; exact e5⟩
    | bk => cases e5; exact k σ4 W4 ok4 (((l1.trans l2).trans l3).trans l4) m4 d4
    | rt d => cases e5; exact k σ4 W4 ok4 (((l1.trans l2).trans l3).trans l4) m4 d4
   .cases hn
  .left
   have hdr : S.items.drop i = [] := List.drop_of_length_le (by omega)
   rw [hdr] at hn
   unfold forL at hn
   split at hn
   .rename_i hok
    have hn' : some (Fl.nx, δ2, W2.mu) = some (fl, δ', μ') := hn
    cases hn'
    exact ⟨io.stop i W2 l2 ok2 hok (by omega), k σ2 W2 ok2 (l1.trans l2) rfl d2⟩
   .cases hn
abbrev LF := En -> Mu -> Option (List D × Mu)
def tDN (K : PySem.W.Frag) (tb : List Addr) (f : LF) : TE := λ σ H Q => ∃ W δ ds μ', W.H = H /\ WOk K tb W /\ iT K tb W δ σ /\ f δ W.mu = some (ds, μ') /\
 ∀ p vs W', WOk K tb W' -> Le tb W W' -> W'.mu = μ' -> W'.H p = none -> cu K tb W' ds vs -> Q (.ref p) (upd W'.H p (.lst vs))
def PDN (X : Cx) (tb : List Addr) (e : Expr) (f : LF) : Prop := PE X e (tDN X.K tb f)
def mFz (f : LF) : EF := λ δ μ => (f δ μ).bind λ r => some (.lst r.1, r.2)
def mU (f : LF) : EF := λ δ μ => (f δ μ).bind λ r => some (.cell r.2.length, r.2 ++ [some r.1])
theorem cZ {f : LF} (h : PDN X tb e f) : PD X tb e (mFz f) := dY h λ σ H Q zq11 => by
 obtain ⟨W, δ, d, μ', e, ok, hd, hf, k⟩ := zq11
 unfold mFz at hf
 obtain ⟨⟨ds, μ1⟩, e1, e2⟩ := Option.bind_eq_some_iff.mp hf
 cases e2
 refine ⟨W, δ, ds, _, e, ok, hd, e1, λ p vs W1 ok1 l1 m1 hp r => ?_⟩
 exact iV ok1 (λ v W' ok' l' m' d' => k v W' ok' (l1.trans l') (m'.trans m1) d') r hp
theorem jb {f : LF} (h : PDN X tb e f) : PD X tb e (mU f) := dY h λ σ H Q zq12 => by
 obtain ⟨W, δ, d, μ', e, ok, hd, hf, k⟩ := zq12
 unfold mU at hf
 obtain ⟨⟨ds, μ1⟩, e1, e2⟩ := Option.bind_eq_some_iff.mp hf
 cases e2
 refine ⟨W, δ, ds, μ1, e, ok, hd, e1, λ p vs W1 ok1 l1 m1 hp r => ?_⟩
 obtain ⟨ok2, l2, d2⟩ := ok1.new hp r
 exact k _ _ ok2 (l1.trans l2) (by show W1.mu ++ [some ds] = _; rw [m1]) (by rw [<- m1]; exact d2)
def pM (fs : AF) : LF := λ δ μ => (fs δ μ).bind λ r => if r.1.length <= sizeLine then some r else none
theorem jX {es : List Expr} {fs : AF} (h : PAD X tb es fs) : PDN X tb (.List es pos) (pM fs) := dY (Fb h) λ σ H Q zq13 => by
 obtain ⟨W, δ, ds, μ', e, ok, hd, hf, k⟩ := zq13
 unfold pM at hf
 obtain ⟨⟨xs, μ1⟩, e1, e2⟩ := Option.bind_eq_some_iff.mp hf
 split at e2
 .rename_i hl
  cases e2
  exact ⟨W, δ, _, _, e, ok, hd, e1, λ vs W1 ok1 l1 m1 d1 => ⟨by rw [<- aA.length d1]; exact hl, λ p hp => k p vs W1 ok1 l1 m1 hp d1⟩⟩
 .cases e2
def cz (own : List Str) (δ : En) (capI : List Nat) : En := List.replicate own.length none ++ capI.map λ i => (δ[i]?).join
theorem qD {K : PySem.W.Frag} {W : Wd} {own : List Str} {capI : List Nat} {δ : En} {σ : SV} (h : iT K tb W δ σ) : iT K tb W (cz own δ capI) (cF own σ capI) := by
 refine ⟨by unfold cz cF jT; simp, λ i d e => ?_⟩
 unfold cz at e
 unfold cF jT
 by_cases hi : i < own.length
 .rw [List.getElem?_append_left (by simpa using hi), List.getElem?_replicate] at e
  split at e <;> cases e
 .rw [List.getElem?_append_right (by simpa using hi), List.getElem?_map] at e
  rw [List.getElem?_append_right (by simpa using hi), List.getElem?_map]
  rw [List.length_replicate] at e ⊢
  cases q : capI[i - own.length]? with
  | none => rw [q] at e; cases e
  | some j =>
   rw [q] at e
   have e' : (δ[j]?).join = some d := by simpa using e
   cases q2 : δ[j]? with
   | none => rw [q2] at e'; cases e'
   | some o =>
    rw [q2] at e'
    have e2 : o = some d := e'
    subst e2
    obtain ⟨v, ev, dv⟩ := h.2 j d q2
    exact ⟨v, by simp [ev], dv⟩
theorem fits_of {own : List Str} {capI : List Nat} {σ σ' : SV} {ts : List Nat} (hts : ∀ i ∈ ts, i < own.length) (hl : σ'.length = (cF own σ capI).length) (h : ∀ i, i ∉ ts -> σ'[i]? = (cF own σ capI)[i]?) : Fits (cF own σ capI) σ' :=
 ⟨hl, λ i v e => by
  rw [h i λ z => ?_]
  .exact e
  .unfold cF at e
   rw [List.getElem?_append_left (by simpa using hts i z), List.getElem?_replicate] at e
   split at e <;> cases e⟩
open Classical in
noncomputable def lcL (S : Src) (h : GF) (tt : TF) (fe : EF) (δb : En) : List D -> Mu -> Option (List D × Mu)
 | [], μ => if S.ok μ then some ([], μ) else none
 | d :: r, μ => if S.ok μ then (h d δb μ).bind λ δ1 => (tt δ1 μ).bind λ k => if k.1 = true then (fe δ1 k.2).bind λ y => (lcL S h tt fe δb r y.2).bind λ ys => some (y.1 :: ys.1, ys.2) else lcL S h tt fe δb r k.2 else none
noncomputable def lLC (own : List Str) (capI : List Nat) (fi : IF) (h : GF) (tt : TF) (fe : EF) : LF := λ δ μ => (fi δ μ).bind λ r => if r.1.items.length <= sizeLine then lcL r.1 h tt fe (cz own δ capI) r.1.items r.2 else none
def HS (X : Cx) (tb : List Addr) (ifs : List Expr) (t : TF) : Prop := PIf X ifs (tDT X.K tb t)
def bG : TF := λ _ μ => some (true, μ)
theorem Kg {X : Cx} {e : List Expr} {t t' : TT} (h : PIf X e t) (k : ∀ σ H Q, t' σ H Q -> t σ H Q) : PIf X e t' := λ pins s σ H Q I hq => h pins s σ H Q I (k σ H Q hq)
theorem cI : HS X tb [] bG := Kg Gm λ σ H Q zq14 => by
 obtain ⟨W, δ, k, μ', e, ok, hd, hf, h⟩ := zq14
 subst e; cases hf
 exact h W ok (Le.refl _) rfl
theorem lz {c : Expr} {t : TF} (h : PTD X tb c t) : HS X tb [c] t := Iv h
theorem eF {ifs : List Expr} {fi : IF} {h : GF} {tt : TF} {fe : EF} {own cap : List Str} {capI ts : List Nat} {scope : Scope} (hc : X.calm = true) (B : eN X own cap capI scope) (hown : ∀ x ∈ own, (x, NameKind.free) ∉ scope.names) (hi : PID X tb tg iter fi)
  (hg : ∀ cs C fp s2 H2, PGD (dJ X own cap scope cs C fp s2 H2) tb tg ts h) (ht : ∀ cs C fp s2 H2, HS (dJ X own cap scope cs C fp s2 H2) tb ifs tt) (he : ∀ cs C fp s2 H2, PD (dJ X own cap scope cs C fp s2 H2) tb elt fe)
  (hts : ∀ i ∈ ts, i < own.length := by decide) (hs : ∀ x, foldedSetIterable iter X.env x = pure x := by intro _; rfl) : PDN X tb (.ListComp elt [⟨tg, iter, ifs, 0⟩] scope pos) (lLC own capI fi h tt fe) :=
 dY (Nz (g := tDG X.K tb ts h) (tt := tDT X.K tb tt) (te := tD X.K tb fe) hc B hown hi hg ht he hs) λ σ H Q zq15 => by
  obtain ⟨W, δ, ds, μ', e, ok, hd, hf, k⟩ := zq15
  unfold lLC at hf
  obtain ⟨⟨S, μ1⟩, e1, e2⟩ := Option.bind_eq_some_iff.mp hf
  split at e2
  .rename_i hz
   refine ⟨W, δ, S, μ1, e, ok, hd, e1, λ J W1 ok1 l1 m1 io => ?_⟩
   refine ⟨λ i m ys H2 => m = S.items.length - i /\ i <= S.items.length /\ ys.length <= i /\ ∃ W2 zs rs, W2.H = H2 /\ WOk X.K tb W2 /\ Le tb W1 W2 /\ cu X.K tb W2 zs ys /\ lcL S h tt fe (cz own δ capI) (S.items.drop i) W2.mu = some (rs, μ') /\ zs ++ rs = ds,
    ⟨S.items.length, rfl, Nat.zero_le _, Nat.zero_le _, W1, [], ds, rfl, ok1, Le.refl _, aA.nil, by rw [m1]; exact e2, rfl⟩, ?_⟩
   rintro i m ys H2 ⟨hm, hi', hy, W2, zs, rs, rfl, ok2, l2, d2, hn, hzs⟩
   by_cases hlt : i < S.items.length
   .right
    have hdr : S.items.drop i = S.items[i] :: S.items.drop (i + 1) := List.drop_eq_getElem_cons hlt
    rw [hdr] at hn
    unfold lcL at hn
    split at hn
    .rename_i hok
     obtain ⟨δ3, e3, hn⟩ := Option.bind_eq_some_iff.mp hn
     obtain ⟨⟨kk, μ4⟩, e4, hn⟩ := Option.bind_eq_some_iff.mp hn
     obtain ⟨go, yl⟩ := io.go i W2 S.items[i] l2 ok2 hok (by simp [hlt])
     refine ⟨go, Nat.lt_of_lt_of_le (Nat.lt_of_le_of_lt hy hlt) hz, λ x H' y => ?_⟩
     obtain ⟨W3, rfl, ok3, l3, m3, d3⟩ := yl x H' y
     refine ⟨W3, cz own δ capI, S.items[i], δ3, rfl, ok3, (qD hd).mono' ((l1.trans l2).trans l3), d3, (by rw [m3]; exact e3), λ σ3 d3' hl3 ht3 => ⟨fits_of hts hl3 ht3, ?_⟩⟩
     refine ⟨W3, δ3, kk, μ4, rfl, ok3, d3', (by rw [m3]; exact e4), λ W4 ok4 l4 m4 => ?_⟩
     cases kk with
     | false =>
      rw [if_neg Bool.false_ne_true]
      exact ⟨S.items.length - (i + 1), by omega, rfl, hlt, by omega, W4, zs, rs, rfl, ok4, (l2.trans l3).trans l4, cu.mono' d2 (l3.trans l4), by rw [m4]; exact hn, hzs⟩
     | true =>
      rw [if_pos rfl]
      have hn' : ((fe δ3 μ4).bind λ y => (lcL S h tt fe (cz own δ capI) (S.items.drop (i + 1)) y.2).bind λ ys => some (y.1 :: ys.1, ys.2)) = some (rs, μ') := hn
      obtain ⟨⟨yd, μ5⟩, e5, hn'⟩ := Option.bind_eq_some_iff.mp hn'
      obtain ⟨⟨rs', μ6⟩, e6, e7⟩ := Option.bind_eq_some_iff.mp hn'
      cases e7
      refine ⟨W4, δ3, yd, μ5, rfl, ok4, d3'.mono' l4, (by rw [m4]; exact e5), λ v W5 ok5 l5 m5 d5 => ?_⟩
      refine ⟨S.items.length - (i + 1), by omega, rfl, hlt, by rw [List.length_append]; simp; omega, W5, zs ++ [yd], rs', rfl, ok5, ((l2.trans l3).trans l4).trans l5, aA.append (cu.mono' d2 ((l3.trans l4).trans l5)) (aA.cons d5 aA.nil), by rw [m5]; exact e6, by rw [List.append_assoc]; exact hzs⟩
    .cases hn
   .left
    have hdr : S.items.drop i = [] := List.drop_of_length_le (by omega)
    rw [hdr] at hn
    unfold lcL at hn
    split at hn
    .rename_i hok
     cases hn
     rw [List.append_nil] at hzs
     subst hzs
     exact ⟨io.stop i W2 l2 ok2 hok (by omega), λ l hl => k l ys W2 ok2 (l1.trans l2) rfl hl d2⟩
    .cases hn
  .cases e2
end
end L3
namespace L2
open PySem PySem.Spec PyProof.Rows
theorem uN {X : Cx} {pins : List (Addr × Obj)} {σ : L2.St} {H : Hp} {s : Shared} (I : Inv X pins σ H s) (hc : X.calm = true) {A' : Around} (h1 : A'.handled = X.A.handled) (h2 : A'.frames = X.A.frames) : A'.handled = none /\ A'.frames = some X.stack :=
 ⟨h1.trans (I.ok.hd hc), h2.trans I.ok.frames⟩
theorem qI {X : Cx} {e : Expr} {pos : Pos} {s : Shared} {Q : List Value -> Shared -> Prop} (h : wpAny (model X.prog X.w) X.A (eval e X.env) (λ u s1 => Q [u] s1) X.xe s) (hs : starEach [e] X.env = (false, eval e X.env) :: starEach [] X.env := by rfl) :
  wpAny (model X.prog X.w) X.A (spliced (backTo pos (starEach [e] X.env))) Q X.xe s := by
 rw [hs]
 show wpAny _ _ (spliced ((false, eval e X.env) :: backTo pos (starEach [] X.env))) _ _ s
 exact Calls.spliced_cons (thn h λ u s1 q => Calls.spliced_nil q)
def Bu (y : V) (k : Bool) : Prop := y = .bl k ∨ ∃ i, y = .int i /\ k = (i != 0)
theorem Aw {P : Program} {w : World} {A : Around} {E : Value -> Shared -> Prop} {s : Shared} {y : V} {v : Value} {k : Bool} {Q : Bool -> Shared -> Prop} (r : RelV y v) (h : Bu y k) (hq : Q k s) : wpAny (model P w) A (truthy v) Q E s := by
 rcases h with rfl | ⟨i, rfl, rfl⟩
 .cases r; exact wpAny_truthy_bool hq
 .obtain ⟨t, rfl⟩ := r; exact PySem.P.truthy_int hq
theorem ye {M : Model} {A : Around} {E : Value -> Shared -> Prop} {s : Shared} {t : Sem (Option Value)} {P : Value -> Shared -> Prop} {f : Value -> Sem Unit} (hf : ∀ u, f u = pure ())
  (h : wpAny M A t (λ r s1 => ∃ u, r = some u /\ wpAny M A (f u) (λ _ s2 => P u s2) E s1) E s) : wpAny M A t (λ r s1 => ∃ u, r = some u /\ P u s1) E s := λ Γ p hΓ =>
 Sem.wp_mono M Γ t (λ a p' s ⟨u, e, q⟩ => ⟨u, e, by rw [hf] at q; exact q Γ p' hΓ⟩) (λ _ _ _ e => e) p s (h Γ p hΓ)
section
variable {X : Cx} {e : Expr} {ts : qe} {p pos : Pos} {pins : List (Addr × Obj)} {σ : L2.St}
def Ow (ts : qe) : TE := λ σ H Q => ts σ H λ S H1 => ∃ W : Nat -> Nat -> Hp -> Prop, (∃ m, W 0 m H1) /\ ∀ i m H, W i m H ->
 (S.fin i H /\ Q (.bl true) H) ∨ S.nxt i H λ y H' => ∃ k, Bu y k /\ if k = true then ∃ m', m' < m /\ W (i + 1) m' H' else Q (.bl false) H'
def PN (ts : qe) : TE := λ σ H Q => ts σ H λ S H1 => ∃ W : Nat -> Nat -> Hp -> Prop, (∃ m, W 0 m H1) /\ ∀ i m H, W i m H ->
 (S.fin i H /\ Q (.bl false) H) ∨ S.nxt i H λ y H' => ∃ k, Bu y k /\ if k = true then Q (.bl true) H' else ∃ m', m' < m /\ W (i + 1) m' H'
theorem Dg {it : Addr} {lo : Nat} {S : qg} {SS : List (Addr × Obj) -> Nat -> Hp -> Shared -> Prop} {Q : VK} {W : Nat -> Nat -> Hp -> Prop} (sm : Ba X pins σ X.A.in1 it lo S SS)
  (st : ∀ i m H, W i m H -> (S.fin i H /\ Q (.bl true) H) ∨ S.nxt i H λ y H' => ∃ k, Bu y k /\ if k = true then ∃ m', m' < m /\ W (i + 1) m' H' else Q (.bl false) H') :
  ∀ (m i : Nat) (H : Hp) (s : Shared), SS [] i H s -> W i m H -> codeAny (model X.prog X.w) X.A (.builtin "all.loop" ⟨[.ref it], []⟩) (λ r s' => ∃ u, r = .ok (.ret u) /\ EP X pins σ Q u s') s := by
 intro m
 induction m using Nat.strongRecOn with
 | ind m ih =>
  intro i H s hs hw
  refine codeAny_builtin F.entry_all_loop ?_
  rw [Around.under_plainId F.plain_all_loop _]
  show wpAny _ X.A.in1 (pyNext (.ref it) >>= _) _ _ s
  rcases st i m H hw with ⟨hf, q⟩ | hn
  .refine wpAny_bind (wpAny_mono (sm.stop (λ _ _ => False) hs hf) (λ r s1 ⟨hr, I1⟩ => ?_) λ _ _ z => z.elim)
   subst hr
   refine wpAny_bind (wpAny_rule (wpAny_pure ⟨_, rfl, .bl true, H, ?_, rfl, q⟩))
   rw [List.append_nil] at I1
   exact I1
  .refine wpAny_bind (wpAny_mono (sm.next (λ _ _ => False) hs hn) (λ r s1 ⟨u, y, H', hr, ry, ⟨k, tk, q⟩, hs'⟩ => ?_) λ _ _ z => z.elim)
   subst hr
   refine wpAny_bind (wpAny_holding (Aw ry tk ?_))
   refine wpAny_bind (wpAny_letGo ?_)
   cases k with
   | true =>
    simp only [if_true]
    rw [if_pos rfl] at q
    obtain ⟨m', hm, hw'⟩ := q
    exact wpAny_pure ⟨plainId_quiet F.plain_all_loop _, ih m' hm (i + 1) H' s1 hs' hw'⟩
   | false =>
    simp only [Bool.false_eq_true, if_false]
    rw [if_neg Bool.false_ne_true] at q
    refine wpAny_bind (wpAny_rule (wpAny_pure ⟨_, rfl, .bl false, H', ?_, rfl, q⟩))
    have I1 := sm.inv hs'
    rw [List.append_nil] at I1
    exact I1
theorem Ei {it : Addr} {lo : Nat} {S : qg} {SS : List (Addr × Obj) -> Nat -> Hp -> Shared -> Prop} {Q : VK} {W : Nat -> Nat -> Hp -> Prop} (sm : Ba X pins σ X.A.in1 it lo S SS)
  (st : ∀ i m H, W i m H -> (S.fin i H /\ Q (.bl false) H) ∨ S.nxt i H λ y H' => ∃ k, Bu y k /\ if k = true then Q (.bl true) H' else ∃ m', m' < m /\ W (i + 1) m' H') :
  ∀ (m i : Nat) (H : Hp) (s : Shared), SS [] i H s -> W i m H -> codeAny (model X.prog X.w) X.A (.builtin "any.loop" ⟨[.ref it], []⟩) (λ r s' => ∃ u, r = .ok (.ret u) /\ EP X pins σ Q u s') s := by
 intro m
 induction m using Nat.strongRecOn with
 | ind m ih =>
  intro i H s hs hw
  refine codeAny_builtin F.entry_any_loop ?_
  rw [Around.under_plainId F.plain_any_loop _]
  show wpAny _ X.A.in1 (pyNext (.ref it) >>= _) _ _ s
  rcases st i m H hw with ⟨hf, q⟩ | hn
  .refine wpAny_bind (wpAny_mono (sm.stop (λ _ _ => False) hs hf) (λ r s1 ⟨hr, I1⟩ => ?_) λ _ _ z => z.elim)
   subst hr
   refine wpAny_bind (wpAny_rule (wpAny_pure ⟨_, rfl, .bl false, H, ?_, rfl, q⟩))
   rw [List.append_nil] at I1
   exact I1
  .refine wpAny_bind (wpAny_mono (sm.next (λ _ _ => False) hs hn) (λ r s1 ⟨u, y, H', hr, ry, ⟨k, tk, q⟩, hs'⟩ => ?_) λ _ _ z => z.elim)
   subst hr
   refine wpAny_bind (wpAny_holding (Aw ry tk ?_))
   refine wpAny_bind (wpAny_letGo ?_)
   cases k with
   | false =>
    simp only [Bool.false_eq_true, if_false]
    rw [if_neg Bool.false_ne_true] at q
    obtain ⟨m', hm, hw'⟩ := q
    exact wpAny_pure ⟨plainId_quiet F.plain_any_loop _, ih m' hm (i + 1) H' s1 hs' hw'⟩
   | true =>
    simp only [if_true]
    rw [if_pos rfl] at q
    refine wpAny_bind (wpAny_rule (wpAny_pure ⟨_, rfl, .bl true, H', ?_, rfl, q⟩))
    have I1 := sm.inv hs'
    rw [List.append_nil] at I1
    exact I1
theorem GC (hc : X.calm = true) (hm : X.mg "all" = none) (hstr : xm X e ts) (hg : Gl X "all" := by rfl) (hs : starEach [e] X.env = (false, eval e X.env) :: starEach [] X.env := by rfl) : PE X (.Call (.Name "all" p) [e] [] pos) (Ow ts) := by
 intro pins s σ H Q I h
 refine wpAny_Call_Name_kw (jG I hg hm boot_all ?_ (by decide) (by decide))
 refine PyProof.Rows.callWith_builtin1 (qI (thn (hstr pins s σ H _ I h) λ u s1 ⟨S, H1, I1, rdy, W, ⟨m, w0⟩, st⟩ => ?_) hs) hs rfl
 refine call_function_tree F.kind_all F.plain_all F.entry_all (F.args_all1 _) ?_
 unfold Builtin.«all»
 refine wpAny_bind (m := oneArg "all" _) (wpAny_pure ?_)
 obtain ⟨a1, a2⟩ := uN I1 hc (A' := X.A.in1) rfl rfl
 refine wpAny_bind (wpAny_mono (rdy X.A.in1 (λ _ _ => False) a1 a2 (Nat.le_succ _) (by show X.A.units + 1 <= _; omega)) (λ itv s2 ⟨it, lo, SS, e, sm, s0, _⟩ => ?_) λ _ _ z => z.elim)
 subst e
 refine wpAny_pure ⟨plainId_quiet F.plain_all_loop _, codeAny_mono (Dg sm st m 0 H1 s2 s0 w0) λ r s' ⟨u, hr, q⟩ => ?_⟩
 subst hr
 exact q
theorem Gv (hc : X.calm = true) (hm : X.mg "any" = none) (hstr : xm X e ts) (hg : Gl X "any" := by rfl) (hs : starEach [e] X.env = (false, eval e X.env) :: starEach [] X.env := by rfl) : PE X (.Call (.Name "any" p) [e] [] pos) (PN ts) := by
 intro pins s σ H Q I h
 refine wpAny_Call_Name_kw (jG I hg hm boot_any ?_ (by decide) (by decide))
 refine PyProof.Rows.callWith_builtin1 (qI (thn (hstr pins s σ H _ I h) λ u s1 ⟨S, H1, I1, rdy, W, ⟨m, w0⟩, st⟩ => ?_) hs) hs rfl
 refine call_function_tree F.kind_any F.plain_any F.entry_any (F.args_any1 _) ?_
 unfold Builtin.«any»
 refine wpAny_bind (m := oneArg "any" _) (wpAny_pure ?_)
 obtain ⟨a1, a2⟩ := uN I1 hc (A' := X.A.in1) rfl rfl
 refine wpAny_bind (wpAny_mono (rdy X.A.in1 (λ _ _ => False) a1 a2 (Nat.le_succ _) (by show X.A.units + 1 <= _; omega)) (λ itv s2 ⟨it, lo, SS, e, sm, s0, _⟩ => ?_) λ _ _ z => z.elim)
 subst e
 refine wpAny_pure ⟨plainId_quiet F.plain_any_loop _, codeAny_mono (Ei sm st m 0 H1 s2 s0 w0) λ r s' ⟨u, hr, q⟩ => ?_⟩
 subst hr
 exact q
def Av (J : It) : qg := ⟨λ i H Q => J.go i H /\ ∀ x H', J.yld i H x H' -> Q x H', λ i H => J.stop i H⟩
theorem uw {A' : Around} {it : Addr} {fp : List Addr} {tn : Nat -> Heap -> Prop} {J : It} {H : Hp} {s : Shared} (hc : X.calm = true) (hP : A'.handled = none) (hf : A'.frames = some X.stack)
  (T : Turn X.prog X.w X.K (.Name "x" ⟨0, 0, 0, 0⟩) J fp it tn) (I : Inv X pins σ H s) (st : tn 0 s.heap) (fk : ∀ b ∈ fp, jM X pins H b) :
  ∃ lo SS, Ba X pins σ A' it lo (Av J) SS /\ SS [] 0 H s /\ lo <= s.heap.objs.size := by
 have toA : ∀ {P : List (Addr × Obj)} {H : Hp} {s : Shared}, Inv X P σ H s -> Inv ({ X with A := A' } : Cx) P σ H s := λ I =>
  ⟨⟨I.ok.mod, I.ok.kind, I.ok.glob, I.ok.blt, I.ok.above, I.ok.inj, I.ok.has, I.ok.cab, λ _ => hP, hf, I.ok.stk, I.ok.exf, I.ok.bs, I.ok.bsz, I.ok.noex, I.ok.exfs, I.ok.funs, I.ok.frf⟩, I.os, I.bare, I.base, I.loc, I.cell, I.free, I.freeC, I.pin, I.hok, I.len⟩
 have ofA : ∀ {P : List (Addr × Obj)} {H : Hp} {s : Shared}, X.Ok -> Inv ({ X with A := A' } : Cx) P σ H s -> Inv X P σ H s := λ ok I =>
  ⟨ok, I.os, I.bare, I.base, I.loc, I.cell, I.free, I.freeC, I.pin, I.hok, I.len⟩
 have flt : ∀ b ∈ fp, b < s.heap.objs.size := λ b hb => let ⟨o, e, _⟩ := T.obj 0 _ st b hb; Heap.lt_size e
 have fkA : ∀ {P : List (Addr × Obj)} {H' : Hp}, (∀ p ∈ P, s.heap.objs.size <= p.1) -> (∀ b ∈ fp, H' b = none) -> ∀ b ∈ fp, jM ({ X with A := A' } : Cx) (pins ++ P) H' b := λ {P H'} hP hn b hb => by
  obtain ⟨q0, q1, q2, q3, q4, q5⟩ := fk b hb
  refine ⟨hn b hb, q1, q2, q3, q4, λ p hp => ?_⟩
  rcases List.mem_append.mp hp with z | z
  .exact q5 p (by simp only [List.mem_append]; exact .inl z)
  .rcases List.mem_append.mp z with z | z
   .exact q5 p (by simp only [List.mem_append]; exact .inr z)
   .exact λ e => absurd (flt b hb) (by rw [<- e]; exact Nat.not_lt.mpr (hP p z))
 refine ⟨s.heap.objs.size, λ P i H' s' => (∀ p ∈ P, s.heap.objs.size <= p.1) /\ Inv X (pins ++ P) σ H' s' /\ tn i s'.heap /\ ∀ b ∈ fp, H' b = none, ⟨λ st => st.2.1, ?_, ?_, ?_, ?_, ?_, ?_⟩, ⟨λ p hp => absurd hp (by simp), by rw [List.append_nil]; exact I, st, λ b hb => (fk b hb).1⟩, Nat.le_refl _⟩
 .rintro P i H1 s1 Q E ⟨hP1, I1, st1, fr1⟩ ⟨go, yl⟩
  have q := T.item ({ X with A := A' } : Cx) rfl rfl rfl hc i (pins ++ P) s1 σ H1 (λ _ _ => False) (toA I1) (fkA hP1 fr1) st1 go
  refine wpAny_mono (ye (λ u => rfl) q) (λ r s2 ⟨u, hr, x, H', I3, r3, y3, st3, fr3⟩ => ?_) λ _ _ z => z.elim
  exact ⟨u, x, H', hr, r3, yl x H' y3, hP1, ofA I1.ok I3, st3, fr3⟩
 .rintro P i H1 s1 E ⟨hP1, I1, st1, fr1⟩ hf
  exact wpAny_mono (T.done ({ X with A := A' } : Cx) rfl rfl rfl hc i (pins ++ P) s1 σ H1 (λ _ _ => False) (toA I1) (fkA hP1 fr1) st1 hf) (λ r s2 ⟨hr, I2⟩ => ⟨hr, ofA I1.ok I2⟩) λ _ _ z => z.elim
 .rintro P i H1 s1 h' tk ⟨hP1, I1, st1, fr1⟩ hk
  exact ⟨hP1, I1.kept hk, T.keep _ _ _ st1 λ b _ o e => hk b o e, fr1⟩
 .rintro P i H1 s1 D o ⟨hP1, I1, st1, fr1⟩ hD ho hn hcell
  refine ⟨λ p hp => ?_, I1.pins_of λ p hp => ?_, st1, fr1⟩
  .rcases List.mem_cons.mp hp with z | z
   .subst z; exact hD
   .exact hP1 p z
  .rcases List.mem_append.mp hp with z | z
   .exact I1.pin p (by simp [z])
   .rcases List.mem_cons.mp z with z | z
    .subst z
     exact ⟨ho, hn, λ z => absurd I.lt (by rw [<- z]; exact Nat.not_lt.mpr hD), I.nofs hD, hcell⟩
    .exact I1.pin p (by simp [z])
 .rintro p P i H1 s1 ⟨hP1, I1, st1, fr1⟩
  exact ⟨λ q hq => hP1 q (List.mem_cons_of_mem _ hq), I1.pins_of λ q hq => I1.pin q (by rcases List.mem_append.mp hq with z | z <;> simp [z]), st1, fr1⟩
 .rintro P i H1 s1 h' tk D ⟨hP1, I1, st1, fr1⟩ hD hn hPD hk
  have l4 : ∀ b, b < s.heap.objs.size -> b ≠ D := λ b hb => Nat.ne_of_lt (Nat.lt_of_lt_of_le hb hD)
  refine ⟨hP1, I1.turned hk hn (Ne.symm (l4 _ I.lt)) (.inr (Nat.le_trans I.sz hD)) (λ x c e => let ⟨v, q⟩ := I.cell x c e; l4 c q.lt) (λ p hp => ?_), T.keep _ _ _ st1 λ b hb o e => hk b o (l4 b (flt b hb)) e, fr1⟩
  rcases List.mem_append.mp hp with z | z
  .exact l4 _ (Heap.lt_size (I.pin p (by simp [z])).1)
  .rcases List.mem_append.mp z with z | z
   .exact l4 _ (Heap.lt_size (I.pin p (by simp [z])).1)
   .exact hPD p z
theorem Eg {te : TE} (hc : X.calm = true) (he : PE X e te) : xm X e (λ σ H R => te σ H λ x H1 => ∃ a, x = .ref a /\ ((∃ xs, SqL X.K H1 a xs) /\ R (Av (Itl X.K a)) H1 ∨ (∃ xs, SqT X.K H1 a xs) /\ R (Av (Itt X.K a)) H1)) := by
 intro pins s σ H R I h
 refine thn (he pins s σ H _ I h) λ v s1 zq1 => ?_
 obtain ⟨x, H1, I1, r1, a, e, q⟩ := zq1
 subst e
 cases r1
 rcases q with ⟨⟨xs, hq⟩, q⟩ | ⟨⟨xs, hq⟩, q⟩
 .refine ⟨_, H1, I1, λ A' E h1 h2 h3 h4 => ?_, q⟩
  obtain ⟨its, rv, p, hz⟩ := I1.list hq
  refine wpAny_pyIter_list p.isList ?_
  obtain ⟨lo, SS, sm, s0, hl⟩ := uw (A' := A') (H := H1) (s := { s1 with heap := s1.heap.push { cls := .type "list_iterator", data := .fields #[.ref a, .int 0 0] } }) hc h1 h2 (uG a s1.heap.objs.size) (I1.kept (t' := s1.toks) λ b o e => Heap.get?_push_of_some _ e) ⟨_, Heap.get?_push_size _ rfl, rfl, rfl⟩ λ b hb => by
   have e : b = s1.heap.objs.size := by simpa using hb
   subst e
   exact I1.fpOk (Nat.le_refl _) (I1.hok.fresh (Nat.le_refl _))
  exact ⟨_, lo, SS, rfl, sm, s0, hl⟩
 .refine ⟨_, H1, I1, λ A' E h1 h2 h3 h4 => ?_, q⟩
  obtain ⟨its, rv, p, hz⟩ := I1.tuple hq
  refine wpAny_pyIter_tuple (show s1.heap.IsTuple a its.toArray from p) ?_
  obtain ⟨lo, SS, sm, s0, hl⟩ := uw (A' := A') (H := H1) (s := { s1 with heap := s1.heap.push { cls := .type "tuple_iterator", data := .fields #[.ref a, .int 0 0] } }) hc h1 h2 (qN a s1.heap.objs.size) (I1.kept (t' := s1.toks) λ b o e => Heap.get?_push_of_some _ e) ⟨_, Heap.get?_push_size _ rfl, rfl, rfl⟩ λ b hb => by
   have e : b = s1.heap.objs.size := by simpa using hb
   subst e
   exact I1.fpOk (Nat.le_refl _) (I1.hok.fresh (Nat.le_refl _))
  exact ⟨_, lo, SS, rfl, sm, s0, hl⟩
end
section
variable {X : Cx} {e : Expr} {ts : qe} {p pos : Pos} {pins : List (Addr × Obj)} {σ : L2.St}
def Ox (ts : qe) : TE := λ σ H Q => ts σ H λ S H1 => ∃ W : Nat -> Nat -> Int -> Hp -> Prop, (∃ m, W 0 m 0 H1) /\ ∀ i m t H, W i m t H ->
 (S.fin i H /\ Q (.int t) H) ∨ S.nxt i H λ y H' => ∃ j, y = .int j /\ ∃ m', m' < m /\ W (i + 1) m' (t + j) H'
theorem Dc {A : Around} {it D : Addr} {lo : Nat} {S : qg} {SS : List (Addr × Obj) -> Nat -> Hp -> Shared -> Prop} {Q : VK} {W : Nat -> Nat -> Int -> Hp -> Prop} (sm : Ba X pins σ A.in1 it lo S SS) (hD : lo <= D)
  (st : ∀ i m t H, W i m t H -> (S.fin i H /\ Q (.int t) H) ∨ S.nxt i H λ y H' => ∃ j, y = .int j /\ ∃ m', m' < m /\ W (i + 1) m' (t + j) H') :
  ∀ (m i : Nat) (t : Int) (tA : Tok) (c : Nat) (stage : Int) (H : Hp) (s : Shared), (stage = 0 ∨ stage = 2) -> SS [] i H s -> W i m t H -> s.heap.get? D = some (bR [.int t tA] c) -> H D = none ->
   codeAny (model X.prog X.w) A (.builtin "sum.loop" ⟨[.ref it, .ref D, rawInt stage, rawInt 0], []⟩) (λ r s' => ∃ u, r = .ok (.ret u) /\ EP X pins σ Q u s') s := by
 intro m
 induction m using Nat.strongRecOn with
 | ind m ih =>
  intro i t tA c stage H s hstg hs hw ho hn
  have hsp := sm.pin hs hD ho hn (λ v z => by cases z)
  refine codeAny_builtin F.entry_sum_loop ?_
  rw [Around.under_plainId F.plain_sum_loop _]
  show wpAny _ A.in1 (seqItems? (.ref D) >>= _) _ _ s
  refine wpAny_bind (wpAny_seqItems ho rfl ?_)
  show wpAny _ A.in1 (tryCatch (pyNext (.ref it)) _ >>= _) _ _ s
  rcases st i m t H hw with ⟨hf, q⟩ | hn'
  .refine wpAny_bind (wpAny_tryCatch (wpAny_mono (sm.stop (λ _ _ => False) hsp hf) (λ r s1 ⟨hr, I1⟩ => ?_) λ _ _ z => z.elim))
   subst hr
   exact wpAny_pure ⟨_, rfl, .int t, H, I1.pins_of λ p hp => I1.pin p (by simp [hp]), ⟨tA, rfl⟩, q⟩
  .refine wpAny_bind (wpAny_tryCatch (wpAny_mono (sm.next (λ _ _ => False) hsp hn') (λ r s1 ⟨u, y, H', hr, ry, ⟨j, ey, m', hm, hw'⟩, hs'⟩ => ?_) λ _ _ z => z.elim))
   subst hr ey
   obtain ⟨tj, rfl⟩ := ry
   have pl := (sm.inv hs').pin (D, bR [.int t tA] c) (by simp)
   have hs0 := sm.unpin hs'
   have plain : ∀ (next : Value -> Int), (∀ r, next r = 2) -> wpAny (model X.prog X.w) A.in1 (do
     match <- (holding [Value.int j tj] (binaryOp .Add (Value.int t tA) (Value.int j tj))).attempt with
     | .ok r => updateSeq D λ _ => #[r]; letGo [Value.int t tA, Value.int j tj]; (do updateSeq D λ _ => #[r]; again (.builtin "sum.loop" ⟨[.ref it, .ref D, rawInt (next r), rawInt 0], []⟩))
     | .error e => updateSeq D λ _ => #[]; letGo [Value.int t tA, Value.int j tj] [e]; throw e) (λ fin s' => match fin with
      | .done f => ∃ u, (Except.ok f : Result) = .ok (.ret u) /\ EP X pins σ Q u s'
      | .again c => c.quiet = true /\ codeAny (model X.prog X.w) A c (λ r s' => ∃ u, r = .ok (.ret u) /\ EP X pins σ Q u s') s') (λ e s' => ∃ u, (Except.error e : Result) = .ok (.ret u) /\ EP X pins σ Q u s') s1 := by
    intro next hnx
    refine wpAny_bind (wpAny_attempt (wpAny_holding (add_int ?_)))
    refine wpAny_bind (wpAny_updateSeq (s := { s1 with toks := s1.toks + 1 }) pl.1 rfl ?_)
    have o1 := Heap.get?_update_self (Obj.mapSeq (λ _ => #[Value.int (t + j) s1.toks])) pl.1 rfl
    refine wpAny_bind (wpAny_letGo ?_)
    refine wpAny_bind (wpAny_updateSeq o1 rfl ?_)
    have o2 := Heap.get?_update_self (Obj.mapSeq (λ _ => #[Value.int (t + j) s1.toks])) o1 rfl
    rw [hnx]
    refine wpAny_pure ⟨plainId_quiet F.plain_sum_loop _, ih m' hm (i + 1) (t + j) s1.toks _ 2 H' _ (.inr rfl) (sm.acc (s := s1) (h' := (s1.heap.update D (Obj.mapSeq (λ _ => #[Value.int (t + j) s1.toks]))).update D (Obj.mapSeq (λ _ => #[Value.int (t + j) s1.toks]))) (tk := s1.toks + 1) hs0 hD pl.2.1 (λ p hp => absurd hp (by simp)) λ b o hb e => (Heap.get?_update_other _ _ (Ne.symm hb)).trans ((Heap.get?_update_other _ _ (Ne.symm hb)).trans e)) hw' o2 pl.2.1⟩
   rcases hstg with rfl | rfl
   .show wpAny _ A.in1 (if (_ : Bool) = true then (mkInt (t + j) >>= _) else _) _ _ _
    split
    .refine wpAny_bind (wpAny_mkInt ?_)
     show wpAny _ A.in1 (updateSeq D (λ _ => #[.int (t + j) s1.toks]) >>= _) _ _ _
     refine wpAny_bind (wpAny_updateSeq (s := { s1 with toks := s1.toks + 1 }) pl.1 rfl ?_)
     have o1 := Heap.get?_update_self (Obj.mapSeq (λ _ => #[Value.int (t + j) s1.toks])) pl.1 rfl
     exact wpAny_pure ⟨plainId_quiet F.plain_sum_loop _, ih m' hm (i + 1) (t + j) s1.toks _ 0 H' _ (.inl rfl) (sm.acc (s := s1) (h' := s1.heap.update D (Obj.mapSeq (λ _ => #[Value.int (t + j) s1.toks]))) (tk := s1.toks + 1) hs0 hD pl.2.1 (λ p hp => absurd hp (by simp)) λ b o hb e => (Heap.get?_update_other _ _ (Ne.symm hb)).trans e) hw' o1 pl.2.1⟩
    .exact wpAny_bind (wpAny_rule (plain (λ _ => 2) λ _ => rfl))
   .exact plain (λ _ => 2) λ _ => rfl
theorem Hr (hc : X.calm = true) (hm : X.mg "sum" = none) (hstr : xm X e ts) (hg : Gl X "sum" := by rfl) (hs : starEach [e] X.env = (false, eval e X.env) :: starEach [] X.env := by rfl) : PE X (.Call (.Name "sum" p) [e] [] pos) (Ox ts) := by
 intro pins s σ H Q I h
 refine wpAny_Call_Name_kw (jG I hg hm boot_sum ?_ (by decide) (by decide))
 refine PyProof.Rows.callWith_builtin1 (qI (thn (hstr pins s σ H _ I h) λ u s1 ⟨S, H1, I1, rdy, W, ⟨m, w0⟩, st⟩ => ?_) hs) hs rfl
 refine call_function_tree F.kind_sum F.plain_sum F.entry_sum (F.args_sum1 _) ?_
 unfold Builtin.«sum»
 simp only [List.length_cons, List.length_nil]
 rw [if_neg (by decide)]
 refine wpAny_bind (wpAny_of_eq (show Builtin.Builtins.bindParams "sum" ["start"] 0 { } = pure [none] from rfl) ?_)
 obtain ⟨a1, a2⟩ := uN I1 hc (A' := X.A.in1) rfl rfl
 refine wpAny_bind (wpAny_mono (rdy X.A.in1 (λ _ _ => False) a1 a2 (Nat.le_succ _) (by show X.A.units + 1 <= _; omega)) (λ itv s2 ⟨it, lo, SS, e, sm, s0, hlo⟩ => ?_) λ _ _ z => z.elim)
 subst e
 refine wpAny_bind (wpAny_mkInt ?_)
 refine wpAny_bind (wpAny_pure ?_)
 simp only [List.forIn_cons, List.forIn_nil]
 refine wpAny_bind (wpAny_bind (wpAny_bind (wpAny_isInstance (T := "int") (b := false) (typeIs_int _ _ _) PySem.sub_int_str ?_)))
 simp only [Bool.false_eq_true, if_false]
 refine wpAny_pure (wpAny_bind (wpAny_bind (wpAny_isInstance (T := "int") (b := false) (typeIs_int _ _ _) PySem.sub_int_bytes ?_)))
 simp only [Bool.false_eq_true, if_false]
 refine wpAny_pure (wpAny_bind (wpAny_bind (wpAny_isInstance (T := "int") (b := false) (typeIs_int _ _ _) PySem.sub_int_bytearray ?_)))
 simp only [Bool.false_eq_true, if_false]
 refine wpAny_pure (wpAny_pure ?_)
 refine wpAny_bind (wpAny_newObj_type ?_)
 have hn : H1 s2.heap.objs.size = none := (sm.inv s0).hok.fresh (Nat.le_refl _)
 refine wpAny_pure ⟨plainId_quiet F.plain_sum_loop _, codeAny_mono (Dc sm hlo st m 0 0 s2.toks 0 0 H1 _ (.inl rfl) (sm.keep (s := s2) (h' := s2.heap.push { cls := .type "list", dict := none, data := .seq [Value.int 0 s2.toks].toArray }) (tk := s2.toks + 1) s0 λ b o e => Heap.get?_push_of_some _ e) w0 (Heap.get?_push_size _ rfl) hn) λ r s' ⟨u, hr, q⟩ => ?_⟩
 subst hr
 exact q
end
end L2
namespace L3
open PySem PySem.Spec PyProof.Rows L2
abbrev fX := Mu -> Option (D × Mu)
structure IW (K : PySem.W.Frag) (tb : List Addr) (S : qg) (ths : List fX) (W0 : Wd) : Prop where
 nxt : ∀ (i : Nat) W th d μ' Q, Le tb W0 W -> WOk K tb W -> ths[i]? = some th -> th W.mu = some (d, μ') -> (∀ v W', WOk K tb W' -> Le tb W W' -> W'.mu = μ' -> Den K tb W' d v -> Q v W'.H) -> S.nxt i W.H Q
 fin : ∀ (i : Nat) W, Le tb W0 W -> WOk K tb W -> ths.length <= i -> S.fin i W.H
abbrev StF := En -> Mu -> Option (List fX × Mu)
def Jo (K : PySem.W.Frag) (tb : List Addr) (f : StF) : qe := λ σ H R => ∃ W δ ths μ', W.H = H /\ WOk K tb W /\ iT K tb W δ σ /\ f δ W.mu = some (ths, μ') /\
 ∀ S W', WOk K tb W' -> Le tb W W' -> W'.mu = μ' -> IW K tb S ths W' -> R S W'.H
def xQ (X : Cx) (tb : List Addr) (e : Expr) (f : StF) : Prop := xm X e (Jo X.K tb f)
def Fe (X : Cx) (tb : List Addr) (e : Expr) (f : StF) : Prop := xf X e (Jo X.K tb f)
section
variable {X : Cx} {tb : List Addr} {e tg iter elt : Expr} {f : EF} {pos p : Pos} {fs : StF}
theorem GJ {t t' : qe} (h : xm X e t) (k : ∀ σ H R, t' σ H R -> t σ H R) : xm X e t' := λ pins s σ H R I hq => h pins s σ H R I (k σ H R hq)
theorem Dp {t t' : qe} (h : xf X e t) (k : ∀ σ H R, t' σ H R -> t σ H R) : xf X e t' := λ pins s σ H R I hq => h pins s σ H R I (k σ H R hq)
theorem yj (h : Fe X tb e fs) : xQ X tb e fs := wg h
def thE (d : D) : fX := λ μ => some (d, μ)
def oM (f : EF) : StF := λ δ μ => (f δ μ).bind λ r => match r.1 with
 | .tup ds => some (ds.map thE, r.2)
 | .lst ds => some (ds.map thE, r.2)
 | _ => none
theorem Fq {K : PySem.W.Frag} {J : It} {ds : List D} {W0 : Wd} (io : Ax K tb J ⟨ds, none⟩ W0) : IW K tb (Av J) (ds.map thE) W0 where
 nxt := λ i W th d μ' Q l ok e1 e2 hQ => by
  rw [List.getElem?_map] at e1
  cases q : ds[i]? with
  | none => rw [q] at e1; cases e1
  | some d0 =>
   rw [q] at e1
   cases e1
   cases e2
   obtain ⟨go, yl⟩ := io.go i W d l ok (Src.bK rfl) q
   exact ⟨go, λ x H' y => by
    obtain ⟨W', rfl, ok', l', m', d'⟩ := yl x H' y
    exact hQ x W' ok' l' m' d'⟩
 fin := λ i W l ok hi => io.stop i W l ok (Src.bK rfl) (by simpa using hi)
theorem my (hc : X.calm = true) (he : PD X tb e f) : xQ X tb e (oM f) :=
 GJ (Eg hc he) λ σ H R zq1 => by
  obtain ⟨W, δ, ths, μ', e, ok, hd, hf, h⟩ := zq1
  unfold oM at hf
  obtain ⟨⟨x, μ1⟩, e1, e2⟩ := Option.bind_eq_some_iff.mp hf
  refine ⟨W, δ, x, μ1, e, ok, hd, e1, λ v W1 ok1 l1 m1 d1 => ?_⟩
  cases x with
  | tup ds =>
   cases e2
   obtain ⟨a, xs, rfl, q, r⟩ := iQ d1
   exact ⟨a, rfl, .inr ⟨⟨xs, SqT.fz q⟩, h _ W1 ok1 l1 m1 (Fq (Du q r))⟩⟩
  | lst ds =>
   cases e2
   obtain ⟨a, xs, rfl, q, r⟩ := jF d1
   exact ⟨a, rfl, .inl ⟨⟨xs, SqL.fz q⟩, h _ W1 ok1 l1 m1 (Fq (Cw q r))⟩⟩
  | _ => cases e2
def thG (h : GF) (fe : EF) (δb : En) (d : D) : fX := λ μ => (h d δb μ).bind λ δ1 => fe δ1 μ
def sO (own : List Str) (capI : List Nat) (fi : IF) (h : GF) (fe : EF) : StF := λ δ μ => (fi δ μ).bind λ r => match r.1.cel with
 | none => some (r.1.items.map (thG h fe (cz own δ capI)), r.2)
 | some _ => none
theorem uc {fi : IF} {h : GF} {fe : EF} {own cap : List Str} {capI ts : List Nat} {scope : Scope} {P : Addr} {kr : Nat} (hc : X.calm = true) (hr : dZ kr X.A) (B : eN X own cap capI scope) (hown : ∀ x ∈ own, (x, NameKind.free) ∉ scope.names) (hnc : ∀ y ∈ scope.names, y.2 ≠ .cell)
  (hP : P ∈ tb) (htb : ∃ c, X.env.code = .ref c /\ PySem.W.CodeHd X.base c P) (hi : PID X tb tg iter fi)
  (hg : ∀ AG cs C code fp s2 H2, PGD (su X AG own cap scope cs C code fp s2 H2) tb tg ts h)
  (he : ∀ AG cs C code fp s2 H2, (∀ k, dZ (k + 1) X.A -> dZ k AG) -> PD (su X AG own cap scope cs C code fp s2 H2) tb elt fe)
  (hts : ∀ i ∈ ts, i < own.length := by decide) (h0 : scope.names.lookup (".0" : Str) = some NameKind.local := by rfl) (hco : scope.isCoroutine = false := by rfl) (hs : ∀ x, genFold iter X.env x = pure x := by intro _; rfl) :
  Fe X tb (.GeneratorExp elt [⟨tg, iter, [], 0⟩] scope pos) (sO own capI fi h fe) :=
 Dp (DR (g := tDG X.K tb ts h) (te := tD X.K tb fe) hc hr B hown hnc h0 hco htb hi hg he hs) λ σ H R zq2 => by
  obtain ⟨W, δ, ths, μ', e, ok, hd, hf, k⟩ := zq2
  unfold sO at hf
  obtain ⟨⟨S, μ1⟩, e1, e2⟩ := Option.bind_eq_some_iff.mp hf
  obtain ⟨items, cel⟩ := S
  cases cel with
  | some n => cases e2
  | none =>
   cases e2
   refine ⟨W, δ, ⟨items, none⟩, _, e, ok, hd, e1, λ J W1 ok1 l1 m1 io => ?_⟩
   obtain ⟨ps, ep, tp⟩ := ok1.tab P hP
   refine ⟨ps, ep, tp, λ lo H2 ps' hG => ?_⟩
   obtain ⟨ok2, l2⟩ := ok1.tbl hP ep hG
   refine k _ ⟨H2, W1.ad, W1.mu⟩ ok2 (l1.trans l2) m1 ⟨λ i W3 th d μ3 Q l3 ok3 e3 e4 hQ => ?_, λ i W3 l3 ok3 hi3 => ?_⟩
   .rw [List.getElem?_map] at e3
    cases q : items[i]? with
    | none => rw [q] at e3; cases e3
    | some d0 =>
     rw [q] at e3
     cases e3
     unfold thG at e4
     obtain ⟨δ1, e5, e6⟩ := Option.bind_eq_some_iff.mp e4
     obtain ⟨go, yl⟩ := io.go i W3 d0 (l2.trans l3) ok3 (Src.bK rfl) q
     refine ⟨go, λ x H' y => ?_⟩
     obtain ⟨W4, rfl, ok4, l4, m4, d4⟩ := yl x H' y
     refine ⟨W4, cz own δ capI, d0, δ1, rfl, ok4, (qD hd).mono' (((l1.trans l2).trans l3).trans l4), d4, (by rw [m4]; exact e5), λ σ' d' hl ht => ⟨fits_of hts hl ht, ?_⟩⟩
     exact ⟨W4, δ1, d, μ3, rfl, ok4, d', (by rw [m4]; exact e6), λ v W5 ok5 l5 m5 d5 => hQ v W5 ok5 (l4.trans l5) m5 d5⟩
   .exact io.stop i W3 (l2.trans l3) ok3 (Src.bK rfl) (by simpa using hi3)
def zA : D -> Option Bool
 | .bl b => some b
 | .int i => some (i != 0)
 | _ => none
theorem wY {K : PySem.W.Frag} {W : Wd} {x : D} {v : V} {k : Bool} (h : Den K tb W x v) (e : zA x = some k) : Bu v k := by
 cases x with
 | bl b => cases e; exact .inl (pZ h)
 | int i => cases e; exact .inr ⟨i, bj h, rfl⟩
 | _ => cases e
def yD : List fX -> Mu -> Option (Bool × Mu)
 | [], μ => some (true, μ)
 | t :: r, μ => (t μ).bind λ x => (zA x.1).bind λ k => if k = true then yD r x.2 else some (false, x.2)
def xj : List fX -> Mu -> Option (Bool × Mu)
 | [], μ => some (false, μ)
 | t :: r, μ => (t μ).bind λ x => (zA x.1).bind λ k => if k = true then some (true, x.2) else xj r x.2
def BP : List fX -> Mu -> Option (List D × Mu)
 | [], μ => some ([], μ)
 | t :: r, μ => (t μ).bind λ x => (BP r x.2).bind λ q => some (x.1 :: q.1, q.2)
def qu : Int -> List fX -> Mu -> Option (Int × Mu)
 | a, [], μ => some (a, μ)
 | a, t :: r, μ => (t μ).bind λ x => match x.1 with
  | .int j => qu (a + j) r x.2
  | _ => none
def Ia (f : StF) : EF := λ δ μ => (f δ μ).bind λ r => (yD r.1 r.2).bind λ q => some (.bl q.1, q.2)
def CN (f : StF) : EF := λ δ μ => (f δ μ).bind λ r => (xj r.1 r.2).bind λ q => some (.bl q.1, q.2)
def CJ (f : StF) : EF := λ δ μ => (f δ μ).bind λ r => if r.1.length <= sizeLine then (BP r.1 r.2).bind λ q => some (.tup q.1, q.2) else none
def wW (f : StF) : EF := λ δ μ => (f δ μ).bind λ r => (qu 0 r.1 r.2).bind λ q => some (.int q.1, q.2)
theorem Lb (hc : X.calm = true) (hm : X.mg "all" = none) (hstr : xQ X tb e fs) (hg : Gl X "all" := by rfl) (hs : starEach [e] X.env = (false, eval e X.env) :: starEach [] X.env := by rfl) : PD X tb (.Call (.Name "all" p) [e] [] pos) (Ia fs) :=
 dY (GC hc hm hstr hg hs) λ σ H Q zq3 => by
  obtain ⟨W, δ, d, μ', e, ok, hd, hf, h⟩ := zq3
  unfold Ia at hf
  obtain ⟨⟨ths, μ1⟩, e1, hf⟩ := Option.bind_eq_some_iff.mp hf
  obtain ⟨⟨b, μ2⟩, e2, e3⟩ := Option.bind_eq_some_iff.mp hf
  cases e3
  refine ⟨W, δ, ths, μ1, e, ok, hd, e1, λ S W1 ok1 l1 m1 so => ?_⟩
  refine ⟨λ i m H2 => m = ths.length - i /\ ∃ W2, W2.H = H2 /\ WOk X.K tb W2 /\ Le tb W1 W2 /\ yD (ths.drop i) W2.mu = some (b, μ2), ⟨_, rfl, W1, rfl, ok1, Le.refl _, by rw [m1]; exact e2⟩, ?_⟩
  rintro i m H2 ⟨rfl, W2, rfl, ok2, l2, ha⟩
  by_cases hlt : i < ths.length
  .right
   rw [List.drop_eq_getElem_cons hlt] at ha
   unfold yD at ha
   obtain ⟨⟨x, μ3⟩, e3, ha⟩ := Option.bind_eq_some_iff.mp ha
   obtain ⟨k, e4, ha⟩ := Option.bind_eq_some_iff.mp ha
   refine so.nxt i W2 ths[i] x μ3 _ l2 ok2 (by simp [hlt]) e3 λ v W3 ok3 l3 m3 d3 => ⟨k, wY d3 e4, ?_⟩
   cases k with
   | true =>
    rw [if_pos rfl]
    exact ⟨ths.length - (i + 1), by omega, rfl, W3, rfl, ok3, l2.trans l3, by rw [m3]; exact ha⟩
   | false =>
    rw [if_neg Bool.false_ne_true]
    cases ha
    exact h _ W3 ok3 ((l1.trans l2).trans l3) m3 gG
  .left
   rw [List.drop_of_length_le (by omega)] at ha
   cases ha
   exact ⟨so.fin i W2 l2 ok2 (by omega), h _ W2 ok2 (l1.trans l2) rfl gG⟩
theorem Eh (hc : X.calm = true) (hm : X.mg "any" = none) (hstr : xQ X tb e fs) (hg : Gl X "any" := by rfl) (hs : starEach [e] X.env = (false, eval e X.env) :: starEach [] X.env := by rfl) : PD X tb (.Call (.Name "any" p) [e] [] pos) (CN fs) :=
 dY (Gv hc hm hstr hg hs) λ σ H Q zq4 => by
  obtain ⟨W, δ, d, μ', e, ok, hd, hf, h⟩ := zq4
  unfold CN at hf
  obtain ⟨⟨ths, μ1⟩, e1, hf⟩ := Option.bind_eq_some_iff.mp hf
  obtain ⟨⟨b, μ2⟩, e2, e3⟩ := Option.bind_eq_some_iff.mp hf
  cases e3
  refine ⟨W, δ, ths, μ1, e, ok, hd, e1, λ S W1 ok1 l1 m1 so => ?_⟩
  refine ⟨λ i m H2 => m = ths.length - i /\ ∃ W2, W2.H = H2 /\ WOk X.K tb W2 /\ Le tb W1 W2 /\ xj (ths.drop i) W2.mu = some (b, μ2), ⟨_, rfl, W1, rfl, ok1, Le.refl _, by rw [m1]; exact e2⟩, ?_⟩
  rintro i m H2 ⟨rfl, W2, rfl, ok2, l2, ha⟩
  by_cases hlt : i < ths.length
  .right
   rw [List.drop_eq_getElem_cons hlt] at ha
   unfold xj at ha
   obtain ⟨⟨x, μ3⟩, e3, ha⟩ := Option.bind_eq_some_iff.mp ha
   obtain ⟨k, e4, ha⟩ := Option.bind_eq_some_iff.mp ha
   refine so.nxt i W2 ths[i] x μ3 _ l2 ok2 (by simp [hlt]) e3 λ v W3 ok3 l3 m3 d3 => ⟨k, wY d3 e4, ?_⟩
   cases k with
   | false =>
    rw [if_neg Bool.false_ne_true]
    exact ⟨ths.length - (i + 1), by omega, rfl, W3, rfl, ok3, l2.trans l3, by rw [m3]; exact ha⟩
   | true =>
    rw [if_pos rfl]
    cases ha
    exact h _ W3 ok3 ((l1.trans l2).trans l3) m3 gG
  .left
   rw [List.drop_of_length_le (by omega)] at ha
   cases ha
   exact ⟨so.fin i W2 l2 ok2 (by omega), h _ W2 ok2 (l1.trans l2) rfl gG⟩
theorem yo (hc : X.calm = true) (hm : X.mg "sum" = none) (hstr : xQ X tb e fs) (hg : Gl X "sum" := by rfl) (hs : starEach [e] X.env = (false, eval e X.env) :: starEach [] X.env := by rfl) : PD X tb (.Call (.Name "sum" p) [e] [] pos) (wW fs) :=
 dY (Hr hc hm hstr hg hs) λ σ H Q zq5 => by
  obtain ⟨W, δ, d, μ', e, ok, hd, hf, h⟩ := zq5
  unfold wW at hf
  obtain ⟨⟨ths, μ1⟩, e1, hf⟩ := Option.bind_eq_some_iff.mp hf
  obtain ⟨⟨b, μ2⟩, e2, e3⟩ := Option.bind_eq_some_iff.mp hf
  cases e3
  refine ⟨W, δ, ths, μ1, e, ok, hd, e1, λ S W1 ok1 l1 m1 so => ?_⟩
  refine ⟨λ i m t H2 => m = ths.length - i /\ ∃ W2, W2.H = H2 /\ WOk X.K tb W2 /\ Le tb W1 W2 /\ qu t (ths.drop i) W2.mu = some (b, μ2), ⟨_, rfl, W1, rfl, ok1, Le.refl _, by rw [m1]; exact e2⟩, ?_⟩
  rintro i m t H2 ⟨rfl, W2, rfl, ok2, l2, ha⟩
  by_cases hlt : i < ths.length
  .right
   rw [List.drop_eq_getElem_cons hlt] at ha
   unfold qu at ha
   obtain ⟨⟨x, μ3⟩, e3, ha⟩ := Option.bind_eq_some_iff.mp ha
   cases x with
   | int j =>
    refine so.nxt i W2 ths[i] _ μ3 _ l2 ok2 (by simp [hlt]) e3 λ v W3 ok3 l3 m3 d3 => ⟨j, bj d3, ths.length - (i + 1), by omega, rfl, W3, rfl, ok3, l2.trans l3, by rw [m3]; exact ha⟩
   | _ => cases ha
  .left
   rw [List.drop_of_length_le (by omega)] at ha
   cases ha
   exact ⟨so.fin i W2 l2 ok2 (by omega), h _ W2 ok2 (l1.trans l2) rfl dO⟩
end
abbrev FF := List D -> Mu -> Option (D × Mu)
def spD (K : PySem.W.Frag) (tb : List Addr) (n : Nat) (φ : FF) : Sp := λ vs H Q _ => ∃ W ds d μ', W.H = H /\ WOk K tb W /\ cu K tb W ds vs /\ ds.length = n /\ φ ds W.mu = some (d, μ') /\
 ∀ v W', WOk K tb W' -> Le tb W W' -> W'.mu = μ' -> Den K tb W' d v -> Q v W'.H
structure FI (P : Program) (w : World) (K : PySem.W.Frag) (mg : Str -> Option Value) (base : Heap) (tb : List Addr) (x : Str) (n k : Nat) (φ : FF) : Prop where
 is : ∃ f fd ps, nj P w K mg base CX0 k f fd ps (spD K tb n φ) /\ mg x = some (.ref f) /\ PySem.W.keepIn K (.ref f) = true /\ Binds K fd ps []
theorem FI.more {P : Program} {w : World} {K : PySem.W.Frag} {mg : Str -> Option Value} {base : Heap} {tb : List Addr} {x : Str} {n k k' : Nat} {φ : FF} (F : FI P w K mg base tb x n k φ) (h : k <= k') : FI P w K mg base tb x n k' φ := by
 obtain ⟨f, fd, ps, h1, h2⟩ := F.is
 exact ⟨f, fd, ps, h1.mono h, h2⟩
def aF (m : Nat) (g : SF) : FF := λ ds μ => (g (ds.map some ++ List.replicate (m - ds.length) none) μ).bind λ r => match r.1 with
 | .rt d => some (d, r.2.2)
 | .nx => some (.non, r.2.2)
 | _ => none
section
variable {X : Cx} {tb : List Addr} {e : Expr} {es : List Expr} {fs : AF} {x : Str} {n k : Nat} {φ : FF} {p pos : Pos}
theorem aL (F : FI X.prog X.w X.K X.mg X.base tb x n k φ) (hr : dZ k X.A) (ha : PAD X tb (e :: es) fs) (hn : ∀ δ μ r, fs δ μ = some r -> r.1.length = n) (hg : Gl X x := by rfl) (hdb : (x == ("__debug__" : Str)) = false := by decide)
  (he : starEach (e :: es) X.env = (false, eval e X.env) :: starEach es X.env := by rfl) (hpl : (backTo pos (starEach es X.env)).any (·.1) = false := by rfl) : PD X tb (.Call (.Name x p) (e :: es) [] pos) (MC fs φ) := by
 obtain ⟨f, fd, ps, h1, h2, h3, h4⟩ := F.is
 refine dY (Ip (E := E0) h1 hr hg h2 h3 h4 .nil Nr ha hdb he hpl) λ σ H Q zq7 => ?_
 obtain ⟨W, δ, d, μ', e, ok, hd, hf, h⟩ := zq7
 unfold MC at hf
 obtain ⟨⟨xs, μ1⟩, e1, e2⟩ := Option.bind_eq_some_iff.mp hf
 refine ⟨W, δ, xs, μ1, e, ok, hd, e1, λ vs W1 ok1 l1 m1 d1 => ?_⟩
 refine ⟨W1, xs, d, μ', rfl, ok1, by rw [List.append_nil]; exact d1, hn _ _ _ e1, (by rw [m1]; exact e2), λ v W' ok' l' m' d' => h v W' ok' (l1.trans l') m' d'⟩
theorem aK (δ : En) (μ : Mu) (r : List D × Mu) (h : aq δ μ = some r) : r.1.length = 0 := by cases h; rfl
theorem au {f : EF} {fs : AF} {n : Nat} (hk : ∀ δ μ r, fs δ μ = some r -> r.1.length = n) (δ : En) (μ : Mu) (r : List D × Mu) (h : aa f fs δ μ = some r) : r.1.length = n + 1 := by
 unfold aa at h
 obtain ⟨q, _, h⟩ := Option.bind_eq_some_iff.mp h
 obtain ⟨t, e, h⟩ := Option.bind_eq_some_iff.mp h
 cases h
 rw [List.length_cons, hk _ _ _ e]
end
structure fB (K : PySem.W.Frag) (x qual : Str) (st : Stmt) (f : Addr) (fd : FuncData) (P : Addr) : Prop where
 ex : ∃ (oc : Value) (od : Option Addr) (kV doc pm : Value) (an : Option Addr) (c : Addr) (ct : Value) (osl : Array (Option Value)),
  fd = PySem.W.fnOf x qual (jw st) (iB st) (aN st) .none kV doc pm an (.ref c) ct /\ K.lookup f = some ⟨oc, od, .func fd, osl⟩ /\ PySem.W.codeIn K (.ref c) qual = true /\ ∀ h : Heap, K.In h -> PySem.W.CodeHd h c P
 kp : PySem.W.keepIn K (.ref f) = true
theorem cY {P : Program} {w : World} {K : PySem.W.Frag} {mg : Str -> Option Value} {base : Heap} {tb : List Addr} {x qual : Str} {st : Stmt} {f : Addr} {fd : FuncData} {T : Addr} {N ps : List Str} {n k : Nat} {g : SF} (F : fB K x qual st f fd T) (KB : K.In base) (hmg : mg x = some (.ref f)) (S : aX N ps (aN st)) (hps : ps.length = n)
  (hb : ∀ (kV doc pm : Value) (an : Option Addr) (cdv ct : Value) (us : List Value), us.length = ps.length -> bindArgs (PySem.W.fnOf x qual (jw st) (iB st) (aN st) .none kV doc pm an cdv ct) ⟨us, []⟩ = pure (ps.zip us))
  (hbody : ∀ (c : Addr) (A : Around) (outer : List Env) (s : Shared) (H : Hp) (E : XK), PySem.W.CodeHd base c T -> dZ k (A.deeper (envOfC qual (aN st) s.heap.objs.size f (.ref c))) ->
   tu (yu CX0 P w K mg base N qual (aN st) f (.ref c) A outer s H E).nox tb (iB st) g) : FI P w K mg base tb x n (k + 1) (aF N.length g) := by
 obtain ⟨oc, od, kV, doc, pm, an, c, ct, osl, rfl, lk, hcd, hhd⟩ := F.ex
 refine ⟨f, _, ps, Jr lk hcd S (λ vs H Q E ⟨W, ds, d, μ', e, ok, dl, hl, _⟩ => by rw [<- aA.length dl, hl, hps]) λ A outer s H vs Q E hr hsp => ?_, hmg, F.kp, .all (hb kV doc pm an (.ref c) ct)⟩
 obtain ⟨W, ds, d, μ', e, ok, dl, hl, hf, k⟩ := hsp
 refine ⟨_, (hbody c A outer s H E (hhd base KB) hr).nox, ?_⟩
 unfold aF at hf
 obtain ⟨⟨fl, δ', μ1⟩, e1, e2⟩ := Option.bind_eq_some_iff.mp hf
 refine ⟨W, _, fl, δ', μ1, e, ok, ?_, e1, λ σ' W' ok' l' m' d' => ?_⟩
 .have hlen := aA.length dl
  refine ⟨by unfold L2.start; simp [hlen], λ i y q => ?_⟩
  unfold L2.start
  by_cases hi : i < ds.length
  .rw [List.getElem?_append_left (by simpa using hi), List.getElem?_map] at q
   cases q2 : ds[i]? with
   | none => rw [q2] at q; cases q
   | some z =>
    rw [q2] at q
    cases q
    obtain ⟨v, ev, dv⟩ := aA.get dl q2
    exact ⟨v, by rw [List.getElem?_append_left (by rw [List.length_map, <- hlen]; exact hi), List.getElem?_map, ev]; rfl, dv⟩
  .rw [List.getElem?_append_right (by simpa using hi), List.getElem?_replicate] at q
   split at q <;> cases q
 .cases fl with
  | nx => cases e2; exact k .non W' ok' l' m' qF
  | rt d0 => cases e2; exact λ v dv => k v W' ok' l' m' dv
  | bk => cases e2
  | ct => cases e2
end L3
namespace L2
open PySem PySem.Spec PyProof.Rows
section
variable {X : Cx} {a b c e : Expr} {ta tb tc te : TE} {pos : Pos}
def iZ (i j : Int) : Nat := Builtin.Int.intBits i + Builtin.Int.intBits j
theorem GD : OpR X (binaryOp .Mult) (rI (λ i j => iZ i j <= 134217728) λ i j => .int (i * j)) := opI λ _ _ _ _ _ _ _ hc q => mul_int q (IntMulOk.of_le (Nat.le_refl _) (Nat.le_refl _) hc)
theorem DQ : OpR X (binaryOp .FloorDiv) (rI (λ _ j => j ≠ 0 /\ j.natAbs.log2 < 9000) λ i j => .int (i.fdiv j)) := opI λ _ _ _ _ _ _ _ hc q => floordiv_int hc.1 q (.inl (PyProof.noPylong_of_log2 hc.2))
theorem Hy : OpR X (binaryOp .Pow) (rI (λ i j => 0 <= j /\ (Builtin.Int.intBits i : Int) * j <= 2 ^ 27) λ i j => .int (i ^ j.toNat)) := opI λ _ _ _ _ _ _ _ hc q => pow_int hc.1 hc.2 q
def NB (K : PySem.W.Frag) : R2 := λ x y H Q => ∃ a b xs ys, x = .ref a /\ y = .ref b /\ SqT K H a xs /\ SqT K H b ys /\ xs.length + ys.length <= sizeLine /\
 (xs = [] -> Q (.ref b) H) /\ (xs ≠ [] -> ys = [] -> Q (.ref a) H) /\ (xs ≠ [] -> ys ≠ [] -> ∀ p, H p = none -> Q (.ref p) (upd H p (.tup (xs ++ ys))))
theorem Gq : OpR X (binaryOp .Add) (NB X.K) := by
 intro pins s σ H x y v u Q I rx ry h
 obtain ⟨t, b, xs, ys, rfl, rfl, ha, hb, hz, q0, q1, q2⟩ := h
 by_cases hx : xs = []
 .subst hx
  cases rx
  cases ry
  obtain ⟨its, r1, p1, _⟩ := I.tuple ha
  obtain ⟨its2, r2, p2, _⟩ := I.tuple hb
  cases r1
  obtain ⟨⟨cls, dd, data, sl⟩, ho, hc, n, hd⟩ := id p1
  obtain ⟨⟨cls2, dd2, data2, sl2⟩, ho2, hc2, n2, hd2⟩ := id p2
  simp only at hc hd hc2 hd2
  subst hc hd hc2 hd2
  exact concat_meets ⟨_, ho, rfl⟩ ⟨_, ho2, rfl⟩ noFill_tuple_add seq_tuple_add PySem.F.slot_tuple_add PySem.F.entry_tuple_add (PySem.F.args_tuple_add_2 _ _)
   (tuple_addW0 t b _ _ n n2 dd dd2 sl sl2 (by simp)) ⟨ho, ho2, ⟨.ref b, H, I, rfl, q0 rfl⟩⟩
 .exact Ij pins s σ H _ _ v u Q I rx ry ⟨t, b, xs, ys, rfl, rfl, ha, hb, hx, hz, q1 hx, q2 hx⟩
theorem pH : fillsNumberSlot (.type "tuple") "mul" = pure false :=
 PySem.fillsNumberSlot_seq (id := "tuple.__mul__") (r := some (.builtin "tuple.__rmul__")) F.slot_tuple_mul.lookup (by decide +kernel) F.slot_tuple_rmul.lookup (by decide +kernel)
theorem vP : seqRepeat? (.type "tuple") = pure (some (.builtin "tuple.__mul__")) := by
 unfold seqRepeat?
 rw [PySem.seqSlot_of (T := "tuple") (name := "__mul__") (id := "tuple.__mul__") F.slot_tuple_mul.lookup (by decide +kernel), PySem.seqSlot_of (T := "tuple") (name := "__rmul__") (id := "tuple.__rmul__") F.slot_tuple_rmul.lookup (by decide +kernel)]
 rfl
theorem rW (a : Int) (t : Tok) (l : Addr) (items : Array Value) (n : Nat) (dd : Option Addr) (sl : Array (Option Value)) :
  Meets (Builtin.«int.__rmul__» ⟨[.int a t, .ref l], []⟩) (λ _ R s => s.heap.get? l = some { cls := .type "tuple", dict := dd, data := .seq items n, slots := sl } /\ R (.ok (.ret Value.notImplemented)) s) :=
 .of_wp λ prog w A R s h => by obtain ⟨hp, g, d, tk, os⟩ := s; obtain ⟨hl, h⟩ := h; wp_walk; exact ⟨_, rfl, h⟩
theorem rM (l : Addr) (items : Array Value) (n : Nat) (x : Int) (u : Tok) (dd : Option Addr) (sl : Array (Option Value)) (h0 : (decide (x < -2 ^ 63) || decide (x >= 2 ^ 63)) = false) (h1 : (items.isEmpty || x == 1) = true) :
  Meets (Builtin.«tuple.__mul__» ⟨[.ref l, .int x u], []⟩) (λ _ R s => s.heap.get? l = some { cls := .type "tuple", dict := dd, data := .seq items n, slots := sl } /\ R (.ok (.ret (Value.ref l))) s) :=
 .of_wp λ prog w A R s h => by
  obtain ⟨hp, g, d, tk, os⟩ := s; obtain ⟨hl, h⟩ := h
  unfold Builtin.«tuple.__mul__»
  wp_walk using AutoSeq1.wpAny_loadPart' hl
  refine wpAny_ite_false (decide_eq_false (by rw [h0]; exact Bool.false_ne_true)) ?_
  wp_walk using AutoSeq1.wpAny_loadPart' hl
  exact ⟨_, rfl, h⟩
theorem sS (l : Addr) (items : Array Value) (n : Nat) (x : Int) (u : Tok) (dd : Option Addr) (sl : Array (Option Value)) (h0 : (decide (x < -2 ^ 63) || decide (x >= 2 ^ 63)) = false) (h1 : (items.isEmpty || x == 1) = false) (h2 : (decide (x <= 0) || items.isEmpty) = true) :
  Meets (Builtin.«tuple.__mul__» ⟨[.ref l, .int x u], []⟩) (λ _ R s => s.heap.get? l = some { cls := .type "tuple", dict := dd, data := .seq items n, slots := sl } /\ R (.ok (.ret (Value.ref s.heap.objs.size))) { s with heap := s.heap.push { cls := Value.type "tuple", data := Data.seq #[] }, toks := s.toks }) :=
 .of_wp λ prog w A R s h => by
  obtain ⟨hp, g, d, tk, os⟩ := s; obtain ⟨hl, h⟩ := h
  unfold Builtin.«tuple.__mul__»
  wp_walk using AutoSeq1.wpAny_loadPart' hl
  refine wpAny_ite_false (decide_eq_false (by rw [h0]; exact Bool.false_ne_true)) ?_
  wp_walk using AutoSeq1.wpAny_loadPart' hl
  exact ⟨_, rfl, h⟩
theorem tG (l : Addr) (items : Array Value) (n : Nat) (x : Int) (u : Tok) (dd : Option Addr) (sl : Array (Option Value)) (h0 : (decide (x < -2 ^ 63) || decide (x >= 2 ^ 63)) = false) (h1 : (items.isEmpty || x == 1) = false) (h2 : (decide (x <= 0) || items.isEmpty) = false)
  (h3 : ¬ (items.size : Int) * x > (2 ^ 63 - 1) / 8) (h4 : Builtin.Tuple.tupleTooMany ((items.size : Int) * x) = false) (h5 : ((List.replicate x.toNat items).foldl (· ++ ·) #[]).size <= sizeLine) :
  Meets (Builtin.«tuple.__mul__» ⟨[.ref l, .int x u], []⟩) (λ _ R s => s.heap.get? l = some { cls := .type "tuple", dict := dd, data := .seq items n, slots := sl } /\ R (.ok (.ret (Value.ref s.heap.objs.size))) { s with heap := s.heap.push { cls := Value.type "tuple", data := Data.seq ((List.replicate x.toNat items).foldl (· ++ ·) #[]) }, toks := s.toks }) :=
 .of_wp λ prog w A R s h => by
  obtain ⟨hp, g, d, tk, os⟩ := s; obtain ⟨hl, h⟩ := h
  unfold Builtin.«tuple.__mul__»
  wp_walk using AutoSeq1.wpAny_loadPart' hl
  refine wpAny_ite_false (decide_eq_false (by rw [h0]; exact Bool.false_ne_true)) ?_
  wp_walk using AutoSeq1.wpAny_loadPart' hl
  refine wpAny_ite_false (decide_eq_false h3) ?_
  wp_walk using AutoSeq1.wpAny_loadPart' hl
  exact ⟨_, rfl, h⟩
def PJ (K : PySem.W.Frag) : R2 := λ x y H Q => ∃ l k xs, x = .ref l /\ y = .int k /\ SqT K H l xs /\ -(2 ^ 63) <= k /\ k < 2 ^ 63 /\ xs.length * k.toNat <= sizeLine /\
 ((xs = [] ∨ k = 1) -> Q (.ref l) H) /\ (¬ (xs = [] ∨ k = 1) -> ∀ p, H p = none -> Q (.ref p) (upd H p (.tup (List.replicate k.toNat xs).flatten)))
theorem GQ : OpR X (binaryOp .Mult) (PJ X.K) := by
 intro pins s σ H x y v u Q I rx ry h
 obtain ⟨l, k, xs, rfl, rfl, hH, h1, h2, hz, q1, q2⟩ := h
 cases rx
 obtain ⟨t, rfl⟩ := ry
 obtain ⟨its, r, p, hz0⟩ := I.tuple hH
 have hl := r.length
 obtain ⟨⟨cls, dd, data, sl⟩, e, hc, n, hd⟩ := id p
 simp only at hc hd
 subst hc hd
 have h0 : (decide (k < -2 ^ 63) || decide (k >= 2 ^ 63)) = false := by
  rw [decide_eq_false (by omega), decide_eq_false (by omega)]; rfl
 refine wpAny_binaryOp_repeat_ref (T := "tuple") (U := "int") (by decide) ⟨_, e, rfl⟩ (λ s' => typeIs_int s' k t) pH F.fills_int_mul F.slot_int_rmul vP F.slot_int_index.lookup
  (call_meets F.slot_int_rmul (typeIs_int s k t) F.entry_int_rmul (F.args_int_rmul_2 _ _) (rW k t l its.toArray n dd sl) ⟨e, rfl, ⟨_, e, rfl⟩, ?_⟩)
 by_cases hs : xs = [] ∨ k = 1
 .refine call_meets F.slot_tuple_mul ⟨_, e, rfl⟩ F.entry_tuple_mul (F.args_tuple_mul_2 _ _) (rM l its.toArray n k t dd sl h0 ?_) ⟨e, ⟨.ref l, H, I, rfl, q1 hs⟩⟩
  rcases hs with hs | hs
  .subst hs; cases r; rfl
  .subst hs; simp
 .have hne : (its.toArray.isEmpty || k == 1) = false := by
   rw [Bool.or_eq_false_iff]
   refine ⟨?_, by simpa using λ z => hs (.inr z)⟩
   cases its with
   | nil => cases r; exact absurd (Or.inl rfl) hs
   | cons a b => simp
  have hne' : its.toArray.isEmpty = false := (Bool.or_eq_false_iff.mp hne).1
  by_cases hk : k <= 0
  .refine call_meets F.slot_tuple_mul ⟨_, e, rfl⟩ F.entry_tuple_mul (F.args_tuple_mul_2 _ _) (sS l its.toArray n k t dd sl h0 hne (by rw [decide_eq_true hk]; rfl)) ⟨e, ?_⟩
   have hk0 : k.toNat = 0 := by omega
   refine ⟨.ref s.heap.objs.size, _, I.laid (t' := s.toks) (o := .tup []) (λ b ob q => Heap.get?_push_of_some _ q) (Nat.le_refl _) ⟨Nat.zero_le _, [], .nil, IsTup.new _ _⟩, rfl, ?_⟩
   have := q2 hs _ (I.hok.fresh (Nat.le_refl _))
   rw [hk0] at this
   exact this
  .have hp : its.length * k.toNat <= sizeLine := by rw [<- hl]; exact hz
   have hsz := sizeLine_eq
   have hcast : ((its.toArray.size : Int)) * k = ((its.length * k.toNat : Nat) : Int) := by
    rw [List.size_toArray, Int.natCast_mul, Int.toNat_of_nonneg (by omega)]
   have hfold : List.foldl (λ x1 x2 => x1 ++ x2) #[] (List.replicate k.toNat its.toArray) = (List.replicate k.toNat its).flatten.toArray := by
    have := foldl_rep its k.toNat []
    rw [List.nil_append] at this
    exact this
   have hlen : (List.replicate k.toNat its).flatten.length <= sizeLine := by rw [len_rep, Nat.mul_comm]; exact hp
   refine call_meets F.slot_tuple_mul ⟨_, e, rfl⟩ F.entry_tuple_mul (F.args_tuple_mul_2 _ _) (tG l its.toArray n k t dd sl h0 hne (by rw [decide_eq_false hk, hne']; rfl) ?_ ?_ ?_) ⟨e, ?_⟩
   .rw [hcast]
    have : (sizeLine : Int) <= (2 ^ 63 - 1) / 8 := by decide
    omega
   .rw [hcast]
    unfold Builtin.Tuple.tupleTooMany
    exact decide_eq_false (by omega)
   .rw [hfold, List.size_toArray]; exact hlen
   .rw [hfold]
    refine ⟨.ref s.heap.objs.size, _, I.laid (t' := s.toks) (o := .tup (List.replicate k.toNat xs).flatten) (λ b ob q => Heap.get?_push_of_some _ q) (Nat.le_refl _) ⟨by rw [len_rep, Nat.mul_comm]; exact hz, _, r.rep k.toNat, IsTup.new _ _⟩, rfl, q2 hs _ (I.hok.fresh (Nat.le_refl _))⟩
def Ke (K : PySem.W.Frag) (T : String) (x : V) (H : Hp) (k : Bool) : Prop := match x with
 | .non => k = false
 | .bl _ => k = (T == "bool" || T == "int")
 | .int _ => k = (T == "int")
 | .str _ => k = (T == "str")
 | .ref p => (k = (T == "list") /\ ∃ xs, SqL K H p xs) ∨ (k = (T == "tuple") /\ ∃ xs, SqT K H p xs) ∨ (k = (T == "dict") /\ ∃ xs, H p = some (.dK xs))
 | _ => False
def Gh : List String := ["bool", "int", "str", "list", "tuple", "dict"]
theorem Cm : jo X (.builtin "isinstance") (λ xs H Q => ∃ x T k, xs = [x, .ty T] /\ T ∈ Gh /\ Ke X.K T x H k /\ Q (.bl k) H) := by
 intro pins s σ H xs us Q I r h
 obtain ⟨x, T, k, rfl, hT, hx, q⟩ := h
 obtain ⟨u, w', rfl, rx, rt⟩ := vals2 r
 cases rt
 have fin : EP X pins σ Q (.bool k) s := ⟨.bl k, H, I, rfl, q⟩
 have fin1 : EP X pins σ Q (.bool k) { s with toks := s.toks + 1 } := ⟨.bl k, H, I.tok _, rfl, q⟩
 simp only [Gh, List.mem_cons, List.not_mem_nil, or_false] at hT
 cases x with
 | non =>
  cases rx
  have hk : k = false := hx
  subst hk
  rcases hT with rfl | rfl | rfl | rfl | rfl | rfl
  .exact IsiPair.NoneType_bool fin1
  .exact IsiPair.NoneType_int fin1
  .exact IsiPair.NoneType_str fin1
  .exact IsiPair.NoneType_list fin1
  .exact IsiPair.NoneType_tuple fin1
  .exact IsiPair.NoneType_dict fin1
 | bl b =>
  cases rx
  have hk : k = _ := hx
  subst hk
  rcases hT with rfl | rfl | rfl | rfl | rfl | rfl
  .exact IsiPair.bool_bool fin
  .exact IsiPair.bool_int fin
  .exact IsiPair.bool_str fin1
  .exact IsiPair.bool_list fin1
  .exact IsiPair.bool_tuple fin1
  .exact IsiPair.bool_dict fin1
 | int b =>
  obtain ⟨t, rfl⟩ := rx
  have hk : k = _ := hx
  subst hk
  rcases hT with rfl | rfl | rfl | rfl | rfl | rfl
  .exact IsiPair.int_bool fin1
  .exact IsiPair.int_int fin
  .exact IsiPair.int_str fin1
  .exact IsiPair.int_list fin1
  .exact IsiPair.int_tuple fin1
  .exact IsiPair.int_dict fin1
 | str b =>
  obtain ⟨t, rfl⟩ := rx
  have hk : k = _ := hx
  subst hk
  rcases hT with rfl | rfl | rfl | rfl | rfl | rfl
  .exact IsiPair.str_bool fin1
  .exact IsiPair.str_int fin1
  .exact IsiPair.str_str fin
  .exact IsiPair.str_list fin1
  .exact IsiPair.str_tuple fin1
  .exact IsiPair.str_dict fin1
 | ref p =>
  cases rx
  rcases hx with ⟨hk, xs, hq⟩ | ⟨hk, xs, hq⟩ | ⟨hk, xs, hq⟩
  .subst hk
   obtain ⟨its, _, pl, _⟩ := I.list hq
   obtain ⟨o, ho, hc, _⟩ := pl.isList
   rcases hT with rfl | rfl | rfl | rfl | rfl | rfl
   .exact IsiPair.list_bool ho hc fin1
   .exact IsiPair.list_int ho hc fin1
   .exact IsiPair.list_str ho hc fin1
   .exact IsiPair.list_list ho hc fin
   .exact IsiPair.list_tuple ho hc fin1
   .exact IsiPair.list_dict ho hc fin1
  .subst hk
   obtain ⟨its, _, pl, _⟩ := I.tuple hq
   obtain ⟨o, ho, hc, _⟩ := pl
   rcases hT with rfl | rfl | rfl | rfl | rfl | rfl
   .exact IsiPair.tuple_bool ho hc fin1
   .exact IsiPair.tuple_int ho hc fin1
   .exact IsiPair.tuple_str ho hc fin1
   .exact IsiPair.tuple_list ho hc fin1
   .exact IsiPair.tuple_tuple ho hc fin
   .exact IsiPair.tuple_dict ho hc fin1
  .subst hk
   obtain ⟨_, _, vs, _, o, _, _, ho, ex, _⟩ := I.hok p _ hq
   have hc := ex.1
   rcases hT with rfl | rfl | rfl | rfl | rfl | rfl
   .exact IsiPair.dict_bool ho hc fin1
   .exact IsiPair.dict_int ho hc fin1
   .exact IsiPair.dict_str ho hc fin1
   .exact IsiPair.dict_list ho hc fin1
   .exact IsiPair.dict_tuple ho hc fin1
   .exact IsiPair.dict_dict ho hc fin
 | _ => exact hx.elim
end
end L2
namespace L3
open PySem PySem.Spec PyProof.Rows L2
abbrev O2 := D -> D -> Mu -> Option (D × Mu)
abbrev O1' := D -> Mu -> Option (D × Mu)
abbrev ON := List D -> Mu -> Option (D × Mu)
def bf : O2
 | .int i, .int j, μ => some (.int (i + j), μ)
 | .tup xs, .tup ys, μ => if xs.length + ys.length <= sizeLine then some (.tup (xs ++ ys), μ) else none
 | .lst xs, .lst ys, μ => if xs.length + ys.length <= sizeLine then some (.lst (xs ++ ys), μ) else none
 | .str x, .str y, μ => if x.length + y.length <= sizeLine then some (.str (x ++ y), μ) else none
 | _, _, _ => none
def dF : O2
 | .int i, .int j, μ => some (.int (i - j), μ)
 | _, _, _ => none
def bJ : O2
 | .int i, .int j, μ => if iZ i j <= 134217728 then some (.int (i * j), μ) else none
 | .tup xs, .int k, μ => if -(2 ^ 63) <= k /\ k < 2 ^ 63 /\ xs.length * k.toNat <= sizeLine then some (.tup (List.replicate k.toNat xs).flatten, μ) else none
 | .lst xs, .int k, μ => if -(2 ^ 63) <= k /\ k < 2 ^ 63 /\ xs.length * k.toNat <= sizeLine then some (.lst (List.replicate k.toNat xs).flatten, μ) else none
 | _, _, _ => none
def oDiv : O2
 | .int i, .int j, μ => if j ≠ 0 /\ j.natAbs.log2 < 9000 then some (.int (i.fdiv j), μ) else none
 | _, _, _ => none
def oMod : O2
 | .int i, .int j, μ => if j ≠ 0 then some (.int (i.fmod j), μ) else none
 | _, _, _ => none
def xx : O2
 | .int i, .int j, μ => if 0 <= j /\ (Builtin.Int.intBits i : Int) * j <= 2 ^ 27 then some (.int (i ^ j.toNat), μ) else none
 | _, _, _ => none
def oLt : O2
 | .int i, .int j, μ => some (.bl (decide (i < j)), μ)
 | _, _, _ => none
def oGt : O2
 | .int i, .int j, μ => some (.bl (decide (j < i)), μ)
 | _, _, _ => none
def oGe : O2
 | .int i, .int j, μ => some (.bl (decide (j <= i)), μ)
 | _, _, _ => none
section
variable {X : Cx} {tb : List Addr}
theorem qG {K : PySem.W.Frag} {F : Hp} {ad : List Addr} {ds : List D} {vs : List V} (h : aA K F ad ds vs) : ∀ k : Nat, aA K F ad (List.replicate k ds).flatten (List.replicate k vs).flatten
 | 0 => aA.nil
 | k + 1 => by
  rw [List.replicate_succ, List.replicate_succ, List.flatten_cons, List.flatten_cons]
  exact aA.append h (qG h k)
theorem jW {K : PySem.W.Frag} {F : Hp} {ad : List Addr} {ds : List D} {vs : List V} (h : aA K F ad ds vs) : vs = [] ↔ ds = [] := by
 have := aA.length h
 cases ds <;> cases vs <;> simp_all
theorem Ii {α : Type} (xs : List α) : (List.replicate (1 : Int).toNat xs).flatten = xs := by simp
theorem bu : OpD X tb (binaryOp .Add) bf := ⟨_, La.or (Gq.or (KN.or zH)), λ W x y v u d μ' Q ok dx dy ho h => by
 cases x with
 | int i =>
  cases y with
  | int j => cases ho; rw [bj dx, bj dy]; exact .inl ⟨i, j, rfl, rfl, put ok h dO⟩
  | _ => cases ho
 | tup xs =>
  cases y with
  | tup ys =>
   have ho' : (if xs.length + ys.length <= sizeLine then some (D.tup (xs ++ ys), W.mu) else none) = some (d, μ') := ho
   split at ho'
   .rename_i hz
    cases ho'
    obtain ⟨a, us, rfl, q1, r1⟩ := iQ dx
    obtain ⟨b, ws, rfl, q2, r2⟩ := iQ dy
    refine .inr (.inl ⟨a, b, us, ws, rfl, rfl, SqT.fz q1, SqT.fz q2, by rw [<- aA.length r1, <- aA.length r2]; exact hz, λ e => ?_, λ _ e => ?_, λ _ _ p hp => lU ok h (aA.append r1 r2) hp⟩)
    .have e' := (jW r1).mp e
     subst e'
     exact put ok h dy
    .have e' := (jW r2).mp e
     subst e'
     rw [List.append_nil] at h
     exact put ok h dx
   .cases ho'
  | _ => cases ho
 | lst xs =>
  cases y with
  | lst ys =>
   have ho' : (if xs.length + ys.length <= sizeLine then some (D.lst (xs ++ ys), W.mu) else none) = some (d, μ') := ho
   split at ho'
   .rename_i hz
    cases ho'
    obtain ⟨a, us, rfl, q1, r1⟩ := lV dx
    obtain ⟨b, ws, rfl, q2, r2⟩ := lV dy
    exact .inr (.inr (.inl ⟨a, b, us, ws, rfl, rfl, (cX q1).1, (cX q2).1, by rw [<- aA.length r1, <- aA.length r2]; exact hz, λ p hp => iV ok h (aA.append r1 r2) hp⟩))
   .cases ho'
  | _ => cases ho
 | str x =>
  cases y with
  | str y =>
   have ho' : (if x.length + y.length <= sizeLine then some (D.str (x ++ y), W.mu) else none) = some (d, μ') := ho
   split at ho'
   .rename_i hz
    cases ho'
    rw [uR dx, uR dy]
    exact .inr (.inr (.inr ⟨x, y, rfl, rfl, hz, put ok h Hk⟩))
   .cases ho'
  | _ => cases ho
 | _ => cases y <;> cases ho⟩
theorem dX : OpD X tb (binaryOp .Sub) dF := ⟨_, Ko, λ W x y v u d μ' Q ok dx dy ho h => by
 cases x with
 | int i =>
  cases y with
  | int j => cases ho; rw [bj dx, bj dy]; exact ⟨i, j, rfl, rfl, put ok h dO⟩
  | _ => cases ho
 | _ => cases y <;> cases ho⟩
theorem cG : OpD X tb (binaryOp .Mult) bJ := ⟨_, GD.or (GQ.or Es), λ W x y v u d μ' Q ok dx dy ho h => by
 cases x with
 | int i =>
  cases y with
  | int j =>
   have ho' : (if iZ i j <= 134217728 then some (D.int (i * j), W.mu) else none) = some (d, μ') := ho
   split at ho'
   .rename_i hz
    cases ho'
    rw [bj dx, bj dy]; exact .inl ⟨i, j, rfl, rfl, hz, put ok h dO⟩
   .cases ho'
  | _ => cases ho
 | tup xs =>
  cases y with
  | int k =>
   have ho' : (if -(2 ^ 63) <= k /\ k < 2 ^ 63 /\ xs.length * k.toNat <= sizeLine then some (D.tup (List.replicate k.toNat xs).flatten, W.mu) else none) = some (d, μ') := ho
   split at ho'
   .rename_i hz
    cases ho'
    obtain ⟨a, us, rfl, q1, r1⟩ := iQ dx
    rw [bj dy]
    refine .inr (.inl ⟨a, k, us, rfl, rfl, SqT.fz q1, hz.1, hz.2.1, by rw [<- aA.length r1]; exact hz.2.2, λ e => ?_, λ _ p hp => lU ok h (qG r1 _) hp⟩)
    rcases e with e | e
    .have e' := (jW r1).mp e
     subst e'
     have e2 : (List.replicate k.toNat ([] : List D)).flatten = [] := by simp
     rw [e2] at h
     exact put ok h dx
    .subst e
     rw [Ii] at h
     exact put ok h dx
   .cases ho'
  | _ => cases ho
 | lst xs =>
  cases y with
  | int k =>
   have ho' : (if -(2 ^ 63) <= k /\ k < 2 ^ 63 /\ xs.length * k.toNat <= sizeLine then some (D.lst (List.replicate k.toNat xs).flatten, W.mu) else none) = some (d, μ') := ho
   split at ho'
   .rename_i hz
    cases ho'
    obtain ⟨a, us, rfl, q1, r1⟩ := lV dx
    rw [bj dy]
    exact .inr (.inr ⟨a, k, us, rfl, rfl, (cX q1).1, hz.1, hz.2.1, by rw [<- aA.length r1]; exact hz.2.2, λ p hp => iV ok h (qG r1 _) hp⟩)
   .cases ho'
  | _ => cases ho
 | _ => cases y <;> cases ho⟩
theorem fU : OpD X tb (binaryOp .FloorDiv) oDiv := ⟨_, DQ, λ W x y v u d μ' Q ok dx dy ho h => by
 cases x with
 | int i =>
  cases y with
  | int j =>
   have ho' : (if j ≠ 0 /\ j.natAbs.log2 < 9000 then some (D.int (i.fdiv j), W.mu) else none) = some (d, μ') := ho
   split at ho'
   .rename_i hz
    cases ho'
    rw [bj dx, bj dy]; exact ⟨i, j, rfl, rfl, hz, put ok h dO⟩
   .cases ho'
  | _ => cases ho
 | _ => cases y <;> cases ho⟩
theorem bc : OpD X tb (binaryOp .Mod) oMod := ⟨_, Ie, λ W x y v u d μ' Q ok dx dy ho h => by
 cases x with
 | int i =>
  cases y with
  | int j =>
   have ho' : (if j ≠ 0 then some (D.int (i.fmod j), W.mu) else none) = some (d, μ') := ho
   split at ho'
   .rename_i hz
    cases ho'
    rw [bj dx, bj dy]; exact ⟨i, j, rfl, rfl, hz, put ok h dO⟩
   .cases ho'
  | _ => cases ho
 | _ => cases y <;> cases ho⟩
theorem Dm : OpD X tb (binaryOp .Pow) xx := ⟨_, Hy, λ W x y v u d μ' Q ok dx dy ho h => by
 cases x with
 | int i =>
  cases y with
  | int j =>
   have ho' : (if 0 <= j /\ (Builtin.Int.intBits i : Int) * j <= 2 ^ 27 then some (D.int (i ^ j.toNat), W.mu) else none) = some (d, μ') := ho
   split at ho'
   .rename_i hz
    cases ho'
    rw [bj dx, bj dy]; exact ⟨i, j, rfl, rfl, hz, put ok h dO⟩
   .cases ho'
  | _ => cases ho
 | _ => cases y <;> cases ho⟩
theorem xZ : OpD X tb (compareOp .Lt) oLt := ⟨_, Nt, λ W x y v u d μ' Q ok dx dy ho h => by
 cases x with
 | int i =>
  cases y with
  | int j => cases ho; rw [bj dx, bj dy]; exact ⟨i, j, rfl, rfl, put ok h gG⟩
  | _ => cases ho
 | _ => cases y <;> cases ho⟩
theorem Pk : OpD X tb (compareOp .Gt) oGt := ⟨_, Ol, λ W x y v u d μ' Q ok dx dy ho h => by
 cases x with
 | int i =>
  cases y with
  | int j => cases ho; rw [bj dx, bj dy]; exact ⟨i, j, rfl, rfl, put ok h gG⟩
  | _ => cases ho
 | _ => cases y <;> cases ho⟩
theorem Jk : OpD X tb (compareOp .GtE) oGe := ⟨_, Nk, λ W x y v u d μ' Q ok dx dy ho h => by
 cases x with
 | int i =>
  cases y with
  | int j => cases ho; rw [bj dx, bj dy]; exact ⟨i, j, rfl, rfl, put ok h gG⟩
  | _ => cases ho
 | _ => cases y <;> cases ho⟩
end
open PySem.SeqAt
mutual
def eqD : D -> D -> Bool
 | .non, .non => true
 | .bl a, .bl b => a == b
 | .bl a, .int b => (if a then 1 else 0) == b
 | .int a, .bl b => a == (if b then 1 else 0)
 | .int a, .int b => a == b
 | .str a, .str b => a == b
 | .tup xs, .tup ys => kJ xs ys
 | .lst xs, .lst ys => kJ xs ys
 | _, _ => false
def kJ : List D -> List D -> Bool
 | [], [] => true
 | x :: xs, y :: ys => eqD x y && kJ xs ys
 | _, _ => false
end
mutual
def ie : D -> Nat
 | .tup ds => gW ds + 1
 | .lst ds => gW ds + 1
 | _ => 0
def gW : List D -> Nat
 | [] => 0
 | d :: ds => max (ie d) (gW ds)
end
mutual
def cJ : D -> Bool
 | .non => true
 | .bl _ => true
 | .int _ => true
 | .str _ => true
 | .tup ds => dg ds
 | .lst ds => dg ds
 | _ => false
def dg : List D -> Bool
 | [] => true
 | d :: ds => cJ d && dg ds
end
mutual
def DV (K : PySem.W.Frag) (H : Hp) : D -> V -> Prop
 | .non, v => v = .non
 | .bl b, v => v = .bl b
 | .int i, v => v = .int i
 | .str x, v => v = .str x
 | .tup ds, v => ∃ a xs, v = .ref a /\ SqT K H a xs /\ DVL K H ds xs
 | .lst ds, v => ∃ a xs, v = .ref a /\ SqL K H a xs /\ DVL K H ds xs
 | .ro _, _ => False
 | .dic _, _ => False
 | .cell _, _ => False
def DVL (K : PySem.W.Frag) (H : Hp) : List D -> List V -> Prop
 | [], vs => vs = []
 | d :: ds, vs => ∃ u us, vs = u :: us /\ DV K H d u /\ DVL K H ds us
end
section
variable {K : PySem.W.Frag} {tb : List Addr} {W : Wd}
mutual
theorem Iz : ∀ (d : D) (v : V), cJ d = true -> aV K (W.fz tb) W.ad d v -> DV K W.H d v
 | .non, v, _, h => by unfold aV at h; unfold DV; exact h
 | .bl _, v, _, h => by unfold aV at h; unfold DV; exact h
 | .int _, v, _, h => by unfold aV at h; unfold DV; exact h
 | .str _, v, _, h => by unfold aV at h; unfold DV; exact h
 | .tup ds, v, p, h => by
  unfold aV at h; unfold DV; unfold cJ at p
  obtain ⟨a, xs, e, q, r⟩ := h
  exact ⟨a, xs, e, SqT.fz q, rN ds xs p r⟩
 | .lst ds, v, p, h => by
  unfold aV at h; unfold DV; unfold cJ at p
  obtain ⟨a, xs, e, q, r⟩ := h
  exact ⟨a, xs, e, SqL.of (cX q).1, rN ds xs p r⟩
 | .ro ds, v, p, h => by unfold cJ at p; cases p
 | .dic ds, v, p, h => by unfold cJ at p; cases p
 | .cell ds, v, p, h => by unfold cJ at p; cases p
theorem rN : ∀ (ds : List D) (vs : List V), dg ds = true -> aA K (W.fz tb) W.ad ds vs -> DVL K W.H ds vs
 | [], vs, _, h => by unfold aA at h; unfold DVL; exact h
 | d :: ds, vs, p, h => by
  unfold aA at h; unfold DVL; unfold dg at p
  rw [Bool.and_eq_true] at p
  obtain ⟨u, us, e, q, r⟩ := h
  exact ⟨u, us, e, Iz d u p.1 q, rN ds us p.2 r⟩
end
end
def ju (xs ys : List D) (j : Nat) : Bool := match xs[j]?, ys[j]? with
 | some x, some y => eqD x y
 | _, _ => false
theorem jl : ∀ (xs ys : List D), xs.length = ys.length -> (List.range xs.length).all (ju xs ys) = kJ xs ys
 | [], [], _ => by unfold kJ; rfl
 | x :: xs, y :: ys, h => by
  unfold kJ
  rw [List.length_cons, List.range_succ_eq_map, List.all_cons, List.all_map, <- jl xs ys (by simpa using h)]
  rfl
theorem lC : ∀ (xs ys : List D), xs.length ≠ ys.length -> kJ xs ys = false
 | [], [], h => absurd rfl h
 | [], y :: ys, _ => by unfold kJ; rfl
 | x :: xs, [], _ => by unfold kJ; rfl
 | x :: xs, y :: ys, h => by
  unfold kJ
  rw [lC xs ys (by simpa using h), Bool.and_false]
theorem qL (xs ys : List D) : ((List.range (min xs.length ys.length)).all (ju xs ys) && xs.length == ys.length) = kJ xs ys := by
 by_cases h : xs.length = ys.length
 .rw [<- h, Nat.min_self, jl xs ys h]; simp
 .rw [lC xs ys h, beq_false_of_ne h, Bool.and_false]
section
variable {X : Cx} {pins : List (Addr × Obj)} {σ : L2.St} {H : Hp} {s : Shared}
theorem DVL.length {K : PySem.W.Frag} : ∀ {ds : List D} {vs : List V}, DVL K H ds vs -> ds.length = vs.length
 | [], vs, h => by unfold DVL at h; subst h; rfl
 | d :: ds, vs, h => by
  unfold DVL at h
  obtain ⟨u, us, rfl, _, r⟩ := h
  rw [List.length_cons, List.length_cons, DVL.length r]
theorem DVL.get' {K : PySem.W.Frag} : ∀ {ds : List D} {vs : List V} {i : Nat} {v : V}, DVL K H ds vs -> vs[i]? = some v -> ∃ d, ds[i]? = some d /\ DV K H d v
 | [], vs, i, v, h, e => by unfold DVL at h; subst h; simp at e
 | d :: ds, vs, 0, x, h, e => by
  unfold DVL at h
  obtain ⟨u, us, rfl, p, r⟩ := h
  simp at e; subst e
  exact ⟨d, rfl, p⟩
 | d :: ds, vs, i + 1, x, h, e => by
  unfold DVL at h
  obtain ⟨u, us, rfl, p, r⟩ := h
  obtain ⟨y, e1, e2⟩ := DVL.get' (i := i) r (by simpa using e)
  exact ⟨y, by simpa using e1, e2⟩
theorem wH {a : Addr} {xs ys : List V} (I : Inv X pins σ H s) (h : SqL X.K H a xs) (h' : SqT X.K H a ys) : False := by
 obtain ⟨its, _, pl, _⟩ := I.list h
 obtain ⟨its', _, pt, _⟩ := I.tuple h'
 obtain ⟨o, ho, hc, _⟩ := pl.isList
 obtain ⟨o', ho', hc', _⟩ := pt
 rw [ho] at ho'; cases ho'
 rw [hc] at hc'
 exact absurd hc' (by decide)
mutual
theorem sG (I : Inv X pins σ H s) : ∀ (x y : D) (v : V), DV X.K H x v -> DV X.K H y v -> eqD x y = true
 | .non, .non, v, h, k => by unfold eqD; rfl
 | .non, .bl b, v, h, k => by unfold DV at h k; subst h; cases k
 | .non, .int b, v, h, k => by unfold DV at h k; subst h; cases k
 | .non, .str b, v, h, k => by unfold DV at h k; subst h; cases k
 | .non, .tup ys, v, h, k => by unfold DV at h k; obtain ⟨a, us, rfl, q, r⟩ := k; cases h
 | .non, .lst ys, v, h, k => by unfold DV at h k; obtain ⟨a, us, rfl, q, r⟩ := k; cases h
 | .bl a, .non, v, h, k => by unfold DV at h k; subst h; cases k
 | .bl a, .bl b, v, h, k => by unfold DV at h k; subst h; cases k; unfold eqD; simp
 | .bl a, .int b, v, h, k => by unfold DV at h k; subst h; cases k
 | .bl a, .str b, v, h, k => by unfold DV at h k; subst h; cases k
 | .bl a, .tup ys, v, h, k => by unfold DV at h k; obtain ⟨a, us, rfl, q, r⟩ := k; cases h
 | .bl a, .lst ys, v, h, k => by unfold DV at h k; obtain ⟨a, us, rfl, q, r⟩ := k; cases h
 | .int a, .non, v, h, k => by unfold DV at h k; subst h; cases k
 | .int a, .bl b, v, h, k => by unfold DV at h k; subst h; cases k
 | .int a, .int b, v, h, k => by unfold DV at h k; subst h; cases k; unfold eqD; simp
 | .int a, .str b, v, h, k => by unfold DV at h k; subst h; cases k
 | .int a, .tup ys, v, h, k => by unfold DV at h k; obtain ⟨a, us, rfl, q, r⟩ := k; cases h
 | .int a, .lst ys, v, h, k => by unfold DV at h k; obtain ⟨a, us, rfl, q, r⟩ := k; cases h
 | .str a, .non, v, h, k => by unfold DV at h k; subst h; cases k
 | .str a, .bl b, v, h, k => by unfold DV at h k; subst h; cases k
 | .str a, .int b, v, h, k => by unfold DV at h k; subst h; cases k
 | .str a, .str b, v, h, k => by unfold DV at h k; subst h; cases k; unfold eqD; simp
 | .str a, .tup ys, v, h, k => by unfold DV at h k; obtain ⟨a, us, rfl, q, r⟩ := k; cases h
 | .str a, .lst ys, v, h, k => by unfold DV at h k; obtain ⟨a, us, rfl, q, r⟩ := k; cases h
 | .tup xs, .non, v, h, k => by unfold DV at h k; obtain ⟨a, us, rfl, q, r⟩ := h; cases k
 | .tup xs, .bl b, v, h, k => by unfold DV at h k; obtain ⟨a, us, rfl, q, r⟩ := h; cases k
 | .tup xs, .int b, v, h, k => by unfold DV at h k; obtain ⟨a, us, rfl, q, r⟩ := h; cases k
 | .tup xs, .str b, v, h, k => by unfold DV at h k; obtain ⟨a, us, rfl, q, r⟩ := h; cases k
 | .tup xs, .tup ys, v, h, k => by
  unfold DV at h k
  obtain ⟨a, us, rfl, q, r⟩ := h
  obtain ⟨a', us', e, q', r'⟩ := k
  cases e
  have := I.tuple_inj q q'
  subst this
  unfold eqD
  exact ph I xs ys us r r'
 | .tup xs, .lst ys, v, h, k => by
  unfold DV at h k
  obtain ⟨a, us, rfl, q, r⟩ := h
  obtain ⟨a', us', e, q', r'⟩ := k
  cases e
  exact (wH I q' q).elim
 | .lst xs, .non, v, h, k => by unfold DV at h k; obtain ⟨a, us, rfl, q, r⟩ := h; cases k
 | .lst xs, .bl b, v, h, k => by unfold DV at h k; obtain ⟨a, us, rfl, q, r⟩ := h; cases k
 | .lst xs, .int b, v, h, k => by unfold DV at h k; obtain ⟨a, us, rfl, q, r⟩ := h; cases k
 | .lst xs, .str b, v, h, k => by unfold DV at h k; obtain ⟨a, us, rfl, q, r⟩ := h; cases k
 | .lst xs, .tup ys, v, h, k => by
  unfold DV at h k
  obtain ⟨a, us, rfl, q, r⟩ := h
  obtain ⟨a', us', e, q', r'⟩ := k
  cases e
  exact (wH I q q').elim
 | .lst xs, .lst ys, v, h, k => by
  unfold DV at h k
  obtain ⟨a, us, rfl, q, r⟩ := h
  obtain ⟨a', us', e, q', r'⟩ := k
  cases e
  have := I.list_inj q q'
  subst this
  unfold eqD
  exact ph I xs ys us r r'
 | .ro _, _, v, h, _ => by unfold DV at h; exact h.elim
 | .dic _, _, v, h, _ => by unfold DV at h; exact h.elim
 | .cell _, _, v, h, _ => by unfold DV at h; exact h.elim
 | .non, .ro _, v, _, k => by unfold DV at k; exact k.elim
 | .non, .dic _, v, _, k => by unfold DV at k; exact k.elim
 | .non, .cell _, v, _, k => by unfold DV at k; exact k.elim
 | .bl _, .ro _, v, _, k => by unfold DV at k; exact k.elim
 | .bl _, .dic _, v, _, k => by unfold DV at k; exact k.elim
 | .bl _, .cell _, v, _, k => by unfold DV at k; exact k.elim
 | .int _, .ro _, v, _, k => by unfold DV at k; exact k.elim
 | .int _, .dic _, v, _, k => by unfold DV at k; exact k.elim
 | .int _, .cell _, v, _, k => by unfold DV at k; exact k.elim
 | .str _, .ro _, v, _, k => by unfold DV at k; exact k.elim
 | .str _, .dic _, v, _, k => by unfold DV at k; exact k.elim
 | .str _, .cell _, v, _, k => by unfold DV at k; exact k.elim
 | .tup _, .ro _, v, _, k => by unfold DV at k; exact k.elim
 | .tup _, .dic _, v, _, k => by unfold DV at k; exact k.elim
 | .tup _, .cell _, v, _, k => by unfold DV at k; exact k.elim
 | .lst _, .ro _, v, _, k => by unfold DV at k; exact k.elim
 | .lst _, .dic _, v, _, k => by unfold DV at k; exact k.elim
 | .lst _, .cell _, v, _, k => by unfold DV at k; exact k.elim
theorem ph (I : Inv X pins σ H s) : ∀ (xs ys : List D) (vs : List V), DVL X.K H xs vs -> DVL X.K H ys vs -> kJ xs ys = true
 | [], [], vs, _, _ => by unfold kJ; rfl
 | [], y :: ys, vs, h, k => by unfold DVL at h k; subst h; obtain ⟨u, us, e, _⟩ := k; cases e
 | x :: xs, [], vs, h, k => by unfold DVL at h k; subst k; obtain ⟨u, us, e, _⟩ := h; cases e
 | x :: xs, y :: ys, vs, h, k => by
  unfold DVL at h k
  obtain ⟨u, us, rfl, p, r⟩ := h
  obtain ⟨u', us', e, p', r'⟩ := k
  cases e
  unfold kJ
  rw [sG I x y u p p', ph I xs ys us r r']; rfl
end
mutual
theorem JB (I : Inv X pins σ H s) : ∀ (x y : D) (v u : V) (vv uu : Value) (A : Around), DV X.K H x v -> DV X.K H y u -> RelV v vv -> RelV u uu -> A.units + ie x < cLine -> EqAt A s vv uu (eqD x y)
 | .non, .non, v, u, vv, uu, A, h, k, rv, ru, hu => by unfold DV at h k; subst h; cases rv; subst k; cases ru; unfold eqD; exact EqAt.same _
 | .non, .bl b0, v, u, vv, uu, A, h, k, rv, ru, hu => by unfold DV at h k; subst h; cases rv; subst k; cases ru; unfold eqD; exact EqAt.none_bool _
 | .non, .int b0, v, u, vv, uu, A, h, k, rv, ru, hu => by unfold DV at h k; subst h; cases rv; subst k; obtain ⟨t1, rfl⟩ := ru; unfold eqD; exact EqAt.none_int _ _
 | .non, .str b0, v, u, vv, uu, A, h, k, rv, ru, hu => by unfold DV at h k; subst h; cases rv; subst k; obtain ⟨t1, rfl⟩ := ru; unfold eqD; exact EqAt.none_str _ _
 | .non, .tup ys, v, u, vv, uu, A, h, k, rv, ru, hu => by unfold DV at h k; subst h; cases rv; obtain ⟨b, ws, rfl, p, r2⟩ := k; cases ru; obtain ⟨its1, iv1, pl1, hz1⟩ := I.tuple p; unfold eqD; exact EqAt.none_tuple pl1 (by omega)
 | .non, .lst ys, v, u, vv, uu, A, h, k, rv, ru, hu => by unfold DV at h k; subst h; cases rv; obtain ⟨b, ws, rfl, p, r2⟩ := k; cases ru; obtain ⟨its1, iv1, pl1, hz1⟩ := I.list p; unfold eqD; exact EqAt.none_list pl1.isList (by omega)
 | .bl a0, .non, v, u, vv, uu, A, h, k, rv, ru, hu => by unfold DV at h k; subst h; cases rv; subst k; cases ru; unfold eqD; exact EqAt.bool_none _
 | .bl a0, .bl b0, v, u, vv, uu, A, h, k, rv, ru, hu => by unfold DV at h k; subst h; cases rv; subst k; cases ru; unfold eqD; exact EqAt.bool_bool _ _
 | .bl a0, .int b0, v, u, vv, uu, A, h, k, rv, ru, hu => by unfold DV at h k; subst h; cases rv; subst k; obtain ⟨t1, rfl⟩ := ru; unfold eqD; exact EqAt.bool_int _ _ _
 | .bl a0, .str b0, v, u, vv, uu, A, h, k, rv, ru, hu => by unfold DV at h k; subst h; cases rv; subst k; obtain ⟨t1, rfl⟩ := ru; unfold eqD; exact EqAt.bool_str _ _ _
 | .bl a0, .tup ys, v, u, vv, uu, A, h, k, rv, ru, hu => by unfold DV at h k; subst h; cases rv; obtain ⟨b, ws, rfl, p, r2⟩ := k; cases ru; obtain ⟨its1, iv1, pl1, hz1⟩ := I.tuple p; unfold eqD; exact EqAt.bool_tuple _ pl1 (by omega)
 | .bl a0, .lst ys, v, u, vv, uu, A, h, k, rv, ru, hu => by unfold DV at h k; subst h; cases rv; obtain ⟨b, ws, rfl, p, r2⟩ := k; cases ru; obtain ⟨its1, iv1, pl1, hz1⟩ := I.list p; unfold eqD; exact EqAt.bool_list _ pl1.isList (by omega)
 | .int a0, .non, v, u, vv, uu, A, h, k, rv, ru, hu => by unfold DV at h k; subst h; obtain ⟨t0, rfl⟩ := rv; subst k; cases ru; unfold eqD; exact EqAt.int_none _ _
 | .int a0, .bl b0, v, u, vv, uu, A, h, k, rv, ru, hu => by unfold DV at h k; subst h; obtain ⟨t0, rfl⟩ := rv; subst k; cases ru; unfold eqD; exact EqAt.int_bool _ _ _
 | .int a0, .int b0, v, u, vv, uu, A, h, k, rv, ru, hu => by unfold DV at h k; subst h; obtain ⟨t0, rfl⟩ := rv; subst k; obtain ⟨t1, rfl⟩ := ru; unfold eqD; exact EqAt.int_int _ _ _ _
 | .int a0, .str b0, v, u, vv, uu, A, h, k, rv, ru, hu => by unfold DV at h k; subst h; obtain ⟨t0, rfl⟩ := rv; subst k; obtain ⟨t1, rfl⟩ := ru; unfold eqD; exact EqAt.int_str _ _ _ _
 | .int a0, .tup ys, v, u, vv, uu, A, h, k, rv, ru, hu => by unfold DV at h k; subst h; obtain ⟨t0, rfl⟩ := rv; obtain ⟨b, ws, rfl, p, r2⟩ := k; cases ru; obtain ⟨its1, iv1, pl1, hz1⟩ := I.tuple p; unfold eqD; exact EqAt.int_tuple _ _ pl1 (by omega)
 | .int a0, .lst ys, v, u, vv, uu, A, h, k, rv, ru, hu => by unfold DV at h k; subst h; obtain ⟨t0, rfl⟩ := rv; obtain ⟨b, ws, rfl, p, r2⟩ := k; cases ru; obtain ⟨its1, iv1, pl1, hz1⟩ := I.list p; unfold eqD; exact EqAt.int_list _ _ pl1.isList (by omega)
 | .str a0, .non, v, u, vv, uu, A, h, k, rv, ru, hu => by unfold DV at h k; subst h; obtain ⟨t0, rfl⟩ := rv; subst k; cases ru; unfold eqD; exact EqAt.str_none _ _
 | .str a0, .bl b0, v, u, vv, uu, A, h, k, rv, ru, hu => by unfold DV at h k; subst h; obtain ⟨t0, rfl⟩ := rv; subst k; cases ru; unfold eqD; exact EqAt.str_bool _ _ _
 | .str a0, .int b0, v, u, vv, uu, A, h, k, rv, ru, hu => by unfold DV at h k; subst h; obtain ⟨t0, rfl⟩ := rv; subst k; obtain ⟨t1, rfl⟩ := ru; unfold eqD; exact EqAt.str_int _ _ _ _
 | .str a0, .str b0, v, u, vv, uu, A, h, k, rv, ru, hu => by unfold DV at h k; subst h; obtain ⟨t0, rfl⟩ := rv; subst k; obtain ⟨t1, rfl⟩ := ru; unfold eqD; exact EqAt.str_str _ _ _ _
 | .str a0, .tup ys, v, u, vv, uu, A, h, k, rv, ru, hu => by unfold DV at h k; subst h; obtain ⟨t0, rfl⟩ := rv; obtain ⟨b, ws, rfl, p, r2⟩ := k; cases ru; obtain ⟨its1, iv1, pl1, hz1⟩ := I.tuple p; unfold eqD; exact EqAt.str_tuple _ _ pl1 (by omega)
 | .str a0, .lst ys, v, u, vv, uu, A, h, k, rv, ru, hu => by unfold DV at h k; subst h; obtain ⟨t0, rfl⟩ := rv; obtain ⟨b, ws, rfl, p, r2⟩ := k; cases ru; obtain ⟨its1, iv1, pl1, hz1⟩ := I.list p; unfold eqD; exact EqAt.str_list _ _ pl1.isList (by omega)
 | .tup xs, .non, v, u, vv, uu, A, h, k, rv, ru, hu => by unfold DV at h k; obtain ⟨a, us, rfl, q, r⟩ := h; cases rv; obtain ⟨its0, iv0, pl0, hz0⟩ := I.tuple q; subst k; cases ru; unfold eqD; exact EqAt.tuple_none pl0 (by omega)
 | .tup xs, .bl b0, v, u, vv, uu, A, h, k, rv, ru, hu => by unfold DV at h k; obtain ⟨a, us, rfl, q, r⟩ := h; cases rv; obtain ⟨its0, iv0, pl0, hz0⟩ := I.tuple q; subst k; cases ru; unfold eqD; exact EqAt.tuple_bool _ pl0 (by omega)
 | .tup xs, .int b0, v, u, vv, uu, A, h, k, rv, ru, hu => by unfold DV at h k; obtain ⟨a, us, rfl, q, r⟩ := h; cases rv; obtain ⟨its0, iv0, pl0, hz0⟩ := I.tuple q; subst k; obtain ⟨t1, rfl⟩ := ru; unfold eqD; exact EqAt.tuple_int _ _ pl0 (by omega)
 | .tup xs, .str b0, v, u, vv, uu, A, h, k, rv, ru, hu => by unfold DV at h k; obtain ⟨a, us, rfl, q, r⟩ := h; cases rv; obtain ⟨its0, iv0, pl0, hz0⟩ := I.tuple q; subst k; obtain ⟨t1, rfl⟩ := ru; unfold eqD; exact EqAt.tuple_str _ _ pl0 (by omega)
 | .tup xs, .tup ys, v, u, vv, uu, A, h, k, rv, ru, hu => by
  have h0 := h
  have k0 := k
  unfold DV at h k; unfold ie at hu
  obtain ⟨a, us, rfl, q, r⟩ := h; cases rv; obtain ⟨its0, iv0, pl0, hz0⟩ := I.tuple q; obtain ⟨b, ws, rfl, p, r2⟩ := k; cases ru; obtain ⟨its1, iv1, pl1, hz1⟩ := I.tuple p
  by_cases hab : a = b
  .subst hab
   rw [sG I _ _ _ h0 k0]
   exact EqAt.same _
  .unfold eqD
   refine EqAt.of_refs hab ?_
   have hl0 : its0.toArray.size = xs.length := by rw [List.size_toArray, <- iv0.length, <- DVL.length r]
   have hl1 : its1.toArray.size = ys.length := by rw [List.size_toArray, <- iv1.length, <- DVL.length r2]
   have rc := RcAt.tuples (A := A) (e := ju xs ys) pl0 pl1 (by omega) (λ j h1 h2 => by
     have h1' : j < its0.length := by simpa using h1
     have h2' : j < its1.length := by simpa using h2
     obtain ⟨d, e1, dv⟩ := DVL.get' r (show us[j]? = some (us[j]'(by rw [iv0.length]; exact h1')) by simp)
     obtain ⟨d', e2, dv'⟩ := DVL.get' r2 (show ws[j]? = some (ws[j]'(by rw [iv1.length]; exact h2')) by simp)
     obtain ⟨z, ez, rz⟩ := iv0.get (show us[j]? = some (us[j]'(by rw [iv0.length]; exact h1')) by simp)
     obtain ⟨z', ez', rz'⟩ := iv1.get (show ws[j]? = some (ws[j]'(by rw [iv1.length]; exact h2')) by simp)
     have f1 : its0.toArray[j] = z := by simpa [h1'] using ez
     have f2 : its1.toArray[j] = z' := by simpa [h2'] using ez'
     rw [f1, f2]
     have := jU I xs ys us ws its0 its1 A.in1 r r2 iv0 iv1 (by rw [units_in1]; omega) j d d' e1 e2 z z' ez ez'
     unfold ju
     rw [e1, e2]
     exact this)
   rw [hl0, hl1, qL] at rc
   exact rc
 | .tup xs, .lst ys, v, u, vv, uu, A, h, k, rv, ru, hu => by unfold DV at h k; obtain ⟨a, us, rfl, q, r⟩ := h; cases rv; obtain ⟨its0, iv0, pl0, hz0⟩ := I.tuple q; obtain ⟨b, ws, rfl, p, r2⟩ := k; cases ru; obtain ⟨its1, iv1, pl1, hz1⟩ := I.list p; unfold eqD; exact EqAt.tuple_list pl0 pl1.isList (by omega)
 | .lst xs, .non, v, u, vv, uu, A, h, k, rv, ru, hu => by unfold DV at h k; obtain ⟨a, us, rfl, q, r⟩ := h; cases rv; obtain ⟨its0, iv0, pl0, hz0⟩ := I.list q; subst k; cases ru; unfold eqD; exact EqAt.list_none pl0.isList (by omega)
 | .lst xs, .bl b0, v, u, vv, uu, A, h, k, rv, ru, hu => by unfold DV at h k; obtain ⟨a, us, rfl, q, r⟩ := h; cases rv; obtain ⟨its0, iv0, pl0, hz0⟩ := I.list q; subst k; cases ru; unfold eqD; exact EqAt.list_bool _ pl0.isList (by omega)
 | .lst xs, .int b0, v, u, vv, uu, A, h, k, rv, ru, hu => by unfold DV at h k; obtain ⟨a, us, rfl, q, r⟩ := h; cases rv; obtain ⟨its0, iv0, pl0, hz0⟩ := I.list q; subst k; obtain ⟨t1, rfl⟩ := ru; unfold eqD; exact EqAt.list_int _ _ pl0.isList (by omega)
 | .lst xs, .str b0, v, u, vv, uu, A, h, k, rv, ru, hu => by unfold DV at h k; obtain ⟨a, us, rfl, q, r⟩ := h; cases rv; obtain ⟨its0, iv0, pl0, hz0⟩ := I.list q; subst k; obtain ⟨t1, rfl⟩ := ru; unfold eqD; exact EqAt.list_str _ _ pl0.isList (by omega)
 | .lst xs, .tup ys, v, u, vv, uu, A, h, k, rv, ru, hu => by unfold DV at h k; obtain ⟨a, us, rfl, q, r⟩ := h; cases rv; obtain ⟨its0, iv0, pl0, hz0⟩ := I.list q; obtain ⟨b, ws, rfl, p, r2⟩ := k; cases ru; obtain ⟨its1, iv1, pl1, hz1⟩ := I.tuple p; unfold eqD; exact EqAt.list_tuple pl0.isList pl1 (by omega)
 | .lst xs, .lst ys, v, u, vv, uu, A, h, k, rv, ru, hu => by
  have h0 := h
  have k0 := k
  unfold DV at h k; unfold ie at hu
  obtain ⟨a, us, rfl, q, r⟩ := h; cases rv; obtain ⟨its0, iv0, pl0, hz0⟩ := I.list q; obtain ⟨b, ws, rfl, p, r2⟩ := k; cases ru; obtain ⟨its1, iv1, pl1, hz1⟩ := I.list p
  by_cases hab : a = b
  .subst hab
   rw [sG I _ _ _ h0 k0]
   exact EqAt.same _
  .unfold eqD
   refine EqAt.of_refs hab ?_
   have hl0 : its0.toArray.size = xs.length := by rw [List.size_toArray, <- iv0.length, <- DVL.length r]
   have hl1 : its1.toArray.size = ys.length := by rw [List.size_toArray, <- iv1.length, <- DVL.length r2]
   by_cases hlen : xs.length = ys.length
   .have rc := RcAt.lists (A := A) (e := ju xs ys) pl0.isList pl1.isList (by rw [hl0, hl1, hlen]) (by omega) (λ j h1 h2 => by
     have h1' : j < its0.length := by simpa using h1
     have h2' : j < its1.length := by simpa using h2
     obtain ⟨d, e1, dv⟩ := DVL.get' r (show us[j]? = some (us[j]'(by rw [iv0.length]; exact h1')) by simp)
     obtain ⟨d', e2, dv'⟩ := DVL.get' r2 (show ws[j]? = some (ws[j]'(by rw [iv1.length]; exact h2')) by simp)
     obtain ⟨z, ez, rz⟩ := iv0.get (show us[j]? = some (us[j]'(by rw [iv0.length]; exact h1')) by simp)
     obtain ⟨z', ez', rz'⟩ := iv1.get (show ws[j]? = some (ws[j]'(by rw [iv1.length]; exact h2')) by simp)
     have f1 : its0.toArray[j] = z := by simpa [h1'] using ez
     have f2 : its1.toArray[j] = z' := by simpa [h2'] using ez'
     rw [f1, f2]
     have := jU I xs ys us ws its0 its1 A.in1 r r2 iv0 iv1 (by rw [units_in1]; omega) j d d' e1 e2 z z' ez ez'
     unfold ju
     rw [e1, e2]
     exact this)
    rw [hl0, jl _ _ hlen] at rc
    exact rc
   .rw [lC _ _ hlen]
    exact RcAt.lists_lengths pl0.isList pl1.isList (by rw [hl0, hl1]; simpa using hlen) (by omega)
 | .ro _, _, v, u, vv, uu, A, h, _, _, _, _ => by unfold DV at h; exact h.elim
 | .dic _, _, v, u, vv, uu, A, h, _, _, _, _ => by unfold DV at h; exact h.elim
 | .cell _, _, v, u, vv, uu, A, h, _, _, _, _ => by unfold DV at h; exact h.elim
 | .non, .ro _, v, u, vv, uu, A, _, k, _, _, _ => by unfold DV at k; exact k.elim
 | .non, .dic _, v, u, vv, uu, A, _, k, _, _, _ => by unfold DV at k; exact k.elim
 | .non, .cell _, v, u, vv, uu, A, _, k, _, _, _ => by unfold DV at k; exact k.elim
 | .bl _, .ro _, v, u, vv, uu, A, _, k, _, _, _ => by unfold DV at k; exact k.elim
 | .bl _, .dic _, v, u, vv, uu, A, _, k, _, _, _ => by unfold DV at k; exact k.elim
 | .bl _, .cell _, v, u, vv, uu, A, _, k, _, _, _ => by unfold DV at k; exact k.elim
 | .int _, .ro _, v, u, vv, uu, A, _, k, _, _, _ => by unfold DV at k; exact k.elim
 | .int _, .dic _, v, u, vv, uu, A, _, k, _, _, _ => by unfold DV at k; exact k.elim
 | .int _, .cell _, v, u, vv, uu, A, _, k, _, _, _ => by unfold DV at k; exact k.elim
 | .str _, .ro _, v, u, vv, uu, A, _, k, _, _, _ => by unfold DV at k; exact k.elim
 | .str _, .dic _, v, u, vv, uu, A, _, k, _, _, _ => by unfold DV at k; exact k.elim
 | .str _, .cell _, v, u, vv, uu, A, _, k, _, _, _ => by unfold DV at k; exact k.elim
 | .tup _, .ro _, v, u, vv, uu, A, _, k, _, _, _ => by unfold DV at k; exact k.elim
 | .tup _, .dic _, v, u, vv, uu, A, _, k, _, _, _ => by unfold DV at k; exact k.elim
 | .tup _, .cell _, v, u, vv, uu, A, _, k, _, _, _ => by unfold DV at k; exact k.elim
 | .lst _, .ro _, v, u, vv, uu, A, _, k, _, _, _ => by unfold DV at k; exact k.elim
 | .lst _, .dic _, v, u, vv, uu, A, _, k, _, _, _ => by unfold DV at k; exact k.elim
 | .lst _, .cell _, v, u, vv, uu, A, _, k, _, _, _ => by unfold DV at k; exact k.elim
theorem jU (I : Inv X pins σ H s) : ∀ (xs ys : List D) (vs us : List V) (vvs uus : List Value) (A : Around), DVL X.K H xs vs -> DVL X.K H ys us -> Vals vs vvs -> Vals us uus -> A.units + gW xs < cLine ->
  ∀ (j : Nat) (x y : D), xs[j]? = some x -> ys[j]? = some y -> ∀ (z z' : Value), vvs[j]? = some z -> uus[j]? = some z' -> EqAt A s z z' (eqD x y)
 | [], ys, vs, us, vvs, uus, A, _, _, _, _, _ => λ j x y e => by simp at e
 | x :: xs, [], vs, us, vvs, uus, A, _, _, _, _, _ => λ j _ y _ e => by simp at e
 | x :: xs, y :: ys, vs, us, vvs, uus, A, h, k, rv, ru, hu => by
  unfold DVL at h k
  unfold gW at hu
  obtain ⟨v, vs', rfl, p, r⟩ := h
  obtain ⟨u, us', rfl, p', r'⟩ := k
  cases rv with
  | cons rv1 rv2 =>
   cases ru with
   | cons ru1 ru2 =>
    intro j x' y' e1 e2 z z' ez ez'
    cases j with
    | zero =>
     simp at e1 e2 ez ez'
     subst e1 e2 ez ez'
     exact JB I x y v u _ _ A p p' rv1 ru1 (by omega)
    | succ j =>
     exact jU I xs ys vs' us' _ _ A r r' rv2 ru2 (by omega) j x' y' (by simpa using e1) (by simpa using e2) z z' (by simpa using ez) (by simpa using ez')
end
theorem Li (I : Inv X pins σ H s) : ∀ (x y : D) (v u : V) (vv uu : Value) (A : Around), DV X.K H x v -> DV X.K H y u -> RelV v vv -> RelV u uu -> A.units + ie x < cLine -> RcAt A s vv uu (eqD x y)
 | .non, .non, v, u, vv, uu, A, h, k, rv, ru, hu => by unfold DV at h k; subst h; cases rv; subst k; cases ru; unfold eqD; exact RcAt.none_none
 | .non, .bl b0, v, u, vv, uu, A, h, k, rv, ru, hu => by unfold DV at h k; subst h; cases rv; subst k; cases ru; unfold eqD; exact RcAt.none_bool _
 | .non, .int b0, v, u, vv, uu, A, h, k, rv, ru, hu => by unfold DV at h k; subst h; cases rv; subst k; obtain ⟨t1, rfl⟩ := ru; unfold eqD; exact RcAt.none_int _ _
 | .non, .str b0, v, u, vv, uu, A, h, k, rv, ru, hu => by unfold DV at h k; subst h; cases rv; subst k; obtain ⟨t1, rfl⟩ := ru; unfold eqD; exact RcAt.none_str _ _
 | .non, .tup ys, v, u, vv, uu, A, h, k, rv, ru, hu => by unfold DV at h k; subst h; cases rv; obtain ⟨b, ws, rfl, p, r2⟩ := k; cases ru; obtain ⟨its1, iv1, pl1, hz1⟩ := I.tuple p; unfold eqD; exact RcAt.none_tuple pl1 (by omega)
 | .non, .lst ys, v, u, vv, uu, A, h, k, rv, ru, hu => by unfold DV at h k; subst h; cases rv; obtain ⟨b, ws, rfl, p, r2⟩ := k; cases ru; obtain ⟨its1, iv1, pl1, hz1⟩ := I.list p; unfold eqD; exact RcAt.none_list pl1.isList (by omega)
 | .bl a0, .non, v, u, vv, uu, A, h, k, rv, ru, hu => by unfold DV at h k; subst h; cases rv; subst k; cases ru; unfold eqD; exact RcAt.bool_none _
 | .bl a0, .bl b0, v, u, vv, uu, A, h, k, rv, ru, hu => by unfold DV at h k; subst h; cases rv; subst k; cases ru; unfold eqD; exact RcAt.bool_bool _ _
 | .bl a0, .int b0, v, u, vv, uu, A, h, k, rv, ru, hu => by unfold DV at h k; subst h; cases rv; subst k; obtain ⟨t1, rfl⟩ := ru; unfold eqD; exact RcAt.bool_int _ _ _
 | .bl a0, .str b0, v, u, vv, uu, A, h, k, rv, ru, hu => by unfold DV at h k; subst h; cases rv; subst k; obtain ⟨t1, rfl⟩ := ru; unfold eqD; exact RcAt.bool_str _ _ _
 | .bl a0, .tup ys, v, u, vv, uu, A, h, k, rv, ru, hu => by unfold DV at h k; subst h; cases rv; obtain ⟨b, ws, rfl, p, r2⟩ := k; cases ru; obtain ⟨its1, iv1, pl1, hz1⟩ := I.tuple p; unfold eqD; exact RcAt.bool_tuple _ pl1 (by omega)
 | .bl a0, .lst ys, v, u, vv, uu, A, h, k, rv, ru, hu => by unfold DV at h k; subst h; cases rv; obtain ⟨b, ws, rfl, p, r2⟩ := k; cases ru; obtain ⟨its1, iv1, pl1, hz1⟩ := I.list p; unfold eqD; exact RcAt.bool_list _ pl1.isList (by omega)
 | .int a0, .non, v, u, vv, uu, A, h, k, rv, ru, hu => by unfold DV at h k; subst h; obtain ⟨t0, rfl⟩ := rv; subst k; cases ru; unfold eqD; exact RcAt.int_none _ _
 | .int a0, .bl b0, v, u, vv, uu, A, h, k, rv, ru, hu => by unfold DV at h k; subst h; obtain ⟨t0, rfl⟩ := rv; subst k; cases ru; unfold eqD; exact RcAt.int_bool _ _ _
 | .int a0, .int b0, v, u, vv, uu, A, h, k, rv, ru, hu => by unfold DV at h k; subst h; obtain ⟨t0, rfl⟩ := rv; subst k; obtain ⟨t1, rfl⟩ := ru; unfold eqD; exact RcAt.int_int _ _ _ _
 | .int a0, .str b0, v, u, vv, uu, A, h, k, rv, ru, hu => by unfold DV at h k; subst h; obtain ⟨t0, rfl⟩ := rv; subst k; obtain ⟨t1, rfl⟩ := ru; unfold eqD; exact RcAt.int_str _ _ _ _
 | .int a0, .tup ys, v, u, vv, uu, A, h, k, rv, ru, hu => by unfold DV at h k; subst h; obtain ⟨t0, rfl⟩ := rv; obtain ⟨b, ws, rfl, p, r2⟩ := k; cases ru; obtain ⟨its1, iv1, pl1, hz1⟩ := I.tuple p; unfold eqD; exact RcAt.int_tuple _ _ pl1 (by omega)
 | .int a0, .lst ys, v, u, vv, uu, A, h, k, rv, ru, hu => by unfold DV at h k; subst h; obtain ⟨t0, rfl⟩ := rv; obtain ⟨b, ws, rfl, p, r2⟩ := k; cases ru; obtain ⟨its1, iv1, pl1, hz1⟩ := I.list p; unfold eqD; exact RcAt.int_list _ _ pl1.isList (by omega)
 | .str a0, .non, v, u, vv, uu, A, h, k, rv, ru, hu => by unfold DV at h k; subst h; obtain ⟨t0, rfl⟩ := rv; subst k; cases ru; unfold eqD; exact RcAt.str_none _ _
 | .str a0, .bl b0, v, u, vv, uu, A, h, k, rv, ru, hu => by unfold DV at h k; subst h; obtain ⟨t0, rfl⟩ := rv; subst k; cases ru; unfold eqD; exact RcAt.str_bool _ _ _
 | .str a0, .int b0, v, u, vv, uu, A, h, k, rv, ru, hu => by unfold DV at h k; subst h; obtain ⟨t0, rfl⟩ := rv; subst k; obtain ⟨t1, rfl⟩ := ru; unfold eqD; exact RcAt.str_int _ _ _ _
 | .str a0, .str b0, v, u, vv, uu, A, h, k, rv, ru, hu => by unfold DV at h k; subst h; obtain ⟨t0, rfl⟩ := rv; subst k; obtain ⟨t1, rfl⟩ := ru; unfold eqD; exact RcAt.str_str _ _ _ _
 | .str a0, .tup ys, v, u, vv, uu, A, h, k, rv, ru, hu => by unfold DV at h k; subst h; obtain ⟨t0, rfl⟩ := rv; obtain ⟨b, ws, rfl, p, r2⟩ := k; cases ru; obtain ⟨its1, iv1, pl1, hz1⟩ := I.tuple p; unfold eqD; exact RcAt.str_tuple _ _ pl1 (by omega)
 | .str a0, .lst ys, v, u, vv, uu, A, h, k, rv, ru, hu => by unfold DV at h k; subst h; obtain ⟨t0, rfl⟩ := rv; obtain ⟨b, ws, rfl, p, r2⟩ := k; cases ru; obtain ⟨its1, iv1, pl1, hz1⟩ := I.list p; unfold eqD; exact RcAt.str_list _ _ pl1.isList (by omega)
 | .tup xs, .non, v, u, vv, uu, A, h, k, rv, ru, hu => by unfold DV at h k; obtain ⟨a, us, rfl, q, r⟩ := h; cases rv; obtain ⟨its0, iv0, pl0, hz0⟩ := I.tuple q; subst k; cases ru; unfold eqD; exact RcAt.tuple_none pl0 (by omega)
 | .tup xs, .bl b0, v, u, vv, uu, A, h, k, rv, ru, hu => by unfold DV at h k; obtain ⟨a, us, rfl, q, r⟩ := h; cases rv; obtain ⟨its0, iv0, pl0, hz0⟩ := I.tuple q; subst k; cases ru; unfold eqD; exact RcAt.tuple_bool _ pl0 (by omega)
 | .tup xs, .int b0, v, u, vv, uu, A, h, k, rv, ru, hu => by unfold DV at h k; obtain ⟨a, us, rfl, q, r⟩ := h; cases rv; obtain ⟨its0, iv0, pl0, hz0⟩ := I.tuple q; subst k; obtain ⟨t1, rfl⟩ := ru; unfold eqD; exact RcAt.tuple_int _ _ pl0 (by omega)
 | .tup xs, .str b0, v, u, vv, uu, A, h, k, rv, ru, hu => by unfold DV at h k; obtain ⟨a, us, rfl, q, r⟩ := h; cases rv; obtain ⟨its0, iv0, pl0, hz0⟩ := I.tuple q; subst k; obtain ⟨t1, rfl⟩ := ru; unfold eqD; exact RcAt.tuple_str _ _ pl0 (by omega)
 | .tup xs, .tup ys, v, u, vv, uu, A, h, k, rv, ru, hu => by
  unfold DV at h k; unfold ie at hu
  obtain ⟨a, us, rfl, q, r⟩ := h; cases rv; obtain ⟨its0, iv0, pl0, hz0⟩ := I.tuple q; obtain ⟨b, ws, rfl, p, r2⟩ := k; cases ru; obtain ⟨its1, iv1, pl1, hz1⟩ := I.tuple p
  unfold eqD
  have hl0 : its0.toArray.size = xs.length := by rw [List.size_toArray, <- iv0.length, <- DVL.length r]
  have hl1 : its1.toArray.size = ys.length := by rw [List.size_toArray, <- iv1.length, <- DVL.length r2]
  have rc := RcAt.tuples (A := A) (e := ju xs ys) pl0 pl1 (by omega) (λ j h1 h2 => by
     have h1' : j < its0.length := by simpa using h1
     have h2' : j < its1.length := by simpa using h2
     obtain ⟨d, e1, dv⟩ := DVL.get' r (show us[j]? = some (us[j]'(by rw [iv0.length]; exact h1')) by simp)
     obtain ⟨d', e2, dv'⟩ := DVL.get' r2 (show ws[j]? = some (ws[j]'(by rw [iv1.length]; exact h2')) by simp)
     obtain ⟨z, ez, rz⟩ := iv0.get (show us[j]? = some (us[j]'(by rw [iv0.length]; exact h1')) by simp)
     obtain ⟨z', ez', rz'⟩ := iv1.get (show ws[j]? = some (ws[j]'(by rw [iv1.length]; exact h2')) by simp)
     have f1 : its0.toArray[j] = z := by simpa [h1'] using ez
     have f2 : its1.toArray[j] = z' := by simpa [h2'] using ez'
     rw [f1, f2]
     have := jU I xs ys us ws its0 its1 A.in1 r r2 iv0 iv1 (by rw [units_in1]; omega) j d d' e1 e2 z z' ez ez'
     unfold ju
     rw [e1, e2]
     exact this)
  rw [hl0, hl1, qL] at rc
  exact rc
 | .tup xs, .lst ys, v, u, vv, uu, A, h, k, rv, ru, hu => by unfold DV at h k; obtain ⟨a, us, rfl, q, r⟩ := h; cases rv; obtain ⟨its0, iv0, pl0, hz0⟩ := I.tuple q; obtain ⟨b, ws, rfl, p, r2⟩ := k; cases ru; obtain ⟨its1, iv1, pl1, hz1⟩ := I.list p; unfold eqD; exact RcAt.tuple_list pl0 pl1.isList (by omega)
 | .lst xs, .non, v, u, vv, uu, A, h, k, rv, ru, hu => by unfold DV at h k; obtain ⟨a, us, rfl, q, r⟩ := h; cases rv; obtain ⟨its0, iv0, pl0, hz0⟩ := I.list q; subst k; cases ru; unfold eqD; exact RcAt.list_none pl0.isList (by omega)
 | .lst xs, .bl b0, v, u, vv, uu, A, h, k, rv, ru, hu => by unfold DV at h k; obtain ⟨a, us, rfl, q, r⟩ := h; cases rv; obtain ⟨its0, iv0, pl0, hz0⟩ := I.list q; subst k; cases ru; unfold eqD; exact RcAt.list_bool _ pl0.isList (by omega)
 | .lst xs, .int b0, v, u, vv, uu, A, h, k, rv, ru, hu => by unfold DV at h k; obtain ⟨a, us, rfl, q, r⟩ := h; cases rv; obtain ⟨its0, iv0, pl0, hz0⟩ := I.list q; subst k; obtain ⟨t1, rfl⟩ := ru; unfold eqD; exact RcAt.list_int _ _ pl0.isList (by omega)
 | .lst xs, .str b0, v, u, vv, uu, A, h, k, rv, ru, hu => by unfold DV at h k; obtain ⟨a, us, rfl, q, r⟩ := h; cases rv; obtain ⟨its0, iv0, pl0, hz0⟩ := I.list q; subst k; obtain ⟨t1, rfl⟩ := ru; unfold eqD; exact RcAt.list_str _ _ pl0.isList (by omega)
 | .lst xs, .tup ys, v, u, vv, uu, A, h, k, rv, ru, hu => by unfold DV at h k; obtain ⟨a, us, rfl, q, r⟩ := h; cases rv; obtain ⟨its0, iv0, pl0, hz0⟩ := I.list q; obtain ⟨b, ws, rfl, p, r2⟩ := k; cases ru; obtain ⟨its1, iv1, pl1, hz1⟩ := I.tuple p; unfold eqD; exact RcAt.list_tuple pl0.isList pl1 (by omega)
 | .lst xs, .lst ys, v, u, vv, uu, A, h, k, rv, ru, hu => by
  unfold DV at h k; unfold ie at hu
  obtain ⟨a, us, rfl, q, r⟩ := h; cases rv; obtain ⟨its0, iv0, pl0, hz0⟩ := I.list q; obtain ⟨b, ws, rfl, p, r2⟩ := k; cases ru; obtain ⟨its1, iv1, pl1, hz1⟩ := I.list p
  unfold eqD
  have hl0 : its0.toArray.size = xs.length := by rw [List.size_toArray, <- iv0.length, <- DVL.length r]
  have hl1 : its1.toArray.size = ys.length := by rw [List.size_toArray, <- iv1.length, <- DVL.length r2]
  by_cases hlen : xs.length = ys.length
  .have rc := RcAt.lists (A := A) (e := ju xs ys) pl0.isList pl1.isList (by rw [hl0, hl1, hlen]) (by omega) (λ j h1 h2 => by
     have h1' : j < its0.length := by simpa using h1
     have h2' : j < its1.length := by simpa using h2
     obtain ⟨d, e1, dv⟩ := DVL.get' r (show us[j]? = some (us[j]'(by rw [iv0.length]; exact h1')) by simp)
     obtain ⟨d', e2, dv'⟩ := DVL.get' r2 (show ws[j]? = some (ws[j]'(by rw [iv1.length]; exact h2')) by simp)
     obtain ⟨z, ez, rz⟩ := iv0.get (show us[j]? = some (us[j]'(by rw [iv0.length]; exact h1')) by simp)
     obtain ⟨z', ez', rz'⟩ := iv1.get (show ws[j]? = some (ws[j]'(by rw [iv1.length]; exact h2')) by simp)
     have f1 : its0.toArray[j] = z := by simpa [h1'] using ez
     have f2 : its1.toArray[j] = z' := by simpa [h2'] using ez'
     rw [f1, f2]
     have := jU I xs ys us ws its0 its1 A.in1 r r2 iv0 iv1 (by rw [units_in1]; omega) j d d' e1 e2 z z' ez ez'
     unfold ju
     rw [e1, e2]
     exact this)
   rw [hl0, jl _ _ hlen] at rc
   exact rc
  .rw [lC _ _ hlen]
   exact RcAt.lists_lengths pl0.isList pl1.isList (by rw [hl0, hl1]; simpa using hlen) (by omega)
 | .ro _, _, v, u, vv, uu, A, h, _, _, _, _ => by unfold DV at h; exact h.elim
 | .dic _, _, v, u, vv, uu, A, h, _, _, _, _ => by unfold DV at h; exact h.elim
 | .cell _, _, v, u, vv, uu, A, h, _, _, _, _ => by unfold DV at h; exact h.elim
 | .non, .ro _, v, u, vv, uu, A, _, k, _, _, _ => by unfold DV at k; exact k.elim
 | .non, .dic _, v, u, vv, uu, A, _, k, _, _, _ => by unfold DV at k; exact k.elim
 | .non, .cell _, v, u, vv, uu, A, _, k, _, _, _ => by unfold DV at k; exact k.elim
 | .bl _, .ro _, v, u, vv, uu, A, _, k, _, _, _ => by unfold DV at k; exact k.elim
 | .bl _, .dic _, v, u, vv, uu, A, _, k, _, _, _ => by unfold DV at k; exact k.elim
 | .bl _, .cell _, v, u, vv, uu, A, _, k, _, _, _ => by unfold DV at k; exact k.elim
 | .int _, .ro _, v, u, vv, uu, A, _, k, _, _, _ => by unfold DV at k; exact k.elim
 | .int _, .dic _, v, u, vv, uu, A, _, k, _, _, _ => by unfold DV at k; exact k.elim
 | .int _, .cell _, v, u, vv, uu, A, _, k, _, _, _ => by unfold DV at k; exact k.elim
 | .str _, .ro _, v, u, vv, uu, A, _, k, _, _, _ => by unfold DV at k; exact k.elim
 | .str _, .dic _, v, u, vv, uu, A, _, k, _, _, _ => by unfold DV at k; exact k.elim
 | .str _, .cell _, v, u, vv, uu, A, _, k, _, _, _ => by unfold DV at k; exact k.elim
 | .tup _, .ro _, v, u, vv, uu, A, _, k, _, _, _ => by unfold DV at k; exact k.elim
 | .tup _, .dic _, v, u, vv, uu, A, _, k, _, _, _ => by unfold DV at k; exact k.elim
 | .tup _, .cell _, v, u, vv, uu, A, _, k, _, _, _ => by unfold DV at k; exact k.elim
 | .lst _, .ro _, v, u, vv, uu, A, _, k, _, _, _ => by unfold DV at k; exact k.elim
 | .lst _, .dic _, v, u, vv, uu, A, _, k, _, _, _ => by unfold DV at k; exact k.elim
 | .lst _, .cell _, v, u, vv, uu, A, _, k, _, _, _ => by unfold DV at k; exact k.elim
theorem Kh (I : Inv X pins σ H s) : ∀ (x y : D) (v u : V) (vv uu : Value) (A : Around), DV X.K H x v -> DV X.K H y u -> RelV v vv -> RelV u uu -> A.units + ie x < cLine -> RcNeAt A s vv uu (!eqD x y)
 | .non, .non, v, u, vv, uu, A, h, k, rv, ru, hu => by unfold DV at h k; subst h; cases rv; subst k; cases ru; unfold eqD; exact RcNeAt.none_none
 | .non, .bl b0, v, u, vv, uu, A, h, k, rv, ru, hu => by unfold DV at h k; subst h; cases rv; subst k; cases ru; unfold eqD; exact RcNeAt.none_bool _
 | .non, .int b0, v, u, vv, uu, A, h, k, rv, ru, hu => by unfold DV at h k; subst h; cases rv; subst k; obtain ⟨t1, rfl⟩ := ru; unfold eqD; exact RcNeAt.none_int _ _
 | .non, .str b0, v, u, vv, uu, A, h, k, rv, ru, hu => by unfold DV at h k; subst h; cases rv; subst k; obtain ⟨t1, rfl⟩ := ru; unfold eqD; exact RcNeAt.none_str _ _
 | .non, .tup ys, v, u, vv, uu, A, h, k, rv, ru, hu => by unfold DV at h k; subst h; cases rv; obtain ⟨b, ws, rfl, p, r2⟩ := k; cases ru; obtain ⟨its1, iv1, pl1, hz1⟩ := I.tuple p; unfold eqD; exact RcNeAt.none_tuple pl1 (by omega)
 | .non, .lst ys, v, u, vv, uu, A, h, k, rv, ru, hu => by unfold DV at h k; subst h; cases rv; obtain ⟨b, ws, rfl, p, r2⟩ := k; cases ru; obtain ⟨its1, iv1, pl1, hz1⟩ := I.list p; unfold eqD; exact RcNeAt.none_list pl1.isList (by omega)
 | .bl a0, .non, v, u, vv, uu, A, h, k, rv, ru, hu => by unfold DV at h k; subst h; cases rv; subst k; cases ru; unfold eqD; exact RcNeAt.bool_none _
 | .bl a0, .bl b0, v, u, vv, uu, A, h, k, rv, ru, hu => by unfold DV at h k; subst h; cases rv; subst k; cases ru; unfold eqD; exact RcNeAt.bool_bool _ _
 | .bl a0, .int b0, v, u, vv, uu, A, h, k, rv, ru, hu => by unfold DV at h k; subst h; cases rv; subst k; obtain ⟨t1, rfl⟩ := ru; unfold eqD; exact RcNeAt.bool_int _ _ _
 | .bl a0, .str b0, v, u, vv, uu, A, h, k, rv, ru, hu => by unfold DV at h k; subst h; cases rv; subst k; obtain ⟨t1, rfl⟩ := ru; unfold eqD; exact RcNeAt.bool_str _ _ _
 | .bl a0, .tup ys, v, u, vv, uu, A, h, k, rv, ru, hu => by unfold DV at h k; subst h; cases rv; obtain ⟨b, ws, rfl, p, r2⟩ := k; cases ru; obtain ⟨its1, iv1, pl1, hz1⟩ := I.tuple p; unfold eqD; exact RcNeAt.bool_tuple _ pl1 (by omega)
 | .bl a0, .lst ys, v, u, vv, uu, A, h, k, rv, ru, hu => by unfold DV at h k; subst h; cases rv; obtain ⟨b, ws, rfl, p, r2⟩ := k; cases ru; obtain ⟨its1, iv1, pl1, hz1⟩ := I.list p; unfold eqD; exact RcNeAt.bool_list _ pl1.isList (by omega)
 | .int a0, .non, v, u, vv, uu, A, h, k, rv, ru, hu => by unfold DV at h k; subst h; obtain ⟨t0, rfl⟩ := rv; subst k; cases ru; unfold eqD; exact RcNeAt.int_none _ _
 | .int a0, .bl b0, v, u, vv, uu, A, h, k, rv, ru, hu => by unfold DV at h k; subst h; obtain ⟨t0, rfl⟩ := rv; subst k; cases ru; unfold eqD; exact RcNeAt.int_bool _ _ _
 | .int a0, .int b0, v, u, vv, uu, A, h, k, rv, ru, hu => by unfold DV at h k; subst h; obtain ⟨t0, rfl⟩ := rv; subst k; obtain ⟨t1, rfl⟩ := ru; unfold eqD; exact RcNeAt.int_int _ _ _ _
 | .int a0, .str b0, v, u, vv, uu, A, h, k, rv, ru, hu => by unfold DV at h k; subst h; obtain ⟨t0, rfl⟩ := rv; subst k; obtain ⟨t1, rfl⟩ := ru; unfold eqD; exact RcNeAt.int_str _ _ _ _
 | .int a0, .tup ys, v, u, vv, uu, A, h, k, rv, ru, hu => by unfold DV at h k; subst h; obtain ⟨t0, rfl⟩ := rv; obtain ⟨b, ws, rfl, p, r2⟩ := k; cases ru; obtain ⟨its1, iv1, pl1, hz1⟩ := I.tuple p; unfold eqD; exact RcNeAt.int_tuple _ _ pl1 (by omega)
 | .int a0, .lst ys, v, u, vv, uu, A, h, k, rv, ru, hu => by unfold DV at h k; subst h; obtain ⟨t0, rfl⟩ := rv; obtain ⟨b, ws, rfl, p, r2⟩ := k; cases ru; obtain ⟨its1, iv1, pl1, hz1⟩ := I.list p; unfold eqD; exact RcNeAt.int_list _ _ pl1.isList (by omega)
 | .str a0, .non, v, u, vv, uu, A, h, k, rv, ru, hu => by unfold DV at h k; subst h; obtain ⟨t0, rfl⟩ := rv; subst k; cases ru; unfold eqD; exact RcNeAt.str_none _ _
 | .str a0, .bl b0, v, u, vv, uu, A, h, k, rv, ru, hu => by unfold DV at h k; subst h; obtain ⟨t0, rfl⟩ := rv; subst k; cases ru; unfold eqD; exact RcNeAt.str_bool _ _ _
 | .str a0, .int b0, v, u, vv, uu, A, h, k, rv, ru, hu => by unfold DV at h k; subst h; obtain ⟨t0, rfl⟩ := rv; subst k; obtain ⟨t1, rfl⟩ := ru; unfold eqD; exact RcNeAt.str_int _ _ _ _
 | .str a0, .str b0, v, u, vv, uu, A, h, k, rv, ru, hu => by unfold DV at h k; subst h; obtain ⟨t0, rfl⟩ := rv; subst k; obtain ⟨t1, rfl⟩ := ru; unfold eqD; exact RcNeAt.str_str _ _ _ _
 | .str a0, .tup ys, v, u, vv, uu, A, h, k, rv, ru, hu => by unfold DV at h k; subst h; obtain ⟨t0, rfl⟩ := rv; obtain ⟨b, ws, rfl, p, r2⟩ := k; cases ru; obtain ⟨its1, iv1, pl1, hz1⟩ := I.tuple p; unfold eqD; exact RcNeAt.str_tuple _ _ pl1 (by omega)
 | .str a0, .lst ys, v, u, vv, uu, A, h, k, rv, ru, hu => by unfold DV at h k; subst h; obtain ⟨t0, rfl⟩ := rv; obtain ⟨b, ws, rfl, p, r2⟩ := k; cases ru; obtain ⟨its1, iv1, pl1, hz1⟩ := I.list p; unfold eqD; exact RcNeAt.str_list _ _ pl1.isList (by omega)
 | .tup xs, .non, v, u, vv, uu, A, h, k, rv, ru, hu => by unfold DV at h k; obtain ⟨a, us, rfl, q, r⟩ := h; cases rv; obtain ⟨its0, iv0, pl0, hz0⟩ := I.tuple q; subst k; cases ru; unfold eqD; exact RcNeAt.tuple_none pl0 (by omega)
 | .tup xs, .bl b0, v, u, vv, uu, A, h, k, rv, ru, hu => by unfold DV at h k; obtain ⟨a, us, rfl, q, r⟩ := h; cases rv; obtain ⟨its0, iv0, pl0, hz0⟩ := I.tuple q; subst k; cases ru; unfold eqD; exact RcNeAt.tuple_bool _ pl0 (by omega)
 | .tup xs, .int b0, v, u, vv, uu, A, h, k, rv, ru, hu => by unfold DV at h k; obtain ⟨a, us, rfl, q, r⟩ := h; cases rv; obtain ⟨its0, iv0, pl0, hz0⟩ := I.tuple q; subst k; obtain ⟨t1, rfl⟩ := ru; unfold eqD; exact RcNeAt.tuple_int _ _ pl0 (by omega)
 | .tup xs, .str b0, v, u, vv, uu, A, h, k, rv, ru, hu => by unfold DV at h k; obtain ⟨a, us, rfl, q, r⟩ := h; cases rv; obtain ⟨its0, iv0, pl0, hz0⟩ := I.tuple q; subst k; obtain ⟨t1, rfl⟩ := ru; unfold eqD; exact RcNeAt.tuple_str _ _ pl0 (by omega)
 | .tup xs, .tup ys, v, u, vv, uu, A, h, k, rv, ru, hu => by
  unfold DV at h k; unfold ie at hu
  obtain ⟨a, us, rfl, q, r⟩ := h; cases rv; obtain ⟨its0, iv0, pl0, hz0⟩ := I.tuple q; obtain ⟨b, ws, rfl, p, r2⟩ := k; cases ru; obtain ⟨its1, iv1, pl1, hz1⟩ := I.tuple p
  unfold eqD
  have hl0 : its0.toArray.size = xs.length := by rw [List.size_toArray, <- iv0.length, <- DVL.length r]
  have hl1 : its1.toArray.size = ys.length := by rw [List.size_toArray, <- iv1.length, <- DVL.length r2]
  have rc := RcNeAt.tuples (A := A) (e := ju xs ys) pl0 pl1 (by omega) (λ j h1 h2 => by
     have h1' : j < its0.length := by simpa using h1
     have h2' : j < its1.length := by simpa using h2
     obtain ⟨d, e1, dv⟩ := DVL.get' r (show us[j]? = some (us[j]'(by rw [iv0.length]; exact h1')) by simp)
     obtain ⟨d', e2, dv'⟩ := DVL.get' r2 (show ws[j]? = some (ws[j]'(by rw [iv1.length]; exact h2')) by simp)
     obtain ⟨z, ez, rz⟩ := iv0.get (show us[j]? = some (us[j]'(by rw [iv0.length]; exact h1')) by simp)
     obtain ⟨z', ez', rz'⟩ := iv1.get (show ws[j]? = some (ws[j]'(by rw [iv1.length]; exact h2')) by simp)
     have f1 : its0.toArray[j] = z := by simpa [h1'] using ez
     have f2 : its1.toArray[j] = z' := by simpa [h2'] using ez'
     rw [f1, f2]
     have := jU I xs ys us ws its0 its1 A.in1 r r2 iv0 iv1 (by rw [units_in1]; omega) j d d' e1 e2 z z' ez ez'
     unfold ju
     rw [e1, e2]
     exact this)
  rw [hl0, hl1, qL] at rc
  exact rc
 | .tup xs, .lst ys, v, u, vv, uu, A, h, k, rv, ru, hu => by unfold DV at h k; obtain ⟨a, us, rfl, q, r⟩ := h; cases rv; obtain ⟨its0, iv0, pl0, hz0⟩ := I.tuple q; obtain ⟨b, ws, rfl, p, r2⟩ := k; cases ru; obtain ⟨its1, iv1, pl1, hz1⟩ := I.list p; unfold eqD; exact RcNeAt.tuple_list pl0 pl1.isList (by omega)
 | .lst xs, .non, v, u, vv, uu, A, h, k, rv, ru, hu => by unfold DV at h k; obtain ⟨a, us, rfl, q, r⟩ := h; cases rv; obtain ⟨its0, iv0, pl0, hz0⟩ := I.list q; subst k; cases ru; unfold eqD; exact RcNeAt.list_none pl0.isList (by omega)
 | .lst xs, .bl b0, v, u, vv, uu, A, h, k, rv, ru, hu => by unfold DV at h k; obtain ⟨a, us, rfl, q, r⟩ := h; cases rv; obtain ⟨its0, iv0, pl0, hz0⟩ := I.list q; subst k; cases ru; unfold eqD; exact RcNeAt.list_bool _ pl0.isList (by omega)
 | .lst xs, .int b0, v, u, vv, uu, A, h, k, rv, ru, hu => by unfold DV at h k; obtain ⟨a, us, rfl, q, r⟩ := h; cases rv; obtain ⟨its0, iv0, pl0, hz0⟩ := I.list q; subst k; obtain ⟨t1, rfl⟩ := ru; unfold eqD; exact RcNeAt.list_int _ _ pl0.isList (by omega)
 | .lst xs, .str b0, v, u, vv, uu, A, h, k, rv, ru, hu => by unfold DV at h k; obtain ⟨a, us, rfl, q, r⟩ := h; cases rv; obtain ⟨its0, iv0, pl0, hz0⟩ := I.list q; subst k; obtain ⟨t1, rfl⟩ := ru; unfold eqD; exact RcNeAt.list_str _ _ pl0.isList (by omega)
 | .lst xs, .tup ys, v, u, vv, uu, A, h, k, rv, ru, hu => by unfold DV at h k; obtain ⟨a, us, rfl, q, r⟩ := h; cases rv; obtain ⟨its0, iv0, pl0, hz0⟩ := I.list q; obtain ⟨b, ws, rfl, p, r2⟩ := k; cases ru; obtain ⟨its1, iv1, pl1, hz1⟩ := I.tuple p; unfold eqD; exact RcNeAt.list_tuple pl0.isList pl1 (by omega)
 | .lst xs, .lst ys, v, u, vv, uu, A, h, k, rv, ru, hu => by
  unfold DV at h k; unfold ie at hu
  obtain ⟨a, us, rfl, q, r⟩ := h; cases rv; obtain ⟨its0, iv0, pl0, hz0⟩ := I.list q; obtain ⟨b, ws, rfl, p, r2⟩ := k; cases ru; obtain ⟨its1, iv1, pl1, hz1⟩ := I.list p
  unfold eqD
  have hl0 : its0.toArray.size = xs.length := by rw [List.size_toArray, <- iv0.length, <- DVL.length r]
  have hl1 : its1.toArray.size = ys.length := by rw [List.size_toArray, <- iv1.length, <- DVL.length r2]
  by_cases hlen : xs.length = ys.length
  .have rc := RcNeAt.lists (A := A) (e := ju xs ys) pl0.isList pl1.isList (by rw [hl0, hl1, hlen]) (by omega) (λ j h1 h2 => by
     have h1' : j < its0.length := by simpa using h1
     have h2' : j < its1.length := by simpa using h2
     obtain ⟨d, e1, dv⟩ := DVL.get' r (show us[j]? = some (us[j]'(by rw [iv0.length]; exact h1')) by simp)
     obtain ⟨d', e2, dv'⟩ := DVL.get' r2 (show ws[j]? = some (ws[j]'(by rw [iv1.length]; exact h2')) by simp)
     obtain ⟨z, ez, rz⟩ := iv0.get (show us[j]? = some (us[j]'(by rw [iv0.length]; exact h1')) by simp)
     obtain ⟨z', ez', rz'⟩ := iv1.get (show ws[j]? = some (ws[j]'(by rw [iv1.length]; exact h2')) by simp)
     have f1 : its0.toArray[j] = z := by simpa [h1'] using ez
     have f2 : its1.toArray[j] = z' := by simpa [h2'] using ez'
     rw [f1, f2]
     have := jU I xs ys us ws its0 its1 A.in1 r r2 iv0 iv1 (by rw [units_in1]; omega) j d d' e1 e2 z z' ez ez'
     unfold ju
     rw [e1, e2]
     exact this)
   rw [hl0, jl _ _ hlen] at rc
   exact rc
  .rw [lC _ _ hlen]
   exact RcNeAt.lists_lengths pl0.isList pl1.isList (by rw [hl0, hl1]; simpa using hlen) (by omega)
 | .ro _, _, v, u, vv, uu, A, h, _, _, _, _ => by unfold DV at h; exact h.elim
 | .dic _, _, v, u, vv, uu, A, h, _, _, _, _ => by unfold DV at h; exact h.elim
 | .cell _, _, v, u, vv, uu, A, h, _, _, _, _ => by unfold DV at h; exact h.elim
 | .non, .ro _, v, u, vv, uu, A, _, k, _, _, _ => by unfold DV at k; exact k.elim
 | .non, .dic _, v, u, vv, uu, A, _, k, _, _, _ => by unfold DV at k; exact k.elim
 | .non, .cell _, v, u, vv, uu, A, _, k, _, _, _ => by unfold DV at k; exact k.elim
 | .bl _, .ro _, v, u, vv, uu, A, _, k, _, _, _ => by unfold DV at k; exact k.elim
 | .bl _, .dic _, v, u, vv, uu, A, _, k, _, _, _ => by unfold DV at k; exact k.elim
 | .bl _, .cell _, v, u, vv, uu, A, _, k, _, _, _ => by unfold DV at k; exact k.elim
 | .int _, .ro _, v, u, vv, uu, A, _, k, _, _, _ => by unfold DV at k; exact k.elim
 | .int _, .dic _, v, u, vv, uu, A, _, k, _, _, _ => by unfold DV at k; exact k.elim
 | .int _, .cell _, v, u, vv, uu, A, _, k, _, _, _ => by unfold DV at k; exact k.elim
 | .str _, .ro _, v, u, vv, uu, A, _, k, _, _, _ => by unfold DV at k; exact k.elim
 | .str _, .dic _, v, u, vv, uu, A, _, k, _, _, _ => by unfold DV at k; exact k.elim
 | .str _, .cell _, v, u, vv, uu, A, _, k, _, _, _ => by unfold DV at k; exact k.elim
 | .tup _, .ro _, v, u, vv, uu, A, _, k, _, _, _ => by unfold DV at k; exact k.elim
 | .tup _, .dic _, v, u, vv, uu, A, _, k, _, _, _ => by unfold DV at k; exact k.elim
 | .tup _, .cell _, v, u, vv, uu, A, _, k, _, _, _ => by unfold DV at k; exact k.elim
 | .lst _, .ro _, v, u, vv, uu, A, _, k, _, _, _ => by unfold DV at k; exact k.elim
 | .lst _, .dic _, v, u, vv, uu, A, _, k, _, _, _ => by unfold DV at k; exact k.elim
 | .lst _, .cell _, v, u, vv, uu, A, _, k, _, _, _ => by unfold DV at k; exact k.elim
end
def rsv (d : D) (μ : Mu) : D := match d with
 | .cell n => match μ[n]? with
  | some (some ds) => .lst ds
  | _ => d
 | .ro ds => .lst ds
 | _ => d
theorem oZ {K : PySem.W.Frag} {tb : List Addr} {W : Wd} {d : D} {v : V} (ok : WOk K tb W) (h : Den K tb W d v) (p : cJ (rsv d W.mu) = true) : DV K W.H (rsv d W.mu) v := by
 cases d with
 | cell n =>
  obtain ⟨a, rfl, q⟩ := gK h
  unfold rsv at p ⊢
  dsimp only at p ⊢
  cases e : W.mu[n]? with
  | none => rw [e] at p; cases p
  | some o =>
   rw [e] at p
   cases o with
   | none => cases p
   | some ds =>
    dsimp only at p ⊢
    unfold cJ at p
    obtain ⟨xs, ex, r⟩ := ok.cont n a ds q e
    unfold DV
    exact ⟨a, xs, rfl, SqL.of ex, rN ds xs p r⟩
 | ro ds =>
  obtain ⟨a, xs, rfl, q, r⟩ := uB h
  have p' : cJ (.lst ds) = true := p
  unfold cJ at p'
  show DV K W.H (.lst ds) _
  unfold DV
  exact ⟨a, xs, rfl, SqL.fz q, rN ds xs p' r⟩
 | _ => exact Iz _ _ p h
def oEq : O2 := λ x y μ => if (cJ (rsv x μ) && cJ (rsv y μ)) = true /\ ie (rsv x μ) < 100 then some (.bl (eqD (rsv x μ) (rsv y μ)), μ) else none
def oNe : O2 := λ x y μ => if (cJ (rsv x μ) && cJ (rsv y μ)) = true /\ ie (rsv x μ) < 100 then some (.bl (!eqD (rsv x μ) (rsv y μ)), μ) else none
def rEqD (K : PySem.W.Frag) : R2 := λ v u H Q => ∃ x y, DV K H x v /\ DV K H y u /\ ie x < 100 /\ Q (.bl (eqD x y)) H
def rNeD (K : PySem.W.Frag) : R2 := λ v u H Q => ∃ x y, DV K H x v /\ DV K H y u /\ ie x < 100 /\ Q (.bl (!eqD x y)) H
section
variable {X : Cx} {tb : List Addr} {k : Nat}
theorem KZ (hr : dZ k X.A) : OpR X (compareOp .Eq) (rEqD X.K) := by
 intro pins s σ H v u vv uu Q I rv ru h
 obtain ⟨x, y, hx, hy, hd, q⟩ := h
 have hun := hr.un
 exact Li I x y v u vv uu X.A hx hy rv ru (by omega) X.prog X.w X.xe _ ⟨.bl _, H, I, rfl, q⟩
theorem Cv (hr : dZ k X.A) : OpR X (compareOp .NotEq) (rNeD X.K) := by
 intro pins s σ H v u vv uu Q I rv ru h
 obtain ⟨x, y, hx, hy, hd, q⟩ := h
 have hun := hr.un
 exact Kh I x y v u vv uu X.A hx hy rv ru (by omega) X.prog X.w X.xe _ ⟨.bl _, H, I, rfl, q⟩
theorem jh (hr : dZ k X.A) : OpD X tb (compareOp .Eq) oEq := ⟨_, KZ hr, λ W x y v u d μ' Q ok dx dy ho h => by
 unfold oEq at ho
 split at ho
 .rename_i hc
  cases ho
  rw [Bool.and_eq_true] at hc
  exact ⟨_, _, oZ ok dx hc.1.1, oZ ok dy hc.1.2, hc.2, put ok h gG⟩
 .cases ho⟩
theorem mR (hr : dZ k X.A) : OpD X tb (compareOp .NotEq) oNe := ⟨_, Cv hr, λ W x y v u d μ' Q ok dx dy ho h => by
 unfold oNe at ho
 split at ho
 .rename_i hc
  cases ho
  rw [Bool.and_eq_true] at hc
  exact ⟨_, _, oZ ok dx hc.1.1, oZ ok dy hc.1.2, hc.2, put ok h gG⟩
 .cases ho⟩
end
end L3
namespace L2
open PySem PySem.Spec PyProof.Rows
section
variable {prog : Program} {w : World} {A : Around} {E : Value -> Shared -> Prop} {s : Shared}
theorem nO {it l : Addr} {i : Nat} {items} {x : Value} {Q : Value -> Shared -> Prop} (hit : s.heap.IsTupleIter it l i) (hl : s.heap.IsTuple l items) (hx : items[i]? = some x)
  (hQ : ∀ h', h'.IsTupleIter it l (i + 1) -> Heap.SameBut it s.heap h' -> Q x { s with heap := h' }) : wpAny (model prog w) A (Builtin.SmallTypes.nextOf (.ref it)) Q E s := by
 obtain ⟨o, ho, hc, hd⟩ := id hit
 obtain ⟨ol, hol, _, nl, hdl⟩ := hl
 unfold Builtin.SmallTypes.nextOf
 refine wpAny_bind (wpAny_callSpecial?_slot (name := Str.ofString "__next__") hit.typeIs F.slot_tuple_iterator_next
  (wpAny_call_entry F.slot_tuple_iterator_next hit.typeIs F.entry_tuple_iterator_next ?_ (F.args_tuple_iterator_next_1 _)))
 show wpAny _ _ (field (.ref it) 0 >>= _) _ _ s
 refine wpAny_bind (wpAny_field ho hd (x := .ref l) rfl ?_)
 show wpAny _ _ (if (Value.ref l == Value.none) = true then _ else _) _ _ s
 rw [if_neg (show ¬ ((Value.ref l == Value.none) = true) from Bool.false_ne_true)]
 show wpAny _ _ (field (.ref it) 1 >>= _) _ _ s
 refine wpAny_bind (wpAny_field ho hd (x := .int i 0) rfl ?_)
 show wpAny _ _ (seqItems? (.ref l) >>= _) _ _ s
 refine wpAny_bind (wpAny_seqItems hol hdl ?_)
 simp only [Int.toNat_natCast, hx]
 refine wpAny_bind (wpAny_setField ho hd (by simp) (wpAny_pure ⟨x, rfl, wpAny_pure (hQ _ ?_ (Heap.SameBut.update ..))⟩))
 exact ⟨_, Heap.get?_update_self _ ho (Obj.isFreed_of_fields (Obj.data_mapFields hd _)), (Obj.cls_mapFields ..).trans hc, by
  rw [Obj.data_mapFields hd]; simp [rawInt]⟩
theorem pD {it l : Addr} {i : Nat} {items} {Q : Value -> Shared -> Prop} (hh : A.handled = none) (hit : s.heap.IsTupleIter it l i) (hl : s.heap.IsTuple l items) (hx : items[i]? = none)
  (hE : ∀ h' e, Heap.ExtBut it s.heap h' -> (∃ o, h'.get? e = some o /\ o.cls = .type "StopIteration") -> E (.ref e) { s with heap := h' }) : wpAny (model prog w) A (Builtin.SmallTypes.nextOf (.ref it)) Q E s := by
 obtain ⟨o, ho, hc, hd⟩ := id hit
 obtain ⟨ol, hol, _, nl, hdl⟩ := hl
 unfold Builtin.SmallTypes.nextOf
 refine wpAny_bind (wpAny_callSpecial?_slot (name := Str.ofString "__next__") hit.typeIs F.slot_tuple_iterator_next
  (wpAny_call_entry F.slot_tuple_iterator_next hit.typeIs F.entry_tuple_iterator_next ?_ (F.args_tuple_iterator_next_1 _)))
 show wpAny _ _ (field (.ref it) 0 >>= _) _ _ s
 refine wpAny_bind (wpAny_field ho hd (x := .ref l) rfl ?_)
 show wpAny _ _ (if (Value.ref l == Value.none) = true then _ else _) _ _ s
 rw [if_neg (show ¬ ((Value.ref l == Value.none) = true) from Bool.false_ne_true)]
 show wpAny _ _ (field (.ref it) 1 >>= _) _ _ s
 refine wpAny_bind (wpAny_field ho hd (x := .int i 0) rfl ?_)
 show wpAny _ _ (seqItems? (.ref l) >>= _) _ _ s
 refine wpAny_bind (wpAny_seqItems hol hdl ?_)
 simp only [Int.toNat_natCast, hx]
 refine wpAny_bind (wpAny_rule (wpAny_bind (wpAny_setField ho hd (by simp) ?_)))
 show wpAny _ _ (newExc (.type "StopIteration") [] >>= _) _ _ _
 refine wpAny_bind ?_
 simp only [newExc, newTuple]
 refine wpAny_bind (wpAny_newObj_type ?_ (by size_fits))
 refine wpAny_bind (m := firstArgMember _ _) (wpAny_of_eq (a := Value.none) (by first | rfl | (simp only [firstArgMember]; rfl)) ?_)
 refine wpAny_newObj_type ?_ (by size_fits)
 simp only [raiseNew]
 refine wpAny_bind (wpAny_handled ?_)
 first | rw [show A.in1.handled = none from hh] | rw [hh]
 refine wpAny_bind (wpAny_pure (wpAny_throw ?_))
 exact hE _ _ (((Heap.SameBut.update ..).extBut.push _).push _) ⟨_, Heap.get?_push_size _ rfl, rfl⟩
end
def dN (k : Bool) (h : Heap) (it l : Addr) (i : Nat) : Prop := if k = true then h.IsTupleIter it l i else h.IsListIter it l i
def iu (k : Bool) (h : Heap) (l : Addr) (xs : Array Value) : Prop := if k = true then h.IsTuple l xs else h.IsList l xs
section
variable {prog : Program} {w : World} {A : Around} {E : Value -> Shared -> Prop} {s : Shared} {k : Bool} {it l : Addr} {i : Nat} {xs : Array Value} {h h' : Heap}
theorem dN.obj (x : dN k h it l i) : ∃ o, h.get? it = some o /\ (∀ v, o.data ≠ .cell v) /\ (o.cls = .type "tuple_iterator" ∨ o.cls = .type "list_iterator") := by
 cases k
 .obtain ⟨o, e, c, d⟩ : h.IsListIter it l i := x
  exact ⟨o, e, (λ v z => by rw [d] at z; cases z), .inr c⟩
 .obtain ⟨o, e, c, d⟩ : h.IsTupleIter it l i := x
  exact ⟨o, e, (λ v z => by rw [d] at z; cases z), .inl c⟩
theorem dN.at' (x : dN k h it l i) (hk : ∀ o, h.get? it = some o -> h'.get? it = some o) : dN k h' it l i := by
 cases k
 .obtain ⟨o, e, c, d⟩ : h.IsListIter it l i := x
  exact (⟨o, hk o e, c, d⟩ : h'.IsListIter it l i)
 .obtain ⟨o, e, c, d⟩ : h.IsTupleIter it l i := x
  exact (⟨o, hk o e, c, d⟩ : h'.IsTupleIter it l i)
theorem iu.at' (x : iu k h l xs) (hk : ∀ o, h.get? l = some o -> h'.get? l = some o) : iu k h' l xs := by
 cases k
 .obtain ⟨o, e, c⟩ : h.IsList l xs := x
  exact (⟨o, hk o e, c⟩ : h'.IsList l xs)
 .obtain ⟨o, e, c⟩ : h.IsTuple l xs := x
  exact (⟨o, hk o e, c⟩ : h'.IsTuple l xs)
theorem gQ {x : Value} {Q : Value -> Shared -> Prop} (hit : dN k s.heap it l i) (hl : iu k s.heap l xs) (hx : xs[i]? = some x)
  (hQ : ∀ h', dN k h' it l (i + 1) -> Heap.SameBut it s.heap h' -> Q x { s with heap := h' }) : wpAny (model prog w) A (Builtin.SmallTypes.nextOf (.ref it)) Q E s := by
 cases k
 .exact wpAny_nextOf_list_item hit hl hx hQ
 .exact nO hit hl hx hQ
theorem jB {Q : Value -> Shared -> Prop} (hh : A.handled = none) (hit : dN k s.heap it l i) (hl : iu k s.heap l xs) (hx : xs[i]? = none)
  (hE : ∀ h' e, Heap.ExtBut it s.heap h' -> (∃ o, h'.get? e = some o /\ o.cls = .type "StopIteration") -> E (.ref e) { s with heap := h' }) : wpAny (model prog w) A (Builtin.SmallTypes.nextOf (.ref it)) Q E s := by
 cases k
 .exact wpAny_nextOf_list_end hh hit hl hx hE
 .exact pD hh hit hl hx hE
end
structure ZA (z TI TO i1 i2 : Addr) : Prop where
 TIz : TI ≠ z
 TOz : TO ≠ z
 i1z : i1 ≠ z
 i2z : i2 ≠ z
 TITO : TI ≠ TO
 TIi1 : TI ≠ i1
 TIi2 : TI ≠ i2
 TOi1 : TO ≠ i1
 TOi2 : TO ≠ i2
 i12 : i1 ≠ i2
section
variable {prog : Program} {w : World} {A : Around} {E : Value -> Shared -> Prop} {s : Shared}
theorem BL {z TI TO i1 i2 l1 l2 : Addr} {c1 c2 : Bool} {k1 k2 : Nat} {xs ys : Array Value} {x y a b : Value} {Q : Value -> Shared -> Prop} (D : ZA z TI TO i1 i2)
  (l1z : l1 ≠ z) (l2z : l2 ≠ z) (l2i1 : l2 ≠ i1) (l2TO : l2 ≠ TO)
  (hz : IsZip s.heap z TI TO .none) (hTI : IsPair s.heap TI (.ref i1) (.ref i2)) (hTO : IsPair s.heap TO a b)
  (h1 : dN c1 s.heap i1 l1 k1) (h2 : dN c2 s.heap i2 l2 k2) (hl1 : iu c1 s.heap l1 xs) (hl2 : iu c2 s.heap l2 ys) (hx : xs[k1]? = some x) (hy : ys[k2]? = some y)
  (hQ : ∀ h', IsZip h' z TI TO (rawInt s.heap.objs.size) -> IsPair h' TO x y -> dN c1 h' i1 l1 (k1 + 1) -> dN c2 h' i2 l2 (k2 + 1) -> IsPair h' s.heap.objs.size x y -> h'.objs.size = s.heap.objs.size + 1 ->
   (∀ c o, c ≠ z -> c ≠ TO -> c ≠ i1 -> c ≠ i2 -> s.heap.get? c = some o -> h'.get? c = some o) -> Q (.ref s.heap.objs.size) { s with heap := h' }) :
  wpAny (model prog w) A (Builtin.«zip.__next__» ⟨[.ref z], []⟩) (λ fin s' => ∃ v, fin = .done (.ret v) /\ Q v s') E s := by
 show wpAny _ _ (field (.ref z) 2 >>= _) _ _ _
 refine wpAny_bind (wpAny_field hz rfl (x := .bool false) rfl ?_)
 show wpAny _ _ (field (.ref z) 3 >>= _) _ _ _
 refine wpAny_bind (wpAny_field hz rfl (x := .ref TI) rfl ?_)
 refine wpAny_bind (wpAny_seqItems hTI rfl ?_)
 show wpAny _ _ (Builtin.SmallTypes.ownedTupleIsFree (.ref z) >>= _) _ _ _
 refine wpAny_bind ?_
 unfold Builtin.SmallTypes.ownedTupleIsFree
 refine wpAny_bind (wpAny_field hz rfl (x := .none) rfl (wpAny_pure ?_))
 simp only [if_true]
 refine wpAny_bind (wpAny_rule ?_)
 refine wpAny_bind (wpAny_field hz rfl (x := .ref TO) rfl ?_)
 refine wpAny_bind (wpAny_setField_rec hz (by simp) λ h₁ hz₁ hs₁ => ?_)
 replace hz₁ : IsZip h₁ z TI TO .ellipsis := hz₁
 refine wpAny_bind ?_
 simp only [List.zipIdx_cons, List.zipIdx_nil, List.forIn_cons, List.forIn_nil]
 refine wpAny_bind (wpAny_bind (wpAny_onRaise ?_))
 show wpAny _ _ (Builtin.SmallTypes.nextOf (.ref i1) >>= _) _ _ _
 refine wpAny_bind (gQ (h1.at' λ o e => hs₁.extBut _ _ D.i1z e) (hl1.at' λ o e => hs₁.extBut _ _ l1z e) hx λ h₂ h1₂ hs₂ => wpAny_pure ?_)
 have hTO₂ : IsPair h₂ TO a b := hs₂.extBut _ _ D.TOi1 (hs₁.extBut _ _ D.TOz hTO)
 refine wpAny_bind (wpAny_seqItems hTO₂ rfl ?_)
 refine wpAny_bind (wpAny_updateSeq_pair hTO₂ λ h₃ hTO₃ hs₃ => ?_)
 replace hTO₃ : IsPair h₃ TO x b := hTO₃
 refine wpAny_bind (wpAny_letGo (wpAny_pure ?_))
 refine wpAny_bind (wpAny_bind (wpAny_onRaise ?_))
 show wpAny _ _ (Builtin.SmallTypes.nextOf (.ref i2) >>= _) _ _ _
 refine wpAny_bind (gQ (h2.at' λ o e => hs₃.extBut _ _ D.TOi2.symm (hs₂.extBut _ _ D.i12.symm (hs₁.extBut _ _ D.i2z e))) (hl2.at' λ o e => hs₃.extBut _ _ l2TO (hs₂.extBut _ _ l2i1 (hs₁.extBut _ _ l2z e))) hy λ h₄ h2₄ hs₄ => wpAny_pure ?_)
 have hTO₄ : IsPair h₄ TO x b := hs₄.extBut _ _ D.TOi2 hTO₃
 refine wpAny_bind (wpAny_seqItems hTO₄ rfl ?_)
 refine wpAny_bind (wpAny_updateSeq_pair hTO₄ λ h₅ hTO₅ hs₅ => ?_)
 replace hTO₅ : IsPair h₅ TO x y := hTO₅
 refine wpAny_bind (wpAny_letGo (wpAny_pure (wpAny_pure ?_)))
 refine wpAny_bind (wpAny_seqItems hTO₅ rfl ?_)
 refine wpAny_bind (wpAny_newTuple ?_)
 have hsz : h₅.objs.size = s.heap.objs.size := by rw [hs₅.1, hs₄.1, hs₃.1, hs₂.1, hs₁.1]
 have hz₅ : IsZip h₅ z TI TO .ellipsis := hs₅.extBut _ _ D.TOz.symm (hs₄.extBut _ _ D.i2z.symm (hs₃.extBut _ _ D.TOz.symm (hs₂.extBut _ _ D.i1z.symm hz₁)))
 have hk₅ : ∀ c o, c ≠ z -> c ≠ TO -> c ≠ i1 -> c ≠ i2 -> s.heap.get? c = some o -> h₅.get? c = some o := λ c o q1 q2 q3 q4 e =>
  hs₅.extBut _ _ q2 (hs₄.extBut _ _ q4 (hs₃.extBut _ _ q2 (hs₂.extBut _ _ q3 (hs₁.extBut _ _ q1 e))))
 have h1₅ : dN c1 h₅ i1 l1 (k1 + 1) := h1₂.at' λ o e => hs₅.extBut _ _ D.TOi1.symm (hs₄.extBut _ _ D.i12 (hs₃.extBut _ _ D.TOi1.symm e))
 have h2₅ : dN c2 h₅ i2 l2 (k2 + 1) := h2₄.at' λ o e => hs₅.extBut _ _ D.TOi2.symm e
 have hzlt : z < h₅.objs.size := Heap.lt_size hz₅
 show wpAny _ _ (Builtin.SmallTypes.ownedTupleHandOut (.ref z) (.ref h₅.objs.size) >>= _) _ _ _
 refine wpAny_bind ?_
 unfold Builtin.SmallTypes.ownedTupleHandOut
 have hz₆ : IsZip (h₅.push { cls := .type "tuple", data := .seq #[x, y] }) z TI TO .ellipsis := Heap.get?_push_of_some _ hz₅
 refine wpAny_bind (wpAny_setField_rec hz₆ (by simp) λ h₇ hz₇ hs₇ => ?_)
 replace hz₇ : IsZip h₇ z TI TO (rawInt h₅.objs.size) := hz₇
 refine wpAny_setField_rec hz₇ (by simp) λ h₈ hz₈ hs₈ => ?_
 replace hz₈ : IsZip h₈ z TI TO (rawInt h₅.objs.size) := hz₈
 have up : ∀ c o, c ≠ z -> h₅.get? c = some o -> h₈.get? c = some o := λ c o q1 e => hs₈.extBut _ _ q1 (hs₇.extBut _ _ q1 (Heap.get?_push_of_some _ e))
 have hT₈ : IsPair h₈ h₅.objs.size x y := hs₈.extBut _ _ (Nat.ne_of_gt hzlt) (hs₇.extBut _ _ (Nat.ne_of_gt hzlt) (Heap.get?_push_size _ rfl))
 have hz8 : h₈.objs.size = h₅.objs.size + 1 := by rw [hs₈.1, hs₇.1, Heap.size_push]
 rw [hsz] at hz₈ hT₈ hz8
 refine wpAny_pure ⟨_, rfl, ?_⟩
 show Q (.ref h₅.objs.size) _
 rw [hsz]
 exact hQ h₈ hz₈ (up _ _ D.TOz hTO₅) (h1₅.at' λ o e => up _ o D.i1z e) (h2₅.at' λ o e => up _ o D.i2z e) hT₈ hz8 λ c o q1 q2 q3 q4 e => up c o q1 (hk₅ c o q1 q2 q3 q4 e)
theorem Cq {z TI TO i1 i2 l1 l2 : Addr} {c1 c2 : Bool} {k1 k2 : Nat} {xs ys : Array Value} {a b : Value} {Q : PySem.Fin -> Shared -> Prop} (hh : A.handled = none) (D : ZA z TI TO i1 i2)
  (l1z : l1 ≠ z) (l2z : l2 ≠ z) (l2i1 : l2 ≠ i1) (l2TO : l2 ≠ TO)
  (hz : IsZip s.heap z TI TO .none) (hTI : IsPair s.heap TI (.ref i1) (.ref i2)) (hTO : IsPair s.heap TO a b)
  (h1 : dN c1 s.heap i1 l1 k1) (h2 : dN c2 s.heap i2 l2 k2) (hl1 : iu c1 s.heap l1 xs) (hl2 : iu c2 s.heap l2 ys) (hend : xs[k1]? = none ∨ ys[k2]? = none)
  (hE : ∀ h' e, (∀ c o, c ≠ z -> c ≠ TO -> c ≠ i1 -> c ≠ i2 -> s.heap.get? c = some o -> h'.get? c = some o) -> (∃ o, h'.get? e = some o /\ o.cls = .type "StopIteration") -> E (.ref e) { s with heap := h' }) :
  wpAny (model prog w) A (Builtin.«zip.__next__» ⟨[.ref z], []⟩) Q E s := by
 show wpAny _ _ (field (.ref z) 2 >>= _) _ _ _
 refine wpAny_bind (wpAny_field hz rfl (x := .bool false) rfl ?_)
 show wpAny _ _ (field (.ref z) 3 >>= _) _ _ _
 refine wpAny_bind (wpAny_field hz rfl (x := .ref TI) rfl ?_)
 refine wpAny_bind (wpAny_seqItems hTI rfl ?_)
 show wpAny _ _ (Builtin.SmallTypes.ownedTupleIsFree (.ref z) >>= _) _ _ _
 refine wpAny_bind ?_
 unfold Builtin.SmallTypes.ownedTupleIsFree
 refine wpAny_bind (wpAny_field hz rfl (x := .none) rfl (wpAny_pure ?_))
 simp only [if_true]
 refine wpAny_bind (wpAny_rule ?_)
 refine wpAny_bind (wpAny_field hz rfl (x := .ref TO) rfl ?_)
 refine wpAny_bind (wpAny_setField_rec hz (by simp) λ h₁ hz₁ hs₁ => ?_)
 replace hz₁ : IsZip h₁ z TI TO .ellipsis := hz₁
 refine wpAny_bind ?_
 simp only [List.zipIdx_cons, List.zipIdx_nil, List.forIn_cons, List.forIn_nil]
 refine wpAny_bind (wpAny_bind (wpAny_onRaise ?_))
 show wpAny _ _ (Builtin.SmallTypes.nextOf (.ref i1) >>= _) _ _ _
 cases hx : xs[k1]? with
 | none =>
  refine wpAny_bind (jB hh (h1.at' λ o e => hs₁.extBut _ _ D.i1z e) (hl1.at' λ o e => hs₁.extBut _ _ l1z e) hx λ h₂ e hs₂ he => ?_)
  obtain ⟨oe, hoe, hce⟩ := he
  have hz₂ : IsZip h₂ z TI TO .ellipsis := hs₂ _ _ D.i1z.symm hz₁
  have hez : e ≠ z := λ x => by subst x; rw [hz₂] at hoe; cases hoe; simp at hce
  exact wpAny_setField_rec hz₂ (by simp) λ h₃ _ hs₃ => hE h₃ e (λ c o q1 _ q3 _ x => hs₃.extBut _ _ q1 (hs₂ _ _ q3 (hs₁.extBut _ _ q1 x))) ⟨oe, hs₃.extBut _ _ hez hoe, hce⟩
 | some x =>
  have hy : ys[k2]? = none := by rcases hend with h | h; rw [hx] at h; cases h; exact h
  refine wpAny_bind (gQ (h1.at' λ o e => hs₁.extBut _ _ D.i1z e) (hl1.at' λ o e => hs₁.extBut _ _ l1z e) hx λ h₂ h1₂ hs₂ => wpAny_pure ?_)
  have hTO₂ : IsPair h₂ TO a b := hs₂.extBut _ _ D.TOi1 (hs₁.extBut _ _ D.TOz hTO)
  refine wpAny_bind (wpAny_seqItems hTO₂ rfl ?_)
  refine wpAny_bind (wpAny_updateSeq_pair hTO₂ λ h₃ hTO₃ hs₃ => ?_)
  refine wpAny_bind (wpAny_letGo (wpAny_pure ?_))
  refine wpAny_bind (wpAny_bind (wpAny_onRaise ?_))
  show wpAny _ _ (Builtin.SmallTypes.nextOf (.ref i2) >>= _) _ _ _
  refine wpAny_bind (jB hh (h2.at' λ o e => hs₃.extBut _ _ D.TOi2.symm (hs₂.extBut _ _ D.i12.symm (hs₁.extBut _ _ D.i2z e))) (hl2.at' λ o e => hs₃.extBut _ _ l2TO (hs₂.extBut _ _ l2i1 (hs₁.extBut _ _ l2z e))) hy λ h₄ e hs₄ he => ?_)
  obtain ⟨oe, hoe, hce⟩ := he
  have hz₄ : IsZip h₄ z TI TO .ellipsis := hs₄ _ _ D.i2z.symm (hs₃.extBut _ _ D.TOz.symm (hs₂.extBut _ _ D.i1z.symm hz₁))
  have hez : e ≠ z := λ x => by subst x; rw [hz₄] at hoe; cases hoe; simp at hce
  exact wpAny_setField_rec hz₄ (by simp) λ h₅ _ hs₅ => hE h₅ e (λ c o q1 q2 q3 q4 x => hs₅.extBut _ _ q1 (hs₄ _ _ q4 (hs₃.extBut _ _ q2 (hs₂.extBut _ _ q3 (hs₁.extBut _ _ q1 x))))) ⟨oe, hs₅.extBut _ _ hez hoe, hce⟩
end
section
variable {prog : Program} {w : World} {A : Around} {E : Value -> Shared -> Prop} {s : Shared}
theorem pq {z TI TO i1 i2 l1 l2 : Addr} {c1 c2 : Bool} {k1 k2 : Nat} {xs ys : Array Value} {x y a b : Value} {Q : Option Value -> Shared -> Prop} (D : ZA z TI TO i1 i2)
  (l1z : l1 ≠ z) (l2z : l2 ≠ z) (l2i1 : l2 ≠ i1) (l2TO : l2 ≠ TO)
  (hz : IsZip s.heap z TI TO .none) (hTI : IsPair s.heap TI (.ref i1) (.ref i2)) (hTO : IsPair s.heap TO a b)
  (h1 : dN c1 s.heap i1 l1 k1) (h2 : dN c2 s.heap i2 l2 k2) (hl1 : iu c1 s.heap l1 xs) (hl2 : iu c2 s.heap l2 ys) (hx : xs[k1]? = some x) (hy : ys[k2]? = some y)
  (hQ : ∀ h', IsZip h' z TI TO (rawInt s.heap.objs.size) -> IsPair h' TO x y -> dN c1 h' i1 l1 (k1 + 1) -> dN c2 h' i2 l2 (k2 + 1) -> IsPair h' s.heap.objs.size x y -> h'.objs.size = s.heap.objs.size + 1 ->
   (∀ c o, c ≠ z -> c ≠ TO -> c ≠ i1 -> c ≠ i2 -> s.heap.get? c = some o -> h'.get? c = some o) -> Q (some (.ref s.heap.objs.size)) { s with heap := h' }) :
  wpAny (model prog w) A (pyNext (.ref z)) Q E s := by
 have hT : s.TypeIs (.ref z) "zip" := ⟨_, hz, rfl⟩
 unfold pyNext
 exact wpAny_bind (wpAny_attempt (wpAny_callSpecial?_slot (name := Str.ofString "__next__") hT F.slot_zip_next
  (wpAny_call_entry F.slot_zip_next hT F.entry_zip_next
   (BL D l1z l2z l2i1 l2TO hz hTI hTO h1 h2 hl1 hl2 hx hy λ h' a1 a2 a3 a4 a5 a6 a7 => wpAny_pure (hQ h' a1 a2 a3 a4 a5 a6 a7)) (F.args_zip_next_1 _))))
theorem qj {z TI TO i1 i2 l1 l2 : Addr} {c1 c2 : Bool} {k1 k2 : Nat} {xs ys : Array Value} {a b : Value} {Q : Option Value -> Shared -> Prop} (hh : A.handled = none) (D : ZA z TI TO i1 i2)
  (l1z : l1 ≠ z) (l2z : l2 ≠ z) (l2i1 : l2 ≠ i1) (l2TO : l2 ≠ TO)
  (hz : IsZip s.heap z TI TO .none) (hTI : IsPair s.heap TI (.ref i1) (.ref i2)) (hTO : IsPair s.heap TO a b)
  (h1 : dN c1 s.heap i1 l1 k1) (h2 : dN c2 s.heap i2 l2 k2) (hl1 : iu c1 s.heap l1 xs) (hl2 : iu c2 s.heap l2 ys) (hend : xs[k1]? = none ∨ ys[k2]? = none)
  (hQ : ∀ h', (∀ c o, c ≠ z -> c ≠ TO -> c ≠ i1 -> c ≠ i2 -> s.heap.get? c = some o -> h'.get? c = some o) -> Q none { s with heap := h' }) : wpAny (model prog w) A (pyNext (.ref z)) Q E s := by
 have hT : s.TypeIs (.ref z) "zip" := ⟨_, hz, rfl⟩
 unfold pyNext
 refine wpAny_bind (wpAny_attempt (wpAny_callSpecial?_slot (name := Str.ofString "__next__") hT F.slot_zip_next
  (wpAny_call_entry F.slot_zip_next hT F.entry_zip_next (Cq hh D l1z l2z l2i1 l2TO hz hTI hTO h1 h2 hl1 hl2 hend λ h' e hk he => ?_) (F.args_zip_next_1 _))))
 obtain ⟨o, ho, hc⟩ := he
 refine wpAny_bind (wpAny_isInstance (T := "StopIteration") (b := true) ⟨o, ho, hc⟩ isSubtype_stop ?_)
 exact wpAny_pure (hQ _ hk)
def itTy (k : Bool) : String := if k = true then "tuple_iterator" else "list_iterator"
abbrev iU (k : Bool) (l : Addr) : Obj := { cls := .type (itTy k), data := .fields #[.ref l, .int 0 0] }
theorem jH {k : Bool} {l : Addr} {xs : Array Value} {Q : Value -> Shared -> Prop} (hl : iu k s.heap l xs) (hQ : Q (.ref s.heap.objs.size) { s with heap := s.heap.push (iU k l) }) : wpAny (model prog w) A (pyIter (.ref l)) Q E s := by
 cases k
 .exact wpAny_pyIter_list hl hQ
 .exact wpAny_pyIter_tuple hl hQ
end
abbrev zH2 (h : Heap) (c1 c2 : Bool) (l1 l2 : Addr) : Heap := (h.push (iU c1 l1)).push (iU c2 l2)
abbrev zH3 (h : Heap) (c1 c2 : Bool) (l1 l2 : Addr) : Heap := (zH2 h c1 c2 l1 l2).push { cls := .type "tuple", data := .seq #[.ref h.objs.size, .ref (h.push (iU c1 l1)).objs.size] }
abbrev zH4 (h : Heap) (c1 c2 : Bool) (l1 l2 : Addr) : Heap := (zH3 h c1 c2 l1 l2).push { cls := .type "tuple", data := .seq #[.none, .none] }
abbrev zH5 (h : Heap) (c1 c2 : Bool) (l1 l2 : Addr) : Heap := (zH4 h c1 c2 l1 l2).push { cls := .type "zip", data := .fields #[.none, .bool false, .bool false, .ref (zH2 h c1 c2 l1 l2).objs.size, .ref (zH3 h c1 c2 l1 l2).objs.size] }
theorem Fy (c1 c2 : Bool) (l1 l2 : Addr) (xs ys : Array Value) :
  Meets (Builtin.«zip.__new__» ⟨[.type "zip", .ref l1, .ref l2], []⟩) (λ _ R s => iu c1 s.heap l1 xs /\ iu c2 s.heap l2 ys /\
   R (.ok (.ret (.ref (zH4 s.heap c1 c2 l1 l2).objs.size))) { s with heap := zH5 s.heap c1 c2 l1 l2 }) :=
 .of_wp λ prog w A R s h => by
  obtain ⟨hp, g, d, tk, os⟩ := s; obtain ⟨hl1, hl2, h⟩ := h
  have hsub := sub_zip
  have hL1 : iu c1 (Shared.heap ⟨hp, g, d, tk, os⟩) l1 xs := hl1
  have hL2 : iu c2 (Shared.heap ⟨hp.push (iU c1 l1), g, d, tk, os⟩) l2 ys := hl2.at' λ o e => Heap.get?_push_of_some _ e
  wp_walk using jH hL1, jH hL2
  exact ⟨_, rfl, h⟩
section
variable {prog : Program} {w : World} {A : Around} {E : Value -> Shared -> Prop} {s : Shared}
theorem dN.new (k : Bool) (h : Heap) (l : Addr) : dN k (h.push (iU k l)) h.objs.size l 0 := by
 cases k
 .exact (⟨iU false l, Heap.get?_push_size _ rfl, rfl, rfl⟩ : Heap.IsListIter _ _ _ 0)
 .exact (⟨iU true l, Heap.get?_push_size _ rfl, rfl, rfl⟩ : Heap.IsTupleIter _ _ _ 0)
theorem BK {c1 c2 : Bool} {l1 l2 : Addr} {xs ys : Array Value} {Q : Value -> Shared -> Prop} (hl1 : iu c1 s.heap l1 xs) (hl2 : iu c2 s.heap l2 ys)
  (h : ∀ h', IsZip h' (s.heap.objs.size + 4) (s.heap.objs.size + 2) (s.heap.objs.size + 3) .none -> IsPair h' (s.heap.objs.size + 2) (.ref s.heap.objs.size) (.ref (s.heap.objs.size + 1)) ->
   IsPair h' (s.heap.objs.size + 3) .none .none -> dN c1 h' s.heap.objs.size l1 0 -> dN c2 h' (s.heap.objs.size + 1) l2 0 -> h'.objs.size = s.heap.objs.size + 5 ->
   (∀ c o, s.heap.get? c = some o -> h'.get? c = some o) -> Q (.ref (s.heap.objs.size + 4)) { s with heap := h' }) :
  wpAny (model prog w) A (call (.type "zip") [.ref l1, .ref l2]) Q E s := by
 refine callType_new F.called_zip (by decide) (F.typeCall_zip_2 _ _) (F.newCall_zip_2 _ _) (λ obj => F.args_object_init_3 obj _ _) F.entry_zip_new
  (Fy c1 c2 l1 l2 xs ys) ⟨hl1, hl2, ?_⟩
 have z1 : (s.heap.push (iU c1 l1)).objs.size = s.heap.objs.size + 1 := Heap.size_push ..
 have z2 : (zH2 s.heap c1 c2 l1 l2).objs.size = s.heap.objs.size + 2 := by rw [Heap.size_push, z1]
 have z3 : (zH3 s.heap c1 c2 l1 l2).objs.size = s.heap.objs.size + 3 := by rw [Heap.size_push, z2]
 have z4 : (zH4 s.heap c1 c2 l1 l2).objs.size = s.heap.objs.size + 4 := by rw [Heap.size_push, z3]
 have z5 : (zH5 s.heap c1 c2 l1 l2).objs.size = s.heap.objs.size + 5 := by rw [Heap.size_push, z4]
 have g5 : (zH5 s.heap c1 c2 l1 l2).get? (zH4 s.heap c1 c2 l1 l2).objs.size = some _ := Heap.get?_push_size _ rfl
 have g4 : (zH5 s.heap c1 c2 l1 l2).get? (zH3 s.heap c1 c2 l1 l2).objs.size = some _ := Heap.get?_push_of_some _ (Heap.get?_push_size _ rfl)
 have g3 : (zH5 s.heap c1 c2 l1 l2).get? (zH2 s.heap c1 c2 l1 l2).objs.size = some _ := Heap.get?_push_of_some _ (Heap.get?_push_of_some _ (Heap.get?_push_size _ rfl))
 have g2 : dN c2 (zH5 s.heap c1 c2 l1 l2) (s.heap.push (iU c1 l1)).objs.size l2 0 := (dN.new c2 _ l2).at' λ o e => Heap.get?_push_of_some _ (Heap.get?_push_of_some _ (Heap.get?_push_of_some _ e))
 have g1 : dN c1 (zH5 s.heap c1 c2 l1 l2) s.heap.objs.size l1 0 := (dN.new c1 _ l1).at' λ o e => Heap.get?_push_of_some _ (Heap.get?_push_of_some _ (Heap.get?_push_of_some _ (Heap.get?_push_of_some _ e)))
 show _ /\ _
 rw [z2, z3, z4] at g5
 rw [z1, z2] at g3
 rw [z3] at g4
 rw [z1] at g2
 rw [z4]
 exact ⟨⟨_, g5, rfl⟩, h _ g5 g3 g4 g1 g2 z5 λ c o x =>
  Heap.get?_push_of_some _ (Heap.get?_push_of_some _ (Heap.get?_push_of_some _ (Heap.get?_push_of_some _ (Heap.get?_push_of_some _ x))))⟩
end
def SqB (c : Bool) (K : PySem.W.Frag) (H : Hp) (a : Addr) (xs : List V) : Prop := if c = true then SqT K H a xs else SqL K H a xs
section
variable {X : Cx} {pins : List (Addr × Obj)} {σ : L2.St} {H H' : Hp} {s : Shared} {h' : Heap}
theorem Inv.sqB {c : Bool} {a : Addr} {xs : List V} (I : Inv X pins σ H s) (h : SqB c X.K H a xs) : ∃ its : List Value, Vals xs its /\ iu c s.heap a its.toArray /\ xs.length <= sizeLine := by
 cases c
 .obtain ⟨its, r, p, hz⟩ := I.list (show SqL X.K H a xs from h)
  exact ⟨its, r, p.isList, hz⟩
 .obtain ⟨its, r, p, hz⟩ := I.tuple (show SqT X.K H a xs from h)
  exact ⟨its, r, p, hz⟩
theorem Inv.sqB_inj {c : Bool} {a : Addr} {xs ys : List V} (I : Inv X pins σ H s) (h : SqB c X.K H a xs) (h' : SqB c X.K H a ys) : xs = ys := by
 cases c
 .exact I.list_inj (show SqL X.K H a xs from h) h'
 .exact I.tuple_inj (show SqT X.K H a xs from h) h'
theorem Inv.sqB_ne {c : Bool} {a b : Addr} {xs : List V} (I : Inv X pins σ H s) (h : SqB c X.K H a xs) (f : jM X pins H b) : a ≠ b := by
 have key : (∃ o, H a = some o) ∨ ∃ o, X.K.lookup a = some o := by
  cases c
  .rcases (show SqL X.K H a xs from h) with (h | ⟨o, h⟩) | ⟨o, _, _, h, _⟩
   .exact .inl ⟨_, h⟩
   .exact .inl ⟨_, h⟩
   .exact .inr ⟨_, h⟩
  .rcases (show SqT X.K H a xs from h) with (h | ⟨o, h⟩) | ⟨o, _, _, h, _⟩
   .exact .inl ⟨_, h⟩
   .exact .inl ⟨_, h⟩
   .exact .inr ⟨_, h⟩
 intro z
 subst z
 rcases key with ⟨o, e⟩ | ⟨o, e⟩
 .rw [f.1] at e; cases e
 .have e' := I.ok.mod.kin a o e
  rcases f.2.2.2.1 with q | q
  .exact I.ok.noex a o e' q
  .exact absurd (Nat.lt_of_lt_of_le (Heap.lt_size (I.ok.bs a o e').1) q) (Nat.lt_irrefl _)
theorem Inv.turnedL {t' : Nat} {fp : List Addr} (I : Inv X pins σ H s) (k : ∀ b o, b ∉ fp -> s.heap.get? b = some o -> h'.get? b = some o) (hf : ∀ b ∈ fp, jM X pins H b) : Inv X pins σ H { s with heap := h', toks := t' } := by
 have nit : ∀ b u, H b = some u -> b ∉ fp := λ b u e z => by rw [(hf b z).1] at e; cases e
 refine I.step (g' := s.gens) (d' := s.drawn) (ch := fp) (λ b hb => ?_) (λ b o _ _ hc e _ => k b o hc e) (λ b o _ _ hc e _ => ⟨o.slots, k b o hc e⟩) (λ _ _ _ _ n => n)
  (λ b o hc e => ⟨o, k b o hc e⟩) (λ _ _ e => e) (λ _ _ _ e => e) (λ b ps e => ⟨#[], by rw [e]; simp⟩) (λ m hm => ?_) (λ b u e => ?_) I.bare.again
 .obtain ⟨f0, f1, f2, f3, f4, f5⟩ := hf b hb
  exact ⟨f3, f1, f4, f5⟩
 .obtain ⟨o, es, ep, ho, r⟩ := hm
  exact ⟨o, es, ep, k _ o (λ z => (hf _ z).2.1 rfl) ho, r⟩
 .refine (I.hok b u e).stay (λ c v hc q => k c v ?_ q) (λ _ q => q) λ _ _ q => q
  rcases hc with z | z
  .rw [z]; exact nit b u e
  .exact nit c _ z
end
def Itz (K : PySem.W.Frag) (c1 c2 : Bool) (a1 a2 : Addr) : It :=
 ⟨λ i H => (∃ xs x, SqB c1 K H a1 xs /\ xs[i]? = some x) /\ ∃ ys y, SqB c2 K H a2 ys /\ ys[i]? = some y,
  λ i H v H' => ∃ p x y, v = .ref p /\ H p = none /\ H' = upd H p (.tup [x, y]) /\ (∀ xs, SqB c1 K H a1 xs -> xs[i]? = some x) /\ ∀ ys, SqB c2 K H a2 ys -> ys[i]? = some y,
  λ i H => ∃ xs ys, SqB c1 K H a1 xs /\ SqB c2 K H a2 ys /\ (xs.length <= i ∨ ys.length <= i)⟩
def ZSt (c1 c2 : Bool) (z TI TO i1 i2 a1 a2 : Addr) (i : Nat) (h : Heap) : Prop :=
 IsZip h z TI TO .none /\ IsPair h TI (.ref i1) (.ref i2) /\ (∃ a b, IsPair h TO a b) /\ dN c1 h i1 a1 i /\ dN c2 h i2 a2 i
theorem wR {h : Heap} {o u : Obj} {b : Addr} (e : (h.push o).get? b = some u) (hb : b ≠ h.objs.size) : h.get? b = some u := by
 unfold Heap.get? at e ⊢
 have hp : (h.push o).objs[b]? = h.objs[b]? := by
  show (h.objs.push o)[b]? = h.objs[b]?
  rw [Array.getElem?_push, if_neg hb]
 rw [hp] at e
 exact e
theorem Eu {P : Program} {w : World} {K : PySem.W.Frag} {elts : List Expr} {kk : Nat} {pos : Pos} (c1 c2 : Bool) (z TI TO i1 i2 a1 a2 : Addr) (D : ZA z TI TO i1 i2) :
  Turn P w K (.Tuple elts kk pos) (Itz K c1 c2 a1 a2) [z, TI, TO, i1, i2] z (ZSt c1 c2 z TI TO i1 i2 a1 a2) where
 mem := by simp
 obj := λ i h st b hb => by
  obtain ⟨hz, hTI, ⟨a, b', hTO⟩, h1, h2⟩ := st
  simp only [List.mem_cons, List.not_mem_nil, or_false] at hb
  rcases hb with rfl | rfl | rfl | rfl | rfl
  .exact ⟨_, hz, λ v q => by cases q⟩
  .exact ⟨_, hTI, λ v q => by cases q⟩
  .exact ⟨_, hTO, λ v q => by cases q⟩
  .obtain ⟨o, e, d, _⟩ := h1.obj; exact ⟨o, e, d⟩
  .obtain ⟨o, e, d, _⟩ := h2.obj; exact ⟨o, e, d⟩
 keep := λ i h h' st k => by
  obtain ⟨hz, hTI, ⟨a, b', hTO⟩, h1, h2⟩ := st
  exact ⟨k z (by simp) _ hz, k TI (by simp) _ hTI, ⟨a, b', k TO (by simp) _ hTO⟩, h1.at' λ o e => k i1 (by simp) o e, h2.at' λ o e => k i2 (by simp) o e⟩
 item := by
  intro X hP hw hK hc i pins s σ H E I hf st hg
  subst hP hw hK
  obtain ⟨hz, hTI, ⟨a, b', hTO⟩, h1, h2⟩ := st
  obtain ⟨⟨xs, x, hx, ex⟩, ys, y, hy, ey⟩ := hg
  obtain ⟨its1, r1, p1, z1⟩ := I.sqB hx
  obtain ⟨its2, r2, p2, z2⟩ := I.sqB hy
  obtain ⟨u1, eu1, ru1⟩ := r1.get ex
  obtain ⟨u2, eu2, ru2⟩ := r2.get ey
  have fz := hf z (by simp)
  have fTO := hf TO (by simp)
  have fi1 := hf i1 (by simp)
  have ltz : z < s.heap.objs.size := Heap.lt_size hz
  have ltTI : TI < s.heap.objs.size := Heap.lt_size hTI
  have ltTO : TO < s.heap.objs.size := Heap.lt_size hTO
  have lti1 : i1 < s.heap.objs.size := let ⟨_, e, _⟩ := h1.obj; Heap.lt_size e
  have lti2 : i2 < s.heap.objs.size := let ⟨_, e, _⟩ := h2.obj; Heap.lt_size e
  refine pq D (I.sqB_ne hx fz) (I.sqB_ne hy fz) (I.sqB_ne hy fi1) (I.sqB_ne hy fTO) hz hTI hTO h1 h2 p1 p2 (x := u1) (y := u2) (by simpa using eu1) (by simpa using eu2) λ h' q1 q2 q3 q4 q5 q6 q7 => ⟨_, rfl, ?_⟩
  refine wpAny_letOwnedTupleGo_zip q1 λ h2' y1 y2 => ?_
  have hpn : H s.heap.objs.size = none := I.hok.fresh (Nat.le_refl _)
  have IA : Inv X pins σ (upd H s.heap.objs.size (.tup [x, y])) { s with heap := s.heap.push { cls := .type "tuple", data := .seq #[u1, u2] } } :=
   I.laid (t' := s.toks) (o := .tup [x, y]) (λ b ob q => Heap.get?_push_of_some _ q) (Nat.le_refl _) ⟨by show 2 <= sizeLine; decide, [u1, u2], .cons ru1 (.cons ru2 .nil), IsTup.new _ _⟩
  have hne : ∀ b ∈ [z, TI, TO, i1, i2], b ≠ s.heap.objs.size := λ b hb => by
   simp only [List.mem_cons, List.not_mem_nil, or_false] at hb
   rcases hb with rfl | rfl | rfl | rfl | rfl
   .exact Nat.ne_of_lt ltz
   .exact Nat.ne_of_lt ltTI
   .exact Nat.ne_of_lt ltTO
   .exact Nat.ne_of_lt lti1
   .exact Nat.ne_of_lt lti2
  have hf' : ∀ b ∈ [z, TI, TO, i1, i2], jM X pins (upd H s.heap.objs.size (.tup [x, y])) b := λ b hb => by
   obtain ⟨f0, f1⟩ := hf b hb
   exact ⟨by rw [aM (hne b hb)]; exact f0, f1⟩
  have IB : Inv X pins σ (upd H s.heap.objs.size (.tup [x, y])) { s with heap := h2' } := by
   refine Inv.turnedL (s := { s with heap := s.heap.push { cls := .type "tuple", data := .seq #[u1, u2] } }) (t' := s.toks) (fp := [z, TI, TO, i1, i2]) IA (λ b o hb e => ?_) hf'
   simp only [List.mem_cons, List.not_mem_nil, or_false, not_or] at hb
   obtain ⟨b1, b2, b3, b4, b5⟩ := hb
   by_cases hs : b = s.heap.objs.size
   .subst hs
    have e' : some ({ cls := .type "tuple", data := .seq #[u1, u2] } : Obj) = some o := (Heap.get?_push_size s.heap rfl).symm.trans e
    cases e'
    exact y2.extBut _ _ b1 q5
   .exact y2.extBut _ _ b1 (q7 b o b1 b3 b4 b5 (wR e hs))
  refine ⟨.ref s.heap.objs.size, _, IB, rfl, ⟨_, x, y, rfl, hpn, rfl, λ zs hzs => by rw [I.sqB_inj hzs hx]; exact ex, λ zs hzs => by rw [I.sqB_inj hzs hy]; exact ey⟩, ?_, λ b hb => (hf' b hb).1⟩
  exact ⟨y1, y2.extBut _ _ D.TIz (q7 _ _ D.TIz D.TITO D.TIi1 D.TIi2 hTI), ⟨_, _, y2.extBut _ _ D.TOz q2⟩, q3.at' λ o e => y2.extBut _ _ D.i1z e, q4.at' λ o e => y2.extBut _ _ D.i2z e⟩
 done := by
  intro X hP hw hK hc i pins s σ H E I hf st hg
  subst hP hw hK
  obtain ⟨hz, hTI, ⟨a, b', hTO⟩, h1, h2⟩ := st
  obtain ⟨xs, ys, hx, hy, hend⟩ := hg
  obtain ⟨its1, r1, p1, z1⟩ := I.sqB hx
  obtain ⟨its2, r2, p2, z2⟩ := I.sqB hy
  have fz := hf z (by simp)
  have fTO := hf TO (by simp)
  have fi1 := hf i1 (by simp)
  have l1 := r1.length
  have l2 := r2.length
  refine qj (I.ok.hd hc) D (I.sqB_ne hx fz) (I.sqB_ne hy fz) (I.sqB_ne hy fi1) (I.sqB_ne hy fTO) hz hTI hTO h1 h2 p1 p2 ?_ λ h' q => ⟨rfl, I.turnedL (t' := s.toks) (fp := [z, TI, TO, i1, i2]) (λ b o hb e => ?_) hf⟩
  .rcases hend with h | h
   .exact .inl (by simp; omega)
   .exact .inr (by simp; omega)
  .simp only [List.mem_cons, List.not_mem_nil, or_false, not_or] at hb
   exact q b o hb.1 hb.2.2.1 hb.2.2.2.1 hb.2.2.2.2 e
 self := λ _ _ _ _ _ st h => wpAny_pyIter_zip st.1 h
def iZip (K : PySem.W.Frag) (ta : TA) : TI := λ σ H R => ta σ H λ vs H1 => ∃ a1 a2 c1 c2, vs = [.ref a1, .ref a2] /\ (∃ xs, SqB c1 K H1 a1 xs) /\ (∃ ys, SqB c2 K H1 a2 ys) /\ R (Itz K c1 c2 a1 a2) H1
section
variable {X : Cx}
theorem LQ {a b : Expr} {ta : TA} {p pos p' : Pos} {elts : List Expr} {kk : Nat} (hg : Gl X "zip") (hm : X.mg "zip" = none) (ha : PA X [a, b] ta) (hs : starEach [a, b] X.env = [(false, eval a X.env), (false, eval b X.env)] := by rfl) (hs2 : starEach [b] X.env = [(false, eval b X.env)] := by rfl) :
  PI X (.Tuple elts kk p') (.Call (.Name "zip" p) [a, b] [] pos) (iZip X.K ta) := by
 intro pins s σ H R I h
 refine Call_ (jG I hg hm boot_zip (PyProof.Rows.callWith_type1 (thn (ha pos pins s σ H _ I h) λ us s1 ⟨vs, H1, I1, r1, q1⟩ => ?_) (by rw [hs, hs2]) (by rw [hs2]; rfl)))
 obtain ⟨a1, a2, c1, c2, rfl, ⟨xs, hx⟩, ⟨ys, hy⟩, q⟩ := q1
 obtain ⟨u, v, rfl, ru, rv⟩ := vals2 r1
 cases ru
 cases rv
 obtain ⟨its1, _, p1, _⟩ := I1.sqB hx
 obtain ⟨its2, _, p2, _⟩ := I1.sqB hy
 refine BK p1 p2 λ h' g1 g2 g3 g4 g5 g6 g7 => ?_
 refine wpAny_pyIter_zip g1 ?_
 refine ⟨_, [s1.heap.objs.size + 4, s1.heap.objs.size + 2, s1.heap.objs.size + 3, s1.heap.objs.size, s1.heap.objs.size + 1], _, _, H1, rfl, I1.kept (t' := s1.toks) g7, Eu c1 c2 _ _ _ _ _ a1 a2 ?_, ⟨g1, g2, ⟨_, _, g3⟩, g4, g5⟩, λ b hb => ?_, q⟩
 .constructor <;> first | exact Nat.ne_of_lt (by omega) | exact Nat.ne_of_gt (by omega)
 .have hb' : s1.heap.objs.size <= b := by
   simp only [List.mem_cons, List.not_mem_nil, or_false] at hb
   rcases hb with q | q | q | q | q <;> rw [q] <;> first | exact Nat.le_add_right _ _ | exact Nat.le_refl _
  exact I1.fpOk hb' (I1.hok.fresh hb')
end
end L2
namespace L3
open PySem PySem.Spec PyProof.Rows L2
def bC : D -> Mu -> Option (List D)
 | .tup ds, _ => some ds
 | .lst ds, _ => some ds
 | .ro ds, _ => some ds
 | .cell n, μ => match μ[n]? with
  | some (some ds) => some ds
  | _ => none
 | _, _ => none
def rO : D -> Bool
 | .tup _ => true
 | _ => false
section
variable {K : PySem.W.Frag} {tb : List Addr}
theorem jN {W : Wd} {x : D} {v : V} {ds : List D} (ok : WOk K tb W) (h : Den K tb W x v) (e : bC x W.mu = some ds) : ∃ a xs, v = .ref a /\ SqB (rO x) K W.H a xs /\ cu K tb W ds xs := by
 cases x with
 | tup es => cases e; obtain ⟨a, xs, rfl, q, r⟩ := iQ h; exact ⟨a, xs, rfl, SqT.fz q, r⟩
 | lst es => cases e; obtain ⟨a, xs, rfl, q, r⟩ := jF h; exact ⟨a, xs, rfl, SqL.fz q, r⟩
 | ro es => cases e; obtain ⟨a, xs, rfl, q, r⟩ := uB h; exact ⟨a, xs, rfl, SqL.fz q, r⟩
 | cell n =>
  obtain ⟨a, rfl, q⟩ := gK h
  have e' : (match W.mu[n]? with | some (some ds) => some ds | _ => none) = some ds := e
  cases e2 : W.mu[n]? with
  | none => rw [e2] at e'; cases e'
  | some o =>
   cases o with
   | none => rw [e2] at e'; cases e'
   | some es =>
    rw [e2] at e'
    cases e'
    obtain ⟨xs, e3, r⟩ := ok.cont n a ds q e2
    exact ⟨a, xs, rfl, SqL.of e3, r⟩
 | _ => cases e
theorem SqB.or {c : Bool} {H : Hp} {a : Addr} {xs : List V} (h : SqB c K H a xs) : SqL K H a xs ∨ SqT K H a xs := by
 cases c
 .exact .inl h
 .exact .inr h
end
theorem Gw {K : PySem.W.Frag} {tb : List Addr} {W : Wd} {ds : List D} {xs : List V} {i : Int} {d : D} (r : cu K tb W ds xs) (h : atI ds i = some d) : ∃ v, atI xs i = some v /\ Den K tb W d v := by
 unfold atI at h ⊢
 rw [<- aA.length r]
 cases e : ixN ds.length i with
 | none => rw [e] at h; cases h
 | some j =>
  rw [e] at h
  exact aA.get r h
def oIx : O2 := λ x y μ => match y with
 | .int i => (bC x μ).bind λ ds => (atI ds i).map λ d => (d, μ)
 | _ => none
def bx : O1' := λ x μ => match x with
 | .str y => if y.length <= sizeLine then some (.int y.length, μ) else none
 | _ => (bC x μ).map λ ds => (.int ds.length, μ)
def mW : O1' := λ x μ => match x with
 | .int i => some (.int (if i < 0 then -i else i), μ)
 | _ => none
def ir : O1' := λ x μ => match x with
 | .int i => some (.int (-i), μ)
 | _ => none
def mK (op : O2) : ON := λ xs μ => match xs with
 | [x, y] => op x y μ
 | _ => none
theorem yE {op : O2} {xs : List D} {μ : Mu} {r : D × Mu} (h : mK op xs μ = some r) : ∃ x y, xs = [x, y] /\ op x y μ = some r := by
 unfold mK at h
 split at h
 .exact ⟨_, _, rfl, h⟩
 .cases h
def qd : O2 := λ x y μ => match x, y with
 | .int i, .int j => some (.int (if j < i then j else i), μ)
 | _, _ => none
def dh : ON := λ xs μ => match xs with
 | [x] => (bC x μ).map λ ds => (.tup ds, μ)
 | _ => none
def Hf (T : String) : D -> Option Bool
 | .non => some false
 | .bl _ => some (T == "bool" || T == "int")
 | .int _ => some (T == "int")
 | .str _ => some (T == "str")
 | .tup _ => some (T == "tuple")
 | .lst _ => some (T == "list")
 | .ro _ => some (T == "list")
 | .dic _ => some (T == "dict")
 | .cell _ => none
def kj (T : String) : O1' := λ x μ => match x with
 | .cell n => match μ[n]? with
  | some (some _) => some (.bl (T == "list"), μ)
  | _ => none
 | _ => (Hf T x).map λ k => (.bl k, μ)
section
variable {X : Cx} {tb : List Addr} {a b e : Expr} {fa fb f : EF} {fs : AF} {p pos : Pos}
theorem dz (ha : PD X tb a fa) (hb : PD X tb b fb) (hs : zP b := by intro _ _; rfl) : PD X tb (.Subscript a b pos) (M2 fa fb oIx) :=
 yr (λ ta tb' ha hb => NZ Lq ha hb hs) (λ W x y v u d μ' Q ok dx dy ho h => by
  cases y with
  | int i =>
   obtain ⟨ds, e1, e2⟩ := Option.bind_eq_some_iff.mp (show ((bC x W.mu).bind λ ds => (atI ds i).map λ d => (d, W.mu)) = some (d, μ') from ho)
   obtain ⟨d0, e3, e4⟩ := Option.map_eq_some_iff.mp e2
   cases e4
   rw [bj dy]
   obtain ⟨a, xs, rfl, q, r⟩ := jN ok dx e1
   obtain ⟨v, ev, dv⟩ := Gw r e3
   rcases SqB.or q with q | q
   .exact .inl ⟨a, xs, i, v, rfl, rfl, q, ev, put ok h dv⟩
   .exact .inr (.inl ⟨a, xs, i, v, rfl, rfl, q, ev, put ok h dv⟩)
  | _ => cases ho) ha hb
theorem jA (ha : PD X tb a fa) : PD X tb (.UnaryOp .USub a pos) (M1 fa ir) :=
 Mq (λ ta ha => Jg CV ha) (λ W x v d μ' Q ok dx ho h => by
  cases x with
  | int i => cases ho; rw [bj dx]; exact ⟨i, rfl, put ok h dO⟩
  | _ => cases ho) ha
def aR (op : O1') : ON := λ xs μ => match xs with
 | [x] => op x μ
 | _ => none
theorem sV {op : O1'} {xs : List D} {μ : Mu} {r : D × Mu} (h : aR op xs μ = some r) : ∃ x, xs = [x] /\ op x μ = some r := by
 unfold aR at h
 split at h
 .exact ⟨_, rfl, h⟩
 .cases h
theorem xG {xs : List D} {μ : Mu} {r : D × Mu} (h : dh xs μ = some r) : ∃ x, xs = [x] /\ dh [x] μ = some r := by
 unfold dh at h
 split at h
 .exact ⟨_, rfl, h⟩
 .cases h
theorem dH (hm : X.mg "len" = none) (ha : PAD X tb [a] fs) (hg : Gl X "len" := by rfl) (he : starEach [a] X.env = (false, eval a X.env) :: starEach [] X.env := by rfl) : PD X tb (.Call (.Name "len" p) [a] [] pos) (MC fs (aR bx)) :=
 BX (λ ta ha => nG (vC.or vg) hg hm PySem.boot_len ha (by decide) (by decide) he (by rfl)) (λ W xs vs d μ' Q ok r ho h => by
  obtain ⟨x, rfl, ho⟩ := sV ho
  obtain ⟨v, rfl, dv⟩ := aA.one r
  have gen : ∀ ds, bC x W.mu = some ds -> some (D.int ds.length, W.mu) = some (d, μ') -> ((∃ p ys, [v] = [V.ref p] /\ (SqL X.K W.H p ys ∨ SqT X.K W.H p ys) /\ Q (.int ys.length) W.H) ∨ ∃ z, [v] = [V.str z] /\ z.length <= sizeLine /\ Q (.int z.length) W.H) := λ ds e1 e2 => by
   cases e2
   obtain ⟨a, xs, e, q, r⟩ := jN ok dv e1
   exact Or.inl ⟨a, xs, by rw [e], SqB.or q, by rw [<- aA.length r]; exact put ok h dO⟩
  cases x with
  | str y =>
   have ho' : (if y.length <= sizeLine then some (D.int y.length, W.mu) else none) = some (d, μ') := ho
   split at ho'
   .rename_i hz
    cases ho'
    rw [uR dv]
    exact .inr ⟨y, rfl, hz, put ok h dO⟩
   .cases ho'
  | tup ds => exact gen ds rfl ho
  | lst ds => exact gen ds rfl ho
  | ro ds => exact gen ds rfl ho
  | cell n =>
   obtain ⟨ds, e1, e2⟩ := Option.map_eq_some_iff.mp (show (bC (.cell n) W.mu).map (λ ds => (D.int ds.length, W.mu)) = some (d, μ') from ho)
   exact gen ds e1 (congrArg some e2)
  | _ => cases ho) ha
theorem rE (hm : X.mg "abs" = none) (ha : PAD X tb [a] fs) (hg : Gl X "abs" := by rfl) (he : starEach [a] X.env = (false, eval a X.env) :: starEach [] X.env := by rfl) : PD X tb (.Call (.Name "abs" p) [a] [] pos) (MC fs (aR mW)) :=
 BX (λ ta ha => nG Ep hg hm PyProof.Rows.boot_abs ha (by decide) (by decide) he (by rfl)) (λ W xs vs d μ' Q ok r ho h => by
  obtain ⟨x, rfl, ho⟩ := sV ho
  obtain ⟨v, rfl, dv⟩ := aA.one r
  cases x with
  | int i => cases ho; rw [bj dv]; exact ⟨i, rfl, put ok h dO⟩
  | _ => cases ho) ha
theorem Ai (hc : X.calm = true) (hm : X.mg "min" = none) (ha : PAD X tb [a, b] fs) (hg : Gl X "min" := by rfl) (he : starEach [a, b] X.env = (false, eval a X.env) :: starEach [b] X.env := by rfl) (hpl : (backTo pos (starEach [b] X.env)).any (·.1) = false := by rfl) : PD X tb (.Call (.Name "min" p) [a, b] [] pos) (MC fs (mK qd)) :=
 BX (λ ta ha => nG (Ce hc) hg hm PyProof.Rows.boot_min ha (by decide) (by decide) he hpl) (λ W xs vs d μ' Q ok r ho h => by
  obtain ⟨x, y, rfl, ho⟩ := yE ho
  obtain ⟨u, v, rfl, du, dv⟩ := aA.two r
  cases x with
  | int i =>
   cases y with
   | int j =>
    cases ho
    rw [bj du, bj dv]
    exact ⟨i, j, rfl, put ok h dO⟩
   | _ => cases ho
  | _ => cases ho) ha
theorem gU (hm : X.mg "tuple" = none) (ha : PAD X tb [a] fs) (hg : Gl X "tuple" := by rfl) (he : starEach [a] X.env = (false, eval a X.env) :: starEach [] X.env := by rfl) : PD X tb (.Call (.Name "tuple" p) [a] [] pos) (MC fs dh) :=
 BX (λ ta ha => mq tB hg hm PyProof.Rows.boot_tuple ha (by decide) (by decide) he (by rfl)) (λ W xs vs d μ' Q ok r ho h => by
  obtain ⟨x, rfl, ho⟩ := xG ho
  obtain ⟨v, rfl, dv⟩ := aA.one r
  obtain ⟨ds, e1, e2⟩ := Option.map_eq_some_iff.mp (show (bC x W.mu).map (λ ds => (D.tup ds, W.mu)) = some (d, μ') from ho)
  cases e2
  by_cases ht : ∃ es, x = .tup es
  .obtain ⟨es, rfl⟩ := ht
   cases e1
   obtain ⟨a, xs, rfl, q, r⟩ := iQ dv
   exact ⟨a, xs, rfl, .inr ⟨SqT.fz q, put ok h dv⟩⟩
  .obtain ⟨a, xs, rfl, q, r⟩ := jN ok dv e1
   have hf : rO x = false := by cases x <;> first | rfl | exact absurd ⟨_, rfl⟩ ht
   rw [hf] at q
   exact ⟨a, xs, rfl, .inl ⟨q, λ l hl => lU ok h r hl⟩⟩) ha
def lOf (fs : AF) : LF := λ δ μ => (fs δ μ).bind λ r => match r.1 with
 | [x] => (bC x r.2).map λ ds => (ds, r.2)
 | _ => none
theorem Fj (hm : X.mg "list" = none) (ha : PAD X tb [a] fs) (hg : Gl X "list" := by rfl) (he : starEach [a] X.env = (false, eval a X.env) :: starEach [] X.env := by rfl) : PDN X tb (.Call (.Name "list" p) [a] [] pos) (lOf fs) :=
 dY (mq uW hg hm PyProof.Rows.boot_list ha (by decide) (by decide) he (by rfl)) λ σ H Q zq1 => by
  obtain ⟨W, δ, ds, μ', e, ok, hd, hf, k⟩ := zq1
  unfold lOf at hf
  obtain ⟨⟨xs, μ1⟩, e1, e2⟩ := Option.bind_eq_some_iff.mp hf
  match xs, e1, e2 with
  | [x], e1, e2 =>
   obtain ⟨ds', e3, e4⟩ := Option.map_eq_some_iff.mp (show (bC x μ1).map (λ ds => (ds, μ1)) = some (ds, μ') from e2)
   cases e4
   refine ⟨W, δ, [x], _, e, ok, hd, e1, λ vs W1 ok1 l1 m1 d1 => ?_⟩
   obtain ⟨v, rfl, dv⟩ := aA.one d1
   obtain ⟨a, xs, rfl, q, r⟩ := jN ok1 dv (by rw [m1]; exact e3)
   exact ⟨a, xs, rfl, SqB.or q, λ l hl => k l xs W1 ok1 l1 m1 hl r⟩
theorem nu {T : Str} {tn : String} {pt : Pos} (hm : X.mg "isinstance" = none) (hmT : X.mg T = none) (hT : bootBuiltins T = some (.type tn)) (hmem : tn ∈ Gh) (ha : PD X tb a fa) (hg : Gl X "isinstance" := by rfl) (hgT : Gl X T := by rfl) (hn : T ≠ "__name__" := by decide) (hdb : (T == ("__debug__" : Str)) = false := by decide)
  (hs : starEach [a, .Name T pt] X.env = (false, eval a X.env) :: starEach [.Name T pt] X.env := by rfl) : PD X tb (.Call (.Name "isinstance" p) [a, .Name T pt] [] pos) (M1 fa (kj tn)) :=
 dY (nG Cm hg hm PyProof.Rows.boot_isinstance (oE ha (oE (Ik hgT hmT hT (v := .ty tn) rfl hn hdb) vL) hs) (by decide) (by decide) hs (by rfl)) λ σ H Q zq2 => by
  obtain ⟨W, δ, d, μ', e, ok, hd, hf, h⟩ := zq2
  unfold M1 at hf
  obtain ⟨⟨x, μ1⟩, e1, e2⟩ := Option.bind_eq_some_iff.mp hf
  refine ⟨W, δ, x, μ1, e, ok, hd, e1, λ v W1 ok1 l1 m1 d1 => ?_⟩
  have fin : ∀ k, Ke X.K tn v W1.H k -> some (D.bl k, μ1) = some (d, μ') -> ∃ x T k, [v, V.ty tn] = [x, .ty T] /\ T ∈ Gh /\ Ke X.K T x W1.H k /\ Q (.bl k) W1.H := λ k hk e => by
   cases e
   exact ⟨v, tn, k, rfl, hmem, hk, h _ W1 ok1 l1 m1 gG⟩
  cases x with
  | non => rw [CZ d1] at fin ⊢; exact fin _ rfl e2
  | bl b => rw [pZ d1] at fin ⊢; exact fin _ rfl e2
  | int b => rw [bj d1] at fin ⊢; exact fin _ rfl e2
  | str b => rw [uR d1] at fin ⊢; exact fin _ rfl e2
  | tup ds => obtain ⟨a, xs, rfl, q, r⟩ := iQ d1; exact fin _ (.inr (.inl ⟨rfl, xs, SqT.fz q⟩)) e2
  | lst ds => obtain ⟨a, xs, rfl, q, r⟩ := jF d1; exact fin _ (.inl ⟨rfl, xs, SqL.fz q⟩) e2
  | ro ds => obtain ⟨a, xs, rfl, q, r⟩ := uB d1; exact fin _ (.inl ⟨rfl, xs, SqL.fz q⟩) e2
  | dic ds => obtain ⟨a, xs, rfl, q, r⟩ := LC d1; exact fin _ (.inr (.inr ⟨rfl, xs, (cX q).1⟩)) e2
  | cell n =>
   have e2' : (match μ1[n]? with | some (some _) => some (D.bl (tn == "list"), μ1) | _ => none) = some (d, μ') := e2
   obtain ⟨a, rfl, q⟩ := gK d1
   cases e4 : μ1[n]? with
   | none => rw [e4] at e2'; cases e2'
   | some o =>
    cases o with
    | none => rw [e4] at e2'; cases e2'
    | some ds =>
     rw [e4] at e2'
     obtain ⟨xs, ex, _⟩ := ok1.cont n a ds q (by rw [m1]; exact e4)
     exact fin _ (.inl ⟨rfl, xs, SqL.of ex⟩) e2'
def fu (μ : Mu) (n : Nat) : Bool := match μ[n]? with
 | some (some _) => true
 | _ => false
theorem xK {μ : Mu} {n : Nat} (h : fu μ n = true) : ∃ ds, μ[n]? = some (some ds) := by
 unfold fu at h
 split at h
 .exact ⟨_, by assumption⟩
 .cases h
def fZ (fo : EF) (fs : AF) : EF := λ δ μ => (fo δ μ).bind λ r => (fs δ r.2).bind λ q => match r.1, q.1 with
 | .cell n, [y] => match q.2[n]? with
  | some (some ds) => if fu r.2 n = true /\ ds.length < sizeLine then some (.non, q.2.set n (some (ds ++ [y]))) else none
  | _ => none
 | _, _ => none
theorem eU {o : Expr} {fo : EF} {apos cpos : Pos} (ho : PD X tb o fo) (ha : PAD X tb [e] fs)
  (hbase : attributeBase o "append" X.env (eval o X.env) = eval o X.env := by rfl)
  (hfew : ((backTo cpos (starEach [e] X.env)).all (λ x => !x.1) && (backToKw cpos (keywordEach [] X.env)).all (λ x => x.1.isSome)
   && decide ([e].length + ([] : List Keyword).length + (if ([] : List Keyword).isEmpty then 0 else 1) < 30)) = true := by rfl)
  (hline : (apos.endLine == cpos.line) = true := by rfl) (hs : starEach [e] X.env = (false, eval e X.env) :: starEach [] X.env := by rfl) : PD X tb (.Call (.Attribute o "append" apos) [e] [] cpos) (fZ fo fs) :=
 dY (IV PySem.F.plainAttrs_list PySem.F.slot_list_append PySem.F.type_list_append Bo ho ha hbase hfew hline hs (by rfl)) λ σ H Q zq3 => by
  obtain ⟨W, δ, d, μ', e, ok, hd, hf, h⟩ := zq3
  unfold fZ at hf
  obtain ⟨⟨x, μ1⟩, e1, hf⟩ := Option.bind_eq_some_iff.mp hf
  obtain ⟨⟨ys, μ2⟩, e2, hf⟩ := Option.bind_eq_some_iff.mp hf
  refine ⟨W, δ, x, μ1, e, ok, hd, e1, λ v W1 ok1 l1 m1 d1 => ?_⟩
  match x, ys, e1, e2, hf, d1 with
  | .cell n, [y], e1, e2, hf, d1 =>
   have hf' : (match μ2[n]? with | some (some ds) => if fu μ1 n = true /\ ds.length < sizeLine then some (D.non, μ2.set n (some (ds ++ [y]))) else none | _ => none) = some (d, μ') := hf
   cases e4 : μ2[n]? with
   | none => rw [e4] at hf'; cases hf'
   | some oo =>
    cases oo with
    | none => rw [e4] at hf'; cases hf'
    | some ds =>
     rw [e4] at hf'
     have hf'' : (if fu μ1 n = true /\ ds.length < sizeLine then some (D.non, μ2.set n (some (ds ++ [y]))) else none) = some (d, μ') := hf'
     split at hf''
     .rename_i hz
      cases hf''
      obtain ⟨a, rfl, q⟩ := gK d1
      obtain ⟨ds0, e5⟩ := xK hz.1
      obtain ⟨xs0, ex0, _⟩ := ok1.cont n a ds0 q (by rw [m1]; exact e5)
      refine ⟨.inl ⟨rfl, xs0, SqL.of ex0⟩, W1, δ, [y], μ2, rfl, ok1, hd.mono' l1, (by rw [m1]; exact e2), λ vs W2 ok2 l2 m2 d2 => ?_⟩
      obtain ⟨u, rfl, du⟩ := aA.one d2
      have q2 := l2.ad _ _ q
      have e6 : W2.mu[n]? = some (some ds) := by rw [m2]; exact e4
      obtain ⟨xs, ex, r⟩ := ok2.cont n a ds q2 e6
      refine ⟨a, xs, u, rfl, rfl, ex, by rw [<- aA.length r]; exact hz.2, ?_⟩
      obtain ⟨ok3, l3⟩ := ok2.write q2 e6 (aA.append r (aA.cons du aA.nil))
      exact h .non _ ok3 ((l1.trans l2).trans l3) (by rw [<- m2]) qF
     .cases hf''
def Aq (fo : EF) : EF := λ δ μ => (fo δ μ).bind λ r => match r.1 with
 | .cell n => match r.2[n]? with
  | some (some (y :: ds)) => some (y, r.2.set n (some ds))
  | _ => none
 | _ => none
theorem GP {o : Expr} {fo : EF} {apos cpos p0 : Pos} {j} (ho : PD X tb o fo)
  (hbase : attributeBase o "pop" X.env (eval o X.env) = eval o X.env := by rfl)
  (hfew : ((backTo cpos (starEach [.Constant (.int 0) j p0] X.env)).all (λ x => !x.1) && (backToKw cpos (keywordEach [] X.env)).all (λ x => x.1.isSome)
   && decide ([Expr.Constant (.int 0) j p0].length + ([] : List Keyword).length + (if ([] : List Keyword).isEmpty then 0 else 1) < 30)) = true := by rfl)
  (hline : (apos.endLine == cpos.line) = true := by rfl) : PD X tb (.Call (.Attribute o "pop" apos) [.Constant (.int 0) j p0] [] cpos) (Aq fo) :=
 dY (IV PySem.F.plainAttrs_list PySem.F.slot_list_pop PySem.F.type_list_pop Fg ho (oE zp vL) hbase hfew hline (by rfl) (by rfl)) λ σ H Q zq4 => by
  obtain ⟨W, δ, d, μ', e, ok, hd, hf, h⟩ := zq4
  unfold Aq at hf
  obtain ⟨⟨x, μ1⟩, e1, hf⟩ := Option.bind_eq_some_iff.mp hf
  refine ⟨W, δ, x, μ1, e, ok, hd, e1, λ v W1 ok1 l1 m1 d1 => ?_⟩
  cases x with
  | cell n =>
   have hf' : (match μ1[n]? with | some (some (y :: ds)) => some (y, μ1.set n (some ds)) | _ => none) = some (d, μ') := hf
   cases e4 : μ1[n]? with
   | none => rw [e4] at hf'; cases hf'
   | some oo =>
    match oo, e4 with
    | none, e4 => rw [e4] at hf'; cases hf'
    | some [], e4 => rw [e4] at hf'; cases hf'
    | some (y :: ds), e4 =>
     rw [e4] at hf'
     have hf'' : some (y, μ1.set n (some ds)) = some (d, μ') := hf'
     cases hf''
     obtain ⟨a, rfl, q⟩ := gK d1
     have e6 : W1.mu[n]? = some (some (d :: ds)) := by rw [m1]; exact e4
     obtain ⟨xs, ex, r⟩ := ok1.cont n a _ q e6
     have r' : aA _ _ _ _ _ := r
     unfold aA at r'
     obtain ⟨u, us, rfl, du, r2⟩ := r'
     refine ⟨.inl ⟨rfl, _, SqL.of ex⟩, a, u :: us, 0, 0, u, rfl, rfl, ex, by decide, by decide, ?_, rfl, ?_⟩
     .simp [seqIndex?]
     .obtain ⟨ok3, l3⟩ := ok1.write q e6 r2
      exact h u _ ok3 (l1.trans l3) (by rw [<- m1]) (Den.mono' du l3)
  | _ => cases hf
theorem pdv (i : Nat) {x : Str} (hN : X.N[i]? = some x := by rfl) (hv : Vis X.env.scope x := by first | exact Or.inl rfl | exact Or.inr (Or.inl rfl) | exact Or.inr (Or.inr rfl)) (hd : (x == ("__debug__" : Str)) = false := by decide) (hcd : (x == ("__classdict__" : Str)) = false := by decide) : PD X tb (.Name x pos) (ak i) := Lz hN hv hd hcd
end
section
variable {X : Cx} {tb : List Addr} {a b e : Expr} {es : List Expr} {fa fb f : EF} {fs : AF} {p pos : Pos}
def jR : List D -> List D -> List D
 | x :: xs, y :: ys => .tup [x, y] :: jR xs ys
 | _, _ => []
theorem wj : ∀ {xs ys : List D} {i : Nat} {d : D}, (jR xs ys)[i]? = some d -> ∃ x y, d = .tup [x, y] /\ xs[i]? = some x /\ ys[i]? = some y
 | [], ys, i, d, h => by simp [jR] at h
 | x :: xs, [], i, d, h => by simp [jR] at h
 | x :: xs, y :: ys, 0, d, h => by
  have h' : some (D.tup [x, y]) = some d := by simpa [jR] using h
  cases h'
  exact ⟨x, y, rfl, rfl, rfl⟩
 | x :: xs, y :: ys, i + 1, d, h => by
  obtain ⟨u, v, e, e1, e2⟩ := wj (xs := xs) (ys := ys) (i := i) (by simpa [jR] using h)
  exact ⟨u, v, e, by simpa using e1, by simpa using e2⟩
theorem wK : ∀ (xs ys : List D), (jR xs ys).length = min xs.length ys.length
 | [], ys => by simp [jR]
 | x :: xs, [] => by simp [jR]
 | x :: xs, y :: ys => by simp [jR, wK xs ys]
def bV : D -> Option (List D)
 | .tup ds => some ds
 | .lst ds => some ds
 | .ro ds => some ds
 | _ => none
theorem zE {K : PySem.W.Frag} {W : Wd} {x : D} {v : V} {ds : List D} (h : Den K tb W x v) (e : bV x = some ds) : ∃ a xs, v = .ref a /\ SqB (rO x) K (W.fz tb) a xs /\ cu K tb W ds xs := by
 cases x with
 | tup es => cases e; obtain ⟨a, xs, rfl, q, r⟩ := iQ h; exact ⟨a, xs, rfl, q, r⟩
 | lst es => cases e; obtain ⟨a, xs, rfl, q, r⟩ := jF h; exact ⟨a, xs, rfl, q, r⟩
 | ro es => cases e; obtain ⟨a, xs, rfl, q, r⟩ := uB h; exact ⟨a, xs, rfl, q, r⟩
 | _ => cases e
theorem iR {K : PySem.W.Frag} {c : Bool} {W0 W : Wd} {a : Addr} {xs : List V} (h : SqB c K (W0.fz tb) a xs) (l : Le tb W0 W) : SqB c K W.H a xs := by
 cases c
 .exact SqL.fz (SqL.mono l.same (show SqL K (W0.fz tb) a xs from h))
 .exact SqT.fz (SqT.mono l.same (show SqT K (W0.fz tb) a xs from h))
def nJ (fs : AF) : IF := λ δ μ => (fs δ μ).bind λ r => match r.1 with
 | [x, y] => (bV x).bind λ xs => (bV y).map λ ys => (⟨jR xs ys, none⟩, r.2)
 | _ => none
theorem nY {p' : Pos} {elts : List Expr} {kk : Nat} (hm : X.mg "zip" = none) (ha : PAD X tb [a, b] fs) (hg : Gl X "zip" := by rfl) (hs : starEach [a, b] X.env = [(false, eval a X.env), (false, eval b X.env)] := by rfl) (hs2 : starEach [b] X.env = [(false, eval b X.env)] := by rfl) :
  PID X tb (.Tuple elts kk p') (.Call (.Name "zip" p) [a, b] [] pos) (nJ fs) :=
 Aa (LQ hg hm ha hs hs2) λ σ H R zq4 => by
  obtain ⟨W, δ, S, μ', e, ok, hd, hf, h⟩ := zq4
  unfold nJ at hf
  obtain ⟨⟨zs, μ1⟩, e1, hf⟩ := Option.bind_eq_some_iff.mp hf
  match zs, e1, hf with
  | [x, y], e1, hf =>
   obtain ⟨xs, e2, hf⟩ := Option.bind_eq_some_iff.mp (show ((bV x).bind λ xs => (bV y).map λ ys => ((⟨jR xs ys, none⟩ : Src), μ1)) = some (S, μ') from hf)
   obtain ⟨ys, e3, e4⟩ := Option.map_eq_some_iff.mp hf
   cases e4
   refine ⟨W, δ, [x, y], _, e, ok, hd, e1, λ vs W1 ok1 l1 m1 d1 => ?_⟩
   obtain ⟨u, v, rfl, du, dv⟩ := aA.two d1
   obtain ⟨a1, us, rfl, q1, r1⟩ := zE du e2
   obtain ⟨a2, ws, rfl, q2, r2⟩ := zE dv e3
   refine ⟨a1, a2, _, _, rfl, ⟨us, iR q1 (Le.refl _)⟩, ⟨ws, iR q2 (Le.refl _)⟩, h _ W1 ok1 l1 m1 ⟨λ i W2 d l ok2 _ ei => ?_, λ i W2 l ok2 _ hi => ?_⟩⟩
   .obtain ⟨x0, y0, rfl, ex, ey⟩ := wj ei
    obtain ⟨vx, evx, dvx⟩ := aA.get (cu.mono' r1 l) ex
    obtain ⟨vy, evy, dvy⟩ := aA.get (cu.mono' r2 l) ey
    refine ⟨⟨⟨us, vx, iR q1 l, evx⟩, ws, vy, iR q2 l, evy⟩, λ z H' ⟨p, x', y', ez, hp, eH, hx', hy'⟩ => ?_⟩
    have ex' := hx' us (iR q1 l)
    have ey' := hy' ws (iR q2 l)
    rw [evx] at ex'; cases ex'
    rw [evy] at ey'; cases ey'
    obtain ⟨ok3, l3, e3⟩ := ok2.alloc (o := .tup [vx, vy]) hp
    refine ⟨_, eH.symm, ok3, l3, rfl, ?_⟩
    rw [ez]
    show aV _ _ _ _ _
    unfold aV
    exact ⟨p, [vx, vy], rfl, .inl (.inl e3), cu.mono' (aA.cons dvx (aA.cons dvy aA.nil)) l3⟩
   .have hi' : min xs.length ys.length <= i := by rw [<- wK]; exact hi
    have l1' := aA.length r1
    have l2' := aA.length r2
    refine ⟨us, ws, iR q1 l, iR q2 l, ?_⟩
    omega
end
theorem Ad {K : PySem.W.Frag} {F : Hp} {ad : List Addr} : ∀ (ns : List Int), aA K F ad (ns.map D.int) (ns.map V.int)
 | [] => aA.nil
 | n :: ns => aA.cons (by unfold aV; rfl) (Ad ns)
theorem Br {P : Program} {w : World} {K : PySem.W.Frag} {mg mb : Str -> Option Value} {k : Nat} {fa a : Addr} {fd : FuncData} {x : Str} {s₁ : Shared} {vs : List Value} {ns : List Int} {tb : List Addr} {φ : FF} {μ' : Mu}
  (KX : K.In s₁.heap) (hns : s₁.heap.Ns mainGlobals mg) (hb : s₁.heap.Ns builtinsNs mb) (hbb : ∀ x : Str, x ≠ "__name__" -> mb x = bootBuiltins x) (hlim : s₁.heap.NoLimit)
  (hbm : ∃ bm ob, mg "__builtins__" = some (.ref bm) /\ bm ≠ builtinsNs /\ s₁.heap.get? bm = some ob /\ ob.cls = .type "module" /\ ob.dict = some builtinsNs /\ ob.data = .plain) (hg : s₁.gens = #[])
  (ha : s₁.heap.get? a = some { cls := .type "list", data := .seq vs.toArray }) (hi : IntsAre vs ns) (hl : ns.length <= sizeLine) (hr : dZ k callerA)
  (htb : ∀ P ∈ tb, ∃ c, PySem.W.CodeHd s₁.heap c P /\ s₁.heap.get? P = some (PySem.W.tabObj #[])) (hnt : PySem.W.noTabs K = true)
  (F : ∀ base : Heap, K.In base -> base.Ns mainGlobals mg -> nj P w K mg base CX0 k fa fd [x] (spD K tb 1 φ)) (hbind : ∀ (s : Shared) (u : Value), BindsTo s fd ⟨[u], []⟩ [(x, u)])
  (hsp : φ [.ro (ns.map .int)] [] = some (.bl true, μ')) :
  codeAny (model P w) callerA (.call (.ref fa) ⟨[.ref a], []⟩) (λ r s' => r = .ok (.ret (.bool true)) /\ OldK s₁.heap s'.heap /\ s'.os = s₁.os /\ AllBare s'.gens) s₁ := by
 have rv := tX hi
 have lenV := hi.length
 have hat : a ∉ tb := λ z => by
  obtain ⟨c, _, e⟩ := htb a z
  rw [ha] at e; cases e
 have hKt : ∀ P ∈ tb, K.lookup P = none := λ P hP => by
  cases q : K.lookup P with
  | none => rfl
  | some o =>
   obtain ⟨c, _, e⟩ := htb P hP
   have e2 := KX P o q
   rw [e] at e2
   cases e2
   have h2 := List.all_eq_true.mp hnt (P, _) (PySem.W.mem_of_lookupK q)
   exact absurd (show false = true from h2) Bool.false_ne_true
 have core : ∀ H : Hp, (∀ b, H b = none ∨ (b = a /\ ∃ o xs, H b = some (.frz o (.lst xs))) ∨ (b ∈ tb /\ H b = some (.tbl #[]))) -> SqL K H a (ns.map V.int) -> HOk P w H s₁.heap -> (∀ P ∈ tb, H P = some (.tbl #[])) -> (H a ≠ none -> K.lookup a = none) ->
   codeAny (model P w) callerA (.call (.ref fa) ⟨[.ref a], []⟩) (λ r s' => r = .ok (.ret (.bool true)) /\ OldK s₁.heap s'.heap /\ s'.os = s₁.os /\ AllBare s'.gens) s₁ := by
  intro H hO hS hok hT hK
  have base_of : ∀ {b : Addr} {o : Obj}, s₁.heap.get? b = some o -> H b = none -> (uO s₁.heap H).get? b = some o := λ e n => Df e n
  have noH : ∀ {b : Addr} {o : Obj}, s₁.heap.get? b = some o -> o.cls ≠ .type "list" -> o.cls ≠ .none -> H b = none := λ {b o} e d1 d2 => by
   rcases hO b with z | ⟨rfl, _⟩ | ⟨z, _⟩
   .exact z
   .rw [ha] at e; cases e; exact absurd rfl d1
   .obtain ⟨c, _, e2⟩ := htb b z
    rw [e2] at e; cases e; exact absurd rfl d2
  have noA : ∀ {b : Addr} {o : Obj} {es : Array DictEntry} {ep : Nat}, s₁.heap.get? b = some o -> o.data = .dict es ep -> H b = none := λ {b o es ep} e d => by
   rcases hO b with z | ⟨rfl, _⟩ | ⟨z, _⟩
   .exact z
   .rw [ha] at e; cases e; cases d
   .obtain ⟨c, _, e2⟩ := htb b z
    rw [e2] at e; cases e; cases d
  have nsK : ∀ {b : Addr} {m : Str -> Option Value}, s₁.heap.Ns b m -> (uO s₁.heap H).Ns b m := λ {b m} ⟨o, es, ep, e, d, r⟩ => ⟨o, es, ep, base_of e (noA e d), d, r⟩
  have hKb : K.In (uO s₁.heap H) := λ b o e => base_of (KX b o e) (by
   rcases hO b with z | ⟨rfl, _, _, z⟩ | ⟨z, _⟩
   .exact z
   .rw [hK (by rw [z]; simp)] at e; cases e
   .rw [hKt b z] at e; cases e)
  have hM : Mod K mg (uO s₁.heap H) := ⟨hKb, nsK hns, ⟨mb, nsK hb, hbb⟩, (let ⟨mc, h1, h2⟩ := hlim; ⟨mc, nsK h1, h2⟩), (let ⟨bm, ob, h1, h2, h3, h4, r⟩ := hbm; ⟨bm, ob, h1, h2, base_of h3 (noH h3 (by rw [h4]; decide) (by rw [h4]; decide)), h4, r⟩)⟩
  have e0 : Gz P w K mg (uO s₁.heap H) callerA [] s₁ H := ⟨rfl, hM, λ b o e => Hl e, Nat.le_of_eq (BV _ _), trivial, λ b hb => absurd (show b ∈ ([] : List Addr) from hb) (by simp), hok, .of_eq hg⟩
  have okW : WOk K tb ⟨H, [], []⟩ := ⟨rfl, λ i a ds e => by simp at e, λ i j a ds es e => by simp at e, λ P hP => ⟨#[], hT P hP, TOk.nil⟩⟩
  have nlive : ∀ b, ¬ lA ([] : List Addr) ([] : Mu) b := λ b ⟨i, ds, e, _⟩ => by simp at e
  have fzA : Wd.fz tb ⟨H, [], []⟩ a = H a := mO (W := ⟨H, [], []⟩) (nlive a) hat
  have hden : Den K tb ⟨H, [], []⟩ (.ro (ns.map .int)) (.ref a) := by
   show aV _ _ _ _ _
   unfold aV
   refine ⟨a, _, rfl, ?_, Ad ns⟩
   rcases hS with (h | ⟨o, h⟩) | h
   .exact .inl (.inl (fzA.trans h))
   .exact .inl (.inr ⟨o, fzA.trans h⟩)
   .exact .inr h
  refine codeAny_mono ((F _ hKb (nsK hns)).run callerA [] s₁ H ⟨[.ref a], []⟩ [.ref a] [.ref a] (λ v _ => v = .bl true) (λ _ _ _ => False) hr e0 (hbind s₁ (.ref a)) (.cons rfl .nil)
   ⟨⟨H, [], []⟩, [.ro (ns.map .int)], _, _, rfl, okW, aA.cons hden aA.nil, rfl, hsp, λ v W' _ _ _ dv => pZ dv⟩) λ r s' h => ?_
  cases r with
  | error e => exact False.elim h
  | ok fl =>
   cases fl with
   | next => exact False.elim h
   | brk => exact False.elim h
   | cont => exact False.elim h
   | ret u =>
    obtain ⟨v, H', os, bare, un, hok', r', q⟩ := h
    have q' : v = .bl true := q
    subst q'
    obtain rfl : u = Value.bool true := r'
    have old : ∀ b o, s₁.heap.get? b = some o -> asItWas s₁.heap s'.heap b o /\ ∃ o', s'.heap.get? b = some o' := λ b o e => by
     rcases hO b with z | ⟨rfl, ob, xs, z⟩ | ⟨hb, z⟩
     .have := un.keep b o e z (by intro z; exact absurd (show b ∈ ([] : List Addr) from z) (by simp)) (by simp)
      exact ⟨.inl this, o, this⟩
     .have z2 := un.frzs b ob _ z
      obtain ⟨e1, _⟩ := hok b _ z
      obtain ⟨e2, _⟩ := hok' b _ z2
      rw [e] at e1; cases e1
      exact ⟨.inl e2, _, e2⟩
     .obtain ⟨more, z2⟩ := un.tbls b _ z
      have e2 := hok' b _ z2
      obtain ⟨c, hd, hp⟩ := htb b hb
      rw [hp] at e; cases e
      have e3 : s'.heap.get? b = some { cls := .none, data := .fields (#[] ++ more) } := e2
      exact ⟨.inr (.inl ⟨(hd.tab hp).isCodeTable, rfl, #[], more, rfl, e3⟩), _, e3⟩
    exact ⟨rfl, ⟨λ b o e => (old b o e).1, λ b o e => (old b o e).2⟩, os, bare.bare⟩
 have tbOk : ∀ {H : Hp} {b : Addr}, b ∈ tb -> iK P w H s₁.heap b (.tbl #[]) := λ {H b} hb => by
  obtain ⟨c, _, e⟩ := htb b hb
  exact e
 classical
 cases hk : K.lookup a with
 | some o =>
  have e := KX a o hk
  rw [ha] at e
  cases e
  refine core (λ b => if b ∈ tb then some (.tbl #[]) else none) (λ b => ?_) (.inr ⟨_, vs.toArray, _, hk, rfl, rfl, rfl, by rw [List.size_toArray, lenV]; exact hl, by simpa using rv⟩) (λ b u z => ?_) (λ P hP => if_pos hP) λ z => absurd (if_neg hat) z
  .by_cases hb : b ∈ tb
   .exact .inr (.inr ⟨hb, if_pos hb⟩)
   .exact .inl (if_neg hb)
  .by_cases hb : b ∈ tb
   .have z' := (if_pos hb).symm.trans z
    cases z'
    exact tbOk hb
   .have z' := (if_neg hb).symm.trans z
    cases z'
 | none =>
  refine core (λ b => if b = a then some (.frz { cls := .type "list", data := .seq vs.toArray } (.lst (ns.map V.int))) else if b ∈ tb then some (.tbl #[]) else none) (λ b => ?_) (.inl (.inr ⟨{ cls := .type "list", data := .seq vs.toArray }, if_pos rfl⟩)) (λ b u z => ?_) (λ P hP => ?_) λ _ => hk
  .by_cases hb : b = a
   .exact .inr (.inl ⟨hb, _, _, if_pos hb⟩)
   .by_cases hb' : b ∈ tb
    .exact .inr (.inr ⟨hb', (if_neg hb).trans (if_pos hb')⟩)
    .exact .inl ((if_neg hb).trans (if_neg hb'))
  .by_cases hb : b = a
   .have z' := (if_pos hb).symm.trans z
    cases z'
    subst hb
    exact ⟨ha, by rw [List.length_map]; exact hl, vs, _, rv, ha⟩
   .have z1 := (if_neg hb).symm.trans z
    by_cases hb' : b ∈ tb
    .have z' := (if_pos hb').symm.trans z1
     cases z'
     exact tbOk hb'
    .have z' := (if_neg hb').symm.trans z1
     cases z'
  .have hne : P ≠ a := λ z => hat (z ▸ hP)
   exact (if_neg hne).trans (if_pos hP)
theorem Ex {l : PySem.W.OpenLaw} {n k : Nat} {q : Program} {loose : List Str} {XP : (Str -> Option Value) -> Heap -> Prop} {YP : World -> Heap -> Prop} {d : DefRec} {K : Params -> PySem.W.Frag} {x : Str} {φ : FF}
  (hn : l.most = some n) (hn2 : n <= sizeLine) (hdf : d.params.defaults = []) (hr : dZ k callerA)
  (hY : ∀ (w : World) (h : Heap), YP w h -> (K w.params).In h)
  (F : ∀ (w : World) (mg mb : Str -> Option Value) (mean : ExcName -> Option Value) (lo : List Str) (fa : Addr) (h : Heap), (K w.params).In h -> Top q lo mean mg mb h -> mg d.name = some (.ref fa) ->
   ∃ (fd : FuncData) (tb : List Addr), (∀ (s : Shared) (u : Value), BindsTo s fd ⟨[u], []⟩ [(x, u)]) /\ (∀ P ∈ tb, ∃ c, PySem.W.CodeHd h c P /\ h.get? P = some (PySem.W.tabObj #[])) /\ PySem.W.noTabs (K w.params) = true /\
    ∀ base : Heap, (K w.params).In base -> base.Ns mainGlobals mg -> nj l.prog w (K w.params) mg base CX0 k fa fd [x] (spD (K w.params) tb 1 φ))
  (hsp : ∀ (ns : List Int), ns.length <= n -> ∃ μ', φ [.ro (ns.map .int)] [] = some (.bl true, μ')) :
  PySem.W.WalkO q loose XP YP l.row.toRowW d [] (λ f vs => PySem.call f vs) := by
 refine Att.attach_call hn hdf λ w s₀ s₁ mg mb fa o pm cd doc a vs ns G Y ho hd hcd hmg hobj hints hlen hg => ?_
 have KX := hY w _ Y
 obtain ⟨fd, tb, hb, htb, hnt, hF⟩ := F w mg mb _ _ fa _ KX G.T hmg
 obtain ⟨μ', hs⟩ := hsp ns hlen
 exact Br KX G.T.g G.T.b G.T.builtins G.T.nolimit G.T.bmain hg hobj hints (Nat.le_trans hlen hn2) hr htb hnt hF hb hs
end L3
namespace L2
open PySem PySem.Spec PyProof.Rows
section
variable {X : Cx} {tg iter elt : Expr} {ifs : List Expr} {wi : TI} {g : TG} {tt : TT} {te : TE} {own cap : List Str} {capI : List Nat} {scope : Scope} {pos : Pos}
theorem Nu {i₀ : Nat} {x₀ : Str} {px₀ spos : Pos} (hN : X.N.Nodup) (hi₀ : X.N[i₀]? = some x₀) (hx₀ : Loc X.env.scope x₀) (hc : X.calm = true) (B : eN X own cap capI scope) (hown : ∀ x ∈ own, (x, NameKind.free) ∉ scope.names) (hi : PI X tg iter wi)
  (hg : ∀ cs C fp s2 H2, PG (dJ X own cap scope cs C fp s2 H2) tg g) (ht : ∀ cs C fp s2 H2, PIf (dJ X own cap scope cs C fp s2 H2) ifs tt) (he : ∀ cs C fp s2 H2, PE (dJ X own cap scope cs C fp s2 H2) elt te)
  (hs : ∀ x, foldedSetIterable iter X.env x = pure x := by intro _; rfl) (hsw : swapsWith (.ListComp elt [⟨tg, iter, ifs, 0⟩] scope pos) (some (.Name x₀ px₀)) spos.line X.env = pure true := by rfl)
  (hf₀ : X.fn x₀ = true ∨ X.env.scope.names.lookup x₀ = some .local := by first | exact .inl rfl | exact .inr rfl | assumption) :
  PS X (.Assign [.Name x₀ px₀] (.ListComp elt [⟨tg, iter, ifs, 0⟩] scope pos) spos) (Mp (tLC own capI wi g tt te) (Ef i₀)) := by
 intro pins s σ H D I h
 rw [exec_Assign_Name_used _ _ _ _ hsw]
 refine wpAny_bind (wpAny_standAt (wpAny_bind ?_))
 show wpAny _ X.A (do let _ <- comprehension (.ListComp elt [⟨tg, iter, ifs, 0⟩] scope pos) scope X.env _ (newList []) false (eval iter X.env) (some (assign (.Name x₀ px₀) X.env))) _ _ s
 refine wpAny_bind (wpAny_mono (wpAny_comprehension_free (use := some (assign (.Name x₀ px₀) X.env)) (Q := λ _ s' => SP X pins D .next s') (cl := bM X.env scope.names []) rfl hs (iC (B.cells I)) B.kind (λ y hy e => cR B.nd (by rw [<- e]; exact hy)) ?_) (λ _ s' hq => wpAny_pure (wpAny_pure hq)) λ _ _ e => e)
 refine thn (hi pins s σ H _ I h) λ v s1 h1 => thn h1 λ itv s2 h2 => ?_
 obtain ⟨it, fp, tn, J, H2, e, I2, T, st2, f2, W, ⟨m0, w0⟩, turn⟩ := h2
 subst e
 refine wpAny_newObj_type (mH ?_)
 dsimp only
 generalize hl : s2.heap.objs.size = l
 generalize hh0 : s2.heap.push { cls := .type "list", dict := none, data := .seq ([] : List Value).toArray } = h0
 have hsz0 : h0.objs.size = l + 1 := by rw [<- hh0, Heap.size_push, hl]
 generalize hC : h0.objs.size = C
 generalize hh1 : pushCells (h0.push { cls := .type (if (some X.env).isSome = true then "dict" else "frame"), data := .dict #[] }) scope.names = h1
 have hl0 : h0.get? l = some (bR [] 0) := by rw [<- hh0, <- hl]; exact Heap.get?_push_size _ rfl
 have hk0 : ∀ b o, s2.heap.get? b = some o -> h0.get? b = some o := λ b o e => by rw [<- hh0]; exact Heap.get?_push_of_some _ e
 have hlC : l ≠ C := by rw [<- hC, hsz0]; exact Nat.ne_of_lt (Nat.lt_succ_self _)
 have hls : s2.heap.objs.size <= l := Nat.le_of_eq hl
 have hCs : s2.heap.objs.size <= C := by rw [<- hC, hsz0, hl]; exact Nat.le_succ _
 have ho2 : ∀ b ∈ fp, ∃ o, s2.heap.get? b = some o := λ b hb => let ⟨o, e, _⟩ := T.obj 0 _ st2 b hb; ⟨o, e⟩
 have hfl : ∀ b ∈ fp, b ≠ l /\ b ≠ C := λ b hb => let ⟨o, e⟩ := ho2 b hb; ⟨Nat.ne_of_lt (Nat.lt_of_lt_of_le (Heap.lt_size e) hls), Nat.ne_of_lt (Nat.lt_of_lt_of_le (Heap.lt_size e) hCs)⟩
 have hl1 : h1.get? l = some (bR [] 0) := by rw [<- hh1]; exact pushCells_keeps _ _ _ _ (Heap.get?_push_of_some _ hl0)
 have keep1 : ∀ b o, s2.heap.get? b = some o -> h1.get? b = some o := λ b o e => by rw [<- hh1]; exact pushCells_keeps _ _ _ _ (Heap.get?_push_of_some _ (hk0 b o e))
 generalize hcs : cellsFrom (C + 1) scope.names (bM X.env scope.names []) = cs
 have I0 : Inv (dJ X own cap scope cs C fp s2 H2) [] (cF own σ capI) H2 { s2 with heap := h1 } := by
  have q := I2.comp (tk := s2.toks) B hown f2 ho2 hk0 (by rw [hsz0, hl]; exact Nat.le_succ _) hC.symm hh1.symm
  rw [hcs] at q
  exact q
 have henv : (newEnv scope C X.env.globals cs X.env.qual none .none (some X.env) builtinsNs) = { compEnvC scope cs C X.env with scope := scope } := rfl
 have henv2 : ({ newEnv scope C X.env.globals cs X.env.qual none .none (some X.env) builtinsNs with scope := relabel scope X.env } : Env) = (dJ X own cap scope cs C fp s2 H2).env := rfl
 generalize hX' : dJ X own cap scope cs C fp s2 H2 = X' at I0 henv2
 have eP : X'.prog = X.prog := by rw [<- hX']; rfl
 have eW : X'.w = X.w := by rw [<- hX']; rfl
 have eK : X'.K = X.K := by rw [<- hX']; rfl
 have eA : X'.A = X.A := by rw [<- hX']; rfl
 have eFs : X'.fs = frs X.stack := by rw [<- hX']; rfl
 have eEx : X'.ex = fp := by rw [<- hX']; rfl
 have eS : X'.s₀ = s2 := by rw [<- hX']; rfl
 have eH : X'.H₀ = H2 := by rw [<- hX']; rfl
 have eL : X'.env.locals = C := by rw [<- hX']; rfl
 have eC : X'.calm = true := by rw [<- hX']; exact hc
 have eX : X'.xe = λ _ _ => False := by rw [<- hX']; rfl
 have ePn : X'.pn = [] := by rw [<- hX']; rfl
 have hg' : PG X' tg g := by rw [<- hX']; exact hg cs C fp s2 H2
 have ht' : PIf X' ifs tt := by rw [<- hX']; exact ht cs C fp s2 H2
 have he' : PE X' elt te := by rw [<- hX']; exact he cs C fp s2 H2
 have stat : ∀ {H' : Hp} {P : List (Addr × Obj)}, X'.Ok -> (∀ b ∈ fp, H' b = none) -> (∀ p ∈ P, p.1 = l) -> ∀ b ∈ fp, jM X' P H' b := λ {H' P} ok hn hP b hb => by
  refine ⟨hn b hb, ?_, ?_, .inl (by rw [eEx]; exact hb), ?_, λ p hp => ?_⟩
  .exact (ok.exf b (by rw [eEx]; exact hb)).1
  .exact ok.exfs b (by rw [eEx]; exact hb)
  .exact (ok.exf b (by rw [eEx]; exact hb)).2
  .rw [ePn, List.nil_append] at hp
   rw [hP p hp]
   exact Ne.symm (hfl b hb).1
 have lfs : X'.Ok -> l ∉ X'.fs := λ ok hz => by
  rw [eFs] at hz
  exact (Inv.nofs (X := X) I2 hls) ((List.mem_cons.mp (I2.stkSub l hz)).elim (λ z => absurd I2.lt (by rw [<- z, hl]; exact Nat.lt_irrefl _)) id)
 have pinL : ∀ {σ' : St} {H' : Hp} {s' : Shared} {us : List Value} {k : Nat}, Inv X' [] σ' H' s' -> s'.heap.get? l = some (bR us k) -> H' l = none -> Inv X' [(l, bR us k)] σ' H' s' := λ {σ' H' s' us k} I' e n =>
  I'.pins_of λ p hp => by
   obtain rfl : p = (l, bR us k) := by simpa using hp
   exact ⟨e, n, by rw [eL]; exact hlC, lfs I'.ok, λ v z => by cases z⟩
 have loop : ∀ s3 : Shared, s3 = { s2 with heap := h1 } -> codeAny (model X.prog X.w) X.A (.compLoop (.ListComp elt [⟨tg, iter, ifs, 0⟩] scope pos) 0 (.ref it) (.ref l) X'.env) (compPost (model X.prog X.w) X.A X.xe (some (assign (.Name x₀ px₀) X.env)) (λ _ s' => SP X pins D .next s') (.ref l) C) s3 := by
  rintro s3 rfl
  refine tV (E' := λ _ _ => False) (λ n s' => ∃ i ys us k H', Inv X' [] (cF own σ capI) H' s' /\ tn i s'.heap /\ (∀ b ∈ fp, H' b = none) /\ W i n ys H' /\ Vals ys us /\ s'.heap.get? l = some (bR us k) /\ H' l = none /\ ys.length <= sizeLine) (λ _ _ z => z.elim) ?_ m0
   ⟨0, [], [], 0, H2, I0, T.keep _ _ _ st2 λ b _ o e => keep1 b o e, λ b hb => (f2 b hb).1, w0, .nil, hl1, I2.hok.fresh hls, Nat.zero_le _⟩
  rintro n s3 ⟨i, ys, us, k, H3, I3, st3, fr3, w3, v3, o3, n3, z3⟩
  have I3p := pinL I3 o3 n3
  have P1 : ∀ p ∈ [(l, bR us k)], p.1 = l := λ p hp => by
   obtain rfl : p = (l, bR us k) := by simpa using hp
   rfl
  rcases turn i n ys H3 w3 with ⟨stop, qn⟩ | ⟨go, hlt, step⟩
  .have q := T.done X' eP eW eK eC i _ s3 _ H3 (λ _ _ => False) I3p (stat I3.ok fr3 P1) st3 stop
   rw [eA] at q
   refine wpAny_mono q (λ r s4 ⟨hr, I4⟩ => ?_) λ _ _ z => z
   subst hr
   have pl := I4.pin (l, bR us k) (by simp)
   obtain ⟨m4, hn4, _⟩ := I4.loc
   rw [eL] at hn4
   have fC : H3 C = none := by have := I4.free; rw [eL] at this; exact this
   have IE : Inv X pins σ (upd H3 l (.lst ys)) s4 := by
    have := I2.compEnd f2 eP eW eFs eEx eS eH eL I4 hls hlC hCs pl.1 n3 v3 z3 (Heap.SameBut.refl C s4.heap)
    exact this
   show wpAny _ X.A (assign (.Name x₀ px₀) X.env (.ref l)) _ _ s4
   refine wpAny_assign_Name (uI IE hN hi₀ hx₀ (v := .ref l) rfl (λ s5 I5 ⟨a, sa, ha⟩ => ?_) hf₀)
   have hnL : C ≠ X.env.locals := Nat.ne_of_gt (Nat.lt_of_lt_of_le I2.lt hCs)
   have hnc : ∀ y c, X.env.cells.lookup y = some c -> c ≠ C := λ y c e => by
    obtain ⟨v, q⟩ := I2.cell y c e
    exact Nat.ne_of_lt (Nat.lt_of_lt_of_le q.lt hCs)
   have haC : C ≠ a := by
    rcases ha with q | q
    .rw [q]; exact hnL
    .exact Ne.symm (hnc _ _ q)
   obtain ⟨o4, es4, ep4, ho4, r4⟩ := hn4
   refine ⟨m4, ⟨o4, es4, ep4, (sa.2 C haC).trans ho4, r4⟩, λ h' sb => ⟨_, _, ?_, qn l n3⟩⟩
   refine I5.turned (t' := s5.toks) (it := C) (λ b o hb e => (sb.2 b hb).trans e) (by rw [aM (Ne.symm hlC)]; exact fC) hnL (.inr (Nat.le_trans I2.sz hCs)) hnc λ p hp => ?_
   exact Nat.ne_of_lt (Nat.lt_of_lt_of_le (Heap.lt_size (I2.pin p hp).1) hCs)
  .have q := T.item X' eP eW eK eC i _ s3 _ H3 (λ _ _ => False) I3p (stat I3.ok fr3 P1) st3 go
   rw [eA] at q
   refine wpAny_mono q (λ r s4 ⟨u, hr, h4⟩ => ?_) λ _ _ z => z
   subst hr
   refine wpAny_mono h4 (λ _ s5 ⟨x, H5, I5, r5, y5, st5, fr5⟩ => ?_) λ _ _ z => z
   have I5' := I5.pinned (stat I5.ok fr5 P1) (T.obj _ _ st5)
   have a1 := hg' _ s5 _ H5 x u _ I5' r5 (step x H5 y5)
   rw [eP, eW, eA, eX] at a1
   refine wpAny_mono a1 (λ _ s6 ⟨σ6, H6, I6, ft6, q6⟩ => ?_) λ _ _ z => z
   have a2 := ht' _ s6 σ6 H6 _ I6 q6
   rw [eP, eW, eA, eX] at a2
   refine wpAny_mono a2 (λ ok s7 ⟨H7, I7, q7⟩ => ?_) λ _ _ z => z
   have back : ∀ {H8 : Hp} {s8 : Shared}, Inv X' ([(l, bR us k)] ++ oR fp s5.heap) σ6 H8 s8 -> Inv X' [] (cF own σ capI) H8 s8 /\ tn (i + 1) s8.heap /\ (∀ b ∈ fp, H8 b = none) /\ s8.heap.get? l = some (bR us k) /\ H8 l = none := λ {H8 s8} I8 => by
    have pl := I8.pin (l, bR us k) (by simp)
    refine ⟨(I8.weak ft6.1.symm ft6.2).pins_of λ p hp => absurd hp (by simp), T.keep _ _ _ st5 λ b hb o e => ?_, λ b hb => ?_, pl.1, pl.2.1⟩
    .exact (I8.pin (b, o) (List.mem_append_right _ (List.mem_append_right _ (fL hb e)))).1
    .obtain ⟨o, e, d⟩ := T.obj _ _ st5 b hb
     exact (I8.pin (b, o) (List.mem_append_right _ (List.mem_append_right _ (fL hb e)))).2.1
   cases ok with
   | false =>
    rw [if_neg Bool.false_ne_true]
    rw [if_neg Bool.false_ne_true] at q7
    obtain ⟨m', hm, w7⟩ := q7
    obtain ⟨I8, st8, fr8, o8, n8⟩ := back I7
    exact ⟨m', hm, i + 1, ys, us, k, H7, I8, st8, fr8, w7, v3, o8, n8, z3⟩
   | true =>
    rw [if_pos rfl]
    rw [if_pos rfl] at q7
    have a3 := he' _ s7 σ6 H7 _ I7 q7
    rw [eP, eW, eA, eX] at a3
    refine wpAny_mono a3 (λ yv s8 ⟨y, H8, I8', r8, m', hm, w8⟩ => ?_) λ _ _ z => z
    obtain ⟨I8, st8, fr8, o8, n8⟩ := back I8'
    refine append_at (hsz := by show us.toArray.size <= sizeLine; rw [List.size_toArray, <- v3.length]; exact z3) o8 λ h9 sb9 o9 => ?_
    have I9 : Inv X' [] (cF own σ capI) H8 { s8 with heap := h9 } := I8.turned (t' := s8.toks) (λ b o hb e => (sb9.2 b hb).trans e) n8 (by rw [eL]; exact hlC) (.inr (by rw [eS]; exact hls)) (λ x c e => by
     rintro rfl
     obtain ⟨v', ho', hd', hd''⟩ := I8.cell x c e
     rw [o8] at hd'
     cases hd'
     cases hd'') (λ p hp => by rw [ePn] at hp; exact absurd hp (by simp))
    refine ⟨m', hm, i + 1, ys ++ [y], us ++ [yv], k + 1, H8, I9, T.keep _ _ _ st8 λ b hb o e => (sb9.2 b (hfl b hb).1).trans e, fr8, w8, v3.append (.cons r8 .nil), ?_, n8, ?_⟩
    .rw [o9]
     simp [bR]
    .rw [List.length_append]
     exact hlt
 have T0 := T.keep 0 s2.heap h1 st2 λ b _ o e => keep1 b o e
 rw [henv2]
 exact codeAny_compStart_list (loop _ rfl) (T.self X.A 0 _ _ _ T0 (loop _ rfl))
end
end L2
namespace L3
open PySem PySem.Spec PyProof.Rows L2
section
variable {X : Cx} {tb : List Addr} {e tg iter elt : Expr} {f : EF} {pos : Pos}
theorem Hu {fi : IF} {h : GF} {tt : TF} {fe : EF} {own : List Str} {capI ts : List Nat} {σ : SV} {H : Hp} {Q : VK} (hts : ∀ i ∈ ts, i < own.length) (hx : tDN X.K tb (lLC own capI fi h tt fe) σ H Q) :
  tLC own capI (tDI X.K tb fi) (tDG X.K tb ts h) (tDT X.K tb tt) (tD X.K tb fe) σ H Q := by
  obtain ⟨W, δ, ds, μ', e, ok, hd, hf, k⟩ := hx
  unfold lLC at hf
  obtain ⟨⟨S, μ1⟩, e1, e2⟩ := Option.bind_eq_some_iff.mp hf
  split at e2
  .rename_i hz
   refine ⟨W, δ, S, μ1, e, ok, hd, e1, λ J W1 ok1 l1 m1 io => ?_⟩
   refine ⟨λ i m ys H2 => m = S.items.length - i /\ i <= S.items.length /\ ys.length <= i /\ ∃ W2 zs rs, W2.H = H2 /\ WOk X.K tb W2 /\ Le tb W1 W2 /\ cu X.K tb W2 zs ys /\ lcL S h tt fe (cz own δ capI) (S.items.drop i) W2.mu = some (rs, μ') /\ zs ++ rs = ds,
    ⟨S.items.length, rfl, Nat.zero_le _, Nat.zero_le _, W1, [], ds, rfl, ok1, Le.refl _, aA.nil, by rw [m1]; exact e2, rfl⟩, ?_⟩
   rintro i m ys H2 ⟨hm, hi', hy, W2, zs, rs, rfl, ok2, l2, d2, hn, hzs⟩
   by_cases hlt : i < S.items.length
   .right
    have hdr : S.items.drop i = S.items[i] :: S.items.drop (i + 1) := List.drop_eq_getElem_cons hlt
    rw [hdr] at hn
    unfold lcL at hn
    split at hn
    .rename_i hok
     obtain ⟨δ3, e3, hn⟩ := Option.bind_eq_some_iff.mp hn
     obtain ⟨⟨kk, μ4⟩, e4, hn⟩ := Option.bind_eq_some_iff.mp hn
     obtain ⟨go, yl⟩ := io.go i W2 S.items[i] l2 ok2 hok (by simp [hlt])
     refine ⟨go, Nat.lt_of_lt_of_le (Nat.lt_of_le_of_lt hy hlt) hz, λ x H' y => ?_⟩
     obtain ⟨W3, rfl, ok3, l3, m3, d3⟩ := yl x H' y
     refine ⟨W3, cz own δ capI, S.items[i], δ3, rfl, ok3, (qD hd).mono' ((l1.trans l2).trans l3), d3, (by rw [m3]; exact e3), λ σ3 d3' hl3 ht3 => ⟨fits_of hts hl3 ht3, ?_⟩⟩
     refine ⟨W3, δ3, kk, μ4, rfl, ok3, d3', (by rw [m3]; exact e4), λ W4 ok4 l4 m4 => ?_⟩
     cases kk with
     | false =>
      rw [if_neg Bool.false_ne_true]
      exact ⟨S.items.length - (i + 1), by omega, rfl, hlt, by omega, W4, zs, rs, rfl, ok4, (l2.trans l3).trans l4, cu.mono' d2 (l3.trans l4), by rw [m4]; exact hn, hzs⟩
     | true =>
      rw [if_pos rfl]
      have hn' : ((fe δ3 μ4).bind λ y => (lcL S h tt fe (cz own δ capI) (S.items.drop (i + 1)) y.2).bind λ ys => some (y.1 :: ys.1, ys.2)) = some (rs, μ') := hn
      obtain ⟨⟨yd, μ5⟩, e5, hn'⟩ := Option.bind_eq_some_iff.mp hn'
      obtain ⟨⟨rs', μ6⟩, e6, e7⟩ := Option.bind_eq_some_iff.mp hn'
      cases e7
      refine ⟨W4, δ3, yd, μ5, rfl, ok4, d3'.mono' l4, (by rw [m4]; exact e5), λ v W5 ok5 l5 m5 d5 => ?_⟩
      refine ⟨S.items.length - (i + 1), by omega, rfl, hlt, by rw [List.length_append]; simp; omega, W5, zs ++ [yd], rs', rfl, ok5, ((l2.trans l3).trans l4).trans l5, aA.append (cu.mono' d2 ((l3.trans l4).trans l5)) (aA.cons d5 aA.nil), by rw [m5]; exact e6, by rw [List.append_assoc]; exact hzs⟩
    .cases hn
   .left
    have hdr : S.items.drop i = [] := List.drop_of_length_le (by omega)
    rw [hdr] at hn
    unfold lcL at hn
    split at hn
    .rename_i hok
     cases hn
     rw [List.append_nil] at hzs
     subst hzs
     exact ⟨io.stop i W2 l2 ok2 hok (by omega), λ l hl => k l ys W2 ok2 (l1.trans l2) rfl hl d2⟩
    .cases hn
  .cases e2
theorem Aj {i : Nat} {x : Str} {px spos : Pos} {ifs : List Expr} {fi : IF} {h : GF} {tt : TF} {fe : EF} {own cap : List Str} {capI ts : List Nat} {scope : Scope} (hN : X.N.Nodup) (hc : X.calm = true) (B : eN X own cap capI scope) (hown : ∀ x ∈ own, (x, NameKind.free) ∉ scope.names) (hi : PID X tb tg iter fi)
  (hg : ∀ cs C fp s2 H2, PGD (dJ X own cap scope cs C fp s2 H2) tb tg ts h) (ht : ∀ cs C fp s2 H2, HS (dJ X own cap scope cs C fp s2 H2) tb ifs tt) (he : ∀ cs C fp s2 H2, PD (dJ X own cap scope cs C fp s2 H2) tb elt fe)
  (hts : ∀ i ∈ ts, i < own.length := by decide) (hs : ∀ x, foldedSetIterable iter X.env x = pure x := by intro _; rfl) (hi₀ : X.N[i]? = some x := by rfl) (hx₀ : Loc X.env.scope x := by first | exact Or.inl rfl | exact Or.inr rfl)
  (hsw : swapsWith (.ListComp elt [⟨tg, iter, ifs, 0⟩] scope pos) (some (.Name x px)) spos.line X.env = pure true := by rfl)
  (hf₀ : X.fn x = true ∨ X.env.scope.names.lookup x = some .local := by first | exact .inl rfl | exact .inr rfl | assumption) :
  PSD X tb (.Assign [.Name x px] (.ListComp elt [⟨tg, iter, ifs, 0⟩] scope pos) spos) (aY i (mFz (lLC own capI fi h tt fe))) :=
 lw (Nu (g := tDG X.K tb ts h) (tt := tDT X.K tb tt) (te := tD X.K tb fe) hN hi₀ hx₀ hc B hown hi hg ht he hs hsw hf₀) λ E σ H zq1 => by
  obtain ⟨W, δ, fl, δ', μ', e, ok, hd, hf, k⟩ := zq1
  unfold aY at hf
  obtain ⟨⟨d, μ1⟩, e1, e2⟩ := Option.bind_eq_some_iff.mp hf
  cases e2
  unfold mFz at e1
  obtain ⟨⟨ds, μ2⟩, e3, e4⟩ := Option.bind_eq_some_iff.mp e1
  cases e4
  refine Hu hts ⟨W, δ, ds, _, e, ok, hd, e3, λ p vs W1 ok1 l1 m1 hp r => ?_⟩
  exact iV (Q := λ v H => E.nx (σ.set i (some v)) H) ok1 (λ v W' ok' l' m' d' => k _ W' ok' (l1.trans l') (m'.trans m1) ((hd.mono' (l1.trans l')).set d')) r hp
end
theorem HY {P : Program} {w : World} {K : PySem.W.Frag} {mg : Str -> Option Value} {base : Heap} {tb : List Addr} {x qual : Str} {st : Stmt} {f : Addr} {fd : FuncData} {T : Addr} {ps : List Str} {n : Nat} (F : fB K x qual st f fd T) (hmg : mg x = some (.ref f)) (hps : ps.length = n)
  (hb : ∀ (kV doc pm : Value) (an : Option Addr) (cdv ct : Value) (us : List Value), us.length = ps.length -> bindArgs (PySem.W.fnOf x qual (jw st) (iB st) (aN st) .none kV doc pm an cdv ct) ⟨us, []⟩ = pure (ps.zip us)) : FI P w K mg base tb x n 0 (λ _ _ => none) := by
 obtain ⟨oc, od, kV, doc, pm, an, c, ct, osl, rfl, lk, hcd, hhd⟩ := F.ex
 refine ⟨f, _, ps, ⟨λ vs H Q E ⟨W, ds, d, μ', e, ok, dl, hl, hf, _⟩ => (by cases hf), λ A outer s H args us vs Q E hr e0 hb r ⟨W, ds, d, μ', e, ok, dl, hl, hf, _⟩ => (by cases hf)⟩, hmg, F.kp, .all (hb kV doc pm an (.ref c) ct)⟩
theorem Im {P : Program} {w : World} {K : PySem.W.Frag} {mg : Str -> Option Value} {base : Heap} {tb : List Addr} {x qual : Str} {st : Stmt} {f : Addr} {fd : FuncData} {T : Addr} {N ps : List Str} {n k : Nat} {g : SF} (F : fB K x qual st f fd T) (KB : K.In base) (S : aX N ps (aN st)) (hps : ps.length = n)
  (hbody : ∀ (c : Addr) (A : Around) (outer : List Env) (s : Shared) (H : Hp) (E : XK), PySem.W.CodeHd base c T -> dZ k (A.deeper (envOfC qual (aN st) s.heap.objs.size f (.ref c))) ->
   tu (yu CX0 P w K mg base N qual (aN st) f (.ref c) A outer s H E).nox tb (iB st) g) : nj P w K mg base CX0 (k + 1) f fd ps (spD K tb n (aF N.length g)) := by
 obtain ⟨oc, od, kV, doc, pm, an, c, ct, osl, rfl, lk, hcd, hhd⟩ := F.ex
 refine Jr lk hcd S (λ vs H Q E ⟨W, ds, d, μ', e, ok, dl, hl, _⟩ => by rw [<- aA.length dl, hl, hps]) λ A outer s H vs Q E hr hsp => ?_
 obtain ⟨W, ds, d, μ', e, ok, dl, hl, hf, k⟩ := hsp
 refine ⟨_, (hbody c A outer s H E (hhd base KB) hr).nox, ?_⟩
 unfold aF at hf
 obtain ⟨⟨fl, δ', μ1⟩, e1, e2⟩ := Option.bind_eq_some_iff.mp hf
 refine ⟨W, _, fl, δ', μ1, e, ok, ?_, e1, λ σ' W' ok' l' m' d' => ?_⟩
 .have hlen := aA.length dl
  refine ⟨by unfold L2.start; simp [hlen], λ i y q => ?_⟩
  unfold L2.start
  by_cases hi : i < ds.length
  .rw [List.getElem?_append_left (by simpa using hi), List.getElem?_map] at q
   cases q2 : ds[i]? with
   | none => rw [q2] at q; cases q
   | some z =>
    rw [q2] at q
    cases q
    obtain ⟨v, ev, dv⟩ := aA.get dl q2
    exact ⟨v, by rw [List.getElem?_append_left (by rw [List.length_map, <- hlen]; exact hi), List.getElem?_map, ev]; rfl, dv⟩
  .rw [List.getElem?_append_right (by simpa using hi), List.getElem?_replicate] at q
   split at q <;> cases q
 .cases fl with
  | nx => cases e2; exact k .non W' ok' l' m' qF
  | rt d0 => cases e2; exact λ v dv => k v W' ok' l' m' dv
  | bk => cases e2
  | ct => cases e2
def vB (vs : Array Value) : Bool := (match vs.getD 18 .none with | .str _ _ => true | _ => false) && (match vs.getD 7 .none with | .int _ _ => true | _ => false) &&
 (match vs.getD 9 .none with | .bool _ => true | _ => false) && (match vs.getD 10 .none with | .int _ _ => true | _ => false)
theorem Bf {K : PySem.W.Frag} {c P : Addr} {dd : Option Addr} {vs : Array Value} {sl : Array (Option Value)} (lc : K.lookup c = some ⟨.type "code", dd, .fields vs, sl⟩) (p : vs[11]? = some (.ref P)) (q : vB vs = true) (ne : (c != P) = true) : PySem.W.codeHdIn K c P = true := by
 unfold PySem.W.codeHdIn
 rw [lc]
 unfold vB at q
 simp only [Bool.and_eq_true] at q ⊢
 obtain ⟨⟨⟨q1, q2⟩, q3⟩, q4⟩ := q
 refine ⟨⟨⟨⟨⟨?_, q1⟩, q2⟩, q3⟩, q4⟩, ne⟩
 rw [p]
 exact beq_self_eq_true P
theorem FW {K : PySem.W.Frag} {x qual : Str} {st : Stmt} {f c P : Addr} {oc : Value} {od an : Option Addr} {osl : Array (Option Value)} {kV doc pm ct : Value} {dd : Option Addr} {vs : Array Value} {sl : Array (Option Value)}
  (l : K.lookup f = some ⟨oc, od, .func (PySem.W.fnOf x qual (jw st) (iB st) (aN st) .none kV doc pm an (.ref c) ct), osl⟩) (hc : PySem.W.codeIn K (.ref c) qual = true) (k : PySem.W.keepIn K (.ref f) = true)
  (lc : K.lookup c = some ⟨.type "code", dd, .fields vs, sl⟩) (p : vs[11]? = some (.ref P)) (q : vB vs = true) (ne : (c != P) = true) : fB K x qual st f (PySem.W.fnOf x qual (jw st) (iB st) (aN st) .none kV doc pm an (.ref c) ct) P :=
 ⟨⟨oc, od, kV, doc, pm, an, c, ct, osl, rfl, l, hc, λ h X => PySem.W.codeHd_of_K X (Bf lc p q ne)⟩, k⟩
theorem JW {K : PySem.W.Frag} {x : Str} {f c P : Addr} {oc oc' : Value} {od dd : Option Addr} {fd : FuncData} {osl sl : Array (Option Value)} {vs : Array Value} (a : PySem.W.nsIn K mainGlobals x = some (some (.ref f))) (l : K.lookup f = some ⟨oc, od, .func fd, osl⟩) (hc : fd.code = .ref c)
  (lc : K.lookup c = some ⟨oc', dd, .fields vs, sl⟩) (p : vs[11]? = some (.ref P)) : PySem.W.tabIn K x = some (c, P) := by
 unfold PySem.W.tabIn
 rw [a]
 simp only [l, hc, lc, p]
theorem zr {q : Program} {lo : List Str} {mean : ExcName -> Option Value} {mg mb : Str -> Option Value} {h : Heap} {K : PySem.W.Frag} {x : Str} {c P : Addr} (T : Top q lo mean mg mb h) (X : K.In h) (hr : ((recsOf q).find? (λ e => e.name == x)).isSome = true) (ht : PySem.W.tabIn K x = some (c, P)) : PySem.W.CodeHd h c P /\ h.get? P = some (PySem.W.tabObj #[]) := by
 obtain ⟨d, hd⟩ := Option.isSome_iff_exists.mp hr
 exact PySem.W.tab_of T X hd ht
end L3
namespace L2
open PySem PySem.Spec PyProof.Rows HT
section
variable {prog : Program} {w : World} {A : Around} {E : Value -> Shared -> Prop} {s : Shared}
theorem mG {t sl : Addr} {items : Array Value} {vl vu : Value} {lo hi : Option Int} {Q : Value -> Shared -> Prop} (ht : IsTup s.heap t items) (hs : s.heap.IsSliceOf sl vl vu .none) (pl : IsPart vl lo) (pu : IsPart vu hi)
  (hw : sIx items.size 0 lo = 0 /\ sIx items.size items.size hi = items.size) (h : Q (.ref t) s) : wpAny (model prog w) A (getItem (.ref t) (.ref sl)) Q E s := by
 obtain ⟨os, hos, hcs, hds⟩ := id hs
 have hTs : s.TypeIs (.ref sl) "slice" := ⟨os, hos, hcs⟩
 unfold getItem
 try with_reducible refine wpAny_holding ?_
 first | refine wpAny_bind (wpAny_pure ?_) | skip
 refine wpAny_bind (wpAny_sequenceKey ht.typeIs (by decide) ?_)
 refine wpAny_bind (wpAny_callSpecial?_slot (name := Str.ofString "__getitem__") ht.typeIs PyProof.Rows.slot_tuple_getitem
  (wpAny_call_entry PyProof.Rows.slot_tuple_getitem ht.typeIs entry_tuple_getitem ?_ (args_tuple_getitem _ _)))
 show wpAny _ _ (Builtin.Tuple.tupleItemsOf (.ref t) >>= _) _ _ s
 refine wpAny_bind (tupleItemsOf_ ht ?_)
 refine wpAny_bind (wpAny_typeOf hTs ?_)
 rw [if_pos (by decide)]
 refine wpAny_bind (jK hs pl pu ?_)
 have hyes : (((sIx items.size 0 lo : Nat) : Int) == 0 && (1 : Int) == 1 && (sIx items.size items.size hi - sIx items.size 0 lo) == items.size) = true := by
  rw [hw.1, hw.2]
  simp
 show wpAny _ _ (if (((sIx items.size 0 lo : Nat) : Int) == 0 && (1 : Int) == 1 && (sIx items.size items.size hi - sIx items.size 0 lo) == items.size) = true then _ else _) _ _ s
 rw [if_pos hyes]
 refine wpAny_bind (m := Builtin.Tuple.tupleIsExact (.ref t)) (wpAny_bind (wpAny_typeOf ht.typeIs (wpAny_pure ?_)))
 rw [if_pos (by decide)]
 refine wpAny_bind (wpAny_rule ?_)
 first
  | exact wpAny_pure ⟨_, rfl, wpAny_pure h⟩
  | exact wpAny_bind (wpAny_pure (wpAny_pure ⟨_, rfl, wpAny_pure h⟩))
  | exact wpAny_pure (wpAny_pure h)
end
section
variable {X : Cx}
def rSlW (K : PySem.W.Frag) : V -> Option Int -> Option Int -> Hp -> VK -> Prop := λ x lo hi H Q => ∃ a xs, x = .ref a /\ SqT K H a xs /\
 (HT.sIx xs.length 0 lo = 0 /\ HT.sIx xs.length xs.length hi = xs.length) /\ Q (.ref a) H
theorem Gi : SlR X (rSlW X.K) := by
 intro pins s σ H x v vl vu lo hi sl Q I rx hs pl pu h
 obtain ⟨a, xs, rfl, hx, hw, q⟩ := h
 cases rx
 obtain ⟨its, r, ht, hz⟩ := I.tuple hx
 have hlen : its.toArray.size = xs.length := by rw [List.size_toArray]; exact r.length.symm
 refine ⟨"tuple", _, PyProof.Rows.slot_tuple_getitem.lookup, ht.typeIs, ?_⟩
 exact mG ht hs pl pu (by rw [hlen]; exact hw) ⟨.ref a, H, I, rfl, q⟩
end
section
variable {prog : Program} {w : World} {A : Around} {E : Value -> Shared -> Prop} {s : Shared}
theorem yI {e j l : Addr} {c : Bool} {i : Nat} {xs : Array Value} {x old : Value} {Q : Value -> Shared -> Prop} (he : IsEnum s.heap e j i old) (hj : dN c s.heap j l i) (hl : iu c s.heap l xs) (hx : xs[i]? = some x) (ne : e ≠ j)
  (hQ : ∀ h', IsEnumOut h' e j ((i : Int) + 1) x s.heap.objs.size -> dN c h' j l (i + 1) -> IsPair h' s.heap.objs.size (.int i s.toks) x -> h'.objs.size = s.heap.objs.size + 1 ->
   (∀ b o, b ≠ e -> b ≠ j -> s.heap.get? b = some o -> h'.get? b = some o) -> Q (.ref s.heap.objs.size) { s with heap := h', toks := s.toks + 1 }) :
  wpAny (model prog w) A (Builtin.«enumerate.__next__» ⟨[.ref e], []⟩) (λ fin s' => ∃ v, fin = .done (.ret v) /\ Q v s') E s := by
 obtain ⟨hp, gg, dr, tk, os⟩ := s
 show wpAny _ _ (field (.ref e) 2 >>= _) _ _ _
 refine wpAny_bind (wpAny_field he rfl (x := .ref j) rfl (wpAny_bind (gQ hj hl hx λ k1 j1 m1 => ?_)))
 replace m1 : Heap.SameBut j hp k1 := m1
 have e1 : IsEnum k1 e j i old := (m1.2 e ne).trans he
 show wpAny _ _ (field (.ref e) 3 >>= _) _ _ ⟨k1, gg, dr, tk, os⟩
 refine wpAny_bind (wpAny_field e1 rfl (x := rawInt i) rfl ?_)
 show wpAny _ _ (field (.ref e) 4 >>= _) _ _ ⟨k1, gg, dr, tk, os⟩
 refine wpAny_bind (wpAny_field e1 rfl (x := .none) rfl ?_)
 show wpAny _ _ (mkInt i >>= _) _ _ ⟨k1, gg, dr, tk, os⟩
 refine wpAny_bind (wpAny_mkInt ?_)
 show wpAny _ _ (setField (.ref e) 3 (rawInt ((i : Int) + 1)) >>= _) _ _ ⟨k1, gg, dr, tk + 1, os⟩
 refine wpAny_bind (wpAny_setField_rec e1 (by simp) λ k2 e2 m2 => ?_)
 replace m2 : Heap.SameBut e k1 k2 := m2
 replace e2 : IsEnum k2 e j ((i : Int) + 1) old := e2
 show wpAny _ _ (setField (.ref e) 4 .none >>= _) _ _ ⟨k2, gg, dr, tk + 1, os⟩
 refine wpAny_bind (wpAny_setField_rec e2 (by simp) λ k3 e3 m3 => ?_)
 replace m3 : Heap.SameBut e k2 k3 := m3
 replace e3 : IsEnum k3 e j ((i : Int) + 1) old := e3
 show wpAny _ _ (newTuple [.int i tk, x] >>= _) _ _ ⟨k3, gg, dr, tk + 1, os⟩
 refine wpAny_bind (wpAny_newTuple ?_)
 have n3 : k3.objs.size = hp.objs.size := by rw [m3.1, m2.1, m1.1]
 have lt : e < hp.objs.size := Heap.lt_size he
 obtain ⟨k4, hk4⟩ : ∃ k4, k3.push { cls := .type "tuple", data := .seq #[.int i tk, x] } = k4 := ⟨_, rfl⟩
 have e4 : IsEnum k4 e j ((i : Int) + 1) old := by rw [<- hk4]; exact Heap.get?_push_of_some _ e3
 have t4 : IsPair k4 hp.objs.size (.int i tk) x := by rw [<- hk4, <- n3]; exact Heap.get?_push_size _ rfl
 have n4 : k4.objs.size = hp.objs.size + 1 := by rw [<- hk4, Heap.size_push, n3]
 have o4 : ∀ b o, b ≠ e -> b ≠ j -> hp.get? b = some o -> k4.get? b = some o := λ b o q1 q2 q => by
  rw [<- hk4]
  exact Heap.get?_push_of_some _ (m3.extBut b o q1 (m2.extBut b o q1 (m1.extBut b o q2 q)))
 have j4 : dN c k4 j l (i + 1) := j1.at' λ o q => by
  rw [<- hk4]
  exact Heap.get?_push_of_some _ (m3.extBut _ o ne.symm (m2.extBut _ o ne.symm q))
 show wpAny _ _ (Builtin.SmallTypes.ownedTupleIsFree (.ref e) >>= _) _ _ ⟨k3.push _, gg, dr, tk + 1, os⟩
 rw [hk4, n3]
 refine wpAny_bind ?_
 unfold Builtin.SmallTypes.ownedTupleIsFree
 refine wpAny_bind (wpAny_field e4 rfl (x := .none) rfl (wpAny_pure ?_))
 simp only [if_true]
 refine wpAny_bind (wpAny_rule (wpAny_bind (wpAny_field e4 rfl (x := old) rfl (wpAny_bind (wpAny_setField_rec e4 (by simp) λ k5 e5 m5 => ?_)))))
 replace m5 : Heap.SameBut e k4 k5 := m5
 replace e5 : IsEnum k5 e j ((i : Int) + 1) x := e5
 show wpAny _ _ (Builtin.SmallTypes.ownedTupleHandOut (.ref e) (.ref hp.objs.size) >>= _) _ _ ⟨k5, gg, dr, tk + 1, os⟩
 refine wpAny_bind ?_
 unfold Builtin.SmallTypes.ownedTupleHandOut
 refine wpAny_bind (wpAny_setField_rec e5 (by simp) λ k6 e6 m6 => ?_)
 replace m6 : Heap.SameBut e k5 k6 := m6
 replace e6 : IsEnumOut k6 e j ((i : Int) + 1) x hp.objs.size := e6
 refine wpAny_setField_rec e6 (by simp) λ k7 e7 m7 => ?_
 replace m7 : Heap.SameBut e k6 k7 := m7
 replace e7 : IsEnumOut k7 e j ((i : Int) + 1) x hp.objs.size := e7
 have up : ∀ b o, b ≠ e -> k4.get? b = some o -> k7.get? b = some o := λ b o q1 q => m7.extBut b o q1 (m6.extBut b o q1 (m5.extBut b o q1 q))
 exact wpAny_bind (wpAny_letGo (wpAny_pure ⟨_, rfl, hQ k7 e7 (j4.at' λ o q => up _ o ne.symm q) (up _ _ (Nat.ne_of_gt lt) t4) (by rw [m7.1, m6.1, m5.1, n4]) λ b o q1 q2 q => up b o q1 (o4 b o q1 q2 q)⟩))
theorem nU {e j l : Addr} {c : Bool} {i : Nat} {xs : Array Value} {x old : Value} {Q : Option Value -> Shared -> Prop} (he : IsEnum s.heap e j i old) (hj : dN c s.heap j l i) (hl : iu c s.heap l xs) (hx : xs[i]? = some x) (ne : e ≠ j)
  (hQ : ∀ h', IsEnumOut h' e j ((i : Int) + 1) x s.heap.objs.size -> dN c h' j l (i + 1) -> IsPair h' s.heap.objs.size (.int i s.toks) x -> h'.objs.size = s.heap.objs.size + 1 ->
   (∀ b o, b ≠ e -> b ≠ j -> s.heap.get? b = some o -> h'.get? b = some o) -> Q (some (.ref s.heap.objs.size)) { s with heap := h', toks := s.toks + 1 }) : wpAny (model prog w) A (pyNext (.ref e)) Q E s := by
 have ty : s.TypeIs (.ref e) "enumerate" := ⟨_, he, rfl⟩
 unfold pyNext
 exact wpAny_bind (wpAny_attempt (wpAny_callSpecial?_slot (name := Str.ofString "__next__") ty F.slot_enumerate_next
  (wpAny_call_entry F.slot_enumerate_next ty F.entry_enumerate_next (yI he hj hl hx ne λ h' a1 a2 a3 a4 a5 => wpAny_pure (hQ h' a1 a2 a3 a4 a5)) (F.args_enumerate_next_1 _))))
theorem oW {e j l : Addr} {c : Bool} {i : Nat} {xs : Array Value} {old : Value} {Q : Option Value -> Shared -> Prop} (hh : A.handled = none) (he : IsEnum s.heap e j i old) (hj : dN c s.heap j l i) (hl : iu c s.heap l xs) (hx : xs[i]? = none)
  (hQ : ∀ h', Heap.ExtBut j s.heap h' -> Q none { s with heap := h' }) : wpAny (model prog w) A (pyNext (.ref e)) Q E s := by
 have ty : s.TypeIs (.ref e) "enumerate" := ⟨_, he, rfl⟩
 unfold pyNext
 refine wpAny_bind (wpAny_attempt (wpAny_callSpecial?_slot (name := Str.ofString "__next__") ty F.slot_enumerate_next
  (wpAny_call_entry F.slot_enumerate_next ty F.entry_enumerate_next ?_ (F.args_enumerate_next_1 _))))
 show wpAny _ _ (field (.ref e) 2 >>= _) _ _ _
 refine wpAny_bind (wpAny_field he rfl (x := .ref j) rfl (wpAny_bind (jB hh hj hl hx λ h' v k1 zq1 => ?_)))
 obtain ⟨o, q1, q2⟩ := zq1
 exact wpAny_bind (wpAny_isInstance (T := "StopIteration") (b := true) ⟨o, q1, q2⟩ isSubtype_stop (wpAny_pure (hQ _ k1)))
set_option maxHeartbeats 1000000 in
theorem Bc (c : Bool) (l : Addr) (xs : Array Value) :
  Meets (Builtin.«enumerate.__new__» ⟨[.type "enumerate", .ref l], []⟩) (λ _ R s => iu c s.heap l xs /\
   R (.ok (.ret (.ref (s.heap.push (iU c l)).objs.size))) { s with heap := (s.heap.push (iU c l)).push { cls := .type "enumerate", data := .fields #[.none, .bool false, .ref s.heap.objs.size, rawInt 0, .none, .none] } }) :=
 .of_wp λ prog w A R s h => by
  obtain ⟨hp, g, d, tk, os⟩ := s
  obtain ⟨hl, h⟩ := h
  have hsub := sub_enumerate
  have hL : iu c (Shared.heap ⟨hp, g, d, tk, os⟩) l xs := hl
  wp_walk
  refine wpAny_stack_any λ st => wpAny_pure ?_
  split
  .rename_i v _ _ _ _ _
   cases (v == Value.type "enumerate")
   .wp_walk using jH hL
    exact ⟨_, rfl, h⟩
   .wp_walk using jH hL
    exact ⟨_, rfl, h⟩
  .wp_walk using jH hL
   exact ⟨_, rfl, h⟩
theorem zF {c : Bool} {l : Addr} {xs : Array Value} {Q : Value -> Shared -> Prop} (hl : iu c s.heap l xs)
  (h : ∀ h', IsEnum h' (s.heap.objs.size + 1) s.heap.objs.size 0 .none -> dN c h' s.heap.objs.size l 0 -> (∀ b o, s.heap.get? b = some o -> h'.get? b = some o) -> Q (.ref (s.heap.objs.size + 1)) { s with heap := h' }) :
  wpAny (model prog w) A (call (.type "enumerate") [.ref l]) Q E s := by
 refine callType_new F.called_enumerate (by decide) (F.typeCall_enumerate_1 _) (F.newCall_enumerate_1 _) (λ obj => F.args_object_init_2 obj _) F.entry_enumerate_new (Bc c l xs) ⟨hl, ?_⟩
 have z1 : (s.heap.push (iU c l)).objs.size = s.heap.objs.size + 1 := Heap.size_push ..
 have g2 : ((s.heap.push (iU c l)).push { cls := .type "enumerate", data := .fields #[.none, .bool false, .ref s.heap.objs.size, rawInt 0, .none, .none] }).get? (s.heap.push (iU c l)).objs.size = some _ := Heap.get?_push_size _ rfl
 have g1 : dN c ((s.heap.push (iU c l)).push { cls := .type "enumerate", data := .fields #[.none, .bool false, .ref s.heap.objs.size, rawInt 0, .none, .none] }) s.heap.objs.size l 0 := (dN.new c _ l).at' λ o q => Heap.get?_push_of_some _ q
 show _ /\ _
 rw [z1] at g2 ⊢
 exact ⟨⟨_, g2, rfl⟩, h _ g2 g1 λ b o q => Heap.get?_push_of_some _ (Heap.get?_push_of_some _ q)⟩
end
def Ite (K : PySem.W.Frag) (c : Bool) (a : Addr) : It :=
 ⟨λ i H => ∃ xs x, SqB c K H a xs /\ xs[i]? = some x,
  λ i H v H' => ∃ p x, v = .ref p /\ H p = none /\ H' = upd H p (.tup [.int i, x]) /\ ∀ xs, SqB c K H a xs -> xs[i]? = some x,
  λ i H => ∃ xs, SqB c K H a xs /\ xs.length <= i⟩
def ESt (c : Bool) (e j a : Addr) (i : Nat) (h : Heap) : Prop := (∃ old, IsEnum h e j i old) /\ dN c h j a i
theorem Bq {P : Program} {w : World} {K : PySem.W.Frag} {elts : List Expr} {kk : Nat} {pos : Pos} (c : Bool) (e j a : Addr) (ne : e ≠ j) :
  Turn P w K (.Tuple elts kk pos) (Ite K c a) [e, j] e (ESt c e j a) where
 mem := by simp
 obj := λ i h st b hb => by
  obtain ⟨⟨old, he⟩, hj⟩ := st
  simp only [List.mem_cons, List.not_mem_nil, or_false] at hb
  rcases hb with rfl | rfl
  .exact ⟨_, he, λ v q => by cases q⟩
  .obtain ⟨o, q, d, _⟩ := hj.obj; exact ⟨o, q, d⟩
 keep := λ i h h' st k => by
  obtain ⟨⟨old, he⟩, hj⟩ := st
  exact ⟨⟨old, k e (by simp) _ he⟩, hj.at' λ o q => k j (by simp) o q⟩
 item := by
  intro X hP hw hK hc i pins s σ H E I hf st hg
  subst hP hw hK
  obtain ⟨⟨old, he⟩, hj⟩ := st
  obtain ⟨xs, x, hx, ex⟩ := hg
  obtain ⟨its, r, p, z⟩ := I.sqB hx
  obtain ⟨u, eu, ru⟩ := r.get ex
  have fe := hf e (by simp)
  have fj := hf j (by simp)
  have lte : e < s.heap.objs.size := Heap.lt_size he
  have ltj : j < s.heap.objs.size := let ⟨_, q, _⟩ := hj.obj; Heap.lt_size q
  refine nU he hj p (x := u) (by simpa using eu) ne λ h' q1 q2 q3 q4 q5 => ⟨_, rfl, ?_⟩
  refine wpAny_letOwnedTupleGo_enum q1 λ h2 y1 y2 => ?_
  have hpn : H s.heap.objs.size = none := I.hok.fresh (Nat.le_refl _)
  have IA : Inv X pins σ (upd H s.heap.objs.size (.tup [.int i, x])) { s with heap := s.heap.push { cls := .type "tuple", data := .seq #[.int i s.toks, u] }, toks := s.toks + 1 } :=
   I.laid (t' := s.toks + 1) (o := .tup [.int i, x]) (λ b ob q => Heap.get?_push_of_some _ q) (Nat.le_refl _) ⟨by show 2 <= sizeLine; decide, [.int i s.toks, u], .cons ⟨_, rfl⟩ (.cons ru .nil), IsTup.new _ _⟩
  have hne : ∀ b ∈ [e, j], b ≠ s.heap.objs.size := λ b hb => by
   simp only [List.mem_cons, List.not_mem_nil, or_false] at hb
   rcases hb with rfl | rfl
   .exact Nat.ne_of_lt lte
   .exact Nat.ne_of_lt ltj
  have hf' : ∀ b ∈ [e, j], jM X pins (upd H s.heap.objs.size (.tup [.int i, x])) b := λ b hb => by
   obtain ⟨f0, f1⟩ := hf b hb
   exact ⟨by rw [aM (hne b hb)]; exact f0, f1⟩
  have IB : Inv X pins σ (upd H s.heap.objs.size (.tup [.int i, x])) { s with heap := h2, toks := s.toks + 1 } := by
   refine Inv.turnedL (s := { s with heap := s.heap.push { cls := .type "tuple", data := .seq #[.int i s.toks, u] }, toks := s.toks + 1 }) (t' := s.toks + 1) (fp := [e, j]) IA (λ b o hb q => ?_) hf'
   simp only [List.mem_cons, List.not_mem_nil, or_false, not_or] at hb
   by_cases hs : b = s.heap.objs.size
   .subst hs
    have q' : some ({ cls := .type "tuple", data := .seq #[.int i s.toks, u] } : Obj) = some o := (Heap.get?_push_size s.heap rfl).symm.trans q
    cases q'
    exact y2.extBut _ _ hb.1 q3
   .exact y2.extBut _ _ hb.1 (q5 b o hb.1 hb.2 (wR q hs))
  exact ⟨.ref s.heap.objs.size, _, IB, rfl, ⟨_, x, rfl, hpn, rfl, λ zs hzs => by rw [I.sqB_inj hzs hx]; exact ex⟩, ⟨⟨u, by simpa using y1⟩, q2.at' λ o q => y2.extBut _ _ ne.symm q⟩, λ b hb => (hf' b hb).1⟩
 done := by
  intro X hP hw hK hc i pins s σ H E I hf st hg
  subst hP hw hK
  obtain ⟨⟨old, he⟩, hj⟩ := st
  obtain ⟨xs, hx, hend⟩ := hg
  obtain ⟨its, r, p, z⟩ := I.sqB hx
  have hl := r.length
  refine oW (I.ok.hd hc) he hj p (by simp; omega) λ h' q => ⟨rfl, I.turnedL (t' := s.toks) (fp := [e, j]) (λ b o hb k => ?_) hf⟩
  simp only [List.mem_cons, List.not_mem_nil, or_false, not_or] at hb
  exact q b o hb.2 k
 self := λ _ _ _ _ _ st h => by
  obtain ⟨⟨old, he⟩, _⟩ := st
  exact wpAny_pyIter_enum he h
def Nj (K : PySem.W.Frag) (ta : TA) : TI := λ σ H R => ta σ H λ vs H1 => ∃ a c, vs = [.ref a] /\ (∃ xs, SqB c K H1 a xs) /\ R (Ite K c a) H1
section
variable {X : Cx}
theorem Gg {a : Expr} {ta : TA} {p pos p' : Pos} {elts : List Expr} {kk : Nat} (hg : Gl X "enumerate") (hm : X.mg "enumerate" = none) (ha : PA X [a] ta) (hs : starEach [a] X.env = [(false, eval a X.env)] := by rfl) :
  PI X (.Tuple elts kk p') (.Call (.Name "enumerate" p) [a] [] pos) (Nj X.K ta) := by
 intro pins s σ H R I h
 refine Call_ (jG I hg hm boot_enumerate (PyProof.Rows.callWith_type1 (thn (ha pos pins s σ H _ I h) λ us s1 ⟨vs, H1, I1, r1, q1⟩ => ?_) (by rw [hs]; rfl) (by rfl)))
 obtain ⟨a1, c, rfl, ⟨xs, hx⟩, q⟩ := q1
 obtain ⟨u, rfl, ru⟩ := vals1 r1
 cases ru
 obtain ⟨its, _, p1, _⟩ := I1.sqB hx
 refine zF p1 λ h' g1 g2 g3 => ?_
 refine wpAny_pyIter_enum g1 ?_
 refine ⟨_, [s1.heap.objs.size + 1, s1.heap.objs.size], _, _, H1, rfl, I1.kept (t' := s1.toks) g3, Bq c _ _ a1 (Nat.ne_of_gt (by omega)), ⟨⟨_, g1⟩, g2⟩, λ b hb => ?_, q⟩
 have hb' : s1.heap.objs.size <= b := by
  simp only [List.mem_cons, List.not_mem_nil, or_false] at hb
  rcases hb with q | q <;> rw [q] <;> first | exact Nat.le_add_right _ _ | exact Nat.le_refl _
 exact I1.fpOk hb' (I1.hok.fresh hb')
end
end L2
namespace L3
open PySem PySem.Spec PyProof.Rows L2
def fO (k : Nat) : List D -> List D
 | [] => []
 | d :: ds => .tup [.int k, d] :: fO (k + 1) ds
theorem pO : ∀ {ds : List D} {k i : Nat} {d : D}, (fO k ds)[i]? = some d -> ∃ x, d = .tup [.int ((k + i : Nat) : Int), x] /\ ds[i]? = some x
 | [], k, i, d, h => by simp [fO] at h
 | x :: ds, k, 0, d, h => by
  have h : some (D.tup [.int (k : Int), x]) = some d := by simpa [fO] using h
  cases h
  exact ⟨x, rfl, rfl⟩
 | x :: ds, k, i + 1, d, h => by
  obtain ⟨y, e, q⟩ := pO (ds := ds) (k := k + 1) (i := i) (by simpa [fO] using h)
  exact ⟨y, by rw [e]; congr 4; omega, by simpa using q⟩
theorem pI : ∀ (ds : List D) (k : Nat), (fO k ds).length = ds.length
 | [], k => rfl
 | d :: ds, k => by simp [fO, pI ds]
def oV (fs : AF) : IF := λ δ μ => (fs δ μ).bind λ r => match r.1 with
 | [x] => (bV x).map λ xs => (⟨fO 0 xs, none⟩, r.2)
 | _ => none
theorem rB {X : Cx} {tb : List Addr} {a : Expr} {fs : AF} {p pos : Pos} {p' : Pos} {elts : List Expr} {kk : Nat} (hm : X.mg "enumerate" = none) (ha : PAD X tb [a] fs) (hg : Gl X "enumerate" := by rfl) (hs : starEach [a] X.env = [(false, eval a X.env)] := by rfl) :
  PID X tb (.Tuple elts kk p') (.Call (.Name "enumerate" p) [a] [] pos) (oV fs) :=
 Aa (Gg hg hm ha hs) λ σ H R zq2 => by
  obtain ⟨W, δ, S, μ', e, ok, hd, hf, h⟩ := zq2
  unfold oV at hf
  obtain ⟨⟨zs, μ1⟩, e1, hf⟩ := Option.bind_eq_some_iff.mp hf
  match zs, e1, hf with
  | [x], e1, hf =>
   obtain ⟨xs, e2, e4⟩ := Option.map_eq_some_iff.mp (show (bV x).map (λ xs => ((⟨fO 0 xs, none⟩ : Src), μ1)) = some (S, μ') from hf)
   cases e4
   refine ⟨W, δ, [x], _, e, ok, hd, e1, λ vs W1 ok1 l1 m1 d1 => ?_⟩
   obtain ⟨u, rfl, du⟩ := aA.one d1
   obtain ⟨a1, us, rfl, q1, r1⟩ := zE du e2
   refine ⟨a1, _, rfl, ⟨us, iR q1 (Le.refl _)⟩, h _ W1 ok1 l1 m1 ⟨λ i W2 d l ok2 _ ei => ?_, λ i W2 l ok2 _ hi => ?_⟩⟩
   .obtain ⟨x0, rfl, ex⟩ := pO ei
    obtain ⟨vx, evx, dvx⟩ := aA.get (cu.mono' r1 l) ex
    refine ⟨⟨us, vx, iR q1 l, evx⟩, λ z H' ⟨p, x', ez, hp, eH, hx'⟩ => ?_⟩
    have ex' := hx' us (iR q1 l)
    rw [evx] at ex'; cases ex'
    obtain ⟨ok3, l3, e3⟩ := ok2.alloc (o := .tup [.int i, vx]) hp
    refine ⟨_, eH.symm, ok3, l3, rfl, ?_⟩
    rw [ez]
    show aV _ _ _ _ _
    unfold aV
    refine ⟨p, [.int i, vx], rfl, .inl (.inl e3), cu.mono' (aA.cons ?_ (aA.cons dvx aA.nil)) l3⟩
    have : ((0 + i : Nat) : Int) = (i : Int) := by omega
    rw [this]
    exact dO
   .have hi' : xs.length <= i := by rw [<- pI xs 0]; exact hi
    have l1' := aA.length r1
    exact ⟨us, iR q1 l, by omega⟩
abbrev PF := En -> Mu -> Option (Option Int × Mu)
def tDO (K : PySem.W.Frag) (tb : List Addr) (f : PF) : TO := λ σ H Q => ∃ W δ i μ', W.H = H /\ WOk K tb W /\ iT K tb W δ σ /\ f δ W.mu = some (i, μ') /\ ∀ W', WOk K tb W' -> Le tb W W' -> W'.mu = μ' -> Q i W'.H
def POD (X : Cx) (tb : List Addr) (e : Option Expr) (f : PF) : Prop := PO X e (tDO X.K tb f)
theorem Jf {X : Cx} {e : Option Expr} {t t' : TO} (h : PO X e t) (k : ∀ σ H Q, t' σ H Q -> t σ H Q) : PO X e t' := λ pins s σ H Q I hq => h pins s σ H Q I (k σ H Q hq)
def fNo : PF := λ _ μ => some (none, μ)
def fAt (f : EF) : PF := λ δ μ => (f δ μ).bind λ r => match r.1 with
 | .int i => some (some i, r.2)
 | _ => none
def cutD (ds : List D) (lo hi : Option Int) : List D := (ds.drop (HT.sIx ds.length 0 lo)).take (HT.sIx ds.length ds.length hi - HT.sIx ds.length 0 lo)
def oSl (x : D) (lo hi : Option Int) (μ : Mu) : Option (D × Mu) := match x with
 | .tup ds => some (.tup (cutD ds lo hi), μ)
 | .lst ds => some (.lst (cutD ds lo hi), μ)
 | .ro ds => some (.lst (cutD ds lo hi), μ)
 | .cell n => match μ[n]? with
  | some (some ds) => some (.lst (cutD ds lo hi), μ)
  | _ => none
 | _ => none
def mSl (f : EF) (fl fh : PF) : EF := λ δ μ => (f δ μ).bind λ r => (fl δ r.2).bind λ l => (fh δ l.2).bind λ u => oSl r.1 l.1 u.1 u.2
section
variable {X : Cx} {tb : List Addr} {e : Expr} {lo hi : Option Expr} {f : EF} {fl fh : PF} {pos p2 : Pos}
theorem iG : POD X tb none fNo := Jf Hn λ σ H Q zq1 => by
 obtain ⟨W, δ, i, μ', e, ok, hd, hf, h⟩ := zq1
 subst e; cases hf
 exact h W ok (Le.refl _) rfl
theorem iI (h : PD X tb e f) : POD X tb (some e) (fAt f) := Jf (GR h) λ σ H Q zq2 => by
 obtain ⟨W, δ, i, μ', e, ok, hd, hf, h⟩ := zq2
 unfold fAt at hf
 obtain ⟨⟨x, μ1⟩, e1, e2⟩ := Option.bind_eq_some_iff.mp hf
 cases x with
 | int j =>
  cases e2
  exact ⟨W, δ, _, _, e, ok, hd, e1, λ v W1 ok1 l1 m1 d1 => ⟨j, bj d1, h W1 ok1 l1 m1⟩⟩
 | _ => cases e2
theorem lX {K : PySem.W.Frag} {W : Wd} {ds : List D} {vs : List V} {l h : Option Int} (r : cu K tb W ds vs) : cu K tb W (cutD ds l h) (yf vs l h) := by
 unfold cutD yf
 rw [<- aA.length r]
 exact aA.take _ (aA.drop _ r)
theorem jr (he : PD X tb e f) (hl : POD X tb lo fl) (hh : POD X tb hi fh) : PD X tb (.Subscript e (.Slice lo hi none p2) pos) (mSl f fl fh) :=
 dY (xU (Jx.or (Gi.or zZ)) he hl hh) λ σ H Q zq3 => by
  obtain ⟨W, δ, d, μ', e, ok, hd, hf, h⟩ := zq3
  unfold mSl at hf
  obtain ⟨⟨x, μ1⟩, e1, hf⟩ := Option.bind_eq_some_iff.mp hf
  obtain ⟨⟨l, μ2⟩, e2, hf⟩ := Option.bind_eq_some_iff.mp hf
  obtain ⟨⟨u, μ3⟩, e3, hf⟩ := Option.bind_eq_some_iff.mp hf
  refine ⟨W, δ, x, μ1, e, ok, hd, e1, λ v W1 ok1 l1 m1 d1 => ⟨W1, δ, l, μ2, rfl, ok1, hd.mono' l1, (by rw [m1]; exact e2), λ W2 ok2 l2 m2 => ⟨W2, δ, u, μ3, rfl, ok2, hd.mono' (l1.trans l2), (by rw [m2]; exact e3), λ W3 ok3 l3 m3 => ?_⟩⟩⟩
  have d3 := Den.mono' d1 (l2.trans l3)
  have k : ∀ v W', WOk X.K tb W' -> Le tb W3 W' -> W'.mu = W3.mu -> Den X.K tb W' d v -> W3.mu = μ' -> Q v W'.H := λ v W' ok' l' m' d' q => h v W' ok' (((l1.trans l2).trans l3).trans l') (m'.trans q) d'
  cases x with
  | tup ds =>
   obtain ⟨a, xs, rfl, q, r⟩ := iQ d3
   cases hf
   by_cases hw : HT.sIx ds.length 0 l = 0 /\ HT.sIx ds.length ds.length u = ds.length
   .have e : cutD ds l u = ds := by unfold cutD; rw [hw.1, hw.2]; simp
    exact .inr (.inl ⟨a, xs, rfl, SqT.fz q, by rw [<- aA.length r]; exact hw, k (.ref a) W3 ok3 (Le.refl _) rfl (by rw [e]; exact d3) m3⟩)
   .exact .inl ⟨a, xs, rfl, SqT.fz q, by rw [<- aA.length r]; exact hw, λ p hp => lU ok3 (λ v W' ok' l' m' d' => k v W' ok' l' m' d' m3) (lX r) hp⟩
  | lst ds =>
   obtain ⟨a, xs, rfl, q, r⟩ := jF d3
   cases hf
   exact .inr (.inr ⟨a, xs, rfl, SqL.fz q, λ p hp => iV ok3 (λ v W' ok' l' m' d' => k v W' ok' l' m' d' m3) (lX r) hp⟩)
  | ro ds =>
   obtain ⟨a, xs, rfl, q, r⟩ := uB d3
   cases hf
   exact .inr (.inr ⟨a, xs, rfl, SqL.fz q, λ p hp => iV ok3 (λ v W' ok' l' m' d' => k v W' ok' l' m' d' m3) (lX r) hp⟩)
  | cell n =>
   obtain ⟨a, rfl, q⟩ := gK d3
   have hf : (match μ3[n]? with | some (some ds) => some (D.lst (cutD ds l u), μ3) | _ => none) = some (d, μ') := hf
   cases e4 : μ3[n]? with
   | none => rw [e4] at hf; cases hf
   | some o =>
    rw [e4] at hf
    cases o with
    | none => cases hf
    | some ds =>
     cases hf
     obtain ⟨xs, ex, r⟩ := ok3.cont n a ds q (by rw [m3]; exact e4)
     exact .inr (.inr ⟨a, xs, rfl, SqL.of ex, λ p hp => iV ok3 (λ v W' ok' l' m' d' => k v W' ok' l' m' d' m3) (lX r) hp⟩)
  | _ => cases hf
end
theorem Bm {zs : List V} {ws : List Value} (r : Vals zs ws) : ∀ (π : List Nat), Vals (π.map λ i => zs.getD i .non) (π.map λ i => ws.getD i .none)
 | [] => .nil
 | i :: π => by
  refine .cons ?_ (Bm r π)
  show L2.RelV (zs.getD i V.non) (ws.getD i Value.none)
  cases e : zs[i]? with
  | none =>
   have e2 := Vals.none_of r e
   rw [List.getD_eq_getElem?_getD, List.getD_eq_getElem?_getD, e, e2]
   rfl
  | some v =>
   obtain ⟨u, e2, rv⟩ := Vals.get r e
   rw [List.getD_eq_getElem?_getD, List.getD_eq_getElem?_getD, e, e2]
   exact rv
theorem wF {K : PySem.W.Frag} {tb : List Addr} {W : Wd} {ds : List D} {vs : List V} (r : cu K tb W ds vs) : ∀ (π : List Nat), cu K tb W (π.map λ i => ds.getD i .non) (π.map λ i => vs.getD i .non)
 | [] => aA.nil
 | i :: π => by
  refine aA.cons ?_ (wF r π)
  show aV K (Wd.fz tb W) W.ad (ds.getD i D.non) (vs.getD i V.non)
  have hl := aA.length r
  cases e : ds[i]? with
  | none =>
   have e2 : vs[i]? = none := by
    rw [List.getElem?_eq_none_iff] at e ⊢
    omega
   rw [List.getD_eq_getElem?_getD, List.getD_eq_getElem?_getD, e, e2]
   exact qF
  | some v =>
   obtain ⟨u, e2, rv⟩ := aA.get r e
   rw [List.getD_eq_getElem?_getD, List.getD_eq_getElem?_getD, e, e2]
   exact rv
end L3
namespace L2
open PySem PySem.Spec PyProof.Rows
abbrev VV : List (V × V) -> List (Value × Value) -> Prop := Paired λ p q => RelV p.1 q.1 /\ RelV p.2 q.2
end L2
namespace L3
open PySem PySem.Spec PyProof.Rows L2
theorem Az {X : Cx} : jo X (.type "range") (λ xs H Q => ∃ j, xs = [.int j] /\ ∀ p, H p = none -> Q (.ref p) (upd H p (.rng 0 j))) := by
 intro pins s σ H xs us Q I r h
 obtain ⟨j, rfl, q⟩ := h
 obtain ⟨u, rfl, ⟨t, rfl⟩⟩ := vals1 r
 exact call_range_1 ⟨.ref s.heap.objs.size, _, I.laid (a := s.heap.objs.size) (o := .rng 0 j) (λ b o e => Heap.get?_push_of_some _ e) (Nat.le_refl _) ⟨_, _, _, Heap.get?_push_size _ rfl⟩, rfl, q _ (I.hok.fresh (Nat.le_refl _))⟩
def Ff (lo : Int) (n : Nat) : List V := (List.range n).map λ (k : Nat) => V.int (lo + (k : Int))
theorem uF {lo : Int} : ∀ {acc : List Value} {n k : Nat}, acc.length = n -> (∀ j v, acc[j]? = some v -> ∃ t, v = Value.int (lo + ((k + j : Nat) : Int)) t) -> Vals ((List.range' k n).map λ (i : Nat) => V.int (lo + (i : Int))) acc
 | [], n, k, e, _ => by cases e; exact .nil
 | v :: r, n, k, e, h => by
  cases e
  rw [List.length_cons, List.range'_succ, List.map_cons]
  refine .cons ?_ (uF rfl λ j u hu => ?_)
  .obtain ⟨t, q⟩ := h 0 v rfl
   exact ⟨t, by simpa using q⟩
  .obtain ⟨t, q⟩ := h (j + 1) u hu
   exact ⟨t, by rw [q]; congr 2; omega⟩
theorem tK {X : Cx} (hc : X.calm = true) : jo X (.type "list") (λ xs H Q => ∃ p i j, xs = [.ref p] /\ H p = some (.rng i j) /\ (-(2 ^ 62) <= i /\ i < 2 ^ 62 /\ -(2 ^ 62) <= j /\ j < 2 ^ 62) /\ (j - i).toNat <= sizeLine /\ ∀ l, H l = none -> Q (.ref l) (upd H l (.lst (Ff i (j - i).toNat)))) := by
 intro pins s σ H xs us Q I r h
 obtain ⟨p, i, j, rfl, hp, ⟨h1, h2, h3, h4⟩, hz, q⟩ := h
 obtain ⟨u, rfl, rx⟩ := vals1 r
 cases rx
 obtain ⟨t, u, v, ho⟩ := I.hok p _ hp
 have hn : Builtin.Range.rangeSize i j 1 = ((j - i).toNat : Nat) := by rw [rangeSize_one]; split <;> omega
 refine call_list_range (I.ok.hd hc) ho (small_one h1 h2 h3 h4) hn (by rw [sizeLine_eq] at hz; omega) λ h' tk acc' c' kp e it => ?_
 obtain ⟨e1, e2⟩ := it
 have hv : Vals (Ff i (j - i).toNat) acc'.toList := by
  unfold Ff
  rw [List.range_eq_range']
  refine uF (by simpa using e1) λ k v hk => ?_
  obtain ⟨t, q⟩ := e2 k v (by simpa using hk)
  exact ⟨t, by rw [q]; congr 1; first | done | omega⟩
 exact ⟨.ref s.heap.objs.size, _, I.laid (t' := tk) kp (Nat.le_refl _) (show iK X.prog X.w _ h' _ (.lst _) from ⟨by rw [hv.length]; simpa [e1] using hz, acc'.toList, c', hv, by rw [Array.toArray_toList]; exact e⟩), rfl, q _ (I.hok.fresh (Nat.le_refl _))⟩
def Ab (fs : AF) : LF := λ δ μ => (fs δ μ).bind λ r => match r.1 with
 | [.int j] => if -(2 ^ 62) <= j /\ j < 2 ^ 62 /\ j.toNat <= sizeLine then some (cU 0 j.toNat, r.2) else none
 | _ => none
theorem zO {K : PySem.W.Frag} {F : Hp} {ad : List Addr} {lo : Int} : ∀ (l : List Nat), aA K F ad (l.map λ (k : Nat) => D.int (lo + (k : Int))) (l.map λ (k : Nat) => V.int (lo + (k : Int)))
 | [] => aA.nil
 | k :: l => aA.cons (by unfold aV; rfl) (zO l)
section
variable {X : Cx} {tb : List Addr} {a b : Expr} {fs : AF} {p p2 pos pos2 : Pos}
theorem DX (hc : X.calm = true) (hm : X.mg "list" = none) (hm2 : X.mg "range" = none) (ha : PAD X tb [a] fs) (hg : Gl X "list" := by rfl) (hg2 : Gl X "range" := by rfl) (he : starEach [a] X.env = (false, eval a X.env) :: starEach [] X.env := by rfl)
  (he2 : starEach [.Call (.Name "range" p2) [a] [] pos2] X.env = (false, eval (.Call (.Name "range" p2) [a] [] pos2) X.env) :: starEach [] X.env := by rfl) :
  PDN X tb (.Call (.Name "list" p) [.Call (.Name "range" p2) [a] [] pos2] [] pos) (Ab fs) :=
 dY (mq (tK hc) hg hm PyProof.Rows.boot_list (oE (mq Az hg2 hm2 PyProof.Rows.boot_range ha (by decide) (by decide) he (by rfl)) vL he2) (by decide) (by decide) he2 (by rfl)) λ σ H Q zq3 => by
  obtain ⟨W, δ, ds, μ', e, ok, hd, hf, k⟩ := zq3
  unfold Ab at hf
  obtain ⟨⟨xs, μ1⟩, e1, e2⟩ := Option.bind_eq_some_iff.mp hf
  match xs, e1, e2 with
  | [.int j], e1, e2 =>
   have e2' : (if -(2 ^ 62) <= j /\ j < 2 ^ 62 /\ j.toNat <= sizeLine then some (cU 0 j.toNat, μ1) else none) = some (ds, μ') := e2
   split at e2'
   .rename_i hj
    cases e2'
    refine ⟨W, δ, [.int j], _, e, ok, hd, e1, λ vs W1 ok1 l1 m1 d1 => ?_⟩
    obtain ⟨v, rfl, dv⟩ := aA.one d1
    rw [bj dv]
    refine ⟨j, rfl, λ q hq => ?_⟩
    obtain ⟨ok2, l2, eq⟩ := ok1.alloc (o := .rng 0 j) hq
    refine ⟨q, 0, j, rfl, dq, ⟨by omega, by omega, by omega, by omega⟩, by simpa using hj.2.2, λ l hl => ?_⟩
    have := k l (Ff 0 (j - 0).toNat) _ ok2 (l1.trans l2) m1 hl (by simpa [cU, Ff] using zO (List.range j.toNat) (lo := 0))
    exact this
   .cases e2'
end
def rZ (f : EF) : EF := λ δ μ => (f δ μ).bind λ r => match r.1 with
 | .cell n => (r.2.getD n none).map λ ds => (.lst ds, r.2.set n none)
 | d => some (d, r.2)
theorem lu {X : Cx} {tb : List Addr} {e : Expr} {f : EF} (h : PD X tb e f) : PD X tb e (rZ f) :=
 dY h λ σ H Q zq1 => by
  obtain ⟨W, δ, d, μ', e, ok, hd, hf, k⟩ := zq1
  unfold rZ at hf
  obtain ⟨⟨x, μ1⟩, e1, e2⟩ := Option.bind_eq_some_iff.mp hf
  refine ⟨W, δ, x, μ1, e, ok, hd, e1, λ v W1 ok1 l1 m1 d1 => ?_⟩
  cases x with
  | cell n =>
   obtain ⟨ds, e3, e4⟩ := Option.map_eq_some_iff.mp e2
   cases e4
   obtain ⟨a, rfl, ea⟩ := gK d1
   have em : W1.mu[n]? = some (some ds) := by
    rw [m1]
    rw [List.getD_eq_getElem?_getD] at e3
    cases q : μ1[n]? with
    | none => rw [q] at e3; cases e3
    | some z => rw [q] at e3; exact congrArg some e3
   obtain ⟨ok2, l2, d2⟩ := ok1.freeze ea em
   exact k _ ⟨W1.H, W1.ad, W1.mu.set n none⟩ ok2 (l1.trans l2) (by show W1.mu.set n none = _; rw [m1]) d2
  | _ => cases e2; exact k v W1 ok1 l1 m1 d1
mutual
def cLt (m : Nat) : D -> Bool
 | .tup ds => lJ m ds
 | .lst ds => lJ m ds
 | .ro ds => lJ m ds
 | .dic kvs => wO m kvs
 | .cell n => decide (n < m)
 | _ => true
def lJ (m : Nat) : List D -> Bool
 | [] => true
 | d :: ds => cLt m d && lJ m ds
def wO (m : Nat) : List (Key × D) -> Bool
 | [] => true
 | p :: ds => cLt m p.2 && wO m ds
end
section
variable {K : PySem.W.Frag} {F F' : Hp} {ad : List Addr} {m : Nat}
mutual
theorem aV.cut (s : kO F F') : ∀ (d : D) (v : V), cLt m d = true -> aV K F ad d v -> aV K F' (ad.take m) d v
 | .non, v, _, h => by unfold aV at h ⊢; exact h
 | .bl _, v, _, h => by unfold aV at h ⊢; exact h
 | .int _, v, _, h => by unfold aV at h ⊢; exact h
 | .str _, v, _, h => by unfold aV at h ⊢; exact h
 | .tup ds, v, c, h => by
  unfold aV at h ⊢; unfold cLt at c
  obtain ⟨a, xs, e, q, r⟩ := h
  exact ⟨a, xs, e, SqT.mono s q, aA.cut s ds xs c r⟩
 | .lst ds, v, c, h => by
  unfold aV at h ⊢; unfold cLt at c
  obtain ⟨a, xs, e, q, r⟩ := h
  exact ⟨a, xs, e, s _ _ q, aA.cut s ds xs c r⟩
 | .ro ds, v, c, h => by
  unfold aV at h ⊢; unfold cLt at c
  obtain ⟨a, xs, e, q, r⟩ := h
  exact ⟨a, xs, e, SqL.mono s q, aA.cut s ds xs c r⟩
 | .dic kvs, v, c, h => by
  unfold aV at h ⊢; unfold cLt at c
  obtain ⟨a, ps, e, q, r⟩ := h
  exact ⟨a, ps, e, s _ _ q, iJ.cut s kvs ps c r⟩
 | .cell n, v, c, h => by
  unfold aV at h ⊢; unfold cLt at c
  obtain ⟨a, e, q⟩ := h
  exact ⟨a, e, by rw [List.getElem?_take_of_lt (by simpa using c)]; exact q⟩
theorem aA.cut (s : kO F F') : ∀ (ds : List D) (vs : List V), lJ m ds = true -> aA K F ad ds vs -> aA K F' (ad.take m) ds vs
 | [], vs, _, h => by unfold aA at h ⊢; exact h
 | d :: ds, vs, c, h => by
  unfold aA at h ⊢; unfold lJ at c
  have c := (Bool.and_eq_true _ _).mp c
  obtain ⟨u, us, e, p, r⟩ := h
  exact ⟨u, us, e, aV.cut s d u c.1 p, aA.cut s ds us c.2 r⟩
theorem iJ.cut (s : kO F F') : ∀ (ds : List (Key × D)) (vs : List (Key × V)), wO m ds = true -> iJ K F ad ds vs -> iJ K F' (ad.take m) ds vs
 | [], vs, _, h => by unfold iJ at h ⊢; exact h
 | p :: ds, vs, c, h => by
  unfold iJ at h ⊢; unfold wO at c
  have c := (Bool.and_eq_true _ _).mp c
  obtain ⟨u, us, e, ⟨p1, p2⟩, r⟩ := h
  exact ⟨u, us, e, ⟨p1, aV.cut s p.2 u.2 c.1 p2⟩, iJ.cut s ds us c.2 r⟩
end
end
def cOk (m : Nat) (μ : Mu) : Bool := μ.all λ o => match o with
 | some ds => lJ m ds
 | none => true
theorem WOk.cut {K : PySem.W.Frag} {tb : List Addr} {W : Wd} {m : Nat} (ok : WOk K tb W) (c : cOk m (W.mu.take m) = true) :
  WOk K tb ⟨W.H, W.ad.take m, W.mu.take m⟩ /\ kO (W.fz tb) (Wd.fz tb ⟨W.H, W.ad.take m, W.mu.take m⟩) := by
 have lv : ∀ b, lA (W.ad.take m) (W.mu.take m) b -> lA W.ad W.mu b := λ b zq2 => by
  obtain ⟨i, es, e1, e2⟩ := zq2
  have h1 : i < m := by have := (List.getElem?_eq_some_iff.mp e1).1; simp at this; omega
  rw [List.getElem?_take_of_lt h1] at e1 e2
  exact ⟨i, es, e1, e2⟩
 have sm : kO (W.fz tb) (Wd.fz tb ⟨W.H, W.ad.take m, W.mu.take m⟩) := λ b u e => by
  obtain ⟨e1, e2, e3⟩ := cX e
  have q := mO (tb := tb) (W := ⟨W.H, W.ad.take m, W.mu.take m⟩) (b := b) (λ z => e2 (lv b z)) e3
  rw [q]; exact e1
 refine ⟨⟨by simp [ok.len], λ i a ds e1 e2 => ?_, λ i j a ds es e1 e2 e3 e4 => ?_, ok.tab⟩, sm⟩
 .have h1 : i < m := by have := (List.getElem?_eq_some_iff.mp e1).1; simp at this; omega
  have cd : lJ m ds = true := by
   have := List.all_eq_true.mp c (some ds) (List.mem_of_getElem? e2)
   exact this
  have e1' : (W.ad.take m)[i]? = some a := e1
  have e2' : (W.mu.take m)[i]? = some (some ds) := e2
  rw [List.getElem?_take_of_lt h1] at e1' e2'
  obtain ⟨xs, e, r⟩ := ok.cont i a ds e1' e2'
  exact ⟨xs, e, aA.cut sm ds xs cd r⟩
 .have h1 : i < m := by have := (List.getElem?_eq_some_iff.mp e1).1; simp at this; omega
  have h2 : j < m := by have := (List.getElem?_eq_some_iff.mp e2).1; simp at this; omega
  have e1' : (W.ad.take m)[i]? = some a := e1
  have e2' : (W.ad.take m)[j]? = some a := e2
  have e3' : (W.mu.take m)[i]? = some (some ds) := e3
  have e4' : (W.mu.take m)[j]? = some (some es) := e4
  rw [List.getElem?_take_of_lt h1] at e1' e3'
  rw [List.getElem?_take_of_lt h2] at e2' e4'
  exact ok.inj i j a ds es e1' e2' e3' e4'
def trunc (φ : FF) : FF := λ ds μ => (φ ds μ).bind λ r => if (cLt μ.length r.1 && cOk μ.length (r.2.take μ.length)) = true then some (r.1, r.2.take μ.length) else some r
theorem FI.trunc {P : Program} {w : World} {K : PySem.W.Frag} {mg : Str -> Option Value} {base : Heap} {tb : List Addr} {x : Str} {n k : Nat} {φ : FF} (F : FI P w K mg base tb x n k φ) : FI P w K mg base tb x n k (trunc φ) := by
 obtain ⟨f, fd, ps, h1, h2⟩ := F.is
 refine ⟨f, fd, ps, h1.imp λ vs H Q E ⟨W, ds, d, μ', e, ok, dl, hl, hf, k⟩ => ?_, h2⟩
 unfold L3.trunc at hf
 obtain ⟨⟨d1, μ1⟩, e1, e2⟩ := Option.bind_eq_some_iff.mp hf
 split at e2
 .rename_i hc
  have hc := (Bool.and_eq_true _ _).mp hc
  cases e2
  refine ⟨W, ds, d1, μ1, e, ok, dl, hl, e1, λ v W' ok' l' m' d' => ?_⟩
  obtain ⟨ok2, sm⟩ := ok'.cut (m := W.mu.length) (by rw [m']; exact hc.2)
  exact k v ⟨W'.H, W'.ad.take W.mu.length, W'.mu.take W.mu.length⟩ ok2 ⟨l'.same.trans sm, λ i x q => by
   have hi : i < W.mu.length := by rw [<- ok.len]; exact (List.getElem?_eq_some_iff.mp q).1
   show (W'.ad.take W.mu.length)[i]? = some x
   rw [List.getElem?_take_of_lt hi]; exact l'.ad i x q⟩ (by show W'.mu.take _ = _; rw [m']) (aV.cut sm d1 v hc.1 d')
 .cases e2
  exact ⟨W, ds, d, μ', e, ok, dl, hl, e1, k⟩
noncomputable def Kw : Nat -> (FF -> FF) -> FF
 | 0, _ => λ _ _ => none
 | n + 1, F => F (Kw n F)
theorem jd {φ : FF} {ds : List D} {μ μ' : Mu} {d : D} (h : φ ds μ = some (d, μ')) (hl : μ'.length = μ.length) : trunc φ ds μ = some (d, μ') := by
 unfold trunc
 rw [h]
 simp only [Option.bind_some]
 rw [<- hl, List.take_length]
 split <;> rfl
theorem gF {φ : FF} {ds : List D} {μ : Mu} {d : D} (h : φ ds μ = some (d, μ)) : trunc φ ds μ = some (d, μ) := jd h rfl
end L3
namespace HT
open PySem PySem.Spec PyProof.Rows
section
variable {prog : Program} {w : World} {A : Around} {E : Value -> Shared -> Prop} {s : Shared}
theorem yO (n : Nat) : Builtin.Slice.sliceAdjust none none (-1) (n : Int) = ((n : Int) - 1, -1) := rfl
theorem zG (n : Nat) : Builtin.Slice.slicePlaces ((n : Int) - 1) (-1) (-1) = n := by
 unfold Builtin.Slice.slicePlaces
 rw [if_neg (by decide)]
 split
 .simp
 .simp; omega
theorem rn {α β : Type} {f g : α -> Option β} : ∀ {l : List α}, (∀ x ∈ l, f x = g x) -> l.filterMap f = l.filterMap g
 | [], _ => rfl
 | x :: l, h => by
  rw [List.filterMap_cons, List.filterMap_cons, h x (by simp), rn λ y hy => h y (by simp [hy])]
theorem uq (xs : Array Value) : ((List.range xs.size).filterMap λ (m : Nat) => xs[(((xs.size : Int) - 1) + (m : Int) * (-1)).toNat]?).toArray = xs.toList.reverse.toArray := by
 congr 1
 have e : ((List.range xs.size).filterMap λ (m : Nat) => xs[(((xs.size : Int) - 1) + (m : Int) * (-1)).toNat]?) = (List.range xs.size).filterMap λ (m : Nat) => xs.toList.reverse.toArray[((0 : Nat) : Int).toNat + m]? := by
  refine rn λ m hm => ?_
  have hm := List.mem_range.mp hm
  have e : (((xs.size : Int) - 1) + (m : Int) * (-1)).toNat = xs.size - 1 - m := by omega
  rw [e]
  simp [List.getElem?_reverse (l := xs.toList) (show m < xs.toList.length by simpa using hm)]
 rw [e]
 have := pick_run xs.toList.reverse.toArray 0 xs.size
 rw [List.filterMap_map] at this
 have e2 : (((λ x => xs.toList.reverse.toArray[x]?) ∘ λ x => 0 + x)) = λ (m : Nat) => xs.toList.reverse.toArray[((0 : Nat) : Int).toNat + m]? := rfl
 rw [e2] at this
 rw [this]
 simp [List.take_of_length_le]
theorem pJ {sl : Addr} {t : Tok} {n : Nat} {Q : Int × Int × Nat -> Shared -> Prop} (hs : s.heap.IsSliceOf sl .none .none (.int (-1) t))
  (h : Q ((n : Int) - 1, -1, n) s) : wpAny (model prog w) A (Builtin.Slice.sliceApplied (.ref sl) (pure (n : Int))) Q E s := by
 obtain ⟨os, hos, hcs, hds⟩ := id hs
 unfold Builtin.Slice.sliceApplied Builtin.Slice.sliceFields
 refine wpAny_bind (wpAny_bind (wpAny_field hos hds (x := .none) rfl (wpAny_bind (wpAny_field hos hds (x := .none) rfl (wpAny_bind (wpAny_field hos hds (x := .int (-1) t) rfl (wpAny_pure ?_)))))))
 refine wpAny_bind (slicePart_int ?_)
 show wpAny _ _ (if ((-1 : Int) == 0) = true then _ else _) _ _ s
 rw [if_neg (by decide)]
 refine wpAny_bind (slicePart_none (wpAny_bind (slicePart_none (wpAny_bind (wpAny_pure ?_)))))
 show wpAny _ _ (match Builtin.Slice.sliceAdjust none none (-1) (n : Int) with | (lo, hi) => pure (lo, (-1 : Int), Builtin.Slice.slicePlaces lo hi (-1))) _ _ s
 rw [yO n]
 show wpAny _ _ (pure ((n : Int) - 1, (-1 : Int), Builtin.Slice.slicePlaces ((n : Int) - 1) (-1) (-1))) _ _ s
 rw [zG]
 exact wpAny_pure h
theorem getItem_tuple_back {t sl : Addr} {items : Array Value} {tk : Tok} {Q : Value -> Shared -> Prop} (ht : IsTup s.heap t items) (hs : s.heap.IsSliceOf sl .none .none (.int (-1) tk))
  (h : Q (.ref s.heap.objs.size) { s with heap := s.heap.push { cls := .type "tuple", data := .seq items.toList.reverse.toArray } })
  (hsz : items.size <= sizeLine) : wpAny (model prog w) A (getItem (.ref t) (.ref sl)) Q E s := by
 have htake : sizeOk (.seq items.toList.reverse.toArray) := by
  show items.toList.reverse.toArray.size <= sizeLine
  simpa using hsz
 obtain ⟨os, hos, hcs, hds⟩ := id hs
 have hTs : s.TypeIs (.ref sl) "slice" := ⟨os, hos, hcs⟩
 unfold getItem
 try with_reducible refine wpAny_holding ?_
 first | refine wpAny_bind (wpAny_pure ?_) | skip
 refine wpAny_bind (wpAny_sequenceKey ht.typeIs (by decide) ?_)
 refine wpAny_bind (wpAny_callSpecial?_slot (name := Str.ofString "__getitem__") ht.typeIs PyProof.Rows.slot_tuple_getitem
  (wpAny_call_entry PyProof.Rows.slot_tuple_getitem ht.typeIs entry_tuple_getitem ?_ (args_tuple_getitem _ _)))
 show wpAny _ _ (Builtin.Tuple.tupleItemsOf (.ref t) >>= _) _ _ s
 refine wpAny_bind (tupleItemsOf_ ht ?_)
 refine wpAny_bind (wpAny_typeOf hTs ?_)
 rw [if_pos (by decide)]
 refine wpAny_bind (pJ hs ?_)
 have hno : ¬ ((((items.size : Int) - 1) == 0 && (-1 : Int) == 1 && items.size == items.size) = true) := by
  intro q
  rw [Bool.and_eq_true, Bool.and_eq_true] at q
  exact absurd q.1.2 (by decide)
 show wpAny _ _ (if ((((items.size : Int) - 1) == 0 && (-1 : Int) == 1 && items.size == items.size) = true) then _ else _) _ _ s
 rw [if_neg hno, uq]
 first
  | exact wpAny_bind (m := Builtin.Tuple.tupleExact _) (wpAny_newObj_type (wpAny_pure ⟨_, rfl, wpAny_pure h⟩) htake)
  | exact wpAny_bind (m := Builtin.Tuple.tupleExact _) (wpAny_newObj_type (wpAny_bind (wpAny_pure (wpAny_pure ⟨_, rfl, wpAny_pure h⟩))) htake)
  | exact wpAny_bind (wpAny_bind (m := Builtin.Tuple.tupleExact _) (wpAny_newObj_type (wpAny_pure (wpAny_pure ⟨_, rfl, wpAny_pure h⟩)) htake))
  | exact wpAny_bind (wpAny_bind (m := Builtin.Tuple.tupleExact _) (wpAny_newObj_type (wpAny_pure ⟨_, rfl, wpAny_pure h⟩) htake))
theorem slicePick_back (its : List Value) : slicePick its.toArray none none (some (-1)) = its.reverse.toArray := by
 unfold slicePick
 have e1 : (sliceBounds none none (some (-1)) its.toArray.size) = ((its.toArray.size : Int) - 1, -1, -1) := rfl
 rw [e1]
 have := uq its.toArray
 simp only at this
 rw [<- this]
 congr 1
 unfold sliceRange
 have e2 : (if ((-1 : Int)) > 0 then (if ((its.toArray.size : Int) - 1) < -1 then (-1 - ((its.toArray.size : Int) - 1) + -1 - 1) / -1 else 0) else (if ((its.toArray.size : Int) - 1) > -1 then ((its.toArray.size : Int) - 1 - -1 - -1 - 1) / -(-1) else 0)).toNat = its.toArray.size := by
  rw [if_neg (by decide)]
  split
  .simp
  .simp; simp at *; omega
 simp only [e2, List.filterMap_map]
 refine rn λ m hm => ?_
 show its.toArray[(((its.toArray.size : Int) - 1) + -1 * (m : Int)).toNat]? = its.toArray[(((its.toArray.size : Int) - 1) + (m : Int) * -1).toNat]?
 rw [Int.mul_comm]
end
end HT
namespace L2
open PySem PySem.Spec PyProof.Rows
def Oe (K : PySem.W.Frag) : V -> Hp -> VK -> Prop := λ x H Q => ∃ a xs, x = .ref a /\ ((SqT K H a xs /\ ∀ p, H p = none -> Q (.ref p) (upd H p (.tup xs.reverse))) ∨ (SqL K H a xs /\ ∀ p, H p = none -> Q (.ref p) (upd H p (.lst xs.reverse))))
def OD (K : PySem.W.Frag) (te : TE) : TE := λ σ H Q => te σ H λ x H1 => Oe K x H1 Q
theorem HR {X : Cx} {e : Expr} {te : TE} {pos p2 p3 p4 : Pos} {j} (he : PE X e te) (hstep : PE X (.UnaryOp .USub (.Constant (.int 1) j p3) p4) (λ _ H Q => Q (.int (-1)) H)) : PE X (.Subscript e (.Slice none none (some (.UnaryOp .USub (.Constant (.int 1) j p3) p4)) p2) pos) (OD X.K te) := by
 intro pins s σ H Q I h
 refine Subscript_ (thn (he pins s σ H _ I h) λ v s1 zq1 => ?_)
 obtain ⟨x, H1, I1, r1, q1⟩ := zq1
 refine wpAny_Slice ?_
 rw [evalPart_none]
 refine wpAny_pure (wpAny_pure ?_)
 rw [evalPart_some]
 refine thn (hstep pins s1 σ H1 (λ x H2 => x = .int (-1) /\ H2 = H1) I1 ⟨rfl, rfl⟩) λ u s3 zq2 => ?_
 obtain ⟨y, H3, I3, ry, ey, eH⟩ := zq2
 subst ey eH
 obtain ⟨tk, rfl⟩ := ry
 have I4 : Inv X pins σ H3 { s3 with heap := s3.heap.push { cls := .type "slice", data := .fields #[.none, .none, .int (-1) tk] } } := I3.kept (t' := s3.toks) λ b ob q => Heap.get?_push_of_some _ q
 have hs : (s3.heap.push { cls := .type "slice", data := .fields #[.none, .none, .int (-1) tk] }).IsSliceOf s3.heap.objs.size .none .none (.int (-1) tk) := Heap.IsSliceOf.new ..
 obtain ⟨a, xs, rfl, q⟩ := q1
 cases r1
 rcases q with ⟨hx, q⟩ | ⟨hx, q⟩
 .obtain ⟨its, r, ht, hz⟩ := I4.tuple hx
  have hg : wpAny (model X.prog X.w) X.A (getItem (.ref a) (.ref s3.heap.objs.size)) (EP X pins σ Q) X.xe { s3 with heap := s3.heap.push { cls := .type "slice", data := .fields #[.none, .none, .int (-1) tk] } } := by
   refine HT.getItem_tuple_back ht hs ?_ (by rw [List.size_toArray, <- r.length]; exact hz)
   exact ⟨.ref _, _, I4.laid (t' := s3.toks) (o := .tup xs.reverse) (λ b ob q => Heap.get?_push_of_some _ q) (Nat.le_refl _) ⟨by simpa using hz, _, r.reverse, IsTup.new _ _⟩, rfl, q _ (I4.hok.fresh (Nat.le_refl _))⟩
  exact tail_any (ops := [.ref a, .ref s3.heap.objs.size]) ht.typeIs PyProof.Rows.slot_tuple_getitem.lookup hg (by with_unfolding_all rfl)
 .obtain ⟨its, r, ht, hz⟩ := I4.list hx
  have hg : wpAny (model X.prog X.w) X.A (getItem (.ref a) (.ref s3.heap.objs.size)) (EP X pins σ Q) X.xe { s3 with heap := s3.heap.push { cls := .type "slice", data := .fields #[.none, .none, .int (-1) tk] } } := by
   refine wpAny_getItem_list_slice ht.isList hs .none .none (.int (-1) tk) (by decide) ?_ (by rw [List.size_toArray, <- r.length]; exact hz)
   rw [HT.slicePick_back]
   exact ⟨.ref _, _, I4.laid (t' := s3.toks) (o := .lst xs.reverse) (λ b ob q => Heap.get?_push_of_some _ q) (Nat.le_refl _) ⟨by simpa using hz, _, 0, r.reverse, Heap.get?_push_size _ rfl⟩, rfl, q _ (I4.hok.fresh (Nat.le_refl _))⟩
  exact tail_any (ops := [.ref a, .ref s3.heap.objs.size]) ht.isList.typeIs slot_list_getitem.lookup hg (by with_unfolding_all rfl)
end L2
namespace L3
open PySem PySem.Spec PyProof.Rows L2
def Hj (x : D) (μ : Mu) : Option (D × Mu) := (bC x μ).map λ ds => (if rO x then .tup ds.reverse else .lst ds.reverse, μ)
def xJ (f : EF) : EF := M1 f Hj
theorem JN {X : Cx} {tb : List Addr} {e : Expr} {f : EF} {pos p2 p3 p4 : Pos} {j} (he : PD X tb e f) : PD X tb (.Subscript e (.Slice none none (some (.UnaryOp .USub (.Constant (.int 1) j p3) p4)) p2) pos) (xJ f) :=
 dY (HR he (dY (Jg CV zp) λ σ H Q h => ⟨1, rfl, h⟩)) λ σ H Q zq3 => by
  obtain ⟨W, δ, d, μ', e, ok, hd, hf, h⟩ := zq3
  unfold xJ M1 at hf
  obtain ⟨⟨x, μ1⟩, e1, e2⟩ := Option.bind_eq_some_iff.mp hf
  obtain ⟨ds, e3, e4⟩ := Option.map_eq_some_iff.mp e2
  refine ⟨W, δ, x, μ1, e, ok, hd, e1, λ v W1 ok1 l1 m1 d1 => ?_⟩
  have e3 : bC x W1.mu = some ds := by rw [m1]; exact e3
  obtain ⟨a, xs, rfl, q, r⟩ := jN ok1 d1 e3
  refine ⟨a, xs, rfl, ?_⟩
  cases hx : rO x with
  | true =>
   rw [hx] at q e4
   cases e4
   exact .inl ⟨q, λ p hp => lU ok1 (λ v W' ok' l' m' d' => h v W' ok' (l1.trans l') (m'.trans m1) d') (aA.reverse r) hp⟩
  | false =>
   rw [hx] at q e4
   cases e4
   exact .inr ⟨q, λ p hp => iV ok1 (λ v W' ok' l' m' d' => h v W' ok' (l1.trans l') (m'.trans m1) d') (aA.reverse r) hp⟩
theorem vZ {K : PySem.W.Frag} {F : Hp} {ad : List Addr} : ∀ {ds : List D} {vs : List V} {d : D} {v : V} (j : Nat), aA K F ad ds vs -> aV K F ad d v -> aA K F ad (ds.set j d) (vs.set j v)
 | [], vs, d, v, j, r, h => by
  unfold aA at r
  subst r
  exact aA.nil
 | x :: ds, vs, d, v, j, r, h => by
  unfold aA at r
  obtain ⟨u, us, rfl, p, r⟩ := r
  cases j with
  | zero => exact aA.cons h r
  | succ j => exact aA.cons p (vZ j r h)
def wy (x o i : D) (μ : Mu) : Option Mu := match o, i with
 | .cell n, .int k => match μ[n]? with
  | some (some ds) => (ixN ds.length k).map λ j => μ.set n (some (ds.set j x))
  | _ => none
 | _, _ => none
def Dz (f fo fi : EF) : SF := λ δ μ => (f δ μ).bind λ r => (fo δ r.2).bind λ o => (fi δ o.2).bind λ i => (wy r.1 o.1 i.1 i.2).map λ μ' => (.nx, δ, μ')
theorem zT {X : Cx} {tb : List Addr} {o i e : Expr} {f fo fi : EF} {pos pos' : Pos} (he : PD X tb e f) (ho : PD X tb o fo) (hi : PD X tb i fi)
  (ha : ∀ v, assign (.Subscript o i pos') X.env v = (do
   let ov <- holding [v] (eval o X.env)
   let iv <- holding [v, ov] (eval i X.env)
   standAt pos'
   holding [v, ov, iv] (setItem ov iv v)
   release [v, ov, iv] []) := by intro _; rfl)
  (hs : swapsWithSole [.Subscript o i pos'] e pos.line X.env = pure false := by rfl) (hw : swappedStores [.Subscript o i pos'] e X.env = pure none := by rfl)
  (h1 : (assignEach [.Subscript o i pos'] X.env).map (·.2) = [assign (.Subscript o i pos') X.env] := by rfl) : PSD X tb (.Assign [.Subscript o i pos'] e pos) (Dz f fo fi) :=
 lw (Fw he (JH ho hi set_list ha) hs hw h1) λ E σ H zq1 => by
  obtain ⟨W, δ, fl, δ', μ', e, ok, hd, hf, h⟩ := zq1
  unfold Dz at hf
  obtain ⟨⟨x, μ1⟩, e1, hf⟩ := Option.bind_eq_some_iff.mp hf
  obtain ⟨⟨c, μ2⟩, e2, hf⟩ := Option.bind_eq_some_iff.mp hf
  obtain ⟨⟨k, μ3⟩, e3, hf⟩ := Option.bind_eq_some_iff.mp hf
  obtain ⟨μ4, e4, e5⟩ := Option.map_eq_some_iff.mp hf
  cases e5
  refine ⟨W, δ, x, μ1, e, ok, hd, e1, λ v W1 ok1 l1 m1 d1 => ⟨W1, δ, c, μ2, rfl, ok1, hd.mono' l1, (by rw [m1]; exact e2), λ u W2 ok2 l2 m2 d2 => ⟨W2, δ, k, μ3, rfl, ok2, hd.mono' (l1.trans l2), (by rw [m2]; exact e3), λ y W3 ok3 l3 m3 d3 => ?_⟩⟩⟩
  have d2 := Den.mono' d2 l3
  have d1 := Den.mono' d1 (l2.trans l3)
  cases c with
  | cell n =>
   cases k with
   | int k =>
    have e4' : (match μ3[n]? with | some (some ds) => (ixN ds.length k).map λ j => μ3.set n (some (ds.set j x)) | _ => none) = some μ' := e4
    cases e6 : μ3[n]? with
    | none => rw [e6] at e4'; cases e4'
    | some oo =>
     cases oo with
     | none => rw [e6] at e4'; cases e4'
     | some ds =>
      rw [e6] at e4'
      obtain ⟨j, e7, e8⟩ := Option.map_eq_some_iff.mp e4'
      obtain ⟨a, rfl, q⟩ := gK d2
      have e6 : W3.mu[n]? = some (some ds) := by rw [m3]; exact e6
      obtain ⟨xs, ex, r⟩ := ok3.cont n a ds q e6
      refine ⟨a, xs, k, j, rfl, bj d3, ex, by rw [<- aA.length r]; exact e7, ?_⟩
      obtain ⟨ok4, l4⟩ := ok3.write q e6 (vZ j r d1)
      exact h _ _ ok4 (((l1.trans l2).trans l3).trans l4) (by rw [<- e8, <- m3]) (hd.mono' (((l1.trans l2).trans l3).trans l4))
   | _ => cases e4
  | _ => cases e4
def Bv (i : Nat) (f : EF) (op : O2) : SF := λ δ μ => match δ[i]? with
 | some (some x) => (f δ μ).bind λ r => (op x r.1 r.2).map λ z => (.nx, δ.set i (some z.1), z.2)
 | _ => none
def Pu : O2
 | .int i, .int j, μ => some (.int (i + j), μ)
 | _, _, _ => none
def Ar : O2
 | .int i, .int j, μ => if iZ i j <= 134217728 then some (.int (i * j), μ) else none
 | _, _, _ => none
theorem Gd {X : Cx} : PIp X .Mult (λ x y H Q => ∃ i j, x = .int i /\ y = .int j /\ iZ i j <= 134217728 /\ Q (.int (i * j)) H) := by
 intro pins s σ H x y v u Q I r1 r2 h
 obtain ⟨i, j, e1, e2, hb, q⟩ := h
 subst e1; subst e2
 obtain ⟨t, rfl⟩ := r1
 obtain ⟨t', rfl⟩ := r2
 exact imul_int ⟨.int _, H, I.tok _, ⟨_, rfl⟩, q⟩ (IntMulOk.of_le (Nat.le_refl _) (Nat.le_refl _) hb)
section
variable {X : Cx} {tb : List Addr} {e : Expr} {f : EF} {pos pos' : Pos} {i : Nat} {x : Str}
theorem JM {op : Operator} {o : O2} {ti : TIp} (hN : X.N.Nodup) (he : PD X tb e f) (hip : PIp X op ti) (hi : X.N[i]? = some x) (hx : Loc X.env.scope x) (hf : X.fn x = true ∨ X.env.scope.names.lookup x = some .local)
  (ho : ∀ x y μ d μ', o x y μ = some (d, μ') -> μ' = μ /\ ∃ a b c, x = .int a /\ y = .int b /\ d = .int c /\ ∀ H Q, Q (.int c) H -> ti (.int a) (.int b) H Q) : PSD X tb (.AugAssign (.Name x pos') op e pos) (Bv i f o) :=
 lw (Ls hN hi hx he hip hf) λ E σ H zq2 => by
  obtain ⟨W, δ, fl, δ', μ', e, ok, hd, hf, h⟩ := zq2
  unfold Bv at hf
  cases e0 : δ[i]? with
  | none => rw [e0] at hf; cases hf
  | some oo =>
   cases oo with
   | none => rw [e0] at hf; cases hf
   | some z =>
    rw [e0] at hf
    obtain ⟨⟨y, μ1⟩, e1, hf⟩ := Option.bind_eq_some_iff.mp hf
    obtain ⟨⟨d, μ2⟩, e2, e3⟩ := Option.map_eq_some_iff.mp hf
    obtain ⟨rfl, a, b, c, rfl, rfl, rfl, q⟩ := ho _ _ _ _ _ e2
    cases e3
    obtain ⟨v, ev, dv⟩ := hd.2 i _ e0
    rw [bj dv] at ev
    refine ⟨.int a, ev, W, δ, _, _, e, ok, hd, e1, λ u W1 ok1 l1 m1 d1 => ?_⟩
    rw [bj d1]
    exact q _ _ (h _ W1 ok1 l1 m1 ((hd.mono' l1).set dO))
theorem yx (hN : X.N.Nodup) (he : PD X tb e f) (hi : X.N[i]? = some x := by rfl) (hx : Loc X.env.scope x := by first | exact Or.inl rfl | exact Or.inr rfl) (hf : X.fn x = true ∨ X.env.scope.names.lookup x = some .local := by first | exact .inl rfl | exact .inr rfl | assumption) : PSD X tb (.AugAssign (.Name x pos') .Mult e pos) (Bv i f Ar) :=
 JM hN he Gd hi hx hf λ x y μ d μ' h => by
  unfold Ar at h
  split at h
  .split at h
   .rename_i hb
    cases h
    exact ⟨rfl, _, _, _, rfl, rfl, rfl, λ H Q q => ⟨_, _, rfl, rfl, hb, q⟩⟩
   .cases h
  .cases h
end
def eqF : D -> D -> Bool
 | .non, .non => true
 | .bl a, .bl b => a == b
 | .bl a, .int b => (if a then 1 else 0) == b
 | .int a, .bl b => a == (if b then 1 else 0)
 | .int a, .int b => a == b
 | .str a, .str b => a == b
 | _, _ => false
def inF (x : D) (ds : List D) : Bool := ds.any λ y => eqF y x
open PySem.SeqAt
theorem DN {X : Cx} {k : Nat} (hr : dZ k X.A) : OpR X (compareOp .NotEq) (λ v u H Q => ∃ a b xs ys, v = .ref a /\ u = .ref b /\ SqL X.K H a xs /\ SqL X.K H b ys /\ xs.length ≠ ys.length /\ Q (.bl true) H) := by
 intro pins s σ H v u vv uu Q I rv ru h
 obtain ⟨a, b, xs, ys, rfl, rfl, hx, hy, hl, q⟩ := h
 have hun := hr.un
 cases rv
 cases ru
 obtain ⟨its0, iv0, pl0, hz0⟩ := I.list hx
 obtain ⟨its1, iv1, pl1, hz1⟩ := I.list hy
 have hl' : its0.length ≠ its1.length := by rw [<- iv0.length, <- iv1.length]; exact hl
 exact RcNeAt.lists_lengths (A := X.A) pl0.isList pl1.isList (by simpa using hl') (by omega) X.prog X.w X.xe _ ⟨.bl true, H, I, rfl, q⟩
def tH : O2 := λ x y μ => match x, y with
 | .lst ds, .lst [] => some (.bl (!ds.isEmpty), μ)
 | x, y => oNe x y μ
theorem yS {x y : D} {μ : Mu} : tH x y μ = oNe x y μ ∨ ∃ d ds, x = .lst (d :: ds) /\ y = .lst [] /\ tH x y μ = some (.bl true, μ) := by
 unfold tH
 split
 .rename_i ds
  cases ds with
  | nil => left; unfold oNe rsv; simp [cJ, dg, ie, gW, eqD, kJ]
  | cons d ds => exact .inr ⟨d, ds, rfl, rfl, rfl⟩
 .exact .inl rfl
theorem yQ {X : Cx} {tb : List Addr} {k : Nat} (hr : dZ k X.A) : OpD X tb (compareOp .NotEq) tH := ⟨_, (Cv hr).or (DN hr), λ W x y v u d μ' Q ok dx dy ho h => by
 rcases yS (x := x) (y := y) (μ := W.mu) with e | ⟨d', ds, rfl, rfl, e⟩
 .rw [e] at ho
  unfold oNe at ho
  split at ho
  .rename_i hc
   cases ho
   rw [Bool.and_eq_true] at hc
   exact .inl ⟨_, _, oZ ok dx hc.1.1, oZ ok dy hc.1.2, hc.2, put ok h gG⟩
  .cases ho
 .rw [e] at ho
  cases ho
  obtain ⟨a, xs, rfl, q, r⟩ := jF dx
  obtain ⟨b, ys, rfl, q2, r2⟩ := jF dy
  refine .inr ⟨a, b, xs, ys, rfl, rfl, SqL.fz q, SqL.fz q2, ?_, put ok h gG⟩
  have h1 := aA.length r
  have h2 := aA.length r2
  simp at h1 h2
  omega⟩
def lSl (f : EF) (fl fh : PF) : LF := λ δ μ => (f δ μ).bind λ r => (fl δ r.2).bind λ l => (fh δ l.2).bind λ u => match r.1 with
 | .lst ds => some (L3.cutD ds l.1 u.1, u.2)
 | .ro ds => some (L3.cutD ds l.1 u.1, u.2)
 | _ => none
theorem By {X : Cx} {tb : List Addr} {e : Expr} {lo hi : Option Expr} {f : EF} {fl fh : PF} {pos p2 : Pos} (he : PD X tb e f) (hl : POD X tb lo fl) (hh : POD X tb hi fh) : PDN X tb (.Subscript e (.Slice lo hi none p2) pos) (lSl f fl fh) :=
 dY (xU zZ he hl hh) λ σ H Q zq1 => by
  obtain ⟨W, δ, ds, μ', e, ok, hd, hf, h⟩ := zq1
  unfold lSl at hf
  obtain ⟨⟨x, μ1⟩, e1, hf⟩ := Option.bind_eq_some_iff.mp hf
  obtain ⟨⟨l, μ2⟩, e2, hf⟩ := Option.bind_eq_some_iff.mp hf
  obtain ⟨⟨u, μ3⟩, e3, hf⟩ := Option.bind_eq_some_iff.mp hf
  refine ⟨W, δ, x, μ1, e, ok, hd, e1, λ v W1 ok1 l1 m1 d1 => ⟨W1, δ, l, μ2, rfl, ok1, hd.mono' l1, (by rw [m1]; exact e2), λ W2 ok2 l2 m2 => ⟨W2, δ, u, μ3, rfl, ok2, hd.mono' (l1.trans l2), (by rw [m2]; exact e3), λ W3 ok3 l3 m3 => ?_⟩⟩⟩
  have d3 := Den.mono' d1 (l2.trans l3)
  cases x with
  | lst es =>
   obtain ⟨a, xs, rfl, q, r⟩ := jF d3
   cases hf
   exact ⟨a, xs, rfl, SqL.fz q, λ p hp => h p _ W3 ok3 ((l1.trans l2).trans l3) m3 hp (lX r)⟩
  | ro es =>
   obtain ⟨a, xs, rfl, q, r⟩ := uB d3
   cases hf
   exact ⟨a, xs, rfl, SqL.fz q, λ p hp => h p _ W3 ok3 ((l1.trans l2).trans l3) m3 hp (lX r)⟩
  | _ => cases hf
def Ay (fa fb : EF) : LF := λ δ μ => (fa δ μ).bind λ r => (fb δ r.2).bind λ q => match r.1, q.1 with
 | .lst xs, .int k => if -(2 ^ 63) <= k /\ k < 2 ^ 63 /\ xs.length * k.toNat <= sizeLine then some ((List.replicate k.toNat xs).flatten, q.2) else none
 | _, _ => none
theorem HW {X : Cx} {tb : List Addr} {a b : Expr} {fa fb : EF} {pos : Pos} (ha : PD X tb a fa) (hb : PD X tb b fb) : PDN X tb (.BinOp a .Mult b pos) (Ay fa fb) :=
 dY (Jc Es ha hb) λ σ H Q zq2 => by
  obtain ⟨W, δ, ds, μ', e, ok, hd, hf, h⟩ := zq2
  unfold Ay at hf
  obtain ⟨⟨x, μ1⟩, e1, hf⟩ := Option.bind_eq_some_iff.mp hf
  obtain ⟨⟨y, μ2⟩, e2, hf⟩ := Option.bind_eq_some_iff.mp hf
  refine ⟨W, δ, x, μ1, e, ok, hd, e1, λ v W1 ok1 l1 m1 d1 => ⟨W1, δ, y, μ2, rfl, ok1, hd.mono' l1, (by rw [m1]; exact e2), λ u W2 ok2 l2 m2 d2 => ?_⟩⟩
  have d1 := Den.mono' d1 l2
  cases x with
  | lst xs =>
   cases y with
   | int k =>
    have hf' : (if -(2 ^ 63) <= k /\ k < 2 ^ 63 /\ xs.length * k.toNat <= sizeLine then some ((List.replicate k.toNat xs).flatten, μ2) else none) = some (ds, μ') := hf
    split at hf'
    .rename_i hz
     cases hf'
     obtain ⟨c, us, rfl, q1, r1⟩ := lV d1
     rw [bj d2]
     exact ⟨c, k, us, rfl, rfl, (cX q1).1, hz.1, hz.2.1, by rw [<- aA.length r1]; exact hz.2.2, λ p hp => h p _ W2 ok2 (l1.trans l2) m2 hp (qG r1 _)⟩
    .cases hf'
   | _ => cases hf
  | _ => cases y <;> cases hf
def zQ : D -> Mu -> Option (List D)
 | .lst ds, _ => some ds
 | .cell n, μ => (μ[n]?).join
 | _, _ => none
theorem Bj {K : PySem.W.Frag} {tb : List Addr} {W : Wd} {x : D} {v : V} {ds : List D} (ok : WOk K tb W) (h : Den K tb W x v) (e : zQ x W.mu = some ds) : ∃ a xs, v = .ref a /\ W.H a = some (.lst xs) /\ cu K tb W ds xs := by
 cases x with
 | lst es =>
  cases e
  obtain ⟨a, xs, rfl, q, r⟩ := lV h
  exact ⟨a, xs, rfl, (cX q).1, r⟩
 | cell n =>
  obtain ⟨a, rfl, q⟩ := gK h
  have e : (W.mu[n]?).join = some ds := e
  cases e2 : W.mu[n]? with
  | none => rw [e2] at e; cases e
  | some o =>
   rw [e2] at e
   have e : o = some ds := e
   subst e
   obtain ⟨xs, ex, r⟩ := ok.cont n a ds q e2
   exact ⟨a, xs, rfl, ex, r⟩
 | _ => cases e
theorem us1 {α : Type} {P : List α -> Prop} (h : ∀ a, P [a]) : ∀ us : List α, us.length = 1 -> P us
 | [a], _ => h a
theorem us2 {α : Type} {P : List α -> Prop} (h : ∀ a b, P [a, b]) : ∀ us : List α, us.length = 2 -> P us
 | [a, b], _ => h a b
theorem us3 {α : Type} {P : List α -> Prop} (h : ∀ a b c, P [a, b, c]) : ∀ us : List α, us.length = 3 -> P us
 | [a, b, c], _ => h a b c
theorem us4 {α : Type} {P : List α -> Prop} (h : ∀ a b c d, P [a, b, c, d]) : ∀ us : List α, us.length = 4 -> P us
 | [a, b, c, d], _ => h a b c d
structure Got (K : PySem.W.Frag) (x : Str) (st : Stmt) (f c P : Addr) (fd : FuncData) : Prop where
 F : fB K x x st f fd P
 m : PySem.W.nsIn K mainGlobals x = some (some (.ref f))
 t : PySem.W.tabIn K x = some (c, P)
 e : ∃ kV dc pm an ct, fd = PySem.W.fnOf x x (jw st) (iB st) (aN st) .none kV dc pm an (.ref c) ct
theorem Kr {K : PySem.W.Frag} {x : Str} {st : Stmt} {f c P : Addr} {oc : Value} {od an : Option Addr} {osl : Array (Option Value)} {kV doc pm ct : Value} {dd : Option Addr} {vs : Array Value} {sl : Array (Option Value)} (a : PySem.W.nsIn K mainGlobals x = some (some (.ref f)))
  (l : K.lookup f = some ⟨oc, od, .func (PySem.W.fnOf x x (jw st) (iB st) (aN st) .none kV doc pm an (.ref c) ct), osl⟩) (hc : PySem.W.codeIn K (.ref c) x = true) (k : PySem.W.keepIn K (.ref f) = true)
  (lc : K.lookup c = some ⟨.type "code", dd, .fields vs, sl⟩) (p : vs[11]? = some (.ref P)) (q : vB vs = true) (ne : (c != P) = true) : ∃ f c P fd, Got K x st f c P fd :=
 ⟨f, c, P, _, FW l hc k lc p q ne, a, JW a l rfl lc p, kV, doc, pm, an, ct, rfl⟩
end L3
namespace L2
open PySem PySem.Spec PyProof.Rows PySem.W
def yC {α : Type} (f : Nat -> Nat -> Bool) : KasT α -> α
 | .ret a => a
 | .ask i j k => yC f (k (f i j))
def dM {α : Type} (n : Nat) (R : α -> Prop) : KasT α -> Prop
 | .ret a => R a
 | .ask i j k => i < n /\ j < n /\ ∀ b, dM n R (k b)
theorem dM.bind {α β : Type} {n : Nat} {R : α -> Prop} {R' : β -> Prop} {f : α -> KasT β} (hf : ∀ a, R a -> dM n R' (f a)) : ∀ {t : KasT α}, dM n R t -> dM n R' (t.bind f)
 | .ret a, h => hf a h
 | .ask i j k, h => ⟨h.1, h.2.1, λ b => dM.bind hf (h.2.2 b)⟩
theorem dM.run {α : Type} {n : Nat} {R : α -> Prop} {f : Nat -> Nat -> Bool} : ∀ {t : KasT α}, dM n R t -> R (yC f t)
 | .ret a, h => h
 | .ask i j k, h => show R (yC f (k (f i j))) from dM.run (t := k (f i j)) (h.2.2 (f i j))
theorem dM.wp {α : Type} {n : Nat} {R : α -> Prop} {f : Nat -> Nat -> Bool} {cmp : Nat -> Nat -> (Bool -> Shared -> Prop) -> Shared -> Prop} {s : Shared} (hc : ∀ i j (C : Bool -> Shared -> Prop), i < n -> j < n -> C (f i j) s -> cmp i j C s) {Q : α -> Shared -> Prop} :
  ∀ {t : KasT α}, dM n R t -> Q (yC f t) s -> t.kasWp cmp Q s
 | .ret a, _, q => q
 | .ask i j k, h, q => hc i j _ h.1 h.2.1 (dM.wp hc (h.2.2 (f i j)) q)
def fG (n : Nat) (p : Array Nat) : Prop := p.toList.Perm (List.range n)
theorem fG.getD {n : Nat} {p : Array Nat} (h : fG n p) (h0 : 0 < n) (k : Nat) : p.getD k 0 < n := by
 unfold Array.getD
 split
 .rename_i hk
  have : p.getInternal k hk ∈ p.toList := by
   show p[k] ∈ p.toList
   simp
  exact List.mem_range.mp (h.mem_iff.mp this)
 .exact h0
theorem fG.of {n : Nat} {p q : Array Nat} (h : fG n p) (e : q.Perm p) : fG n q := (Array.perm_iff_toList_perm.mp e).trans h
theorem fG.rev {n : Nat} {p : Array Nat} (h : fG n p) (i j : Nat) : fG n (kas_rev p i j) := h.of (mirror_perm _ _ _ _)
theorem qR {n : Nat} {p : Array Nat} (hp : fG n p) (h0 : 0 < n) : ∀ (f k : Nat), dM n (λ _ => True) (kas_asc p f k)
 | 0, k => trivial
 | f + 1, k => ⟨hp.getD h0 _, hp.getD h0 _, λ b => by
  cases b
  .exact qR hp h0 f (k + 1)
  .exact trivial⟩
theorem lO {n : Nat} (h0 : 0 < n) : ∀ (f : Nat) (p : Array Nat) (k q : Nat), fG n p -> dM n (λ r => fG n r.1) (kas_desc f p k q)
 | 0, p, k, q, hp => hp
 | f + 1, p, k, q, hp => ⟨hp.getD h0 _, hp.getD h0 _, λ b => by
  cases b
  .refine ⟨hp.getD h0 _, hp.getD h0 _, λ c => ?_⟩
   cases c
   .exact lO h0 f p (k + 1) (q + 1) hp
   .exact hp
  .show dM n _ (if true = true then (if q > 0 then kas_desc f (kas_rev p (k - (q + 1)) k) (k + 1) 0 else kas_desc f p (k + 1) 0) else _)
   rw [if_pos rfl]
   split
   .exact lO h0 f _ (k + 1) 0 (hp.rev _ _)
   .exact lO h0 f p (k + 1) 0 hp⟩
theorem qY {n : Nat} (h0 : 0 < n) {p : Array Nat} (hp : fG n p) (a b : Nat) : dM n (λ r => fG n r.2) (kas_tail3 a b p) := by
 unfold kas_tail3
 refine dM.bind (R := λ _ => True) (λ m _ => ?_) (qR (hp.rev _ _) h0 _ _)
 exact hp.rev 0 a
theorem mL {n : Nat} (h0 : 0 < n) {p : Array Nat} (hp : fG n p) (a b : Nat) : dM n (λ r => fG n r.2) (kas_descPart a b p) :=
 dM.bind (λ r hr => by
  split
  .exact qY h0 (fG.rev hr _ _) _ _
  .exact qY h0 hr _ _) (lO h0 _ p _ _ hp)
theorem za {n : Nat} (h0 : 0 < n) {p : Array Nat} (hp : fG n p) (a : Nat) : dM n (λ r => fG n r.2) (kas_count a p) :=
 dM.bind (λ m _ => by
  split
  .exact hp
  .split
   .refine ⟨hp.getD h0 _, hp.getD h0 _, λ c => ?_⟩
    cases c
    .exact mL h0 (hp.rev _ _) _ _
    .exact hp
   .exact mL h0 hp _ _) (qR hp h0 _ _)
theorem nA {n : Nat} (h0 : 0 < n) {p : Array Nat} (hp : fG n p) (k : Nat) : ∀ (f l r : Nat), dM n (λ _ => True) (kas_place p k f l r)
 | 0, l, r => trivial
 | f + 1, l, r => by
  unfold kas_place
  split
  .exact trivial
  .refine ⟨hp.getD h0 _, hp.getD h0 _, λ c => ?_⟩
   cases c
   .exact nA h0 hp k f _ _
   .exact nA h0 hp k f _ _
theorem yh {n : Nat} (h0 : 0 < n) : ∀ (f : Nat) (p : Array Nat) (k : Nat), fG n p -> dM n (fG n) (kas_bin f p k)
 | 0, p, k, hp => hp
 | f + 1, p, k, hp => dM.bind (λ l _ => yh h0 f _ (k + 1) (hp.of (bubble_perm _ _ _))) (nA h0 hp k _ _ _)
theorem tO {n : Nat} (h0 : 0 < n) : dM n (fG n) (kas_sort n) :=
 dM.bind (λ r hr => by
  split
  .exact yh h0 _ _ _ hr
  .exact hr) (za h0 (show (List.range n).Perm (List.range n) from List.Perm.refl _) n)
def oY (f : Nat -> Nat -> Bool) (n : Nat) : List Nat := if 2 <= n then (yC f (kas_sort n)).toList else List.range n
theorem pN (f : Nat -> Nat -> Bool) (n : Nat) : (oY f n).Perm (List.range n) := by
 unfold oY
 split
 .exact dM.run (tO (by omega))
 .exact List.Perm.refl _
theorem pX (f : Nat -> Nat -> Bool) (n : Nat) : (oY f n).length = n := by
 rw [(pN f n).length_eq, List.length_range]
theorem range_getD {α : Type} (z : α) (vs : List α) : (List.range vs.length).map (λ i => vs.getD i z) = vs := by
 apply List.ext_getElem?
 intro i
 rw [List.getElem?_map]
 by_cases h : i < vs.length
 .rw [List.getElem?_range h]
  simp [h]
 .rw [List.getElem?_eq_none (by simpa using h), List.getElem?_eq_none (by simpa using h)]
  rfl
theorem rR : ∀ {xs : List V} {us : List Value}, Vals xs us -> ∀ i, RelV (xs.getD i .non) (us.getD i .none)
 | _, _, .nil, i => by simp [RelV]
 | _, _, .cons r t, 0 => r
 | _, _, .cons r t, i + 1 => rR t i
theorem xH {xs : List V} {us : List Value} (r : Vals xs us) : ∀ (is : List Nat), Vals (is.map λ i => xs.getD i .non) (is.map λ i => us.getD i .none)
 | [] => .nil
 | i :: is => .cons (rR r i) (xH r is)
abbrev zJ (X : Cx) (scope : Scope) (q : Str) (C f : Addr) (code : Value) : Env := newEnv scope C mainGlobals (bM X.env scope.names []) q (some f) code none builtinsNs
def nW (X : Cx) (A' : Around) (x : Str) (cap : List Str) (scope : Scope) (q : Str) (f : Addr) (code : Value) (s : Shared) (H : Hp) : Cx where
 prog := X.prog
 w := X.w
 K := X.K
 mg := X.mg
 base := X.base
 A := A'.deeper (zJ X scope q s.heap.objs.size f code)
 N := [x] ++ cap
 s₀ := s
 H₀ := H
 env := zJ X scope q s.heap.objs.size f code
 outer := X.stack
 stack := zJ X scope q s.heap.objs.size f code :: X.stack
 ex := []
 fn := λ y => y == x
 calm := true
 pn := []
 xe := λ _ _ => False
section
variable {X : Cx} {pins : List (Addr × Obj)} {σ : St} {H : Hp} {s : Shared} {x : Str} {cap : List Str} {capI : List Nat} {scope : Scope}
theorem Inv.lam {A' : Around} {h1 : Heap} {q : Str} {f : Addr} {code u : Value} {y : V} {tk : Nat} (I : Inv X pins σ H s) (B : eN X [x] cap capI scope) (hx : scope.names.lookup x = some .local) (hown : (x, NameKind.free) ∉ scope.names) (hnc : ∀ y ∈ scope.names, y.2 ≠ .cell)
  (hcx : x ∉ cap) (keep : ∀ b o, s.heap.get? b = some o -> h1.get? b = some o) (hm : h1.Ns s.heap.objs.size (λ z => [(x, u)].reverse.lookup z)) (hAf : A'.frames = some X.stack) (hAh : A'.handled = none) (ry : RelV y u) :
  Inv (nW X A' x cap scope q f code s H) [] (some y :: jT σ capI) H { s with heap := h1, toks := tk } := by
 have clo_old : ∀ p ∈ bM X.env scope.names [], X.env.cells.lookup p.1 = some p.2 := λ p hp => (jO hp).elim (λ z => by simp at z) id
 have old_lt : ∀ z c, X.env.cells.lookup z = some c -> c < s.heap.objs.size := λ z c e => let ⟨v, q⟩ := I.cell z c e; q.lt
 have csm : ∀ z c, (bM X.env scope.names []).lookup z = some c -> X.env.cells.lookup z = some c /\ c < s.heap.objs.size := λ z c e => by
  have q := clo_old _ (PySem.mem_of_lookup e)
  exact ⟨q, old_lt _ _ q⟩
 have fresh : H s.heap.objs.size = none := I.hok.fresh (Nat.le_refl _)
 have noA : ∀ b : Addr, b ∉ (nW X A' x cap scope q f code s H).ex := λ b z => absurd (show b ∈ ([] : List Addr) from z) (by simp)
 refine ⟨⟨I.ok.mod, B.kind, rfl, rfl, Nat.le_refl _, ?_, ?_, ?_, λ _ => hAh, Around.frames_deeper hAf, .inr ⟨rfl, rfl⟩, λ b z => absurd z (noA b), I.bs, Nat.le_trans I.ok.bsz I.sz, λ b _ _ => noA b, λ b z => absurd z (noA b), I.stack, I.stkFree⟩, rfl, GK.refl I.bare.bare, Un.kept keep, ?_, ?_, fresh, ?_, ?_, I.hok.kept keep, ?_⟩
 .intro y z c e1 e2
  exact I.ok.inj y z c (csm y c e1).1 (csm z c e2).1
 .intro y hy
  have hy' : scope.names.lookup y = some .cell ∨ scope.names.lookup y = some .free := hy
  rcases hy' with e | e
  .exact absurd rfl (hnc _ (PySem.mem_of_lookup e))
  .have q := PySem.mem_of_lookup e
   obtain ⟨c, hc⟩ := B.cells I _ q rfl
   exact ⟨c, jm hc (.inl q)⟩
 .intro z c hz e
  exfalso
  have hz : z = x := by simpa [nW] using hz
  subst hz
  have q : (bM X.env scope.names []).lookup z = none := by
   rw [lW λ k hk => by rintro rfl; exact hown hk]; rfl
  have e' : (bM X.env scope.names []).lookup z = some c := e
  rw [q] at e'; cases e'
 .obtain ⟨m', hn, hl⟩ := I.loc
  refine ⟨_, hm, λ i z v e1 e2 hv => ?_⟩
  cases i with
  | zero =>
   have e1 : some x = some z := e1
   cases e1
   have e2 : some (some y) = some (some v) := e2
   cases e2
   exact ⟨u, ry, .inl ⟨hx, by simp⟩⟩
  | succ i =>
   have e1' : cap[i]? = some z := e1
   have e2' : (jT σ capI)[i]? = some (some v) := e2
   obtain ⟨i0, q1, q2⟩ := pB e2'
   obtain ⟨y', q3, q4, q5⟩ := B.caps.get q1
   rw [e1'] at q3
   cases q3
   have hxf : (z, NameKind.free) ∈ scope.names := B.cfr z (List.mem_of_getElem? e1')
   have vis : Vis X.env.scope z := by
    rcases q5 with q5 | q5
    .exact .inr (.inl q5)
    .exact .inr (.inr q5)
   obtain ⟨w, rw', lk⟩ := hl i0 z v q4 q2 vis
   refine ⟨w, rw', .inr ⟨.inr (cR B.nd hxf), ?_⟩⟩
   rcases lk with ⟨k, _⟩ | ⟨_, c, ec, hc⟩
   .rcases q5 with q5 | q5 <;> rw [k] at q5 <;> cases q5
   .exact ⟨c, jm ec (.inl hxf), hc.keeps keep⟩
 .intro z c e
  obtain ⟨v, q⟩ := I.cell z c (csm z c e).1
  exact ⟨v, q.keeps keep⟩
 .intro z c e
  exact I.freeC z c (csm z c e).1
 .intro p hp
  exact absurd (show p ∈ ([] : List (Addr × Obj)) from hp) (by simp)
 .show (some y :: jT σ capI).length = ([x] ++ cap).length
  unfold jT
  rw [List.length_cons, List.length_map, B.caps.length, List.length_append]
  simp [Nat.add_comm]
end
abbrev Ji (qual : Str) (params : Arguments) (body : Expr) (scope : Scope) (cl : List (Str × Addr)) (pm cv ct : Value) : FuncData := kla_fn "<lambda>" qual params body scope cl pm cv ct
theorem Be {prog : Program} {w : World} {A : Around} {R : Result -> Shared -> Prop} {s : Shared} {a c : Addr} {args : Args} {o oc : Obj} {fd : FuncData} {body : Expr} {vs : Array Value} {u : Value} (hroom : A.depth < recursionLimit) (ho : s.heap.get? a = some o) (hd' : o.data = .func fd)
  (hco : fd.scope.isCoroutine = false) (hgen : fd.scope.isGenerator = false) (hbody : fd.body = .expr body) (hc : fd.code = .ref c) (hoc : s.heap.get? c = some oc) (hdc : oc.data = .fields vs) (hu : vs[1]? = some u)
  (h : ∀ q : Str, wpAny (model prog w) A.in1 (bindArgs fd args) (λ binds s₁ =>
   wpAny (model prog w) A.in1 (newFunctionEnv fd.scope fd.globals fd.closure binds q (some a) fd.code none fd.builtins)
    (λ env s₂ => s₂.heap.NoLimit /\ codeAny (model prog w) A (.expr body env) R s₂) (λ e s' => R (.error e) s') s₁) (λ e s' => R (.error e) s') s) :
  codeAny (model prog w) A (.call (.ref a) args) R s := by
 refine codeAny_of_tree ?_
 show wpAny _ A.in1 (callAny (.ref a) args) _ _ s
 simp only [callAny]
 refine wpAny_bind (wpAny_load ho ?_)
 simp only [hd', callFunction, hco, hgen, hbody, hc]
 rw [hc] at h
 refine wpAny_bind (m := field (.ref c) 1) (wpAny_field hoc hdc hu ?_)
 have go : ∀ q : Str, wpAny (model prog w) A.in1 (do
   let env <- newFunctionEnv fd.scope fd.globals fd.closure (<- bindArgs fd args) q (some a) (.ref c) none fd.builtins
   enterFrame
   again (.expr body env)) (λ fin s' => match fin with
    | .done f => R (.ok f) s'
    | .again c' => c'.quiet = true /\ codeAny (model prog w) A c' R s') (λ e s' => R (.error e) s') s := λ q =>
  wpAny_bind (wpAny_mono (h q) (λ binds s₁ h₁ => wpAny_bind (wpAny_mono h₁ (λ env s₂ h₂ => wpAny_bind (wpAny_enterFrame h₂.1 hroom (wpAny_pure (And.intro rfl h₂.2)))) λ _ _ h' => h')) λ _ _ h' => h')
 cases u with
 | str q t => exact wpAny_bind (wpAny_pure (go _))
 | _ => exact wpAny_bind (wpAny_pure (go _))
section
variable {X : Cx} {pins : List (Addr × Obj)} {σ : St} {H : Hp} {s : Shared} {x : Str} {cap : List Str} {capI : List Nat} {scope : Scope} {params : Arguments} {body : Expr} {te : TE} {k : Nat}
structure Ag (X : Cx) (x : Str) (cap : List Str) (capI : List Nat) (scope : Scope) (params : Arguments) (body : Expr) : Prop where
 blk : eN X [x] cap capI scope
 par : scope.names.lookup x = some .local
 own : (x, NameKind.free) ∉ scope.names
 noc : ∀ y ∈ scope.names, y.2 ≠ .cell
 ncap : x ∉ cap
 co : scope.isCoroutine = false
 gen : scope.isGenerator = false
 dflt : defaultsOf params X.env = ([], [])
 bind : ∀ (qual : Str) (cl : List (Str × Addr)) (pm cv ct u : Value), bindArgs (Ji qual params body scope cl pm cv ct) ⟨[u], []⟩ = pure [(x, u)]
abbrev sJ (X : Cx) (qual : Str) (params : Arguments) (body : Expr) (scope : Scope) (pm cv ct : Value) : Obj := { cls := .type "function", data := .func (Ji qual params body scope (bM X.env scope.names []) pm cv ct) }
theorem Gn {f : Addr} {qual : Str} {pm cv ct u : Value} {y : V} {Q : VK} (hr : dZ (k + 1) X.A) (hc : X.calm = true) (L : Ag X x cap capI scope params body)
  (he : ∀ q f code s H, PE (nW X X.A.in1.in1 x cap scope q f code s H) body te) (I : Inv X pins σ H s) (ho : s.heap.get? f = some (sJ X qual params body scope pm cv ct)) (hcv : vo H cv) (ry : RelV y u) (hq : te (some y :: jT σ capI) H Q) :
  wpAny (model X.prog X.w) X.A.in1.in1 (call (.ref f) [u]) (EP X pins σ Q) (λ _ _ => False) s := by
 obtain ⟨c, oc, vs, w, rfl, hc1, hc2, hc3⟩ := hcv
 have hoc : s.heap.get? c = some oc := (I.hok c _ hc1).1
 obtain ⟨a1, a2⟩ := uN I hc (A' := X.A.in1.in1) rfl rfl
 have hdp := hr.dp
 refine wpAny_call (Be (show X.A.depth < recursionLimit by omega) ho rfl L.co L.gen rfl rfl hoc hc2 hc3 λ q => ?_)
 rw [L.bind]
 refine wpAny_pure (wpAny_newFunctionEnv L.noc (λ z hz => by rw [List.mem_singleton.mp hz]; exact L.par) (λ h₁ hns hsb => ?_) L.blk.kind)
 have keep : ∀ b o, s.heap.get? b = some o -> h₁.get? b = some o := λ b o e => hsb.extBut b o (Nat.ne_of_lt (Heap.lt_size e)) (Heap.get?_push_of_some _ e)
 refine ⟨I.nolimit.keeps keep, ?_⟩
 have J := I.lam (A' := X.A.in1.in1) (q := q) (f := f) (code := .ref c) (tk := s.toks + [(x, u)].length) L.blk L.par L.own L.noc L.ncap keep hns a2 a1 ry
 exact kla_codeExpr (wpAny_mono (he q f (.ref c) s H [] _ _ H Q J hq) (λ v s' ⟨v', H', J', rv, qv⟩ => I.after ⟨v', H', J'.os, J'.bare, J'.base, J'.hok, rv, qv⟩) λ _ _ z => z.elim)
theorem Ck {c P : Addr} {ps : Array Value} {pos : Pos} {A : Around} {E : Value -> Shared -> Prop} {Q : Value -> Shared -> Prop} (L : Ag X x cap capI scope params body) (I : Inv X pins σ H s) (hcode : X.env.code = .ref c) (hd : CodeHd X.base c P) (hP : H P = some (.tbl ps)) (ht : TOk H ps)
  (h : ∀ f s' H' ps' pm cv ct, zB s.heap.objs.size P ps ps' H H' -> Inv X (pins ++ [(f, sJ X (X.env.qual ++ "<lambda>") params body scope pm cv ct)]) σ H' s' -> vo H' cv -> Q (.ref f) s') :
  wpAny (model X.prog X.w) A (eval (.Lambda params body scope pos) X.env) Q E s := by
 have hd' : CodeHd s.heap c P := hd.keeps I.bk
 have oP : s.heap.get? P = some (tabObj ps) := I.hok P _ hP
 have nb : ∀ b o, X.base.get? b = some o -> b ≠ P := λ b o e z => by
  have := (I.bs b o e).2
  rw [z, hP] at this; cases this
 obtain ⟨og, es, ep, eg, edg, _⟩ := id I.mod.glob
 obtain ⟨bm, ob, b1, b2, b3, b4, b5, b6⟩ := I.mod.bmain
 have hbG : bm ≠ mainGlobals := λ z => by
  rw [z, eg] at b3; cases b3; rw [edg] at b6; cases b6
 have hBA : s.heap.BuiltinsAt X.mg P := ⟨bm, ob, b1, b2, hbG, nb _ _ b3, I.bk _ _ b3, b4, b5, b6⟩
 have hcl := iC (L.blk.cells I)
 have hg := I.mod.glob.keeps I.bk
 have fin : ∀ {H' : Hp} {h' : Heap} {tk : Nat} {ps' : Array Value} {pm cv ct : Value}, zB s.heap.objs.size P ps ps' H H' -> Inv X pins σ H' { s with heap := h', toks := tk } -> vo H' cv ->
   Q (.ref h'.objs.size) { s with heap := h'.push (sJ X (X.env.qual ++ "<lambda>") params body scope pm cv ct), toks := tk } := λ {H' h' tk ps' pm cv ct} hG I' hcv => by
  have I2 : Inv X pins σ H' { s with heap := h'.push (sJ X (X.env.qual ++ "<lambda>") params body scope pm cv ct), toks := tk } := I'.kept (t' := tk) λ b o e => Heap.get?_push_of_some _ e
  refine h _ _ H' ps' pm cv ct hG (I2.more λ p hp => ?_) hcv
  rw [List.mem_singleton.mp hp]
  exact ⟨Heap.get?_push_size _ rfl, I'.hok.fresh (Nat.le_refl _), Nat.ne_of_gt I'.lt, I'.nofs (Nat.le_refl _), λ v => by intro z; cases z⟩
 refine kla_eval L.dflt ?_
 cases hnf : codeAmong pos ps.toList with
 | some cv =>
  refine kla_makeFunctionHit hcl I.ok.glob hg hcode hd' oP ht.1 hnf hBA λ ctv h' tk hk hsz => ?_
  exact fin ⟨hP, ⟨#[], by simp⟩, ht, λ _ _ _ e => e, λ _ _ e => e⟩ (I.kept hk) (ht.2 _ _ hnf)
 | none =>
  refine kla_makeFunction hcl I.ok.glob hg hcode hd' oP ht.1 hnf (nb _ _ eg) hBA λ c' ctv h' tk hx hge hlt hrec htb => ?_
  obtain ⟨c2, oc, vs, t, e2, hoc, hdd, hv⟩ := hrec
  cases e2
  refine ut I hP ht hge hoc hdd hv (λ b o hb e => hx b o hb e) htb λ hG I' => fin hG I' ⟨c', oc, vs, _, rfl, dq, hdd, hv⟩
end
theorem CK {X : Cx} {x : Str} {cap : List Str} {scope : Scope} {q : Str} {f : Addr} {code : Value} {s : Shared} {H : Hp} : ∀ k, dZ (k + 1) X.A -> dZ k (nW X X.A.in1.in1 x cap scope q f code s H).A := λ k r =>
 ⟨r.hd, by have := r.dp; show X.A.depth + 1 + 3 * k + 5 < _; omega, by have := r.un; show X.A.units + 1 + 1 + 3 + 16 * k + 200 < _; omega⟩
section
variable {X : Cx} {pins : List (Addr × Obj)} {σ : St} {H : Hp} {s : Shared}
theorem Inv.trackNew {c : Addr} {o : Obj} {u : HO} (I : Inv X pins σ H s) (ho : s.heap.get? c = some o) (hn : H c = none) (hnew : X.s₀.heap.objs.size <= c) (hL : c ≠ X.env.locals) (hc : ∀ x d, X.env.cells.lookup x = some d -> d ≠ c) (hp : ∀ p ∈ X.pn ++ pins, p.1 ≠ c)
  (new : iK X.prog X.w (upd H c u) s.heap c u) : Inv X pins σ (upd H c u) s := by
 have ne : ∀ b u, H b = some u -> b ≠ c := λ b u e z => by rw [z, hn] at e; cases e
 refine ⟨I.ok, I.os, I.bare, ⟨I.base.keep, I.base.slot, λ b ob e n hx => ?_, I.base.there, λ b xs e => ?_, λ b ob u e => ?_, λ b ps e => ?_⟩, I.loc, I.cell, ?_, λ x d e => ?_, λ p hp' => ?_, λ a u e => ?_, I.len⟩
 .rw [aM (Nat.ne_of_lt (Nat.lt_of_lt_of_le (Heap.lt_size e) hnew))]; exact I.base.free b ob e n hx
 .have q := I.base.tups b xs e
  rw [aM (ne _ _ q)]; exact q
 .have q := I.base.frzs b ob u e
  rw [aM (ne _ _ q)]; exact q
 .obtain ⟨more, q⟩ := I.base.tbls b ps e
  exact ⟨more, by rw [aM (ne _ _ q)]; exact q⟩
 .rw [aM (Ne.symm hL)]; exact I.free
 .rw [aM (hc x d e)]; exact I.freeC x d e
 .obtain ⟨a, b, r⟩ := I.pin p hp'
  exact ⟨a, by rw [aM (hp p hp')]; exact b, r⟩
 .by_cases z : a = c
  .subst z
   rw [dq] at e; cases e
   exact new
  .rw [aM z] at e
   exact (I.hok a u e).stay (λ b v _ q => q) (λ b q => by rw [aM (ne _ _ q)]; exact q) λ b xs q => by rw [aM (ne _ _ q)]; exact q
structure New (X : Cx) (pins : List (Addr × Obj)) (a : Addr) : Prop where
 s0 : X.s₀.heap.objs.size <= a
 loc : a ≠ X.env.locals
 fs : a ∉ X.fs
 cel : ∀ x d, X.env.cells.lookup x = some d -> d ≠ a
 pin : ∀ p ∈ X.pn ++ pins, p.1 ≠ a
theorem Inv.newA (I : Inv X pins σ H s) {a : Addr} (h : s.heap.objs.size <= a) : New X pins a :=
 ⟨Nat.le_trans I.sz h, Nat.ne_of_gt (Nat.lt_of_lt_of_le I.lt h), I.nofs h, λ x d e => by
  obtain ⟨v, o, e2, _⟩ := I.cell x d e
  exact Nat.ne_of_lt (Nat.lt_of_lt_of_le (Heap.lt_size e2) h), λ p hp => Nat.ne_of_lt (Nat.lt_of_lt_of_le (Heap.lt_size (I.pin p hp).1) h)⟩
theorem Inv.chg {h' : Heap} {a : Addr} {tk : Nat} (I : Inv X pins σ H s) (N : New X pins a) (hn : H a = none) (k : ∀ b o, b ≠ a -> s.heap.get? b = some o -> h'.get? b = some o) : Inv X pins σ H { s with heap := h', toks := tk } :=
 I.turned k hn N.loc (.inr N.s0) N.cel N.pin
theorem yt {A : Around} {E : Value -> Shared -> Prop} {P : PySem.Fin -> Shared -> Prop} {D f : Addr} {n : Nat} {xs : List V} {vs : List Value} {W : Nat -> List Int -> Hp -> Prop} (hA : A = X.A.in1.in1) (I : Inv X pins σ H s) (N : New X pins D) (ho : s.heap.get? D = some (seqObj "list" vs.toArray n)) (hn : H D = none) (r : Vals xs vs) (h64 : xs.length < 64) (w0 : W 0 [] H)
  (turn : ∀ (i : Nat) (y : V) (u : Value) (kz : List Int) (Hi : Hp) (s' : Shared) (own : List (Addr × Obj)), xs[i]? = some y -> RelV y u -> W i kz Hi -> Inv X (pins ++ own) σ Hi s' -> wpAny (model X.prog X.w) X.A.in1.in1 (call (.ref f) [u]) (EP X (pins ++ own) σ λ v H' => ∃ k, v = .int k /\ W (i + 1) (kz ++ [k]) H') (λ _ _ => False) s')
  (h : ∀ kz H' s', W xs.length kz H' -> H' D = none -> Inv X pins σ (upd H' D (.lst ((oY (λ i j => decide (kz.getD i 0 < kz.getD j 0)) xs.length).map λ i => xs.getD i .non))) s' -> P (.done (.ret .none)) s') :
  wpAny (model X.prog X.w) A (ksk_tree D (.ref f) false) P E s := by
 subst hA
 have hl := r.length
 have e1 := get?_update_seq ho λ _ => (#[] : Array Value)
 generalize hc1 : (if (#[] : Array Value).size == vs.toArray.size then n else n + 1) = c1 at e1
 have upd1 := λ (a : Addr) (g : Heap) (q : Array Value -> Array Value) => Heap.SameBut.update g a (Obj.mapSeq q)
 unfold ksk_tree
 refine wpAny_bind (listItems_at ho rfl ?_)
 refine wpAny_bind (listUpdate_at ho rfl ?_ (by rw [List.size_toArray, sizeLine_eq]; omega) (Nat.zero_le _))
 refine wpAny_bind (seqEpoch_at e1 rfl ?_)
 refine wpAny_bind (wpAny_newTuple ?_ (by show vs.length <= _; rw [sizeLine_eq]; omega))
 refine wpAny_bind (wpAny_newList ?_ (Nat.zero_le _))
 refine wpAny_holding ?_
 have I1 : Inv X pins σ H { s with heap := s.heap.update D (Obj.mapSeq λ _ => (#[] : Array Value)), toks := s.toks } := I.chg N hn λ b o hb e => ((upd1 D s.heap _).2 b hb).trans e
 generalize hg4 : (s.heap.update D (Obj.mapSeq λ _ => (#[] : Array Value))).push (seqObj "tuple" vs.toArray 0) = g4
 have I4 : Inv X pins σ H { s with heap := g4, toks := s.toks } := I1.kept (h' := g4) λ b o e => by rw [<- hg4]; exact Heap.get?_push_of_some _ e
 have o4 : g4.get? D = some (seqObj "list" #[] c1) := by rw [<- hg4]; exact Heap.get?_push_of_some _ e1
 show wpAny (model X.prog X.w) X.A.in1.in1 (ksk_rest D (.ref f) false vs.toArray c1 (.ref g4.objs.size)) P E { s with heap := g4.push (seqObj "list" #[] 0) }
 have NK : New X pins g4.objs.size := I4.newA (Nat.le_refl _)
 have hDK : D ≠ g4.objs.size := Nat.ne_of_lt (Heap.lt_size o4)
 have nK : H g4.objs.size = none := I4.hok.fresh (Nat.le_refl _)
 have I5 : Inv X pins σ H { s with heap := g4.push (seqObj "list" #[] 0), toks := s.toks } := I4.kept (h' := g4.push (seqObj "list" #[] 0)) λ b o e => Heap.get?_push_of_some _ e
 have o5 : (g4.push (seqObj "list" #[] 0)).get? D = some (seqObj "list" #[] c1) := Heap.get?_push_of_some _ o4
 have k5 : (g4.push (seqObj "list" #[] 0)).get? g4.objs.size = some (seqObj "list" #[] 0) := Heap.get?_push_size _ rfl
 generalize g4.objs.size = kS at *
 generalize g4.push (seqObj "list" #[] 0) = g5 at *
 have pinIt : ∀ {Hi : Hp} {s' : Shared} {kA : Array Value} {e : Nat}, Inv X pins σ Hi s' -> s'.heap.get? kS = some (seqObj "list" kA e) -> s'.heap.get? D = some (seqObj "list" #[] c1) -> Hi kS = none -> Hi D = none -> Inv X (pins ++ [(kS, seqObj "list" kA e), (D, seqObj "list" #[] c1)]) σ Hi s' := λ {Hi s' kA e} J q1 q2 q3 q4 => J.more λ p hp => by
  rcases List.mem_cons.mp hp with z | z
  .rw [z]; exact ⟨q1, q3, NK.loc, NK.fs, λ v => by intro z; cases z⟩
  .rw [List.mem_singleton.mp z]; exact ⟨q2, q4, N.loc, N.fs, λ v => by intro z; cases z⟩
 unfold ksk_rest
 refine wpAny_bind (wpAny_rule ?_)
 rw [List.forIn_toArray]
 refine wpAny_bind (ksk_fold (λ i s' => ∃ Hi kz kA e, Inv X (pins ++ [(kS, seqObj "list" kA e), (D, seqObj "list" #[] c1)]) σ Hi s' /\ W i kz Hi /\ IntsAre kA.toList kz /\ kz.length = i) vs 0 _ ⟨H, [], #[], 0, pinIt I5 k5 o5 nK hn, w0, .nil, rfl⟩ ?step ?done)
 case step =>
  rintro j v s' hv ⟨Hi, kz, kA, e, J, w, hk, hkl⟩
  simp only [Nat.zero_add] at w hkl ⊢
  obtain ⟨y, hy, ry⟩ : ∃ y, xs[j]? = some y /\ RelV y v := by
   have hj : j < vs.length := (List.getElem?_eq_some_iff.mp hv).1
   have hj' : j < xs.length := by omega
   have rl := rR r j
   refine ⟨xs[j], List.getElem?_eq_getElem hj', ?_⟩
   have a1 : xs.getD j V.non = xs[j] := by simp [List.getD, hj']
   have a2 : vs.getD j Value.none = v := by simp [List.getD, hv]
   rw [a1, a2] at rl
   exact rl
  have hj : j < xs.length := (List.getElem?_eq_some_iff.mp hy).1
  refine wpAny_bind (wpAny_attempt (wpAny_mono (turn j y v kz Hi s' _ hy ry w J) (λ u s2 hu => ?_) λ _ _ z => z.elim))
  obtain ⟨z, H2, J2, rz, m, hz, w2⟩ := hu
  subst hz
  obtain ⟨t, rfl⟩ := rz
  have pk := J2.pin (kS, seqObj "list" kA e) (by simp)
  have pd := J2.pin (D, seqObj "list" #[] c1) (by simp)
  have hkA : kA.size <= 64 := by
   have := hk.length
   rw [Array.length_toList] at this
   omega
  have s1 := upd1 kS s2.heap (·.push (.int m t))
  have q1 := get?_update_seq pk.1 (·.push (.int m t))
  try dsimp only
  refine wpAny_bind (listUpdate_at pk.1 rfl ?_ (by rw [sizeLine_eq]; omega) (Nat.le_trans (Nat.le_of_eq (Array.size_push ..)) (by rw [sizeLine_eq]; omega)))
  have ea : (kA.push (Value.int m t)).toList = kA.toList ++ [Value.int m t] := by simp
  have J3 : Inv X pins σ H2 s2 := J2.unpinned
  refine wpAny_pure ⟨rfl, H2, kz ++ [m], kA.push (.int m t), _, pinIt (J3.chg (tk := s2.toks) NK pk.2.1 λ b o hb e => (s1.2 b hb).trans e) q1 ((s1.2 D hDK).trans pd.1) pk.2.1 pd.2.1, w2, by rw [ea]; exact ksk_snoc hk, by simp [hkl]⟩
 case done =>
  rintro s' ⟨Hi, kz, kA, e, J, w, hk, hkl⟩
  rw [Nat.zero_add, <- hl] at w
  have hkl : kz.length = xs.length := by omega
  have pk := J.pin (kS, seqObj "list" kA e) (by simp)
  have pd := J.pin (D, seqObj "list" #[] c1) (by simp)
  have J3 : Inv X pins σ Hi s' := J.unpinned
  have hkA : kA.size = vs.length := by
   have := hk.length
   rw [Array.length_toList] at this
   omega
  try dsimp only
  refine wpAny_bind (listItems_at pk.1 rfl ?_)
  have tail : ∀ st : SortSt, failedOf st = none -> (arrOf st).map (·.2) = (((oY (λ i j => decide (kz.getD i 0 < kz.getD j 0)) xs.length).map λ i => vs.getD i Value.none).toArray) -> wpAny (model X.prog X.w) X.A.in1.in1 (ksk_tail D false c1 (.ref kS) st) P E s' := λ st hf har => by
   have s1 := upd1 kS s'.heap λ _ => (#[] : Array Value)
   have q1 := (s1.2 D hDK).trans pd.1
   have hsz : ((oY (λ i j => decide (kz.getD i 0 < kz.getD j 0)) xs.length).map λ i => vs.getD i Value.none).toArray.size = vs.length := by rw [List.size_toArray, List.length_map, pX, hl]
   unfold ksk_tail
   rw [har]
   try dsimp only
   refine wpAny_bind (listUpdate_at pk.1 rfl ?_ (by rw [hkA, sizeLine_eq]; omega) (Nat.zero_le _))
   refine wpAny_bind (wpAny_letGo ?_)
   refine wpAny_bind (seqEpoch_at q1 rfl ?_)
   have s2 := upd1 D (s'.heap.update kS (Obj.mapSeq λ _ => (#[] : Array Value))) λ _ => ((oY (λ i j => decide (kz.getD i 0 < kz.getD j 0)) xs.length).map λ i => vs.getD i Value.none).toArray
   have q2 := get?_update_seq q1 λ _ => ((oY (λ i j => decide (kz.getD i 0 < kz.getD j 0)) xs.length).map λ i => vs.getD i Value.none).toArray
   refine wpAny_bind (listUpdate_at q1 rfl ?_ (Nat.zero_le _) (Nat.le_trans (Nat.le_of_eq hsz) (by rw [sizeLine_eq]; omega)))
   rw [hf]
   simp only [bne_self_eq_false, Bool.false_eq_true, if_false]
   have J4 : Inv X pins σ Hi { s' with heap := s'.heap.update kS (Obj.mapSeq λ _ => (#[] : Array Value)), toks := s'.toks } := J3.chg NK pk.2.1 λ b o hb e => (s1.2 b hb).trans e
   have J5 := J4.chg (tk := s'.toks) N pd.2.1 λ b o hb e => (s2.2 b hb).trans e
   refine wpAny_pure (h kz Hi _ w pd.2.1 (J5.trackNew q2 pd.2.1 N.s0 N.loc N.cel N.pin ⟨by rw [List.length_map, pX, sizeLine_eq]; omega, _, _, xH r _, q2⟩))
  unfold ksk_end
  try dsimp only
  simp only [Bool.false_eq_true, if_false]
  by_cases h2 : vs.toArray.size < 2
  .rw [if_pos h2, if_pos h2]
   refine wpAny_bind (wpAny_pure ?_)
   rw [StateT.run_pure]
   refine wpAny_bind (wpAny_pure ?_)
   try dsimp only
   refine tail _ rfl ?_
   rw [List.size_toArray] at h2
   unfold oY
   rw [if_neg (by omega), hl, range_getD]
   show (kA.zip vs.toArray).map (λ p => p.2) = vs.toArray
   apply Array.toList_inj.mp
   rw [Array.toList_map, ksk_zip, List.map_snd_zip (by simp [hkA])]
  .rw [if_neg h2, if_neg h2]
   rw [List.size_toArray] at h2
   rw [ksk_kind hk (by omega)]
   refine wpAny_bind (wpAny_pure ?_)
   have hkt : kA.toList.length = vs.length := by rw [Array.length_toList, hkA]
   have good : (kas_sort vs.length).kasWp (kas_ask X.prog X.w X.A.in1.in1 oneType' kA.toList) (λ p s'' => p = yC (λ i j => decide (kz.getD i 0 < kz.getD j 0)) (kas_sort vs.length) /\ s'' = s') s' :=
    dM.wp (n := vs.length) (R := fG vs.length) (λ i j C hi hj hC => by
     obtain ⟨t1, g1⟩ := hk.get i (kz.getD i 0) (by simp [List.getD, hkl, <- hl, show i < xs.length by omega])
     obtain ⟨t2, g2⟩ := hk.get j (kz.getD j 0) (by simp [List.getD, hkl, <- hl, show j < xs.length by omega])
     show wpAny _ _ (keyLt' _ (kA.toList.getD i Value.none) (kA.toList.getD j Value.none)) C _ s'
     have f1 : kA.toList.getD i Value.none = .int (kz.getD i 0) t1 := by
      show (kA.toList[i]?).getD Value.none = _
      rw [g1]; rfl
     have f2 : kA.toList.getD j Value.none = .int (kz.getD j 0) t2 := by
      show (kA.toList[j]?).getD Value.none = _
      rw [g2]; rfl
     rw [f1, f2]
     exact kat_lt_int hC) (tO (by omega)) ⟨rfl, rfl⟩
   have run := kat_run (E := E) (Q := λ st' s'' => s'' = s' /\ failedOf st' = none /\ (arrOf st').map (·.2) = List.toArray ((yC (λ i j => decide (kz.getD i 0 < kz.getD j 0)) (kas_sort vs.length)).toList.map λ i => vs.getD i Value.none)) hkt (by omega) (by omega) (λ p st' s'' a1 a2 a3 a4 => ⟨a4.2, a3, by rw [<- a4.1]; exact kat_snds hkt a2⟩) good
   rw [Array.toArray_toList] at run
   refine wpAny_bind (wpAny_mono run ?_ λ _ _ e => e)
   rintro ⟨⟨⟩, st'⟩ s'' ⟨rfl, hf, har⟩
   try dsimp only
   refine tail st' hf ?_
   rw [har]
   unfold oY
   rw [if_pos (by omega), hl]
end
def yz (kz : List Int) (xs : List V) : List V := (oY (λ i j => decide (kz.getD i 0 < kz.getD j 0)) xs.length).map λ i => xs.getD i .non
def Mi (P : Addr) (capI : List Nat) (ta te : TE) : TE := λ σ H Q => ta σ H λ v H1 => ∃ (a : Addr) (xs : List V) (ps : Array Value), v = .ref a /\ H1 a = some (.lst xs) /\ xs.length < 64 /\ H1 P = some (.tbl ps) /\ TOk H1 ps /\
 ∀ lo H2 ps', zB lo P ps ps' H1 H2 -> ∃ W : Nat -> List Int -> Hp -> Prop, W 0 [] H2 /\ (∀ i kz Hi, W i kz Hi -> (∀ c o, H2 c = some (.frz o (.own 0)) -> Hi c = some (.frz o (.own 0))) /\ ∀ y, xs[i]? = some y -> te (some y :: jT σ capI) Hi λ v H' => ∃ k, v = .int k /\ W (i + 1) (kz ++ [k]) H') /\
  ∀ kz H', W xs.length kz H' -> ∀ p, H' p = none -> Q (.ref p) (upd H' p (.lst (yz kz xs)))
theorem Dj {X : Cx} {x : Str} {cap : List Str} {capI : List Nat} {scope : Scope} {params : Arguments} {body e : Expr} {ta te : TE} {k : Nat} {P : Addr} {p pos lpos kpos : Pos} (hc : X.calm = true) (hr : dZ (k + 1) X.A) (hm : X.mg "sorted" = none) (L : Ag X x cap capI scope params body) (htb : ∃ c, X.env.code = .ref c /\ CodeHd X.base c P) (ha : PE X e ta)
  (he : ∀ q f code s H, (∀ k, dZ (k + 1) X.A -> dZ k (nW X X.A.in1.in1 x cap scope q f code s H).A) -> PE (nW X X.A.in1.in1 x cap scope q f code s H) body te) (hg : Gl X "sorted" := by rfl) (hs : starEach [e] X.env = (false, eval e X.env) :: starEach [] X.env := by rfl) :
  PE X (.Call (.Name "sorted" p) [e] [⟨some "key", .Lambda params body scope lpos, kpos⟩] pos) (Mi P capI ta te) := by
 intro pins s σ H Q I h
 obtain ⟨c, hcode, hhd⟩ := htb
 refine wpAny_Call_Name_kw (jG I hg hm PyProof.Rows.boot_sorted ?_ (by decide) (by decide))
 refine PyProof.Rows.callWith_kw (qI (thn (ha pins s σ H _ I h) λ u s1 hu => ?_) hs) (by rw [hs]; rfl) (by rw [hs]; rfl)
 obtain ⟨v, H1, I1, r1, a, xs, ps, rfl, hal, h64, hP, ht, hW⟩ := hu
 cases r1
 show wpAny _ _ (evalAll [(do let v <- eval (.Lambda params body scope lpos) X.env; standAt pos; pure v)]) _ _ s1
 refine wpAny_evalAll_cons (wpAny_bind (Ck L I1 hcode hhd hP ht λ f s2 H2 ps' pm cv ct hG I2 hcv => wpAny_bind (wpAny_standAt (wpAny_pure (wpAny_evalAll_nil ?_)))))
 show wpAny _ _ (call (.builtin "sorted") [.ref a] [(Str.ofString "key", .ref f)]) _ _ s2
 obtain ⟨W, w0, wt, wf⟩ := hW _ H2 ps' hG
 have hal2 : H2 a = some (.lst xs) := hG.keep a _ (xu hal hP (by intro z; cases z)) hal
 obtain ⟨hz, its, n, r, hlen, hobj⟩ := I2.lstM hal2
 refine call_function_entry_kw kind_sorted plain_sorted entry_sorted (ksk_s1 _ _) ?_
 unfold Builtin.«sorted»
 refine wpAny_bind (m := checkCount "sorted" 1 1 _) (wpAny_pure ?_)
 refine wpAny_bind (collect_list (vs := its) ⟨_, hobj, rfl, n, rfl⟩ ?_ (by rw [sizeLine_eq]; omega))
 refine wpAny_bind (wpAny_newList ?_ (by rw [sizeLine_eq]; omega))
 generalize hg1 : (s2.heap.push (seqObj "list" #[] 0)).update s2.heap.objs.size (Obj.mapSeq (· ++ its.toArray)) = g1
 have k1 : ∀ b o, s2.heap.get? b = some o -> g1.get? b = some o := λ b o q => by
  rw [<- hg1, Heap.get?_update_ne _ _ _ _ (Nat.ne_of_lt (Heap.lt_size q)), Heap.get?_push_ne _ _ _ (Nat.ne_of_lt (Heap.lt_size q))]
  exact q
 have z1 : g1.objs.size = s2.heap.objs.size + 1 := by rw [<- hg1, Heap.size_update, size_push']
 have k2 : ∀ b o, s2.heap.get? b = some o -> (g1.push (seqObj "list" its.toArray 0)).get? b = some o := λ b o q => Heap.get?_push_of_some _ (k1 b o q)
 have o2 : (g1.push (seqObj "list" its.toArray 0)).get? g1.objs.size = some (seqObj "list" its.toArray 0) := Heap.get?_push_size _ rfl
 show wpAny _ _ _ _ _ { s2 with heap := g1.push (seqObj "list" its.toArray 0) }
 have hle : s2.heap.objs.size <= g1.objs.size := by omega
 generalize g1.push (seqObj "list" its.toArray 0) = g2 at *
 generalize g1.objs.size = D at *
 have I3 := I2.kept (t' := s2.toks) k2
 refine wpAny_bind (wpAny_holding (wpAny_call_entry_kw slot_list_sort ⟨_, o2, rfl⟩ entry_list_sort ?body (ksk_l1 _ _)))
 case body =>
  show wpAny (model X.prog X.w) X.A.in1.in1 (Builtin.«list.sort» ⟨[.ref D], [(Str.ofString "key", .ref f)]⟩) _ _ _
  rw [ksk_t1]
  refine yt (W := W) rfl I3 (I2.newA hle) o2 (I2.hok.fresh hle) r h64 w0 (λ i y u kz Hi s' own hy ry w J => ?_) λ kz H' s' w hD J => ⟨_, rfl, ?_⟩
  .obtain ⟨hfz, hte⟩ := wt i kz Hi w
   obtain ⟨c', oc, vs', w', e1, e2, e3⟩ := id hcv
   exact Gn hr hc L (λ q f code s H => he q f code s H CK) J (J.pin (f, sJ X (X.env.qual ++ "<lambda>") params body scope pm cv ct) (by simp)).1 ⟨c', oc, vs', w', e1, hfz _ _ e2, e3⟩ ry (hte y hy)
  .exact wpAny_pure ⟨_, rfl, .ref D, _, J.unpinned, rfl, wf kz H' w D hD⟩
end L2
namespace L3
open PySem PySem.Spec PyProof.Rows L2
def nR : List fX -> Mu -> Option (List Int × Mu)
 | [], μ => some ([], μ)
 | t :: r, μ => (t μ).bind λ x => match x.1 with
  | .int j => (nR r x.2).map λ q => (j :: q.1, q.2)
  | _ => none
def mj (kz : List Int) (ds : List D) : List D := (oY (λ i j => decide (kz.getD i 0 < kz.getD j 0)) ds.length).map λ i => ds.getD i .non
def vd (own : List Str) (capI : List Nat) (f fe : EF) : LF := λ δ μ => (f δ μ).bind λ r => (zQ r.1 r.2).bind λ ds => if ds.length < 64 then (nR (ds.map (thG (hName 0) fe (cz own δ capI))) r.2).map λ q => (mj q.1 ds, q.2) else none
theorem Bx {X : Cx} {tb : List Addr} {x : Str} {cap : List Str} {capI : List Nat} {scope : Scope} {params : Arguments} {body e : Expr} {f fe : EF} {k : Nat} {P : Addr} {p pos lpos kpos : Pos} (hc : X.calm = true) (hr : dZ (k + 1) X.A) (hm : X.mg "sorted" = none) (L : Ag X x cap capI scope params body) (hP : P ∈ tb) (htb : ∃ c, X.env.code = .ref c /\ PySem.W.CodeHd X.base c P) (ha : PD X tb e f)
  (he : ∀ q f code s H, (∀ k, dZ (k + 1) X.A -> dZ k (nW X X.A.in1.in1 x cap scope q f code s H).A) -> PD (nW X X.A.in1.in1 x cap scope q f code s H) tb body fe) (hg : Gl X "sorted" := by rfl) (hs : starEach [e] X.env = (false, eval e X.env) :: starEach [] X.env := by rfl) :
  PDN X tb (.Call (.Name "sorted" p) [e] [⟨some "key", .Lambda params body scope lpos, kpos⟩] pos) (vd [x] capI f fe) :=
 dY (Dj (te := tD X.K tb fe) hc hr hm L htb ha he hg hs) λ σ H Q zq1 => by
  obtain ⟨W, δ, ds, μ', e, ok, hd, hf, kk⟩ := zq1
  unfold vd at hf
  obtain ⟨⟨v0, μ1⟩, e1, hf⟩ := Option.bind_eq_some_iff.mp hf
  obtain ⟨es, e2, hf⟩ := Option.bind_eq_some_iff.mp hf
  split at hf
  .rename_i h64
   obtain ⟨⟨kz, μ2⟩, e3, e4⟩ := Option.map_eq_some_iff.mp hf
   cases e4
   refine ⟨W, δ, v0, μ1, e, ok, hd, e1, λ v W1 ok1 l1 m1 d1 => ?_⟩
   obtain ⟨a, xs, rfl, q, r⟩ := Bj ok1 d1 (by rw [m1]; exact e2)
   have hlen := aA.length r
   obtain ⟨ps, ep, tp⟩ := ok1.tab P hP
   refine ⟨a, xs, ps, rfl, q, by omega, ep, tp, λ lo H2 ps' hG => ?_⟩
   obtain ⟨ok2, l2⟩ := ok1.tbl hP ep hG
   refine ⟨λ i zs Hi => ∃ W3, W3.H = Hi /\ WOk X.K tb W3 /\ Le tb ⟨H2, W1.ad, W1.mu⟩ W3 /\ ∃ rest, nR ((es.drop i).map (thG (hName 0) fe (cz [x] δ capI))) W3.mu = some (rest, μ2) /\ zs ++ rest = kz, ⟨⟨H2, W1.ad, W1.mu⟩, rfl, ok2, Le.refl _, kz, by rw [List.drop_zero, <- e3, <- m1], rfl⟩, ?_, ?_⟩
   .rintro i zs Hi ⟨W3, rfl, ok3, l3, rest, ek, hz⟩
    refine ⟨λ c o hco => ?_, λ y hy => ?_⟩
    .have nl : ¬ lA W1.ad W1.mu c := λ z => by
      obtain ⟨ys, e⟩ := ok2.live z
      have e : H2 c = some (.lst ys) := e
      rw [hco] at e; cases e
     have nt : c ∉ tb := λ z => by
      obtain ⟨qs, e, _⟩ := ok2.tab c z
      have e : H2 c = some (.tbl qs) := e
      rw [hco] at e; cases e
     have q1 : Wd.fz tb ⟨H2, W1.ad, W1.mu⟩ c = some (.frz o (.own 0)) := (mO (W := ⟨H2, W1.ad, W1.mu⟩) nl nt).trans hco
     exact (cX (l3.same c _ q1)).1
    .obtain ⟨d0, ed, dd⟩ := aA.get' r hy
     have hi : i < es.length := (List.getElem?_eq_some_iff.mp ed).1
     have ed' : es[i] = d0 := (List.getElem?_eq_some_iff.mp ed).2
     rw [List.drop_eq_getElem_cons hi, List.map_cons, ed'] at ek
     unfold nR at ek
     obtain ⟨⟨w, μ3⟩, e5, e6⟩ := Option.bind_eq_some_iff.mp ek
     unfold thG at e5
     obtain ⟨δ1, e7, e8⟩ := Option.bind_eq_some_iff.mp e5
     cases e7
     cases w with
     | int j =>
      obtain ⟨⟨rs, μ4⟩, e9, e10⟩ := Option.map_eq_some_iff.mp (show (nR _ μ3).map (λ q => (j :: q.1, q.2)) = some (rest, μ2) from e6)
      cases e10
      have l13 : Le tb W1 W3 := l2.trans l3
      refine ⟨W3, (cz [x] δ capI).set 0 (some d0), .int j, μ3, rfl, ok3, ((qD (own := [x]) (capI := capI) hd).mono' (l1.trans l13)).set (i := 0) (Den.mono' dd l13), e8, λ v W4 ok4 l4 m4 d4 => ⟨j, bj d4, W4, rfl, ok4, l3.trans l4, rs, by rw [m4]; exact e9, by rw [List.append_assoc]; exact hz⟩⟩
     | _ => cases e6
   .rintro zs Hi ⟨W3, rfl, ok3, l3, rest, ek, hz⟩ p hp
    rw [List.drop_of_length_le (by omega)] at ek
    cases ek
    rw [List.append_nil] at hz
    subst hz
    have l13 : Le tb W1 W3 := l2.trans l3
    have hb : cu X.K tb W3 (mj zs es) (yz zs xs) := by
     unfold mj yz
     rw [hlen]
     exact wF (cu.mono' r l13) _
    exact kk p _ W3 ok3 (l1.trans l13) rfl hp hb
  .cases hf
end L3
set_option maxHeartbeats 4000000
namespace LG
open PySem PySem.Spec PyProof.Rows L2 L3
noncomputable def fH : SF := bF (pU (M1 (ak 0) (kj "int")) (rm (M1 (ak 0) (kj "bool"))))
noncomputable def dw (dC : FF) : SF := bF (pU (M1 (ak 0) (kj "tuple")) (Ia (sO ["part"] [] (eZ (ak 0)) (hName 0) (MC (aa (ak 0) (aq)) dC))))
noncomputable def cT : SF := aP (sX 0 1 (aa (MC (aa (ak 0) (aq)) (aR mW)) (aa (MC (aa (ak 1) (aq)) (aR mW)) (aq)))) (aP (km (toB (M2 (ak 1) (mC (.int 0)) oNe)) (sX 0 1 (aa (ak 1) (aa (M2 (ak 0) (ak 1) oMod) (aq))))) (bF (ak 0)))
noncomputable def iH : SF := aP (aY 2 (M2 (M2 (M2 (M2 (M2 (ak 0) (mC (.int 2147483647)) oMod) (mC (.int 48271)) bJ) (M2 (M2 (mC (.int 7919)) (ak 1) bJ) (ak 1) bJ) bf) (mC (.int 104729)) bf) (mC (.int 2147483647)) oMod)) (bF (M2 (M2 (ak 2) (ak 2) bJ) (mC (.int 2147483629)) oMod))
noncomputable def lL (bh : FF) : SF := aP (aY 1 (mU (pM (aq)))) (aP (gZ (bO (aa (MC (aa (MC (aa (ak 0) (aq)) (aR bx)) (aa (mC (.int 63)) (aq))) (mK qd)) (aq))) (hName 2) (aP (aY 3 (MC (aa (M2 (ak 0) (ak 2) oIx) (aq)) (aR mW))) (aP (sIf (toB (M2 (ak 3) (M2 (mC (.int 10)) (mC (.int 18)) xx) oLt)) (gZ (bO (aa (mC (.int 12)) (aq))) (hName 4) (fK (fZ (ak 1) (aa (MC (aa (MC (aa (ak 3) (aa (M2 (M2 (mC (.int 3)) (ak 4) bJ) (mC (.int 1)) bf) (aq))) bh) (aa (M2 (M2 (ak 4) (ak 2) bf) (mC (.int 2)) bf) (aq))) bh) (aq))))) (bT)) (aP (km (lF (toB (M2 (ak 3) (M2 (mC (.int 10)) (mC (.int 18)) xx) oGe)) (toB (M2 (MC (aa (ak 1) (aq)) (aR bx)) (mC (.int 900)) oLt))) (aP (fK (fZ (ak 1) (aa (M2 (ak 3) (mC (.int 2147483629)) oMod) (aq)))) (aY 3 (M2 (ak 3) (mC (.int 2147483629)) oDiv)))) (sIf (toB (M2 (ak 3) (mC (.int 2147483629)) oGe)) (fK (fZ (ak 1) (aa (M2 (ak 3) (mC (.int 2147483629)) oMod) (aq)))) (bT)))))) (bF (ak 1)))
noncomputable def gq : SF := aP (sIf (toB (M2 (ak 0) (MC (aq) oLst) oEq)) (bF (mC (.int 0))) (bT)) (bF (Aq (ak 0)))
noncomputable def lr : SF := aP (km (toB (M2 (ak 1) (mC (.int 0)) oNe)) (sX 0 1 (aa (ak 1) (aa (M2 (ak 0) (ak 1) oMod) (aq))))) (bF (MC (aa (ak 0) (aq)) (aR mW)))
noncomputable def gH (bU : FF) : SF := aP (aY 2 (ak 1)) (aP (gZ (eZ (ak 0)) (hName 3) (aY 2 (MC (aa (ak 2) (aa (ak 3) (aq))) bU))) (aP (sIf (toB (M2 (ak 1) (mC (.int 0)) oLt)) (aY 2 (M2 (mC (.int 0)) (MC (aa (ak 2) (aq)) (aR mW)) dF)) (bT)) (bF (M2 (MC (aa (mFz (lLC ["_law_number"] [2] (eZ (ak 0)) (hName 0) (bG) (M2 (ak 0) (ak 1) oDiv))) (aq)) dh) (MC (aa (M2 (ak 1) (ak 2) oDiv) (aq)) oTup) bf))))
noncomputable def lM : SF := bF (pU (M1 (ak 0) (kj "int")) (rm (M1 (ak 0) (kj "bool"))))
noncomputable def lQ : SF := bF (pU (M1 (ak 0) (kj "bool")) (M2 (ak 0) (ak 1) oEq))
noncomputable def oO : SF := bF (M2 (M2 (mSl (ak 0) (fNo) (fAt (ak 1))) (MC (aa (ak 2) (aq)) oTup) bf) (mSl (ak 0) (fAt (M2 (ak 1) (mC (.int 1)) bf)) (fNo)) bf)
noncomputable def zU (di φ_Lodd : FF) : SF := aP (aY 2 (M2 (M2 (ak 1) (mC (.int 16)) oDiv) (MC (aa (ak 0) (aq)) (aR bx)) oMod)) (aP (aY 3 (MC (aa (mSl (ak 0) (fNo) (fAt (M1 (mC (.int 1)) ir))) (aa (mSl (ak 0) (fAt (mC (.int 1))) (fNo)) (aa (M2 (ak 0) (MC (aa (mC (.int 1)) (aq)) oTup) bf) (aa (M2 (ak 0) (MC (aa (mC (.int 0)) (aq)) oTup) bf) (aa (mFz (lOf (aa (ak 0) (aq)))) (aa (MC (aa (mFz (lLC ["_law_one"] [] (eZ (ak 0)) (hName 0) (bG) (M2 (mC (.int 3)) (ak 0) bJ))) (aq)) dh) (aa (MC (aa (ak 0) (aq)) oTup) (aq)))))))) oLst)) (aP (aY 3 (M2 (ak 3) (MC (aa (MC (aa (mFz (lLC ["_law_one"] [] (eZ (ak 0)) (hName 0) (bG) (M2 (mC (.int 0)) (ak 0) dF))) (aq)) dh) (aa (M2 (mSl (ak 0) (fNo) (fAt (M1 (mC (.int 1)) ir))) (MC (aa (mC (.int 0)) (aq)) oTup) bf) (aa (M2 (mSl (ak 0) (fNo) (fAt (M1 (mC (.int 1)) ir))) (MC (aa (M2 (mC (.int 0)) (M2 (ak 0) (M1 (mC (.int 1)) ir) oIx) dF) (aq)) oTup) bf) (aa (M2 (mSl (ak 0) (fNo) (fAt (M1 (mC (.int 1)) ir))) (MC (aa (mC (.bl true)) (aq)) oTup) bf) (aq))))) oLst) bf)) (aP (aY 3 (M2 (ak 3) (MC (aa (MC (aa (mFz (lLC ["_law_one"] [] (eZ (ak 0)) (hName 0) (bG) (M2 (mC (.int 2)) (ak 0) bJ))) (aq)) dh) (aa (xJ (ak 0)) (aa (MC (aa (mFz (lLC ["_law_one"] [0] (eZ (ak 0)) (hName 0) (bG) (M2 (M2 (ak 1) (M1 (mC (.int 1)) ir) oIx) (ak 0) bJ))) (aq)) dh) (aq)))) oLst) bf)) (bF (M2 (M2 (ak 3) (MC (aa (MC (aa (ak 0) (aa (ak 2) (aa (MC (aa (M2 (ak 1) (mC (.int 64)) oDiv) (aq)) φ_Lodd) (aq)))) di) (aa (MC (aa (ak 0) (aa (ak 2) (aa (M2 (ak 1) (mC (.int 64)) oDiv) (aq)))) di) (aq))) oLst) bf) (M2 (ak 1) (mC (.int 16)) oMod) oIx)))))
noncomputable def gh : SF := aP (sIf (toB (M2 (ak 1) (mC (.int 0)) oEq)) (bF (MC (aa (M2 (M2 (ak 0) (mC (.int 20001)) oMod) (mC (.int 10000)) dF) (aa (M2 (mC (.int 1)) (M2 (M2 (ak 0) (mC (.int 20001)) oDiv) (mC (.int 60)) oMod) bf) (aq))) oTup)) (bT)) (aP (sIf (toB (M2 (ak 1) (mC (.int 1)) oEq)) (bF (MC (aa (M2 (M2 (ak 0) (mC (.int 5)) oMod) (mC (.int 2)) dF) (aa (mC (.int 1)) (aq))) oTup)) (bT)) (aP (sIf (toB (M2 (ak 1) (mC (.int 2)) oEq)) (bF (MC (aa (M2 (M2 (ak 0) (mC (.int 11)) oMod) (mC (.int 5)) dF) (aa (M2 (mC (.int 1)) (M2 (M2 (ak 0) (mC (.int 11)) oDiv) (mC (.int 3)) oMod) bf) (aq))) oTup)) (bT)) (aP (sIf (toB (M2 (ak 1) (mC (.int 3)) oEq)) (bF (MC (aa (M2 (ak 2) (M2 (MC (aa (mC (.int 0)) (aa (mC (.int 0)) (aa (mC (.int 1)) (aa (mC (.int 40)) (aq))))) oLst) (M2 (ak 0) (mC (.int 4)) oMod) oIx) bf) (aa (mC (.int 1)) (aq))) oTup)) (bT)) (bF (MC (aa (M2 (M2 (ak 0) (mC (.int 2)) oMod) (M2 (mC (.int 1)) (M2 (ak 2) (mC (.int 7)) oMod) bf) bJ) (aa (mC (.int 1)) (aq))) oTup)))))
noncomputable def jk (bh iy aZ : FF) : SF := aP (aY 4 (mU (pM (aq)))) (aP (aY 5 (mC (.int 1))) (aP (gZ (bO (aa (ak 1) (aq))) (hName 6) (aP (HN (MC (aa (MC (aa (ak 0) (aa (M2 (ak 6) (mC (.int 1)) bf) (aq))) bh) (aa (ak 2) (aa (M2 (ak 3) (ak 6) bf) (aq)))) iy) (kW 2 (cB (hName 7) (cB (hName 8) (kY))))) (aP (sIf (toB (M2 (ak 6) (mC (.int 0)) oEq)) (aY 5 (ak 8)) (bT)) (fK (fZ (ak 4) (aa (ak 7) (aq))))))) (bF (MC (aa (rZ (ak 4)) (aa (ak 5) (aq))) aZ))))
noncomputable def iz (aG aZ : FF) : SF := aP (aY 3 (mFz (lLC ["_law_k"] [0] (bO (aa (ak 1) (aq))) (hName 0) (bG) (M2 (M2 (MC (aa (ak 1) (aq)) aG) (mC (.int 41)) oMod) (mC (.int 20)) dF)))) (aP (aY 4 (mFz (lLC ["_law_k"] [0] (bO (aa (ak 1) (aq))) (hName 0) (bG) (M2 (M2 (MC (aa (ak 1) (aq)) aG) (mC (.int 7)) oMod) (mC (.int 3)) dF)))) (aP (aY 5 (mU (pM (aq)))) (aP (gZ (bO (aa (ak 2) (aq))) (hName 6) (aP (aY 7 (M2 (M2 (MC (aa (ak 0) (aq)) aG) (mC (.int 13)) oMod) (mC (.int 6)) dF)) (fK (fZ (ak 5) (aa (MC (aa (mFz (lLC ["_law_k"] [3, 7, 4] (bO (aa (ak 1) (aq))) (hName 0) (bG) (M2 (M2 (ak 1) (ak 0) oIx) (M2 (ak 2) (M2 (ak 3) (ak 0) oIx) bJ) bf))) (aa (mC (.int 1)) (aq))) aZ) (aq)))))) (bF (rZ (ak 5))))))
noncomputable def mx (aG aZ : FF) : SF := aP (sX 3 4 (aa (M2 (M2 (MC (aa (ak 0) (aq)) aG) (mC (.int 5)) oMod) (mC (.int 2)) dF) (aa (M2 (M2 (MC (aa (ak 0) (aq)) aG) (mC (.int 5)) oMod) (mC (.int 2)) dF) (aq)))) (aP (aY 5 (mU (pM (aq)))) (aP (gZ (bO (aa (ak 2) (aq))) (hName 6) (aP (aY 7 (MC (aa (ak 0) (aq)) aG)) (aP (aY 8 (mU (lSl (MC (aa (M2 (M2 (ak 7) (mC (.int 9)) oMod) (mC (.int 4)) dF) (aa (M2 (M2 (M2 (ak 7) (mC (.int 9)) oDiv) (mC (.int 9)) oMod) (mC (.int 4)) dF) (aa (M2 (M2 (M2 (ak 7) (mC (.int 81)) oDiv) (mC (.int 9)) oMod) (mC (.int 4)) dF) (aq)))) oLst) (fNo) (fAt (ak 1))))) (aP (sIf (toB (M2 (ak 1) (mC (.int 1)) oGt)) (Dz (M2 (M2 (ak 3) (M2 (ak 8) (mC (.int 0)) oIx) bJ) (M2 (ak 4) (M2 (ak 8) (M2 (ak 1) (mC (.int 2)) dF) oIx) bJ) bf) (ak 8) (M1 (mC (.int 1)) ir)) (bT)) (fK (fZ (ak 5) (aa (MC (aa (rZ (ak 8)) (aa (mC (.int 1)) (aq))) aZ) (aq)))))))) (bF (rZ (ak 5)))))
noncomputable def je (aG fQ jg cg : FF) : SF := aP (aY 3 (MC (aa (ak 0) (aq)) aG)) (aP (aY 4 (M2 (M2 (ak 3) (mC (.int 9)) oDiv) (M2 (ak 2) (mC (.int 1)) bf) oMod)) (aP (aY 5 (M2 (ak 3) (mC (.int 9)) oMod)) (aP (sIf (toB (M2 (ak 5) (mC (.int 5)) oEq)) (bF (MC (aa (ak 0) (aa (ak 1) (aa (ak 4) (aq)))) fQ)) (bT)) (aP (sIf (toB (M2 (ak 5) (mC (.int 6)) oEq)) (bF (MC (aa (ak 0) (aa (ak 1) (aa (ak 4) (aq)))) jg)) (bT)) (aP (sIf (toB (M2 (ak 5) (mC (.int 7)) oEq)) (bF (M2 (MC (aa (MC (aa (ak 3) (aa (ak 1) (aa (mC (.int 2)) (aa (mC (.int 0)) (aq))))) cg) (aq)) oLst) (ak 4) bJ)) (bT)) (aP (aY 6 (mU (pM (aq)))) (aP (gZ (bO (aa (ak 4) (aq))) (hName 7) (aP (aY 8 (MC (aa (ak 0) (aq)) aG)) (sIf (lF (toB (M2 (ak 5) (mC (.int 8)) oEq)) (lF (toB (M2 (ak 6) (MC (aq) oLst) tH)) (toB (M2 (M2 (ak 8) (mC (.int 3)) oMod) (mC (.int 0)) oEq)))) (fK (fZ (ak 6) (aa (M2 (ak 6) (M2 (M2 (ak 8) (mC (.int 3)) oDiv) (MC (aa (ak 6) (aq)) (aR bx)) oMod) oIx) (aq)))) (fK (fZ (ak 6) (aa (MC (aa (M2 (ak 8) (mC (.int 7)) oDiv) (aa (ak 1) (aa (M2 (M2 (ak 5) (mC (.int 8)) oMod) (mC (.int 5)) oMod) (aa (M2 (M2 (ak 8) (mC (.int 5)) oMod) (mC (.int 30)) bJ) (aq))))) cg) (aq))))))) (bF (rZ (ak 6))))))))))
noncomputable def rY (φ_common_divisor : FF) : SF := aP (aY 1 (MC (aa (ak 0) (aq)) φ_common_divisor)) (bF (CJ (sO ["number"] [1] (eZ (ak 0)) (hName 0) (M2 (ak 0) (ak 1) oDiv))))
noncomputable def cA (bA : FF) : SF := aP (aY 1 (mC (.int 1))) (aP (gZ (eZ (ak 0)) (hName 2) (Bv 1 (M2 (ak 2) (MC (aa (ak 1) (aa (ak 2) (aq))) bA) oDiv) Ar)) (bF (ak 1)))
noncomputable def cC : SF := bF (wW (sO ["one", "other"] [] (nJ (aa (ak 0) (aa (ak 1) (aq)))) (kW 2 (cB (hName 0) (cB (hName 1) (kY)))) (M2 (ak 0) (ak 1) bJ)))
noncomputable def jf (bH : FF) : SF := bF (mFz (lLC ["at"] [1, 0] (bO (aa (MC (aa (M2 (ak 0) (mC (.int 0)) oIx) (aq)) (aR bx)) (aq))) (hName 0) (bG) (MC (aa (ak 1) (aa (mFz (lLC ["row"] [0] (eZ (ak 2)) (hName 0) (bG) (M2 (ak 0) (ak 1) oIx))) (aq))) bH)))
noncomputable def dU (bI : FF) : SF := aP (aY 2 (MC (aa (mFz (lLC ["point"] [] (eZ (ak 0)) (hName 0) (bG) (M2 (ak 0) (M1 (mC (.int 1)) ir) oIx))) (aq)) bI)) (bF (mFz (lLC ["number", "point"] [2] (nJ (aa (ak 1) (aa (ak 0) (aq)))) (kW 2 (cB (hName 0) (cB (hName 1) (kY)))) (bG) (M2 (ak 0) (M2 (ak 2) (M2 (ak 1) (M1 (mC (.int 1)) ir) oIx) oDiv) bJ))))
noncomputable def kE (aG bh : FF) : SF := aP (aY 3 (MC (aa (ak 0) (aq)) aG)) (bF (mSl (mFz (vd ["_law_k"] [3] (mFz (Ab (aa (ak 1) (aq)))) (MC (aa (ak 1) (aa (M2 (ak 0) (mC (.int 5)) bf) (aq))) bh))) (fNo) (fAt (ak 2))))
noncomputable def dD (cO cH gD : FF) : SF := aP (sIf (qt (lD (sW (MC (aa (ak 1) (aq)) cO))) (qt (toB (M2 (MC (aa (ak 1) (aq)) (aR bx)) (MC (aa (ak 0) (aq)) (aR bx)) oNe)) (lD (sW (CN (oM (ak 1))))))) (bF (mC (.bl false))) (bT)) (bF (rm (CN (oM (MC (aa (ak 0) (aa (MC (aa (ak 0) (aa (ak 1) (aq))) cH) (aq))) gD)))))
noncomputable def jD (fW : FF) : SF := aP (sIf (toB (M2 (ak 0) (MC (aq) oLst) oEq)) (bF (mC (.int 1))) (bT)) (aP (aY 1 (mC (.int 0))) (aP (gZ (oV (aa (M2 (ak 0) (mC (.int 0)) oIx) (aq))) (kW 2 (cB (hName 2) (cB (hName 3) (kY)))) (aP (aY 4 (mFz (lLC ["_law_row"] [2] (eZ (mSl (ak 0) (fAt (mC (.int 1))) (fNo))) (hName 0) (bG) (M2 (mSl (ak 0) (fNo) (fAt (ak 1))) (mSl (ak 0) (fAt (M2 (ak 1) (mC (.int 1)) bf)) (fNo)) bf)))) (aY 1 (M2 (ak 1) (M2 (M2 (M2 (MC (aa (mC (.int 1)) (aa (M1 (mC (.int 1)) ir) (aq))) oLst) (M2 (ak 2) (mC (.int 2)) oMod) oIx) (ak 3) bJ) (MC (aa (ak 4) (aq)) fW) bJ) bf)))) (bF (ak 1))))
noncomputable def lR (eQ bU : FF) : SF := aP (sIf (qt (lD (sW (M1 (ak 1) (kj "tuple")))) (qt (toB (M2 (MC (aa (ak 1) (aq)) (aR bx)) (MC (aa (ak 0) (aq)) (aR bx)) oNe)) (toB (M2 (mFz (lLC ["_law_one"] [] (eZ (ak 1)) (hName 0) (lD (sW (MC (aa (ak 0) (aq)) eQ))) (ak 0))) (MC (aq) oLst) tH)))) (bF (mC (.bl false))) (bT)) (aP (sIf (qt (toB (M2 (mFz (lLC ["_law_one"] [] (eZ (ak 1)) (hName 0) (toB (M2 (ak 0) (mC (.int 0)) oNe)) (ak 0))) (MC (aq) oLst) oEq)) (toB (M2 (wW (oM (ak 1))) (mC (.int 0)) oNe))) (bF (mC (.bl false))) (bT)) (aP (aY 2 (mC (.int 1))) (aP (gZ (eZ (ak 0)) (hName 3) (aY 2 (M2 (M2 (ak 2) (M2 (ak 3) (M1 (mC (.int 1)) ir) oIx) bJ) (MC (aa (ak 2) (aa (M2 (ak 3) (M1 (mC (.int 1)) ir) oIx) (aq))) bU) oDiv))) (aP (gZ (bO (aa (M2 (MC (aa (M2 (ak 0) (mC (.int 0)) oIx) (aq)) (aR bx)) (mC (.int 1)) dF) (aq))) (hName 4) (sIf (toB (M2 (wW (oM (mFz (lLC ["_law_one", "_law_point_here"] [4, 2] (nJ (aa (ak 1) (aa (ak 0) (aq)))) (kW 2 (cB (hName 0) (cB (hName 1) (kY)))) (bG) (M2 (M2 (ak 0) (M2 (ak 1) (ak 2) oIx) bJ) (M2 (ak 3) (M2 (ak 1) (M1 (mC (.int 1)) ir) oIx) oDiv) bJ))))) (mC (.int 0)) oNe)) (bF (mC (.bl false))) (bT))) (bF (mC (.bl true)))))))
noncomputable def iw (fW : FF) : SF := aP (aY 1 (mU (pM (aq)))) (aP (gZ (oV (aa (ak 0) (aq))) (kW 2 (cB (hName 2) (cB (hName 3) (kY)))) (aP (aY 4 (mFz (lLC ["_law_j", "_law_other"] [2] (oV (aa (ak 0) (aq))) (kW 2 (cB (hName 0) (cB (hName 1) (kY)))) (toB (M2 (ak 0) (ak 2) oNe)) (ak 1)))) (fK (fZ (ak 1) (aa (M2 (M2 (M2 (MC (aa (mC (.int 1)) (aa (M1 (mC (.int 1)) ir) (aq))) oLst) (M2 (ak 2) (mC (.int 2)) oMod) oIx) (MC (aa (ak 4) (aq)) fW) bJ) (M2 (ak 3) (M1 (mC (.int 1)) ir) oIx) bJ) (aq)))))) (bF (MC (aa (rZ (ak 1)) (aq)) dh)))
noncomputable def dI (bU : FF) : SF := aP (aY 1 (mC (.int 0))) (aP (gZ (eZ (ak 0)) (hName 2) (aY 1 (MC (aa (ak 1) (aa (ak 2) (aq))) bU))) (aP (sIf (toB (M2 (M2 (mFz (lLC ["_law_one"] [] (eZ (ak 0)) (hName 0) (toB (M2 (ak 0) (mC (.int 0)) oNe)) (ak 0))) (mC (.int 0)) oIx) (mC (.int 0)) oLt)) (aY 1 (M2 (mC (.int 0)) (ak 1) dF)) (bT)) (bF (MC (aa (mFz (lLC ["_law_one"] [1] (eZ (ak 0)) (hName 0) (bG) (M2 (ak 0) (ak 1) oDiv))) (aq)) dh))))
noncomputable def il (fP : FF) : SF := aP (aY 2 (mU (Ay (MC (aa (mC (.int 0)) (aq)) oLst) (MC (aa (ak 0) (aq)) (aR bx))))) (aP (gZ (nJ (aa (ak 1) (aa (MC (aa (mFz (lLC ["_law_k"] [0] (eZ (ak 1)) (hName 0) (bG) (M2 (ak 1) (ak 0) oIx))) (aq)) fP) (aq)))) (kW 2 (cB (hName 3) (cB (hName 4) (kY)))) (Dz (ak 4) (ak 2) (ak 3))) (bF (MC (aa (rZ (ak 2)) (aq)) dh)))
noncomputable def kh (gf cV aG bQ : FF) : SF := aP (aY 2 (M2 (MC (aa (M2 (ak 1) (mC (.int 0)) oIx) (aq)) (aR bx)) (mC (.int 1)) bf)) (aP (sIf (toB (M2 (MC (aa (ak 1) (aq)) (aR bx)) (ak 2) oLt)) (bF (MC (aa (MC (aa (M2 (MC (aa (mC (.int 0)) (aq)) oLst) (MC (aa (ak 1) (aq)) (aR bx)) bJ) (aq)) dh) (aa (MC (aa (M2 (MC (aa (mC (.int 1)) (aq)) oLst) (M2 (MC (aa (mC (.int 0)) (aq)) oLst) (M2 (MC (aa (ak 1) (aq)) (aR bx)) (mC (.int 1)) dF) bJ) bf) (aq)) dh) (aq))) oLst)) (bT)) (aP (aY 3 (MC (aa (ak 1) (aa (MC (aa (ak 0) (aa (MC (aa (ak 1) (aq)) (aR bx)) (aa (ak 2) (aq)))) gf) (aq))) cV)) (aP (aY 4 (MC (aa (ak 1) (aa (MC (aa (ak 0) (aa (MC (aa (ak 1) (aq)) (aR bx)) (aa (ak 2) (aq)))) gf) (aq))) cV)) (aP (aY 5 (M2 (M2 (MC (aa (ak 0) (aq)) aG) (mC (.int 19)) oMod) (mC (.int 9)) dF)) (aP (aY 6 (MC (aa (mFz (lLC ["_law_here", "_law_there"] [5] (nJ (aa (ak 3) (aa (ak 4) (aq)))) (kW 2 (cB (hName 0) (cB (hName 1) (kY)))) (bG) (M2 (ak 0) (M2 (ak 2) (ak 1) bJ) bf))) (aq)) dh)) (aP (aY 7 (mU (pM (aa (ak 3) (aa (ak 6) (aa (MC (aa (mFz (lLC ["_law_here"] [] (eZ (ak 3)) (hName 0) (bG) (M2 (mC (.int 7)) (ak 0) bJ))) (aq)) dh) (aq))))))) (aP (sIf (toB (M2 (mFz (lLC ["_law_here"] [] (eZ (ak 3)) (hName 0) (toB (M2 (ak 0) (mC (.int 0)) oNe)) (ak 0))) (MC (aq) oLst) tH)) (fK (fZ (ak 7) (aa (MC (aa (ak 3) (aq)) bQ) (aq)))) (bT)) (bF (rZ (ak 7))))))))))
noncomputable def dG (fJ aG cg : FF) : SF := aP (aY 3 (MC (aa (ak 0) (aa (ak 1) (aa (ak 2) (aq)))) fJ)) (aP (sIf (toB (M2 (ak 3) (MC (aq) oLst) oEq)) (aY 3 (MC (aa (MC (aa (MC (aa (ak 0) (aq)) aG) (aa (ak 1) (aa (mC (.int 2)) (aa (mC (.int 0)) (aq))))) cg) (aq)) oLst)) (bT)) (bF (ak 3)))
noncomputable def lg (di : FF) : SF := aP (aY 2 (M2 (M2 (ak 1) (mC (.int 10)) oDiv) (MC (aa (ak 0) (aq)) (aR bx)) oMod)) (aP (aY 3 (M2 (M2 (M2 (ak 2) (mC (.int 1)) bf) (M2 (M2 (ak 1) (mC (.int 500)) oDiv) (MC (aa (ak 0) (aq)) (aR bx)) oMod) bf) (MC (aa (ak 0) (aq)) (aR bx)) oMod)) (aP (aY 4 (MC (aa (MC (aa (ak 0) (aa (ak 2) (aa (M2 (M2 (ak 0) (ak 2) oIx) (mC (.int 1)) bf) (aq)))) di) (aa (MC (aa (ak 0) (aa (ak 2) (aa (M2 (M2 (ak 0) (ak 2) oIx) (mC (.int 1)) dF) (aq)))) di) (aa (MC (aa (ak 0) (aa (ak 2) (aa (mC (.int 0)) (aq)))) di) (aq)))) oLst)) (aP (aY 4 (M2 (ak 4) (MC (aa (xJ (ak 0)) (aa (MC (aa (mFz (lLC ["_law_one"] [] (eZ (ak 0)) (hName 0) (bG) (M2 (mC (.int 0)) (ak 0) dF))) (aq)) dh) (aa (M2 (MC (aa (mC (.int 0)) (aq)) oTup) (MC (aa (ak 0) (aq)) (aR bx)) bJ) (aa (mFz (lOf (aa (ak 0) (aq)))) (aq))))) oLst) bf)) (aP (aY 4 (M2 (ak 4) (MC (aa (M2 (ak 0) (MC (aa (mC (.int 0)) (aq)) oTup) bf) (aa (mSl (ak 0) (fNo) (fAt (M1 (mC (.int 1)) ir))) (aq))) oLst) bf)) (aP (aY 5 (MC (aa (MC (aa (ak 0) (aa (ak 2) (aa (M2 (M2 (ak 0) (ak 2) oIx) (mC (.int 1)) bf) (aq)))) di) (aa (ak 3) (aa (M2 (M2 (ak 0) (ak 3) oIx) (mC (.int 1)) dF) (aq)))) di)) (bF (M2 (M2 (ak 4) (MC (aa (ak 5) (aq)) oLst) bf) (M2 (ak 1) (mC (.int 10)) oMod) oIx)))))))
noncomputable def pQ (gJ aG cj gb gk fD dm iM : FF) : SF := aP (aY 1 (MC (aa (ak 0) (aq)) gJ)) (aP (gZ (bO (aa (M2 (mC (.int 2)) (MC (aa (mC (.int 8)) (aa (MC (aa (ak 0) (aq)) (aR bx)) (aq))) (mK qd)) bf) (aq))) (hName 2) (aP (aY 3 (M2 (mC (.int 1)) (M2 (MC (aa (ak 1) (aq)) aG) (mC (.int 3)) oMod) bf)) (aP (aY 4 (MC (aa (ak 1) (aa (ak 3) (aa (M2 (MC (aa (mC (.int 12)) (aa (mC (.int 6)) (aa (mC (.int 5)) (aq)))) oLst) (M2 (MC (aa (ak 1) (aq)) aG) (mC (.int 3)) oMod) oIx) (aq)))) cj)) (gZ (eZ (MC (aa (ak 1) (aa (ak 4) (aq))) gb)) (hName 5) (aP (aY 6 (M2 (MC (aa (ak 5) (aq)) oLst) (mFz (lLC ["_law_k"] [5, 1] (bO (aa (mC (.int 4)) (aq))) (hName 0) (bG) (MC (aa (ak 1) (aa (MC (aa (ak 2) (aq)) aG) (aq))) gk))) bf)) (gZ (eZ (ak 6)) (hName 7) (sIf (lD (sW (MC (aa (MC (aa (ak 4) (aa (ak 7) (aq))) dm) (aa (MC (aa (ak 4) (aa (ak 7) (aq))) fD) (aq))) iM))) (bF (mC (.bl false))) (bT)))))))) (bF (mC (.bl true))))
noncomputable def cQ (eQ bU : FF) : SF := aP (sIf (qt (lD (sW (M1 (ak 1) (kj "tuple")))) (qt (toB (M2 (MC (aa (ak 1) (aq)) (aR bx)) (MC (aa (ak 0) (aq)) (aR bx)) oNe)) (toB (M2 (mFz (lLC ["_law_one"] [] (eZ (ak 1)) (hName 0) (lD (sW (MC (aa (ak 0) (aq)) eQ))) (ak 0))) (MC (aq) oLst) tH)))) (bF (mC (.bl false))) (bT)) (aP (sIf (qt (toB (M2 (mFz (lLC ["_law_one"] [] (eZ (ak 1)) (hName 0) (toB (M2 (ak 0) (mC (.int 0)) oNe)) (ak 0))) (MC (aq) oLst) oEq)) (toB (M2 (wW (oM (ak 1))) (mC (.int 0)) oNe))) (bF (mC (.bl false))) (bT)) (aP (aY 2 (mC (.int 1))) (aP (gZ (eZ (ak 0)) (hName 3) (aY 2 (M2 (M2 (ak 2) (M2 (ak 3) (M1 (mC (.int 1)) ir) oIx) bJ) (MC (aa (ak 2) (aa (M2 (ak 3) (M1 (mC (.int 1)) ir) oIx) (aq))) bU) oDiv))) (aP (gZ (bO (aa (M2 (MC (aa (M2 (ak 0) (mC (.int 0)) oIx) (aq)) (aR bx)) (mC (.int 1)) dF) (aq))) (hName 4) (sIf (toB (M2 (wW (oM (mFz (lLC ["_law_one", "_law_point_here"] [4, 2] (nJ (aa (ak 1) (aa (ak 0) (aq)))) (kW 2 (cB (hName 0) (cB (hName 1) (kY)))) (bG) (M2 (M2 (ak 0) (M2 (ak 1) (ak 2) oIx) bJ) (M2 (ak 3) (M2 (ak 1) (M1 (mC (.int 1)) ir) oIx) oDiv) bJ))))) (mC (.int 0)) oNe)) (bF (mC (.bl false))) (bT))) (bF (mC (.bl true)))))))
end LG
namespace Lk07
open PySem PySem.Spec PyProof.Rows L2 L3 LG
def top (i : Nat) : Stmt := PySem.Challenge.pw_heapsmeet_k07_ties_right_and_bent.main.body.getD i (.Pass ⟨0, 0, 0, 0⟩)
structure BI (K : PySem.W.Frag) (mg : Str -> Option Value) : Prop where
 b_abs : mg "abs" = none
 b_all : mg "all" = none
 b_any : mg "any" = none
 b_bool : mg "bool" = none
 b_enumerate : mg "enumerate" = none
 b_int : mg "int" = none
 b_isinstance : mg "isinstance" = none
 b_len : mg "len" = none
 b_list : mg "list" = none
 b_min : mg "min" = none
 b_range : mg "range" = none
 b_sorted : mg "sorted" = none
 b_sum : mg "sum" = none
 b_tuple : mg "tuple" = none
 b_zip : mg "zip" = none
variable {P : Program} {w : World} {K : PySem.W.Frag} {mg : Str -> Option Value} {base : Heap} {tb : List Addr} {f Tb : Addr} {fd : FuncData}
abbrev qK : Stmt := top 12
theorem uA : aX ["_law_cell", "_law_k", "_law_number"] ["_law_cell", "_law_k"] (aN qK) := ⟨rfl, rfl, rfl, by decide +kernel, rfl, by decide +kernel, by decide +kernel⟩
theorem BW (T : BI K mg) (F : fB K "_law_mixed" "_law_mixed" qK f fd Tb) (KB : K.In base) (hmg : mg "_law_mixed" = some (.ref f)) : FI P w K mg base tb "_law_mixed" 2 (0 + 1) (aF 3 (iH)) :=
 cY F KB hmg uA rfl (λ _ _ _ _ _ _ => us2 λ _ _ => rfl) λ c A outer s H E hcd hr => by
  have nd := uA.nd
  refine aB ?_ (aD (aQ (aC bc (aC cG (pdv 2) (pdv 2)) az)))
  refine aO (i := 2) nd ?_
  refine aC bc ?_ az
  refine aC bu ?_ az
  exact aC bu (aC cG (aC bc (pdv 0) az) az) (aC cG (aC cG az (pdv 1)) (pdv 1))
abbrev rT : Stmt := top 13
theorem ue : aX ["_law_script", "_law_drawn", "_law_k", "_law_cell", "_law_j"] ["_law_script"] (aN rT) := ⟨rfl, rfl, rfl, by decide +kernel, rfl, by decide +kernel, by decide +kernel⟩
theorem Ca {bh : FF} (T : BI K mg) (F : fB K "_law_draws" "_law_draws" rT f fd Tb) (KB : K.In base) (hmg : mg "_law_draws" = some (.ref f)) (F_Lmixed : FI P w K mg base tb "_law_mixed" 2 1 bh) : FI P w K mg base tb "_law_draws" 1 (1 + 1) (aF 5 (lL bh)) :=
 cY F KB hmg ue rfl (λ _ _ _ _ _ _ => us1 λ _ => rfl) λ c A outer s H E hcd hr => by
  have nd := ue.nd
  refine aB (aO (i := 1) nd (jb (jX ao))) ?_
  refine aB ?_ (aD (aQ (pdv 1)))
  refine dj (ts := [2]) PassesOwn.never rfl ?_ (aJ (i := 2) nd) ?_
  refine bY T.b_range ?_
  refine aj ?_ ao
  refine Ai rfl T.b_min ?_
  exact aj (dH T.b_len (aj (pdv 0) ao)) (aj az ao)
  refine aB (aO (i := 3) nd (rE T.b_abs (aj (dz (pdv 0) (pdv 2)) ao))) ?_
  refine aB ?_ ?_
  refine cN (aW xZ (pdv 3) (aC Dm az az)) ?_ bw
  refine aD ?_
  refine dj (ts := [4]) PassesOwn.never rfl (bY T.b_range (aj az ao)) (aJ (i := 4) nd) ?_
  refine aD ?_
  refine gj ?_
  refine eU (pdv 1) ?_
  refine aj ?_ ao
  refine aL F_Lmixed (hr.mono (by decide)) ?_ (au (au aK))
  refine aj ?_ (aj (aC bu (aC bu (pdv 4) (pdv 2)) az) ao)
  refine aL F_Lmixed (hr.mono (by decide)) ?_ (au (au aK))
  exact aj (pdv 3) (aj (aC bu (aC cG az (pdv 4)) az) ao)
  refine aB ?_ ?_
  refine pF PassesOwn.never ?_ ?_
  refine sE ?_
  exact vN (aW Jk (pdv 3) (aC Dm az az)) (xN (aW xZ (dH T.b_len (aj (pdv 1) ao)) az))
  refine aB ?_ (aD (aO (i := 3) nd (aC fU (pdv 3) az)))
  exact gj (eU (pdv 1) (aj (aC bc (pdv 3) az) ao))
  refine aD ?_
  refine cN (aW Jk (pdv 3) az) ?_ bw
  refine aD ?_
  exact gj (eU (pdv 1) (aj (aC bc (pdv 3) az) ao))
abbrev vq : Stmt := top 14
theorem xP : aX ["_law_drawn"] ["_law_drawn"] (aN vq) := ⟨rfl, rfl, rfl, by decide +kernel, rfl, by decide +kernel, by decide +kernel⟩
theorem CP (T : BI K mg) (F : fB K "_law_next" "_law_next" vq f fd Tb) (KB : K.In base) (hmg : mg "_law_next" = some (.ref f)) : FI P w K mg base tb "_law_next" 1 (0 + 1) (aF 1 (gq)) :=
 cY F KB hmg xP rfl (λ _ _ _ _ _ _ => us1 λ _ => rfl) λ c A outer s H E hcd hr => by
  have nd := xP.nd
  refine aB ?_ (aD (aQ (GP (pdv 0))))
  exact cN (aW (jh hr) (pdv 0) (cM ao)) (aD (aQ az)) bw
abbrev yW : Stmt := top 15
theorem zN : aX ["_law_one", "_law_other"] ["_law_one", "_law_other"] (aN yW) := ⟨rfl, rfl, rfl, by decide +kernel, rfl, by decide +kernel, by decide +kernel⟩
theorem Ig (T : BI K mg) (F : fB K "_law_gcd" "_law_gcd" yW f fd Tb) (KB : K.In base) (hmg : mg "_law_gcd" = some (.ref f)) : FI P w K mg base tb "_law_gcd" 2 (0 + 1) (aF 2 (lr)) :=
 cY F KB hmg zN rfl (λ _ _ _ _ _ _ => us2 λ _ _ => rfl) λ c A outer s H E hcd hr => by
  have nd := zN.nd
  refine aB ?_ (aD (aQ (rE T.b_abs (aj (pdv 0) ao))))
  refine pF PassesOwn.never (aW (mR hr) (pdv 1) az) ?_
  refine aD ?_
  exact qH (i := 0) (j := 1) rfl nd (aj (pdv 1) (aj (aC bc (pdv 0) (pdv 1)) ao))
abbrev oU : Stmt := top 16
theorem rK : aX ["_law_numbers", "_law_bottom", "_law_common", "_law_number"] ["_law_numbers", "_law_bottom"] (aN oU) := ⟨rfl, rfl, rfl, by decide +kernel, rfl, by decide +kernel, by decide +kernel⟩
theorem yN {bU : FF} (T : BI K mg) (F : fB K "_law_lowest" "_law_lowest" oU f fd Tb) (KB : K.In base) (hmg : mg "_law_lowest" = some (.ref f)) (F_Lgcd : FI P w K mg base tb "_law_gcd" 2 1 bU) : FI P w K mg base tb "_law_lowest" 2 (1 + 1) (aF 4 (gH bU)) :=
 cY F KB hmg rK rfl (λ _ _ _ _ _ _ => us2 λ _ _ => rfl) λ c A outer s H E hcd hr => by
  have nd := rK.nd
  refine aB (aO (i := 2) nd (pdv 1)) ?_
  refine aB ?_ ?_
  refine dj (ts := [3]) PassesOwn.never rfl (cL (pdv 0)) (aJ (i := 3) nd) ?_
  refine aD ?_
  exact aO (i := 2) nd (aL F_Lgcd (hr.mono (by decide)) (aj (pdv 2) (aj (pdv 3) ao)) (au (au aK)))
  refine aB ?_ ?_
  refine cN (aW xZ (pdv 1) az) ?_ bw
  exact aD (aO (i := 2) nd (aC dX az (rE T.b_abs (aj (pdv 2) ao))))
  refine aD ?_
  refine aQ ?_
  refine aC bu ?_ (jZ (aj (aC fU (pdv 1) (pdv 2)) ao))
  refine gU T.b_tuple ?_
  refine aj ?_ ao
  refine cZ ?_
  refine eF (own := ["_law_number"]) (cap := ["_law_common"]) (capI := [2]) (ts := [0]) rfl ⟨rfl, by decide +kernel, ⟨⟨rfl, by first | exact Or.inl rfl | exact Or.inr rfl⟩, trivial⟩, by decide +kernel, by decide +kernel⟩ (by decide +kernel) (cL (pdv 0)) (λ cs C fp s2 H2 => aJ (i := 0) (show (["_law_number", "_law_common"] : List Str).Nodup by decide +kernel)) ?_ ?_
  intro cs C fp s2 H2
  exact cI
  intro cs C fp s2 H2
  exact aC fU (pdv 0) (pdv 1)
abbrev nF : Stmt := top 19
theorem pW : aX ["_law_drawn", "_law_directions", "_law_many", "_law_start", "_law_step", "_law_found", "_law_j", "_law_turn"] ["_law_drawn", "_law_directions", "_law_many"] (aN nF) := ⟨rfl, rfl, rfl, by decide +kernel, rfl, by decide +kernel, by decide +kernel⟩
theorem yg {aG aZ : FF} (T : BI K mg) (F : fB K "_law_on_line" "_law_on_line" nF f fd Tb) (KB : K.In base) (hmg : mg "_law_on_line" = some (.ref f)) (F_Lnext : FI P w K mg base tb "_law_next" 1 1 aG) (F_Llowest : FI P w K mg base tb "_law_lowest" 2 2 aZ) : FI P w K mg base tb "_law_on_line" 3 (2 + 1) (aF 8 (iz aG aZ)) :=
 cY F KB hmg pW rfl (λ _ _ _ _ _ _ => us3 λ _ _ _ => rfl) λ c A outer s H E hcd hr => by
  have nd := pW.nd
  refine aB ?_ ?_
  refine aO (i := 3) nd ?_
  refine cZ ?_
  refine eF (own := ["_law_k"]) (cap := ["_law_drawn"]) (capI := [0]) (ts := [0]) rfl ⟨rfl, by decide +kernel, ⟨⟨rfl, by first | exact Or.inl rfl | exact Or.inr rfl⟩, trivial⟩, by decide +kernel, by decide +kernel⟩ (by decide +kernel) (bY T.b_range (aj (pdv 1) ao)) (λ cs C fp s2 H2 => aJ (i := 0) (show (["_law_k", "_law_drawn"] : List Str).Nodup by decide +kernel)) ?_ ?_
  intro cs C fp s2 H2
  exact cI
  intro cs C fp s2 H2
  refine aC dX ?_ az
  exact aC bc (aL F_Lnext (hr.mono (by decide)) (aj (pdv 1) ao) (au aK)) az
  refine aB ?_ ?_
  refine aO (i := 4) nd ?_
  refine cZ ?_
  refine eF (own := ["_law_k"]) (cap := ["_law_drawn"]) (capI := [0]) (ts := [0]) rfl ⟨rfl, by decide +kernel, ⟨⟨rfl, by first | exact Or.inl rfl | exact Or.inr rfl⟩, trivial⟩, by decide +kernel, by decide +kernel⟩ (by decide +kernel) (bY T.b_range (aj (pdv 1) ao)) (λ cs C fp s2 H2 => aJ (i := 0) (show (["_law_k", "_law_drawn"] : List Str).Nodup by decide +kernel)) ?_ ?_
  intro cs C fp s2 H2
  exact cI
  intro cs C fp s2 H2
  refine aC dX ?_ az
  exact aC bc (aL F_Lnext (hr.mono (by decide)) (aj (pdv 1) ao) (au aK)) az
  refine aB (aO (i := 5) nd (jb (jX ao))) ?_
  refine aB ?_ (aD (aQ (lu (pdv 5))))
  refine dj (ts := [6]) PassesOwn.never rfl (bY T.b_range (aj (pdv 2) ao)) (aJ (i := 6) nd) ?_
  refine aB ?_ ?_
  refine aO (i := 7) nd ?_
  refine aC dX ?_ az
  exact aC bc (aL F_Lnext (hr.mono (by decide)) (aj (pdv 0) ao) (au aK)) az
  refine aD ?_
  refine gj ?_
  refine eU (pdv 5) ?_
  refine aj ?_ ao
  refine aL F_Llowest (hr.mono (by decide)) ?_ (au (au aK))
  refine aj ?_ (aj az ao)
  refine cZ ?_
  refine eF (own := ["_law_k"]) (cap := ["_law_start", "_law_turn", "_law_step"]) (capI := [3, 7, 4]) (ts := [0]) rfl ⟨rfl, by decide +kernel, ⟨⟨rfl, by first | exact Or.inl rfl | exact Or.inr rfl⟩, ⟨⟨rfl, by first | exact Or.inl rfl | exact Or.inr rfl⟩, ⟨⟨rfl, by first | exact Or.inl rfl | exact Or.inr rfl⟩, trivial⟩⟩⟩, by decide +kernel, by decide +kernel⟩ (by decide +kernel) (bY T.b_range (aj (pdv 1) ao)) (λ cs C fp s2 H2 => aJ (i := 0) (show (["_law_k", "_law_start", "_law_turn", "_law_step"] : List Str).Nodup by decide +kernel)) ?_ ?_
  intro cs C fp s2 H2
  exact cI
  intro cs C fp s2 H2
  exact aC bu (dz (pdv 1) (pdv 0)) (aC cG (pdv 2) (dz (pdv 3) (pdv 0)))
abbrev uP : Stmt := top 20
theorem xY : aX ["_law_drawn", "_law_directions", "_law_many", "_law_first", "_law_second", "_law_found", "_law_j", "_law_number", "_law_row"] ["_law_drawn", "_law_directions", "_law_many"] (aN uP) := ⟨rfl, rfl, rfl, by decide +kernel, rfl, by decide +kernel, by decide +kernel⟩
theorem Fz {aG aZ : FF} (T : BI K mg) (F : fB K "_law_flat" "_law_flat" uP f fd Tb) (KB : K.In base) (hmg : mg "_law_flat" = some (.ref f)) (F_Lnext : FI P w K mg base tb "_law_next" 1 1 aG) (F_Llowest : FI P w K mg base tb "_law_lowest" 2 2 aZ) : FI P w K mg base tb "_law_flat" 3 (2 + 1) (aF 9 (mx aG aZ)) :=
 cY F KB hmg xY rfl (λ _ _ _ _ _ _ => us3 λ _ _ _ => rfl) λ c A outer s H E hcd hr => by
  have nd := xY.nd
  refine aB ?_ ?_
  refine qH (i := 3) (j := 4) rfl nd ?_
  refine aj ?_ ?_
  refine aC dX ?_ az
  exact aC bc (aL F_Lnext (hr.mono (by decide)) (aj (pdv 0) ao) (au aK)) az
  refine aj ?_ ao
  refine aC dX ?_ az
  exact aC bc (aL F_Lnext (hr.mono (by decide)) (aj (pdv 0) ao) (au aK)) az
  refine aB (aO (i := 5) nd (jb (jX ao))) ?_
  refine aB ?_ (aD (aQ (lu (pdv 5))))
  refine dj (ts := [6]) PassesOwn.never rfl (bY T.b_range (aj (pdv 2) ao)) (aJ (i := 6) nd) ?_
  refine aB ?_ ?_
  exact aO (i := 7) nd (aL F_Lnext (hr.mono (by decide)) (aj (pdv 0) ao) (au aK))
  refine aB ?_ ?_
  refine aO (i := 8) nd ?_
  refine jb ?_
  refine By ?_ iG (iI (pdv 1))
  refine cM ?_
  refine aj (aC dX (aC bc (pdv 7) az) az) ?_
  refine aj (aC dX (aC bc (aC fU (pdv 7) az) az) az) ?_
  exact aj (aC dX (aC bc (aC fU (pdv 7) az) az) az) ao
  refine aB ?_ ?_
  refine cN (aW Pk (pdv 1) az) ?_ bw
  refine aD ?_
  refine zT ?_ (pdv 8) (jA az)
  exact aC bu (aC cG (pdv 3) (dz (pdv 8) az)) (aC cG (pdv 4) (dz (pdv 8) (aC dX (pdv 1) az)))
  refine aD ?_
  refine gj ?_
  refine eU (pdv 5) ?_
  exact aj (aL F_Llowest (hr.mono (by decide)) (aj (lu (pdv 8)) (aj az ao)) (au (au aK))) ao
abbrev qT : Stmt := top 17
theorem uh : aX ["_law_number", "_law_kind", "_law_base"] ["_law_number", "_law_kind", "_law_base"] (aN qT) := ⟨rfl, rfl, rfl, by decide +kernel, rfl, by decide +kernel, by decide +kernel⟩
theorem Bl (T : BI K mg) (F : fB K "_law_place" "_law_place" qT f fd Tb) (KB : K.In base) (hmg : mg "_law_place" = some (.ref f)) : FI P w K mg base tb "_law_place" 3 (0 + 1) (aF 3 (gh)) :=
 cY F KB hmg uh rfl (λ _ _ _ _ _ _ => us3 λ _ _ _ => rfl) λ c A outer s H E hcd hr => by
  have nd := uh.nd
  refine aB ?_ ?_
  refine cN (aW (jh hr) (pdv 1) az) ?_ bw
  refine aD ?_
  refine aQ ?_
  refine jZ ?_
  refine aj (aC dX (aC bc (pdv 0) az) az) ?_
  exact aj (aC bu az (aC bc (aC fU (pdv 0) az) az)) ao
  refine aB ?_ ?_
  refine cN (aW (jh hr) (pdv 1) az) ?_ bw
  refine aD ?_
  refine aQ ?_
  refine jZ ?_
  exact aj (aC dX (aC bc (pdv 0) az) az) (aj az ao)
  refine aB ?_ ?_
  refine cN (aW (jh hr) (pdv 1) az) ?_ bw
  refine aD ?_
  refine aQ ?_
  refine jZ ?_
  refine aj (aC dX (aC bc (pdv 0) az) az) ?_
  exact aj (aC bu az (aC bc (aC fU (pdv 0) az) az)) ao
  refine aB ?_ ?_
  refine cN (aW (jh hr) (pdv 1) az) ?_ bw
  refine aD ?_
  refine aQ ?_
  refine jZ ?_
  refine aj ?_ (aj az ao)
  refine aC bu (pdv 2) ?_
  refine dz ?_ (aC bc (pdv 0) az)
  refine cM ?_
  exact aj az (aj az (aj az (aj az ao)))
  refine aD ?_
  refine aQ ?_
  refine jZ ?_
  refine aj ?_ (aj az ao)
  exact aC cG (aC bc (pdv 0) az) (aC bu az (aC bc (pdv 2) az))
abbrev rF : Stmt := top 18
theorem tR : aX ["_law_number", "_law_directions", "_law_kind", "_law_base", "_law_numbers", "_law_bottom", "_law_k", "_law_top", "_law_under"] ["_law_number", "_law_directions", "_law_kind", "_law_base"] (aN rF) := ⟨rfl, rfl, rfl, by decide +kernel, rfl, by decide +kernel, by decide +kernel⟩
theorem BZ {bh iy aZ : FF} (T : BI K mg) (F : fB K "_law_point" "_law_point" rF f fd Tb) (KB : K.In base) (hmg : mg "_law_point" = some (.ref f)) (F_Lmixed : FI P w K mg base tb "_law_mixed" 2 1 bh) (F_Lplace : FI P w K mg base tb "_law_place" 3 1 iy) (F_Llowest : FI P w K mg base tb "_law_lowest" 2 2 aZ) : FI P w K mg base tb "_law_point" 4 (2 + 1) (aF 9 (jk bh iy aZ)) :=
 cY F KB hmg tR rfl (λ _ _ _ _ _ _ => us4 λ _ _ _ _ => rfl) λ c A outer s H E hcd hr => by
  have nd := tR.nd
  refine aB (aO (i := 4) nd (jb (jX ao))) ?_
  refine aB (aO (i := 5) nd az) ?_
  refine aB ?_ ?_
  refine dj (ts := [6]) PassesOwn.never rfl (bY T.b_range (aj (pdv 1) ao)) (aJ (i := 6) nd) ?_
  refine aB ?_ ?_
  refine Ir (ts := [7, 8]) ?_ (iW rfl (bB (aJ (i := 7) nd) (bB (aJ (i := 8) nd) gV)))
  refine aL F_Lplace (hr.mono (by decide)) ?_ (au (au (au aK)))
  refine aj ?_ (aj (pdv 2) (aj (aC bu (pdv 3) (pdv 6)) ao))
  exact aL F_Lmixed (hr.mono (by decide)) (aj (pdv 0) (aj (aC bu (pdv 6) az) ao)) (au (au aK))
  refine aB ?_ (aD (gj (eU (pdv 4) (aj (pdv 7) ao))))
  exact cN (aW (jh hr) (pdv 6) az) (aD (aO (i := 5) nd (pdv 8))) bw
  refine aD ?_
  exact aQ (aL F_Llowest (hr.mono (by decide)) (aj (lu (pdv 4)) (aj (pdv 5) ao)) (au (au aK)))
abbrev pL : Stmt := top 21
theorem rP : aX ["_law_drawn", "_law_directions", "_law_most", "_law_number", "_law_many", "_law_kind", "_law_found", "_law_j", "_law_one"] ["_law_drawn", "_law_directions", "_law_most"] (aN pL) := ⟨rfl, rfl, rfl, by decide +kernel, rfl, by decide +kernel, by decide +kernel⟩
theorem zu {aG fQ jg cg : FF} (T : BI K mg) (F : fB K "_law_points" "_law_points" pL f fd Tb) (KB : K.In base) (hmg : mg "_law_points" = some (.ref f)) (F_Lnext : FI P w K mg base tb "_law_next" 1 1 aG) (F_Lon_line : FI P w K mg base tb "_law_on_line" 3 3 fQ) (F_Lflat : FI P w K mg base tb "_law_flat" 3 3 jg) (F_Lpoint : FI P w K mg base tb "_law_point" 4 3 cg) : FI P w K mg base tb "_law_points" 3 (3 + 1) (aF 9 (je aG fQ jg cg)) :=
 cY F KB hmg rP rfl (λ _ _ _ _ _ _ => us3 λ _ _ _ => rfl) λ c A outer s H E hcd hr => by
  have nd := rP.nd
  refine aB ?_ ?_
  exact aO (i := 3) nd (aL F_Lnext (hr.mono (by decide)) (aj (pdv 0) ao) (au aK))
  refine aB ?_ ?_
  exact aO (i := 4) nd (aC bc (aC fU (pdv 3) az) (aC bu (pdv 2) az))
  refine aB (aO (i := 5) nd (aC bc (pdv 3) az)) ?_
  refine aB ?_ ?_
  refine cN (aW (jh hr) (pdv 5) az) ?_ bw
  refine aD ?_
  refine aQ ?_
  exact aL F_Lon_line (hr.mono (by decide)) (aj (pdv 0) (aj (pdv 1) (aj (pdv 4) ao))) (au (au (au aK)))
  refine aB ?_ ?_
  refine cN (aW (jh hr) (pdv 5) az) ?_ bw
  refine aD ?_
  refine aQ ?_
  exact aL F_Lflat (hr.mono (by decide)) (aj (pdv 0) (aj (pdv 1) (aj (pdv 4) ao))) (au (au (au aK)))
  refine aB ?_ ?_
  refine cN (aW (jh hr) (pdv 5) az) ?_ bw
  refine aD ?_
  refine aQ ?_
  refine aC cG ?_ (pdv 4)
  refine cM ?_
  refine aj ?_ ao
  refine aL F_Lpoint (hr.mono (by decide)) ?_ (au (au (au (au aK))))
  exact aj (pdv 3) (aj (pdv 1) (aj az (aj az ao)))
  refine aB (aO (i := 6) nd (jb (jX ao))) ?_
  refine aB ?_ (aD (aQ (lu (pdv 6))))
  refine dj (ts := [7]) PassesOwn.never rfl (bY T.b_range (aj (pdv 4) ao)) (aJ (i := 7) nd) ?_
  refine aB ?_ ?_
  exact aO (i := 8) nd (aL F_Lnext (hr.mono (by decide)) (aj (pdv 0) ao) (au aK))
  refine aD ?_
  refine cN ?_ ?_ ?_
  refine sE ?_
  refine vN (aW (jh hr) (pdv 5) az) ?_
  exact vN (aW (yQ hr) (pdv 6) (cM ao)) (xN (aW (jh hr) (aC bc (pdv 8) az) az))
  refine aD ?_
  refine gj ?_
  refine eU (pdv 6) ?_
  refine aj ?_ ao
  refine dz (pdv 6) ?_
  exact aC bc (aC fU (pdv 8) az) (dH T.b_len (aj (pdv 6) ao))
  refine aD ?_
  refine gj ?_
  refine eU (pdv 6) ?_
  refine aj ?_ ao
  refine aL F_Lpoint (hr.mono (by decide)) ?_ (au (au (au (au aK))))
  refine aj (aC fU (pdv 8) az) ?_
  refine aj (pdv 1) ?_
  exact aj (aC bc (aC bc (pdv 5) az) az) (aj (aC cG (aC bc (pdv 8) az) az) ao)
abbrev jE : Stmt := top 32
theorem lH : aX ["_law_drawn", "_law_directions", "_law_most", "_law_points_here"] ["_law_drawn", "_law_directions", "_law_most"] (aN jE) := ⟨rfl, rfl, rfl, by decide +kernel, rfl, by decide +kernel, by decide +kernel⟩
theorem qO {fJ aG cg : FF} (T : BI K mg) (F : fB K "_law_own_points" "_law_own_points" jE f fd Tb) (KB : K.In base) (hmg : mg "_law_own_points" = some (.ref f)) (F_Lpoints : FI P w K mg base tb "_law_points" 3 4 fJ) (F_Lnext : FI P w K mg base tb "_law_next" 1 1 aG) (F_Lpoint : FI P w K mg base tb "_law_point" 4 3 cg) : FI P w K mg base tb "_law_own_points" 3 (4 + 1) (aF 4 (dG fJ aG cg)) :=
 cY F KB hmg lH rfl (λ _ _ _ _ _ _ => us3 λ _ _ _ => rfl) λ c A outer s H E hcd hr => by
  have nd := lH.nd
  refine aB ?_ ?_
  refine aO (i := 3) nd ?_
  exact aL F_Lpoints (hr.mono (by decide)) (aj (pdv 0) (aj (pdv 1) (aj (pdv 2) ao))) (au (au (au aK)))
  refine aB ?_ (aD (aQ (pdv 3)))
  refine cN (aW (jh hr) (pdv 3) (cM ao)) ?_ bw
  refine aD ?_
  refine aO (i := 3) nd ?_
  refine cM ?_
  refine aj ?_ ao
  refine aL F_Lpoint (hr.mono (by decide)) ?_ (au (au (au (au aK))))
  exact aj (aL F_Lnext (hr.mono (by decide)) (aj (pdv 0) ao) (au aK)) (aj (pdv 1) (aj az (aj az ao)))
abbrev vU : Stmt := top 30
theorem wG : aX ["_law_drawn", "_law_many", "_law_size", "_law_number"] ["_law_drawn", "_law_many", "_law_size"] (aN vU) := ⟨rfl, rfl, rfl, by decide +kernel, rfl, by decide +kernel, by decide +kernel⟩
theorem Fi {aG bh : FF} (T : BI K mg) (F : fB K "_law_some" "_law_some" vU f fd Tb) (KB : K.In base) (hmg : mg "_law_some" = some (.ref f)) (F_Lnext : FI P w K mg base tb "_law_next" 1 1 aG) (F_Lmixed : FI P w K mg base tb "_law_mixed" 2 1 bh) (hT : Tb ∈ tb) : FI P w K mg base tb "_law_some" 3 (2 + 1) (aF 4 (kE aG bh)) :=
 cY F KB hmg wG rfl (λ _ _ _ _ _ _ => us3 λ _ _ _ => rfl) λ c A outer s H E hcd hr => by
  have nd := wG.nd
  refine aB ?_ ?_
  exact aO (i := 3) nd (aL F_Lnext (hr.mono (by decide)) (aj (pdv 0) ao) (au aK))
  refine aD ?_
  refine aQ ?_
  refine jr ?_ iG (iI (pdv 2))
  refine cZ ?_
  refine Bx (x := "_law_k") (cap := ["_law_number"]) (capI := [3]) rfl hr T.b_sorted ⟨⟨rfl, by decide +kernel, ⟨⟨rfl, by first | exact Or.inl rfl | exact Or.inr rfl⟩, trivial⟩, by decide +kernel, by decide +kernel⟩, rfl, by decide +kernel, by decide +kernel, by decide +kernel, rfl, rfl, rfl, λ _ _ _ _ _ _ => rfl⟩ hT ⟨c, rfl, hcd⟩ (cZ (DX rfl T.b_list T.b_range (aj (pdv 1) ao))) ?_
  intro q f code s H hm
  have hg1 := hm _ hr
  exact aL F_Lmixed (hg1.mono (by decide)) (aj (pdv 1) (aj (aC bu (pdv 0) az) ao)) (au (au aK))
abbrev zc : Stmt := top 25
theorem An : aX ["_law_rows", "_law_found", "_law_k", "_law_number", "_law_rest"] ["_law_rows"] (aN zc) := ⟨rfl, rfl, rfl, by decide +kernel, rfl, by decide +kernel, by decide +kernel⟩
theorem lZ {fW : FF} (T : BI K mg) (F : fB K "_law_det" "_law_det" zc f fd Tb) (KB : K.In base) (hmg : mg "_law_det" = some (.ref f)) {k : Nat} (hk : 0 <= k) (F_Ldet : FI P w K mg base tb "_law_det" 1 k fW) : FI P w K mg base tb "_law_det" 1 (k + 1) (aF 5 (jD fW)) :=
 cY F KB hmg An rfl (λ _ _ _ _ _ _ => us1 λ _ => rfl) λ c A outer s H E hcd hr => by
  have nd := An.nd
  refine aB ?_ ?_
  exact cN (aW (jh hr) (pdv 0) (cM ao)) (aD (aQ az)) bw
  refine aB (aO (i := 1) nd az) ?_
  refine aB ?_ (aD (aQ (pdv 1)))
  refine dj (ts := [2, 3]) PassesOwn.never rfl (rB T.b_enumerate (aj (dz (pdv 0) az) ao)) (iW rfl (bB (aJ (i := 2) nd) (bB (aJ (i := 3) nd) gV))) ?_
  refine aB ?_ ?_
  refine Aj (i := 4) nd (own := ["_law_row"]) (cap := ["_law_k"]) (capI := [2]) (ts := [0]) rfl ⟨rfl, by decide +kernel, ⟨⟨rfl, by first | exact Or.inl rfl | exact Or.inr rfl⟩, trivial⟩, by decide +kernel, by decide +kernel⟩ (by decide +kernel) (cL (jr (pdv 0) (iI az) iG)) (λ cs C fp s2 H2 => aJ (i := 0) (show (["_law_row", "_law_k"] : List Str).Nodup by decide +kernel)) ?_ ?_
  intro cs C fp s2 H2
  exact cI
  intro cs C fp s2 H2
  exact aC bu (jr (pdv 0) iG (iI (pdv 1))) (jr (pdv 0) (iI (aC bu (pdv 1) az)) iG)
  refine aD ?_
  refine aO (i := 1) nd ?_
  refine aC bu (pdv 1) ?_
  refine aC cG ?_ (aL F_Ldet (hr.mono (by first | decide | omega)) (aj (pdv 4) ao) (au aK))
  refine aC cG ?_ (pdv 3)
  exact dz (cM (aj az (aj (jA az) ao))) (aC bc (pdv 2) az)
abbrev pg : Stmt := top 27
theorem rG : aX ["_law_points_here", "_law_found", "_law_k", "_law_point_here", "_law_rest"] ["_law_points_here"] (aN pg) := ⟨rfl, rfl, rfl, by decide +kernel, rfl, by decide +kernel, by decide +kernel⟩
theorem yF {fW : FF} (T : BI K mg) (F : fB K "_law_minors" "_law_minors" pg f fd Tb) (KB : K.In base) (hmg : mg "_law_minors" = some (.ref f)) (F_Ldet : FI P w K mg base tb "_law_det" 1 6 fW) : FI P w K mg base tb "_law_minors" 1 (6 + 1) (aF 5 (iw fW)) :=
 cY F KB hmg rG rfl (λ _ _ _ _ _ _ => us1 λ _ => rfl) λ c A outer s H E hcd hr => by
  have nd := rG.nd
  refine aB (aO (i := 1) nd (jb (jX ao))) ?_
  refine aB ?_ (aD (aQ (gU T.b_tuple (aj (lu (pdv 1)) ao))))
  refine dj (ts := [2, 3]) PassesOwn.never rfl (rB T.b_enumerate (aj (pdv 0) ao)) (iW rfl (bB (aJ (i := 2) nd) (bB (aJ (i := 3) nd) gV))) ?_
  refine aB ?_ ?_
  refine Aj (i := 4) nd (own := ["_law_j", "_law_other"]) (cap := ["_law_k"]) (capI := [2]) (ts := [0, 1]) rfl ⟨rfl, by decide +kernel, ⟨⟨rfl, by first | exact Or.inl rfl | exact Or.inr rfl⟩, trivial⟩, by decide +kernel, by decide +kernel⟩ (by decide +kernel) (rB T.b_enumerate (aj (pdv 0) ao)) (λ cs C fp s2 H2 => iW rfl (bB (aJ (i := 0) (show (["_law_j", "_law_other", "_law_k"] : List Str).Nodup by decide +kernel)) (bB (aJ (i := 1) (show (["_law_j", "_law_other", "_law_k"] : List Str).Nodup by decide +kernel)) gV))) ?_ ?_
  intro cs C fp s2 H2
  exact lz (aW (mR hr) (pdv 0) (pdv 2))
  intro cs C fp s2 H2
  exact pdv 1
  refine aD ?_
  refine gj ?_
  refine eU (pdv 1) ?_
  refine aj ?_ ao
  refine aC cG ?_ (dz (pdv 3) (jA az))
  refine aC cG ?_ (aL F_Ldet (hr.mono (by decide)) (aj (pdv 4) ao) (au aK))
  exact dz (cM (aj az (aj (jA az) ao))) (aC bc (pdv 2) az)
abbrev pC : Stmt := top 29
theorem qX : aX ["_law_points_here", "_law_numbers", "_law_found", "_law_k", "_law_one"] ["_law_points_here", "_law_numbers"] (aN pC) := ⟨rfl, rfl, rfl, by decide +kernel, rfl, by decide +kernel, by decide +kernel⟩
theorem zg {fP : FF} (T : BI K mg) (F : fB K "_law_spread" "_law_spread" pC f fd Tb) (KB : K.In base) (hmg : mg "_law_spread" = some (.ref f)) (F_Lminors : FI P w K mg base tb "_law_minors" 1 7 fP) : FI P w K mg base tb "_law_spread" 2 (7 + 1) (aF 5 (il fP)) :=
 cY F KB hmg qX rfl (λ _ _ _ _ _ _ => us2 λ _ _ => rfl) λ c A outer s H E hcd hr => by
  have nd := qX.nd
  refine aB ?_ ?_
  refine aO (i := 2) nd ?_
  refine jb ?_
  exact HW (cM (aj az ao)) (dH T.b_len (aj (pdv 0) ao))
  refine aB ?_ (aD (aQ (gU T.b_tuple (aj (lu (pdv 2)) ao))))
  refine dj (ts := [3, 4]) PassesOwn.never rfl ?_ (iW rfl (bB (aJ (i := 3) nd) (bB (aJ (i := 4) nd) gV))) (aD (zT (pdv 4) (pdv 2) (pdv 3)))
  refine nY T.b_zip ?_
  refine aj (pdv 1) ?_
  refine aj ?_ ao
  refine aL F_Lminors (hr.mono (by decide)) ?_ (au aK)
  refine aj ?_ ao
  refine cZ ?_
  refine eF (own := ["_law_k"]) (cap := ["_law_points_here"]) (capI := [0]) (ts := [0]) rfl ⟨rfl, by decide +kernel, ⟨⟨rfl, by first | exact Or.inl rfl | exact Or.inr rfl⟩, trivial⟩, by decide +kernel, by decide +kernel⟩ (by decide +kernel) (cL (pdv 1)) (λ cs C fp s2 H2 => aJ (i := 0) (show (["_law_k", "_law_points_here"] : List Str).Nodup by decide +kernel)) ?_ ?_
  intro cs C fp s2 H2
  exact cI
  intro cs C fp s2 H2
  exact dz (pdv 1) (pdv 0)
abbrev jC : Stmt := top 28
theorem lq : aX ["_law_numbers", "_law_common", "_law_one"] ["_law_numbers"] (aN jC) := ⟨rfl, rfl, rfl, by decide +kernel, rfl, by decide +kernel, by decide +kernel⟩
theorem rA {bU : FF} (T : BI K mg) (F : fB K "_law_lowest_row" "_law_lowest_row" jC f fd Tb) (KB : K.In base) (hmg : mg "_law_lowest_row" = some (.ref f)) (F_Lgcd : FI P w K mg base tb "_law_gcd" 2 1 bU) : FI P w K mg base tb "_law_lowest_row" 1 (1 + 1) (aF 3 (dI bU)) :=
 cY F KB hmg lq rfl (λ _ _ _ _ _ _ => us1 λ _ => rfl) λ c A outer s H E hcd hr => by
  have nd := lq.nd
  refine aB (aO (i := 1) nd az) ?_
  refine aB ?_ ?_
  refine dj (ts := [2]) PassesOwn.never rfl (cL (pdv 0)) (aJ (i := 2) nd) ?_
  refine aD ?_
  exact aO (i := 1) nd (aL F_Lgcd (hr.mono (by decide)) (aj (pdv 1) (aj (pdv 2) ao)) (au (au aK)))
  refine aB ?_ ?_
  refine cN ?_ (aD (aO (i := 1) nd (aC dX az (pdv 1)))) bw
  refine aW xZ ?_ az
  refine dz ?_ az
  refine cZ ?_
  refine eF (own := ["_law_one"]) (cap := []) (capI := []) (ts := [0]) rfl ⟨rfl, by decide +kernel, trivial, by decide +kernel, by decide +kernel⟩ (by decide +kernel) (cL (pdv 0)) (λ cs C fp s2 H2 => aJ (i := 0) (show (["_law_one"] : List Str).Nodup by decide +kernel)) ?_ ?_
  intro cs C fp s2 H2
  exact lz (aW (mR hr) (pdv 0) az)
  intro cs C fp s2 H2
  exact pdv 0
  refine aD ?_
  refine aQ ?_
  refine gU T.b_tuple ?_
  refine aj ?_ ao
  refine cZ ?_
  refine eF (own := ["_law_one"]) (cap := ["_law_common"]) (capI := [1]) (ts := [0]) rfl ⟨rfl, by decide +kernel, ⟨⟨rfl, by first | exact Or.inl rfl | exact Or.inr rfl⟩, trivial⟩, by decide +kernel, by decide +kernel⟩ (by decide +kernel) (cL (pdv 0)) (λ cs C fp s2 H2 => aJ (i := 0) (show (["_law_one", "_law_common"] : List Str).Nodup by decide +kernel)) ?_ ?_
  intro cs C fp s2 H2
  exact cI
  intro cs C fp s2 H2
  exact aC fU (pdv 0) (pdv 1)
abbrev uZ : Stmt := top 31
theorem ww : aX ["_law_drawn", "_law_points_here", "_law_size", "_law_one", "_law_other", "_law_number", "_law_both", "_law_found"] ["_law_drawn", "_law_points_here"] (aN uZ) := ⟨rfl, rfl, rfl, by decide +kernel, rfl, by decide +kernel, by decide +kernel⟩
theorem Ds {gf cV aG bQ : FF} (T : BI K mg) (F : fB K "_law_ties" "_law_ties" uZ f fd Tb) (KB : K.In base) (hmg : mg "_law_ties" = some (.ref f)) (F_Lsome : FI P w K mg base tb "_law_some" 3 3 gf) (F_Lspread : FI P w K mg base tb "_law_spread" 2 8 cV) (F_Lnext : FI P w K mg base tb "_law_next" 1 1 aG) (F_Llowest_row : FI P w K mg base tb "_law_lowest_row" 1 2 bQ) : FI P w K mg base tb "_law_ties" 2 (8 + 1) (aF 8 (kh gf cV aG bQ)) :=
 cY F KB hmg ww rfl (λ _ _ _ _ _ _ => us2 λ _ _ => rfl) λ c A outer s H E hcd hr => by
  have nd := ww.nd
  refine aB ?_ ?_
  refine aO (i := 2) nd ?_
  exact aC bu (dH T.b_len (aj (dz (pdv 1) az) ao)) az
  refine aB ?_ ?_
  refine cN (aW xZ (dH T.b_len (aj (pdv 1) ao)) (pdv 2)) ?_ bw
  refine aD ?_
  refine aQ ?_
  refine cM ?_
  refine aj ?_ ?_
  refine gU T.b_tuple ?_
  refine aj ?_ ao
  exact aC cG (cM (aj az ao)) (dH T.b_len (aj (pdv 1) ao))
  refine aj ?_ ao
  refine gU T.b_tuple ?_
  refine aj ?_ ao
  refine aC bu (cM (aj az ao)) ?_
  exact aC cG (cM (aj az ao)) (aC dX (dH T.b_len (aj (pdv 1) ao)) az)
  refine aB ?_ ?_
  refine aO (i := 3) nd ?_
  refine aL F_Lspread (hr.mono (by decide)) ?_ (au (au aK))
  refine aj (pdv 1) ?_
  refine aj ?_ ao
  refine aL F_Lsome (hr.mono (by decide)) ?_ (au (au (au aK)))
  refine aj (pdv 0) ?_
  exact aj (dH T.b_len (aj (pdv 1) ao)) (aj (pdv 2) ao)
  refine aB ?_ ?_
  refine aO (i := 4) nd ?_
  refine aL F_Lspread (hr.mono (by decide)) ?_ (au (au aK))
  refine aj (pdv 1) ?_
  refine aj ?_ ao
  refine aL F_Lsome (hr.mono (by decide)) ?_ (au (au (au aK)))
  refine aj (pdv 0) ?_
  exact aj (dH T.b_len (aj (pdv 1) ao)) (aj (pdv 2) ao)
  refine aB ?_ ?_
  refine aO (i := 5) nd ?_
  refine aC dX ?_ az
  exact aC bc (aL F_Lnext (hr.mono (by decide)) (aj (pdv 0) ao) (au aK)) az
  refine aB ?_ ?_
  refine aO (i := 6) nd ?_
  refine gU T.b_tuple ?_
  refine aj ?_ ao
  refine cZ ?_
  refine eF (own := ["_law_here", "_law_there"]) (cap := ["_law_number"]) (capI := [5]) (ts := [0, 1]) rfl ⟨rfl, by decide +kernel, ⟨⟨rfl, by first | exact Or.inl rfl | exact Or.inr rfl⟩, trivial⟩, by decide +kernel, by decide +kernel⟩ (by decide +kernel) (nY T.b_zip (aj (pdv 3) (aj (pdv 4) ao))) (λ cs C fp s2 H2 => iW rfl (bB (aJ (i := 0) (show (["_law_here", "_law_there", "_law_number"] : List Str).Nodup by decide +kernel)) (bB (aJ (i := 1) (show (["_law_here", "_law_there", "_law_number"] : List Str).Nodup by decide +kernel)) gV))) ?_ ?_
  intro cs C fp s2 H2
  exact cI
  intro cs C fp s2 H2
  exact aC bu (pdv 0) (aC cG (pdv 2) (pdv 1))
  refine aB ?_ ?_
  refine aO (i := 7) nd ?_
  refine jb ?_
  refine jX ?_
  refine aj (pdv 3) ?_
  refine aj (pdv 6) ?_
  refine aj ?_ ao
  refine gU T.b_tuple ?_
  refine aj ?_ ao
  refine cZ ?_
  refine eF (own := ["_law_here"]) (cap := []) (capI := []) (ts := [0]) rfl ⟨rfl, by decide +kernel, trivial, by decide +kernel, by decide +kernel⟩ (by decide +kernel) (cL (pdv 3)) (λ cs C fp s2 H2 => aJ (i := 0) (show (["_law_here"] : List Str).Nodup by decide +kernel)) ?_ ?_
  intro cs C fp s2 H2
  exact cI
  intro cs C fp s2 H2
  exact aC cG az (pdv 0)
  refine aB ?_ (aD (aQ (lu (pdv 7))))
  refine cN ?_ ?_ bw
  refine aW (yQ hr) ?_ (cM ao)
  refine cZ ?_
  refine eF (own := ["_law_here"]) (cap := []) (capI := []) (ts := [0]) rfl ⟨rfl, by decide +kernel, trivial, by decide +kernel, by decide +kernel⟩ (by decide +kernel) (cL (pdv 3)) (λ cs C fp s2 H2 => aJ (i := 0) (show (["_law_here"] : List Str).Nodup by decide +kernel)) ?_ ?_
  intro cs C fp s2 H2
  exact lz (aW (mR hr) (pdv 0) az)
  intro cs C fp s2 H2
  exact pdv 0
  refine aD ?_
  refine gj ?_
  refine eU (pdv 7) ?_
  exact aj (aL F_Llowest_row (hr.mono (by decide)) (aj (pdv 3) ao) (au aK)) ao
abbrev zq : Stmt := top 24
theorem zX : aX ["_law_row", "_law_at", "_law_thing"] ["_law_row", "_law_at", "_law_thing"] (aN zq) := ⟨rfl, rfl, rfl, by decide +kernel, rfl, by decide +kernel, by decide +kernel⟩
theorem Hv (T : BI K mg) (F : fB K "_law_put" "_law_put" zq f fd Tb) (KB : K.In base) (hmg : mg "_law_put" = some (.ref f)) : FI P w K mg base tb "_law_put" 3 (0 + 1) (aF 3 (oO)) :=
 cY F KB hmg zX rfl (λ _ _ _ _ _ _ => us3 λ _ _ _ => rfl) λ c A outer s H E hcd hr => by
  have nd := zX.nd
  refine aD ?_
  refine aQ ?_
  refine aC bu ?_ (jr (pdv 0) (iI (aC bu (pdv 1) az)) iG)
  exact aC bu (jr (pdv 0) iG (iI (pdv 1))) (jZ (aj (pdv 2) ao))
abbrev vK : Stmt := top 33
theorem ym : aX ["_law_numbers", "_law_number", "_law_at", "_law_other", "_law_some_here", "_law_both"] ["_law_numbers", "_law_number"] (aN vK) := ⟨rfl, rfl, rfl, by decide +kernel, rfl, by decide +kernel, by decide +kernel⟩
theorem Cy {di : FF} (T : BI K mg) (F : fB K "_law_bent" "_law_bent" vK f fd Tb) (KB : K.In base) (hmg : mg "_law_bent" = some (.ref f)) (F_Lput : FI P w K mg base tb "_law_put" 3 1 di) : FI P w K mg base tb "_law_bent" 2 (1 + 1) (aF 6 (lg di)) :=
 cY F KB hmg ym rfl (λ _ _ _ _ _ _ => us2 λ _ _ => rfl) λ c A outer s H E hcd hr => by
  have nd := ym.nd
  refine aB ?_ ?_
  refine aO (i := 2) nd ?_
  exact aC bc (aC fU (pdv 1) az) (dH T.b_len (aj (pdv 0) ao))
  refine aB ?_ ?_
  refine aO (i := 3) nd ?_
  refine aC bc ?_ (dH T.b_len (aj (pdv 0) ao))
  refine aC bu (aC bu (pdv 2) az) ?_
  exact aC bc (aC fU (pdv 1) az) (dH T.b_len (aj (pdv 0) ao))
  refine aB ?_ ?_
  refine aO (i := 4) nd ?_
  refine cM ?_
  refine aj ?_ ?_
  refine aL F_Lput (hr.mono (by decide)) ?_ (au (au (au aK)))
  refine aj (pdv 0) ?_
  exact aj (pdv 2) (aj (aC bu (dz (pdv 0) (pdv 2)) az) ao)
  refine aj ?_ ?_
  refine aL F_Lput (hr.mono (by decide)) ?_ (au (au (au aK)))
  refine aj (pdv 0) ?_
  exact aj (pdv 2) (aj (aC dX (dz (pdv 0) (pdv 2)) az) ao)
  refine aj ?_ ao
  exact aL F_Lput (hr.mono (by decide)) (aj (pdv 0) (aj (pdv 2) (aj az ao))) (au (au (au aK)))
  refine aB ?_ ?_
  refine aO (i := 4) nd ?_
  refine aC bu (pdv 4) ?_
  refine cM ?_
  refine aj (JN (pdv 0)) ?_
  refine aj ?_ ?_
  refine gU T.b_tuple ?_
  refine aj ?_ ao
  refine cZ ?_
  refine eF (own := ["_law_one"]) (cap := []) (capI := []) (ts := [0]) rfl ⟨rfl, by decide +kernel, trivial, by decide +kernel, by decide +kernel⟩ (by decide +kernel) (cL (pdv 0)) (λ cs C fp s2 H2 => aJ (i := 0) (show (["_law_one"] : List Str).Nodup by decide +kernel)) ?_ ?_
  intro cs C fp s2 H2
  exact cI
  intro cs C fp s2 H2
  exact aC dX az (pdv 0)
  refine aj ?_ (aj (cZ (Fj T.b_list (aj (pdv 0) ao))) ao)
  exact aC cG (jZ (aj az ao)) (dH T.b_len (aj (pdv 0) ao))
  refine aB ?_ ?_
  refine aO (i := 4) nd ?_
  refine aC bu (pdv 4) ?_
  refine cM ?_
  refine aj (aC bu (pdv 0) (jZ (aj az ao))) ?_
  exact aj (jr (pdv 0) iG (iI (jA az))) ao
  refine aB ?_ ?_
  refine aO (i := 5) nd ?_
  refine aL F_Lput (hr.mono (by decide)) ?_ (au (au (au aK)))
  refine aj ?_ ?_
  refine aL F_Lput (hr.mono (by decide)) ?_ (au (au (au aK)))
  refine aj (pdv 0) ?_
  exact aj (pdv 2) (aj (aC bu (dz (pdv 0) (pdv 2)) az) ao)
  exact aj (pdv 3) (aj (aC dX (dz (pdv 0) (pdv 3)) az) ao)
  refine aD ?_
  refine aQ ?_
  exact dz (aC bu (pdv 4) (cM (aj (pdv 5) ao))) (aC bc (pdv 1) az)
abbrev qW : Stmt := top 22
theorem tY : aX ["_law_thing"] ["_law_thing"] (aN qW) := ⟨rfl, rfl, rfl, by decide +kernel, rfl, by decide +kernel, by decide +kernel⟩
theorem Bg (T : BI K mg) (F : fB K "_law_whole" "_law_whole" qW f fd Tb) (KB : K.In base) (hmg : mg "_law_whole" = some (.ref f)) : FI P w K mg base tb "_law_whole" 1 (0 + 1) (aF 1 (lM)) :=
 cY F KB hmg tY rfl (λ _ _ _ _ _ _ => us1 λ _ => rfl) λ c A outer s H E hcd hr => by
  have nd := tY.nd
  refine aD ?_
  refine aQ ?_
  refine vR ?_ ?_
  exact nu T.b_isinstance T.b_int PyProof.Rows.boot_int (by decide) (pdv 0)
  refine qJ ?_
  refine zf ?_
  exact nu T.b_isinstance T.b_bool PyProof.Rows.boot_bool (by decide) (pdv 0)
abbrev oX : Stmt := top 26
theorem sI : aX ["_law_points_here", "_law_thing", "_law_bottom", "_law_point_here", "_law_i"] ["_law_points_here", "_law_thing"] (aN oX) := ⟨rfl, rfl, rfl, by decide +kernel, rfl, by decide +kernel, by decide +kernel⟩
theorem yq {eQ bU : FF} (T : BI K mg) (F : fB K "_law_is_tie" "_law_is_tie" oX f fd Tb) (KB : K.In base) (hmg : mg "_law_is_tie" = some (.ref f)) (F_Lwhole : FI P w K mg base tb "_law_whole" 1 1 eQ) (F_Lgcd : FI P w K mg base tb "_law_gcd" 2 1 bU) : FI P w K mg base tb "_law_is_tie" 2 (1 + 1) (aF 5 (lR eQ bU)) :=
 cY F KB hmg sI rfl (λ _ _ _ _ _ _ => us2 λ _ _ => rfl) λ c A outer s H E hcd hr => by
  have nd := sI.nd
  refine aB ?_ ?_
  refine cN ?_ (aD (aQ qP)) bw
  refine sE ?_
  refine rQ ?_ ?_
  refine oJ ?_
  refine nZ ?_
  exact nu T.b_isinstance T.b_tuple PyProof.Rows.boot_tuple (by decide) (pdv 1)
  refine rQ ?_ ?_
  exact aW (mR hr) (dH T.b_len (aj (pdv 1) ao)) (dH T.b_len (aj (pdv 0) ao))
  refine vV ?_
  refine aW (yQ hr) ?_ (cM ao)
  refine cZ ?_
  refine eF (own := ["_law_one"]) (cap := []) (capI := []) (ts := [0]) rfl ⟨rfl, by decide +kernel, trivial, by decide +kernel, by decide +kernel⟩ (by decide +kernel) (cL (pdv 1)) (λ cs C fp s2 H2 => aJ (i := 0) (show (["_law_one"] : List Str).Nodup by decide +kernel)) ?_ ?_
  intro cs C fp s2 H2
  refine lz ?_
  refine oJ ?_
  exact nZ (aL F_Lwhole (hr.mono (by decide)) (aj (pdv 0) ao) (au aK))
  intro cs C fp s2 H2
  exact pdv 0
  refine aB ?_ ?_
  refine cN ?_ (aD (aQ qP)) bw
  refine sE ?_
  refine rQ ?_ (vV (aW (mR hr) (yo rfl T.b_sum (my rfl (pdv 1))) az))
  refine aW (jh hr) ?_ (cM ao)
  refine cZ ?_
  refine eF (own := ["_law_one"]) (cap := []) (capI := []) (ts := [0]) rfl ⟨rfl, by decide +kernel, trivial, by decide +kernel, by decide +kernel⟩ (by decide +kernel) (cL (pdv 1)) (λ cs C fp s2 H2 => aJ (i := 0) (show (["_law_one"] : List Str).Nodup by decide +kernel)) ?_ ?_
  intro cs C fp s2 H2
  exact lz (aW (mR hr) (pdv 0) az)
  intro cs C fp s2 H2
  exact pdv 0
  refine aB (aO (i := 2) nd az) ?_
  refine aB ?_ ?_
  refine dj (ts := [3]) PassesOwn.never rfl (cL (pdv 0)) (aJ (i := 3) nd) ?_
  refine aD ?_
  refine aO (i := 2) nd ?_
  refine aC fU (aC cG (pdv 2) (dz (pdv 3) (jA az))) ?_
  refine aL F_Lgcd (hr.mono (by decide)) ?_ (au (au aK))
  exact aj (pdv 2) (aj (dz (pdv 3) (jA az)) ao)
  refine aB ?_ (aD (aQ qP))
  refine dj (ts := [4]) PassesOwn.never rfl ?_ (aJ (i := 4) nd) ?_
  refine bY T.b_range ?_
  refine aj ?_ ao
  exact aC dX (dH T.b_len (aj (dz (pdv 0) az) ao)) az
  refine aD ?_
  refine cN ?_ (aD (aQ qP)) bw
  refine aW (mR hr) ?_ az
  refine yo rfl T.b_sum ?_
  refine my rfl ?_
  refine cZ ?_
  refine eF (own := ["_law_one", "_law_point_here"]) (cap := ["_law_i", "_law_bottom"]) (capI := [4, 2]) (ts := [0, 1]) rfl ⟨rfl, by decide +kernel, ⟨⟨rfl, by first | exact Or.inl rfl | exact Or.inr rfl⟩, ⟨⟨rfl, by first | exact Or.inl rfl | exact Or.inr rfl⟩, trivial⟩⟩, by decide +kernel, by decide +kernel⟩ (by decide +kernel) (nY T.b_zip (aj (pdv 1) (aj (pdv 0) ao))) (λ cs C fp s2 H2 => iW rfl (bB (aJ (i := 0) (show (["_law_one", "_law_point_here", "_law_i", "_law_bottom"] : List Str).Nodup by decide +kernel)) (bB (aJ (i := 1) (show (["_law_one", "_law_point_here", "_law_i", "_law_bottom"] : List Str).Nodup by decide +kernel)) gV))) ?_ ?_
  intro cs C fp s2 H2
  exact cI
  intro cs C fp s2 H2
  exact aC cG (aC cG (pdv 0) (dz (pdv 1) (pdv 2))) (aC fU (pdv 3) (dz (pdv 1) (jA az)))
abbrev lB : Stmt := top 1
theorem oF : aX ["thing"] ["thing"] (aN lB) := ⟨rfl, rfl, rfl, by decide +kernel, rfl, by decide +kernel, by decide +kernel⟩
theorem vJ (T : BI K mg) (F : fB K "is_number" "is_number" lB f fd Tb) (KB : K.In base) (hmg : mg "is_number" = some (.ref f)) : FI P w K mg base tb "is_number" 1 (0 + 1) (aF 1 (fH)) :=
 cY F KB hmg oF rfl (λ _ _ _ _ _ _ => us1 λ _ => rfl) λ c A outer s H E hcd hr => by
  have nd := oF.nd
  refine aD ?_
  refine aQ ?_
  refine vR ?_ ?_
  exact nu T.b_isinstance T.b_int PyProof.Rows.boot_int (by decide) (pdv 0)
  refine qJ ?_
  refine zf ?_
  exact nu T.b_isinstance T.b_bool PyProof.Rows.boot_bool (by decide) (pdv 0)
abbrev jY : Stmt := top 2
theorem mJ : aX ["thing"] ["thing"] (aN jY) := ⟨rfl, rfl, rfl, by decide +kernel, rfl, by decide +kernel, by decide +kernel⟩
theorem sY {dC : FF} (T : BI K mg) (F : fB K "is_numbers" "is_numbers" jY f fd Tb) (KB : K.In base) (hmg : mg "is_numbers" = some (.ref f)) (F_is_number : FI P w K mg base tb "is_number" 1 1 dC) (hT : Tb ∈ tb) : FI P w K mg base tb "is_numbers" 1 (2 + 1) (aF 1 (dw dC)) :=
 cY F KB hmg mJ rfl (λ _ _ _ _ _ _ => us1 λ _ => rfl) λ c A outer s H E hcd hr => by
  have nd := mJ.nd
  refine aD ?_
  refine aQ ?_
  refine vR ?_ ?_
  exact nu T.b_isinstance T.b_tuple PyProof.Rows.boot_tuple (by decide) (pdv 0)
  refine qJ ?_
  refine Lb rfl T.b_all ?_
  refine yj ?_
  refine uc (own := ["part"]) (cap := []) (capI := []) (ts := [0]) rfl hr ⟨rfl, by decide +kernel, trivial, by decide +kernel, by decide +kernel⟩ (by decide +kernel) (by decide +kernel) hT ⟨c, rfl, hcd⟩ (cL (pdv 0)) (λ AG cs C code fp s2 H2 => aJ (i := 0) (show (["part"] : List Str).Nodup by decide +kernel)) ?_
  intro AG cs C code fp s2 H2 hm
  have hg1 := hm _ hr
  exact aL F_is_number (hg1.mono (by decide)) (aj (pdv 0) ao) (au aK)
abbrev ik : Stmt := top 3
theorem jx : aX ["one", "other"] ["one", "other"] (aN ik) := ⟨rfl, rfl, rfl, by decide +kernel, rfl, by decide +kernel, by decide +kernel⟩
theorem nT (T : BI K mg) (F : fB K "divisor_of_two" "divisor_of_two" ik f fd Tb) (KB : K.In base) (hmg : mg "divisor_of_two" = some (.ref f)) : FI P w K mg base tb "divisor_of_two" 2 (0 + 1) (aF 2 (cT)) :=
 cY F KB hmg jx rfl (λ _ _ _ _ _ _ => us2 λ _ _ => rfl) λ c A outer s H E hcd hr => by
  have nd := jx.nd
  refine aB ?_ ?_
  refine qH (i := 0) (j := 1) rfl nd ?_
  exact aj (rE T.b_abs (aj (pdv 0) ao)) (aj (rE T.b_abs (aj (pdv 1) ao)) ao)
  refine aB ?_ (aD (aQ (pdv 0)))
  refine pF PassesOwn.never (aW (mR hr) (pdv 1) az) ?_
  refine aD ?_
  exact qH (i := 0) (j := 1) rfl nd (aj (pdv 1) (aj (aC bc (pdv 0) (pdv 1)) ao))
abbrev gR : Stmt := top 4
theorem jt : aX ["numbers", "found", "number"] ["numbers"] (aN gR) := ⟨rfl, rfl, rfl, by decide +kernel, rfl, by decide +kernel, by decide +kernel⟩
theorem ni {bA : FF} (T : BI K mg) (F : fB K "common_multiple" "common_multiple" gR f fd Tb) (KB : K.In base) (hmg : mg "common_multiple" = some (.ref f)) (F_divisor_of_two : FI P w K mg base tb "divisor_of_two" 2 1 bA) : FI P w K mg base tb "common_multiple" 1 (1 + 1) (aF 3 (cA bA)) :=
 cY F KB hmg jt rfl (λ _ _ _ _ _ _ => us1 λ _ => rfl) λ c A outer s H E hcd hr => by
  have nd := jt.nd
  refine aB (aO (i := 1) nd az) ?_
  refine aB ?_ (aD (aQ (pdv 1)))
  refine dj (ts := [2]) PassesOwn.never rfl (cL (pdv 0)) (aJ (i := 2) nd) ?_
  refine aD ?_
  refine yx (i := 1) nd ?_
  exact aC fU (pdv 2) (aL F_divisor_of_two (hr.mono (by decide)) (aj (pdv 1) (aj (pdv 2) ao)) (au (au aK)))
abbrev ji : Stmt := top 8
theorem kI : aX ["points", "numbers", "whole"] ["points", "numbers"] (aN ji) := ⟨rfl, rfl, rfl, by decide +kernel, rfl, by decide +kernel, by decide +kernel⟩
theorem qm {bI : FF} (T : BI K mg) (F : fB K "over_bottoms" "over_bottoms" ji f fd Tb) (KB : K.In base) (hmg : mg "over_bottoms" = some (.ref f)) (F_common_multiple : FI P w K mg base tb "common_multiple" 1 2 bI) : FI P w K mg base tb "over_bottoms" 2 (2 + 1) (aF 3 (dU bI)) :=
 cY F KB hmg kI rfl (λ _ _ _ _ _ _ => us2 λ _ _ => rfl) λ c A outer s H E hcd hr => by
  have nd := kI.nd
  refine aB ?_ ?_
  refine aO (i := 2) nd ?_
  refine aL F_common_multiple (hr.mono (by decide)) ?_ (au aK)
  refine aj ?_ ao
  refine cZ ?_
  refine eF (own := ["point"]) (cap := []) (capI := []) (ts := [0]) rfl ⟨rfl, by decide +kernel, trivial, by decide +kernel, by decide +kernel⟩ (by decide +kernel) (cL (pdv 0)) (λ cs C fp s2 H2 => aJ (i := 0) (show (["point"] : List Str).Nodup by decide +kernel)) ?_ ?_
  intro cs C fp s2 H2
  exact cI
  intro cs C fp s2 H2
  exact dz (pdv 0) (jA az)
  refine aD ?_
  refine aQ ?_
  refine cZ ?_
  refine eF (own := ["number", "point"]) (cap := ["whole"]) (capI := [2]) (ts := [0, 1]) rfl ⟨rfl, by decide +kernel, ⟨⟨rfl, by first | exact Or.inl rfl | exact Or.inr rfl⟩, trivial⟩, by decide +kernel, by decide +kernel⟩ (by decide +kernel) (nY T.b_zip (aj (pdv 1) (aj (pdv 0) ao))) (λ cs C fp s2 H2 => iW rfl (bB (aJ (i := 0) (show (["number", "point", "whole"] : List Str).Nodup by decide +kernel)) (bB (aJ (i := 1) (show (["number", "point", "whole"] : List Str).Nodup by decide +kernel)) gV))) ?_ ?_
  intro cs C fp s2 H2
  exact cI
  intro cs C fp s2 H2
  exact aC cG (pdv 0) (aC fU (pdv 2) (dz (pdv 1) (jA az)))
abbrev gM : Stmt := top 5
theorem jn : aX ["ones", "others"] ["ones", "others"] (aN gM) := ⟨rfl, rfl, rfl, by decide +kernel, rfl, by decide +kernel, by decide +kernel⟩
theorem mY (T : BI K mg) (F : fB K "sum_of_products" "sum_of_products" gM f fd Tb) (KB : K.In base) (hmg : mg "sum_of_products" = some (.ref f)) (hT : Tb ∈ tb) : FI P w K mg base tb "sum_of_products" 2 (1 + 1) (aF 2 (cC)) :=
 cY F KB hmg jn rfl (λ _ _ _ _ _ _ => us2 λ _ _ => rfl) λ c A outer s H E hcd hr => by
  have nd := jn.nd
  refine aD ?_
  refine aQ ?_
  refine yo rfl T.b_sum ?_
  refine yj ?_
  refine uc (own := ["one", "other"]) (cap := []) (capI := []) (ts := [0, 1]) rfl hr ⟨rfl, by decide +kernel, trivial, by decide +kernel, by decide +kernel⟩ (by decide +kernel) (by decide +kernel) hT ⟨c, rfl, hcd⟩ (nY T.b_zip (aj (pdv 0) (aj (pdv 1) ao))) (λ AG cs C code fp s2 H2 => iW rfl (bB (aJ (i := 0) (show (["one", "other"] : List Str).Nodup by decide +kernel)) (bB (aJ (i := 1) (show (["one", "other"] : List Str).Nodup by decide +kernel)) gV))) ?_
  intro AG cs C code fp s2 H2 hm
  have hg1 := hm _ hr
  exact aC cG (pdv 0) (pdv 1)
abbrev pK : Stmt := top 6
theorem qM : aX ["rows", "weights"] ["rows", "weights"] (aN pK) := ⟨rfl, rfl, rfl, by decide +kernel, rfl, by decide +kernel, by decide +kernel⟩
theorem yR {bH : FF} (T : BI K mg) (F : fB K "weighed" "weighed" pK f fd Tb) (KB : K.In base) (hmg : mg "weighed" = some (.ref f)) (F_sum_of_products : FI P w K mg base tb "sum_of_products" 2 2 bH) : FI P w K mg base tb "weighed" 2 (2 + 1) (aF 2 (jf bH)) :=
 cY F KB hmg qM rfl (λ _ _ _ _ _ _ => us2 λ _ _ => rfl) λ c A outer s H E hcd hr => by
  have nd := qM.nd
  refine aD ?_
  refine aQ ?_
  refine cZ ?_
  refine eF (own := ["at"]) (cap := ["weights", "rows"]) (capI := [1, 0]) (ts := [0]) rfl ⟨rfl, by decide +kernel, ⟨⟨rfl, by first | exact Or.inl rfl | exact Or.inr rfl⟩, ⟨⟨rfl, by first | exact Or.inl rfl | exact Or.inr rfl⟩, trivial⟩⟩, by decide +kernel, by decide +kernel⟩ (by decide +kernel) ?_ (λ cs C fp s2 H2 => aJ (i := 0) (show (["at", "weights", "rows"] : List Str).Nodup by decide +kernel)) ?_ ?_
  refine bY T.b_range ?_
  exact aj (dH T.b_len (aj (dz (pdv 0) az) ao)) ao
  intro cs C fp s2 H2
  exact cI
  intro cs C fp s2 H2
  refine aL F_sum_of_products (hr.mono (by decide)) ?_ (au (au aK))
  refine aj (pdv 1) ?_
  refine aj ?_ ao
  refine cZ ?_
  refine eF (own := ["row"]) (cap := ["at"]) (capI := [0]) (ts := [0]) rfl ⟨rfl, by decide +kernel, ⟨⟨rfl, by first | exact Or.inl rfl | exact Or.inr rfl⟩, trivial⟩, by decide +kernel, by decide +kernel⟩ (by decide +kernel) (cL (pdv 2)) (λ cs C fp s2 H2 => aJ (i := 0) (show (["row", "at"] : List Str).Nodup by decide +kernel)) ?_ ?_
  intro cs C fp s2 H2
  exact cI
  intro cs C fp s2 H2
  exact dz (pdv 0) (pdv 1)
abbrev lN : Stmt := top 10
theorem oN : aX ["points", "thing"] ["points", "thing"] (aN lN) := ⟨rfl, rfl, rfl, by decide +kernel, rfl, by decide +kernel, by decide +kernel⟩
theorem vX {cO cH gD : FF} (T : BI K mg) (F : fB K "tie_holds" "tie_holds" lN f fd Tb) (KB : K.In base) (hmg : mg "tie_holds" = some (.ref f)) (F_is_numbers : FI P w K mg base tb "is_numbers" 1 3 cO) (F_over_bottoms : FI P w K mg base tb "over_bottoms" 2 3 cH) (F_weighed : FI P w K mg base tb "weighed" 2 3 gD) : FI P w K mg base tb "tie_holds" 2 (3 + 1) (aF 2 (dD cO cH gD)) :=
 cY F KB hmg oN rfl (λ _ _ _ _ _ _ => us2 λ _ _ => rfl) λ c A outer s H E hcd hr => by
  have nd := oN.nd
  refine aB ?_ ?_
  refine cN ?_ (aD (aQ qP)) bw
  refine sE ?_
  refine rQ ?_ ?_
  refine oJ ?_
  exact nZ (aL F_is_numbers (hr.mono (by decide)) (aj (pdv 1) ao) (au aK))
  refine rQ ?_ (vV (oJ (nZ (Eh rfl T.b_any (my rfl (pdv 1))))))
  exact aW (mR hr) (dH T.b_len (aj (pdv 1) ao)) (dH T.b_len (aj (pdv 0) ao))
  refine aD ?_
  refine aQ ?_
  refine zf ?_
  refine Eh rfl T.b_any ?_
  refine my rfl ?_
  refine aL F_weighed (hr.mono (by decide)) ?_ (au (au aK))
  refine aj (pdv 0) ?_
  exact aj (aL F_over_bottoms (hr.mono (by decide)) (aj (pdv 0) (aj (pdv 1) ao)) (au (au aK))) ao
abbrev uL : Stmt := top 23
theorem yc : aX ["_law_found", "_law_due"] ["_law_found", "_law_due"] (aN uL) := ⟨rfl, rfl, rfl, by decide +kernel, rfl, by decide +kernel, by decide +kernel⟩
theorem FN (T : BI K mg) (F : fB K "_law_says" "_law_says" uL f fd Tb) (KB : K.In base) (hmg : mg "_law_says" = some (.ref f)) : FI P w K mg base tb "_law_says" 2 (0 + 1) (aF 2 (lQ)) :=
 cY F KB hmg yc rfl (λ _ _ _ _ _ _ => us2 λ _ _ => rfl) λ c A outer s H E hcd hr => by
  have nd := yc.nd
  refine aD ?_
  refine aQ ?_
  refine vR ?_ (qJ (Mh (jh hr) (pdv 0) (pdv 1)))
  exact nu T.b_isinstance T.b_bool PyProof.Rows.boot_bool (by decide) (pdv 0)
abbrev uf : Stmt := top 34
theorem Eo : aX ["_law_script", "_law_drawn", "_law_turn", "_law_directions", "_law_points_here", "_law_numbers", "_law_things", "_law_thing"] ["_law_script"] (aN uf) := ⟨rfl, rfl, rfl, by decide +kernel, rfl, by decide +kernel, by decide +kernel⟩
theorem Ky {gJ aG cj gb gk fD dm iM : FF} (T : BI K mg) (F : fB K "law" "law" uf f fd Tb) (KB : K.In base) (F_Ldraws : FI P w K mg base tb "_law_draws" 1 2 gJ) (F_Lnext : FI P w K mg base tb "_law_next" 1 1 aG) (F_Lown_points : FI P w K mg base tb "_law_own_points" 3 5 cj) (F_Lties : FI P w K mg base tb "_law_ties" 2 9 gb) (F_Lbent : FI P w K mg base tb "_law_bent" 2 2 gk) (F_Lis_tie : FI P w K mg base tb "_law_is_tie" 2 2 fD) (F_tie_holds : FI P w K mg base tb "tie_holds" 2 4 dm) (F_Lsays : FI P w K mg base tb "_law_says" 2 1 iM) : nj P w K mg base CX0 (9 + 1) f fd ["_law_script"] (spD K tb 1 (aF 8 (pQ gJ aG cj gb gk fD dm iM))) :=
 Im F KB Eo rfl λ c A outer s H E hcd hr => by
  have nd := Eo.nd
  refine aB ?_ ?_
  exact aO (i := 1) nd (aL F_Ldraws (hr.mono (by decide)) (aj (pdv 0) ao) (au aK))
  refine aB ?_ (aD (aQ qP))
  refine dj (ts := [2]) PassesOwn.never rfl ?_ (aJ (i := 2) nd) ?_
  refine bY T.b_range ?_
  refine aj ?_ ao
  refine aC bu az ?_
  refine Ai rfl T.b_min ?_
  exact aj az (aj (dH T.b_len (aj (pdv 0) ao)) ao)
  refine aB ?_ ?_
  refine aO (i := 3) nd ?_
  refine aC bu az ?_
  exact aC bc (aL F_Lnext (hr.mono (by decide)) (aj (pdv 1) ao) (au aK)) az
  refine aB ?_ ?_
  refine aO (i := 4) nd ?_
  refine aL F_Lown_points (hr.mono (by decide)) ?_ (au (au (au aK)))
  refine aj (pdv 1) ?_
  refine aj (pdv 3) ?_
  refine aj ?_ ao
  refine dz ?_ ?_
  exact cM (aj az (aj az (aj az ao)))
  exact aC bc (aL F_Lnext (hr.mono (by decide)) (aj (pdv 1) ao) (au aK)) az
  refine aD ?_
  refine dj (ts := [5]) PassesOwn.never rfl ?_ (aJ (i := 5) nd) ?_
  exact cL (aL F_Lties (hr.mono (by decide)) (aj (pdv 1) (aj (pdv 4) ao)) (au (au aK)))
  refine aB ?_ ?_
  refine aO (i := 6) nd ?_
  refine aC bu (cM (aj (pdv 5) ao)) ?_
  refine cZ ?_
  refine eF (own := ["_law_k"]) (cap := ["_law_numbers", "_law_drawn"]) (capI := [5, 1]) (ts := [0]) rfl ⟨rfl, by decide +kernel, ⟨⟨rfl, by first | exact Or.inl rfl | exact Or.inr rfl⟩, ⟨⟨rfl, by first | exact Or.inl rfl | exact Or.inr rfl⟩, trivial⟩⟩, by decide +kernel, by decide +kernel⟩ (by decide +kernel) (bY T.b_range (aj az ao)) (λ cs C fp s2 H2 => aJ (i := 0) (show (["_law_k", "_law_numbers", "_law_drawn"] : List Str).Nodup by decide +kernel)) ?_ ?_
  intro cs C fp s2 H2
  exact cI
  intro cs C fp s2 H2
  refine aL F_Lbent (hr.mono (by decide)) ?_ (au (au aK))
  refine aj (pdv 1) ?_
  exact aj (aL F_Lnext (hr.mono (by decide)) (aj (pdv 2) ao) (au aK)) ao
  refine aD ?_
  refine dj (ts := [7]) PassesOwn.never rfl (cL (pdv 6)) (aJ (i := 7) nd) ?_
  refine aD ?_
  refine cN ?_ (aD (aQ qP)) bw
  refine oJ ?_
  refine nZ ?_
  refine aL F_Lsays (hr.mono (by decide)) ?_ (au (au aK))
  refine aj (aL F_tie_holds (hr.mono (by decide)) (aj (pdv 4) (aj (pdv 7) ao)) (au (au aK))) ?_
  exact aj (aL F_Lis_tie (hr.mono (by decide)) (aj (pdv 4) (aj (pdv 7) ao)) (au (au aK))) ao
noncomputable def bh : FF := trunc (aF 3 (iH))
noncomputable def gJ : FF := aF 5 (lL bh)
noncomputable def aG : FF := trunc (aF 1 (gq))
noncomputable def bU : FF := trunc (aF 2 (lr))
noncomputable def aZ : FF := trunc (aF 4 (gH bU))
noncomputable def fQ : FF := trunc (aF 8 (iz aG aZ))
noncomputable def jg : FF := trunc (aF 9 (mx aG aZ))
noncomputable def iy : FF := trunc (aF 3 (gh))
noncomputable def cg : FF := trunc (aF 9 (jk bh iy aZ))
noncomputable def fJ : FF := trunc (aF 9 (je aG fQ jg cg))
noncomputable def cj : FF := trunc (aF 4 (dG fJ aG cg))
noncomputable def gf : FF := trunc (aF 4 (kE aG bh))
noncomputable def fW : FF := Kw 6 λ φ => trunc (aF 5 (jD φ))
noncomputable def fP : FF := trunc (aF 5 (iw fW))
noncomputable def cV : FF := trunc (aF 5 (il fP))
noncomputable def bQ : FF := trunc (aF 3 (dI bU))
noncomputable def gb : FF := trunc (aF 8 (kh gf cV aG bQ))
noncomputable def di : FF := trunc (aF 3 (oO))
noncomputable def gk : FF := trunc (aF 6 (lg di))
noncomputable def eQ : FF := trunc (aF 1 (lM))
noncomputable def fD : FF := trunc (aF 5 (lR eQ bU))
noncomputable def dC : FF := trunc (aF 1 (fH))
noncomputable def cO : FF := trunc (aF 1 (dw dC))
noncomputable def bA : FF := trunc (aF 2 (cT))
noncomputable def bI : FF := trunc (aF 3 (cA bA))
noncomputable def cH : FF := trunc (aF 3 (dU bI))
noncomputable def bH : FF := trunc (aF 2 (cC))
noncomputable def gD : FF := trunc (aF 2 (jf bH))
noncomputable def dm : FF := trunc (aF 2 (dD cO cH gD))
noncomputable def iM : FF := trunc (aF 2 (lQ))
noncomputable def yH : FF := aF 8 (pQ gJ aG cj gb gk fD dm iM)
abbrev Gt (K : PySem.W.Frag) (x : Str) (s : Stmt) : Prop := ∃ f c P fd, Got K x s f c P fd
abbrev Nn (K : PySem.W.Frag) (x : Str) : Prop := PySem.W.nsIn K mainGlobals x = some none
abbrev Rq (q : Program) (x : Str) : Prop := ((recsOf q).find? (λ e => e.name == x)).isSome = true
theorem Mj {l : PySem.W.OpenLaw} {q : Program} {lo : List Str} {mean : ExcName -> Option Value} {w : World} {K : PySem.W.Frag} {h : Heap} {mg mb : Str -> Option Value} {fa : Addr}
  (X : K.In h) (G : Top q lo mean mg mb h) (hfa : mg "law" = some (.ref fa))
  (d0 : Gt K "_law_mixed" qK)
  (d1 : Gt K "_law_draws" rT)
  (d2 : Gt K "_law_next" vq)
  (d3 : Gt K "_law_gcd" yW)
  (d4 : Gt K "_law_lowest" oU)
  (d5 : Gt K "_law_on_line" nF)
  (d6 : Gt K "_law_flat" uP)
  (d7 : Gt K "_law_place" qT)
  (d8 : Gt K "_law_point" rF)
  (d9 : Gt K "_law_points" pL)
  (d10 : Gt K "_law_own_points" jE)
  (d11 : Gt K "_law_some" vU)
  (d12 : Gt K "_law_det" zc)
  (d13 : Gt K "_law_minors" pg)
  (d14 : Gt K "_law_spread" pC)
  (d15 : Gt K "_law_lowest_row" jC)
  (d16 : Gt K "_law_ties" uZ)
  (d17 : Gt K "_law_put" zq)
  (d18 : Gt K "_law_bent" vK)
  (d19 : Gt K "_law_whole" qW)
  (d20 : Gt K "_law_is_tie" oX)
  (d21 : Gt K "is_number" lB)
  (d22 : Gt K "is_numbers" jY)
  (d23 : Gt K "divisor_of_two" ik)
  (d24 : Gt K "common_multiple" gR)
  (d25 : Gt K "over_bottoms" ji)
  (d26 : Gt K "sum_of_products" gM)
  (d27 : Gt K "weighed" pK)
  (d28 : Gt K "tie_holds" lN)
  (d29 : Gt K "_law_says" uL)
  (d30 : Gt K "law" uf)
  (z_abs : Nn K "abs")
  (z_all : Nn K "all")
  (z_any : Nn K "any")
  (z_bool : Nn K "bool")
  (z_enumerate : Nn K "enumerate")
  (z_int : Nn K "int")
  (z_isinstance : Nn K "isinstance")
  (z_len : Nn K "len")
  (z_list : Nn K "list")
  (z_min : Nn K "min")
  (z_range : Nn K "range")
  (z_sorted : Nn K "sorted")
  (z_sum : Nn K "sum")
  (z_tuple : Nn K "tuple")
  (z_zip : Nn K "zip")
  (r_Lsome : Rq q "_law_some")
  (r_is_numbers : Rq q "is_numbers")
  (r_sum_of_products : Rq q "sum_of_products")
  (hnt : PySem.W.noTabs K = true) :
  ∃ (fd : FuncData) (tb : List Addr), (∀ (s : Shared) (u : Value), BindsTo s fd ⟨[u], []⟩ [("_law_script", u)]) /\ (∀ P ∈ tb, ∃ c, PySem.W.CodeHd h c P /\ h.get? P = some (PySem.W.tabObj #[])) /\ PySem.W.noTabs K = true /\
   ∀ base : Heap, K.In base -> base.Ns mainGlobals mg -> nj l.prog w K mg base CX0 10 fa fd ["_law_script"] (spD K tb 1 yH) := by
 have N := λ {n : Str} (h : Nn K n) => PySem.W.mg_none_of X G.g h
 have M := λ {n : Str} {v : Value} (e : PySem.W.nsIn K mainGlobals n = some (some v)) => PySem.W.mg_of X G.g e
 have T : BI K mg := ⟨N z_abs, N z_all, N z_any, N z_bool, N z_enumerate, N z_int, N z_isinstance, N z_len, N z_list, N z_min, N z_range, N z_sorted, N z_sum, N z_tuple, N z_zip⟩
 obtain ⟨f0, c0, P0, _, G0⟩ := d0
 obtain ⟨f1, c1, P1, _, G1⟩ := d1
 obtain ⟨f2, c2, P2, _, G2⟩ := d2
 obtain ⟨f3, c3, P3, _, G3⟩ := d3
 obtain ⟨f4, c4, P4, _, G4⟩ := d4
 obtain ⟨f5, c5, P5, _, G5⟩ := d5
 obtain ⟨f6, c6, P6, _, G6⟩ := d6
 obtain ⟨f7, c7, P7, _, G7⟩ := d7
 obtain ⟨f8, c8, P8, _, G8⟩ := d8
 obtain ⟨f9, c9, P9, _, G9⟩ := d9
 obtain ⟨f10, c10, P10, _, G10⟩ := d10
 obtain ⟨f11, c11, P11, _, G11⟩ := d11
 obtain ⟨f12, c12, P12, _, G12⟩ := d12
 obtain ⟨f13, c13, P13, _, G13⟩ := d13
 obtain ⟨f14, c14, P14, _, G14⟩ := d14
 obtain ⟨f15, c15, P15, _, G15⟩ := d15
 obtain ⟨f16, c16, P16, _, G16⟩ := d16
 obtain ⟨f17, c17, P17, _, G17⟩ := d17
 obtain ⟨f18, c18, P18, _, G18⟩ := d18
 obtain ⟨f19, c19, P19, _, G19⟩ := d19
 obtain ⟨f20, c20, P20, _, G20⟩ := d20
 obtain ⟨f21, c21, P21, _, G21⟩ := d21
 obtain ⟨f22, c22, P22, _, G22⟩ := d22
 obtain ⟨f23, c23, P23, _, G23⟩ := d23
 obtain ⟨f24, c24, P24, _, G24⟩ := d24
 obtain ⟨f25, c25, P25, _, G25⟩ := d25
 obtain ⟨f26, c26, P26, _, G26⟩ := d26
 obtain ⟨f27, c27, P27, _, G27⟩ := d27
 obtain ⟨f28, c28, P28, _, G28⟩ := d28
 obtain ⟨f29, c29, P29, _, G29⟩ := d29
 obtain ⟨f30, c30, P30, _, G30⟩ := d30
 have m_law := M G30.m
 have e := hfa.symm.trans m_law
 cases e
 obtain ⟨kV, dc, pm, an, ct, rfl⟩ := G30.e
 refine ⟨PySem.W.fnOf "law" "law" (jw uf) (iB uf) (aN uf) .none kV dc pm an (.ref c30) ct, [P11, P22, P26], λ s u => .of_eq rfl, λ P hP => ?_, hnt, λ base kb nb => ?_⟩
 .have hP : P = P11 ∨ P = P22 ∨ P = P26 := by simpa using hP
  rcases hP with rfl | rfl | rfl
  .exact ⟨c11, zr G X r_Lsome G11.t⟩
  .exact ⟨c22, zr G X r_is_numbers G22.t⟩
  .exact ⟨c26, zr G X r_sum_of_products G26.t⟩
 .have U {φ nm n k} (h : FI l.prog w K mg base [P11, P22, P26] nm n k φ) := h
  have iH := U (φ := bh) (BW T G0.F kb (M G0.m)).trunc
  have lL := U (φ := gJ) (Ca T G1.F kb (M G1.m) iH)
  have gq := U (φ := aG) (CP T G2.F kb (M G2.m)).trunc
  have lr := U (φ := bU) (Ig T G3.F kb (M G3.m)).trunc
  have gH := U (φ := aZ) (yN T G4.F kb (M G4.m) lr).trunc
  have iz := U (φ := fQ) (yg T G5.F kb (M G5.m) gq gH).trunc
  have mx := U (φ := jg) (Fz T G6.F kb (M G6.m) gq gH).trunc
  have gh := U (φ := iy) (Bl T G7.F kb (M G7.m)).trunc
  have jk := U (φ := cg) (BZ T G8.F kb (M G8.m) iH gh gH).trunc
  have je := U (φ := fJ) (zu T G9.F kb (M G9.m) gq iz mx jk).trunc
  have dG := U (φ := cj) (qO T G10.F kb (M G10.m) je gq jk).trunc
  have kE := U (φ := gf) (Fi T G11.F kb (M G11.m) gq iH (by simp)).trunc
  have r0_Ldet := (U (φ := λ _ _ => none) (HY (ps := ["_law_rows"]) G12.F (M G12.m) rfl (λ _ _ _ _ _ _ => us1 λ _ => rfl))).more (Nat.zero_le 0)
  have r1_Ldet := (lZ T G12.F kb (M G12.m) (by decide) r0_Ldet).trunc
  have r2_Ldet := (lZ T G12.F kb (M G12.m) (by decide) r1_Ldet).trunc
  have r3_Ldet := (lZ T G12.F kb (M G12.m) (by decide) r2_Ldet).trunc
  have r4_Ldet := (lZ T G12.F kb (M G12.m) (by decide) r3_Ldet).trunc
  have r5_Ldet := (lZ T G12.F kb (M G12.m) (by decide) r4_Ldet).trunc
  have r6_Ldet := (lZ T G12.F kb (M G12.m) (by decide) r5_Ldet).trunc
  have jD := U (φ := fW) r6_Ldet
  have iw := U (φ := fP) (yF T G13.F kb (M G13.m) jD).trunc
  have il := U (φ := cV) (zg T G14.F kb (M G14.m) iw).trunc
  have dI := U (φ := bQ) (rA T G15.F kb (M G15.m) lr).trunc
  have kh := U (φ := gb) (Ds T G16.F kb (M G16.m) kE il gq dI).trunc
  have oO := U (φ := di) (Hv T G17.F kb (M G17.m)).trunc
  have zU := U (φ := gk) (Cy T G18.F kb (M G18.m) oO).trunc
  have lM := U (φ := eQ) (Bg T G19.F kb (M G19.m)).trunc
  have lR := U (φ := fD) (yq T G20.F kb (M G20.m) lM lr).trunc
  have fH := U (φ := dC) (vJ T G21.F kb (M G21.m)).trunc
  have dw := U (φ := cO) (sY T G22.F kb (M G22.m) fH (by simp)).trunc
  have cT := U (φ := bA) (nT T G23.F kb (M G23.m)).trunc
  have cA := U (φ := bI) (ni T G24.F kb (M G24.m) cT).trunc
  have dU := U (φ := cH) (qm T G25.F kb (M G25.m) cA).trunc
  have cC := U (φ := bH) (mY T G26.F kb (M G26.m) (by simp)).trunc
  have jf := U (φ := gD) (yR T G27.F kb (M G27.m) cC).trunc
  have dD := U (φ := dm) (vX T G28.F kb (M G28.m) dw dU jf).trunc
  have lQ := U (φ := iM) (FN T G29.F kb (M G29.m)).trunc
  exact Ky T G30.F kb lL gq dG kh zU lR dD lQ
end Lk07
namespace LG
open PySem PySem.Spec PyProof.Rows L2 L3
theorem Eb (a b : Int) : Int.gcd b (a.fmod b) = Int.gcd a b := by
 have h : a.fmod b = a - b * a.fdiv b := by have := Int.mul_fdiv_add_fmod a b; omega
 rw [h, Int.gcd_comm]
 have : a - b * a.fdiv b = a + b * (- a.fdiv b) := by rw [Int.mul_neg]; omega
 rw [this, Int.gcd_add_mul_left_left]
theorem Ho (a b : Int) (h : b ≠ 0) : (a.fmod b).natAbs < b.natAbs := by
 rw [Int.fmod_eq_emod]
 have h1 := Int.emod_nonneg a h
 have h2 := Int.emod_lt a h
 by_cases hd : 0 <= b ∨ b ∣ a
 .rw [if_pos hd]; omega
 .rw [if_neg hd]
  have h3 : a % b ≠ 0 := λ z => hd (.inr (Int.dvd_of_emod_eq_zero z))
  omega
abbrev eucC : TF := toB (M2 (ak 1) (mC (.int 0)) oNe)
abbrev eucB : SF := sX 0 1 (aa (ak 1) (aa (M2 (ak 0) (ak 1) oMod) (aq)))
theorem ne_int (a b : Int) (μ : Mu) : oNe (.int a) (.int b) μ = some (.bl (!(a == b)), μ) := by
 unfold oNe rsv
 simp [cJ, ie, eqD]
theorem euc : ∀ (n : Nat) (a b : Int) (μ : Mu), b.natAbs <= n -> ∃ a', eY eucC eucB (n + 1) [some (.int a), some (.int b)] μ = some (.nx, [some (.int a'), some (.int 0)], μ) /\ a'.natAbs = Int.gcd a b /\ (0 <= a -> 0 <= b -> 0 <= a')
 | n, a, b, μ, h => by
  by_cases hb : b = 0
  .subst hb
   refine ⟨a, ?_, by simp, λ h _ => h⟩
   unfold eY
   simp [toB, M2, ak, mC, ne_int]
  .cases n with
   | zero => omega
   | succ n =>
    obtain ⟨a', e, hg, hs⟩ := euc n b (a.fmod b) μ (by have := Ho a b hb; omega)
    refine ⟨a', ?_, by rw [hg, Eb], λ h0 h1 => hs h1 (Int.fmod_nonneg_of_pos a (by omega))⟩
    unfold eY
    simp [toB, M2, ak, mC, ne_int, hb, sX, aa, aq, oMod, e]
def mQ (φ : FF) : Prop := ∀ (a b : Int) (μ : Mu), φ [.int a, .int b] μ = some (.int (Int.gcd a b), μ)
theorem FT : mQ (aF 2 cT) := λ a b μ => by
 obtain ⟨a', e, hg, hs⟩ := euc _ (if a < 0 then -a else a) (if b < 0 then -b else b) μ (Nat.le_refl _)
 have ea : (0 : Int) <= if a < 0 then -a else a := by split <;> omega
 have eb : (0 : Int) <= if b < 0 then -b else b := by split <;> omega
 have h0 := hs ea eb
 have hga : Int.gcd (if a < 0 then -a else a) (if b < 0 then -b else b) = Int.gcd a b := by split <;> split <;> simp
 rw [hga] at hg
 have hv : a' = (Int.gcd a b : Int) := by omega
 subst hv
 have ew := pP e
 unfold aF cT
 simp [aP, sX, aa, aq, MC, ak, aR, mW, ew, bF]
theorem GZ : mQ (aF 2 lr) := λ a b μ => by
 obtain ⟨a', e, hg, hs⟩ := euc _ a b μ (Nat.le_refl _)
 have ew := pP e
 unfold aF lr
 have hv : (if a' < 0 then -a' else a') = (Int.gcd a b : Int) := by split <;> omega
 simp [aP, ew, bF, aa, aq, MC, ak, aR, mW, hv]
def bN (g : Nat) (ns : List Int) : Nat := ns.foldl (λ g n => Int.gcd g n) g
theorem bK (items : List D) (μ : Mu) : Src.ok ⟨items, none⟩ μ := λ n e => by cases e
def Ej (φ : FF) : Prop := ∀ (ns : List Int) (μ : Mu), φ [.lst (ns.map .int)] μ = some (.int (bN 0 ns : Nat), μ)
theorem wA {th : D -> fX} {f : D -> D} {μ : Mu} : ∀ (items : List D), (∀ d ∈ items, th d μ = some (f d, μ)) -> BP (items.map th) μ = some (items.map f, μ)
 | [], _ => rfl
 | d :: r, h => by
  have h1 := h d (by simp)
  have h2 := wA r λ x hx => h x (by simp [hx])
  rw [List.map_cons, List.map_cons]
  unfold BP
  simp [h1, h2]
theorem vW {all : List D} {h : GF} {fe : EF} {δb : En} {f : D -> D} {μ : Mu} : ∀ (items : List D), (∀ d ∈ items, ∃ δ1, h d δb μ = some δ1 /\ fe δ1 μ = some (f d, μ)) -> lcL ⟨all, none⟩ h bG fe δb items μ = some (items.map f, μ)
 | [], _ => by unfold lcL; simp [bK]
 | d :: r, hd => by
  obtain ⟨δ1, h1, h2⟩ := hd d (by simp)
  have h3 := vW (all := all) r λ x hx => hd x (by simp [hx])
  unfold lcL
  simp [bK, h1, bG, h2, h3]
def Sm (b : Nat) (n : Int) : Prop := n.natAbs < 2 ^ b
theorem bits_le {b : Nat} {n : Int} (h : Sm b n) : Builtin.Int.intBits n <= b + 1 := by
 unfold Builtin.Int.intBits
 split
 .exact Nat.zero_le _
 .rename_i h'
  have hz : n ≠ 0 := by simpa using h'
  have hn : n.natAbs ≠ 0 := by omega
  have := (Nat.log2_lt hn).mpr h
  omega
theorem CG {b : Nat} {n : Int} (h : Sm b n) : n.natAbs.log2 < b + 1 := by
 by_cases h0 : n.natAbs = 0
 .rw [h0]; simp
 .have := (Nat.log2_lt h0).mpr h
  omega
theorem yw {a b : Nat} {x y : Int} (hx : Sm a x) (hy : Sm b y) (h : a + b + 2 <= 134217728) : iZ x y <= 134217728 := by
 have := bits_le hx
 have := bits_le hy
 unfold iZ
 omega
theorem bz {a b : Nat} {x y : Int} (μ : Mu) (hx : Sm a x) (hy : Sm b y) (h : a + b + 2 <= 134217728) : bJ (.int x) (.int y) μ = some (.int (x * y), μ) := by
 unfold bJ
 simp [yw hx hy h]
theorem gP {b : Nat} {x y : Int} (μ : Mu) (h0 : y ≠ 0) (hy : Sm b y) (h : b + 1 <= 9000) : oDiv (.int x) (.int y) μ = some (.int (x.fdiv y), μ) := by
 unfold oDiv
 have := CG hy
 simp [h0, show y.natAbs.log2 < 9000 by omega]
theorem fM {x y : Int} (μ : Mu) (h0 : y ≠ 0) : oMod (.int x) (.int y) μ = some (.int (x.fmod y), μ) := by
 unfold oMod
 simp [h0]
theorem jP : ∀ (ns : List Int) (g : Nat), (∀ n ∈ ns, ((bN g ns : Nat) : Int) ∣ n) /\ bN g ns ∣ g
 | [], g => ⟨λ n h => by simp at h, Nat.dvd_refl _⟩
 | n :: ns, g => by
  obtain ⟨h1, h2⟩ := jP ns (Int.gcd g n)
  have e : bN g (n :: ns) = bN (Int.gcd g n) ns := rfl
  rw [e]
  refine ⟨λ m hm => ?_, ?_⟩
  .rcases List.mem_cons.mp hm with z | z
   .subst z
    exact Int.dvd_trans (Int.ofNat_dvd.mpr h2) (Int.gcd_dvd_right _ _)
   .exact h1 m z
  .refine Nat.dvd_trans h2 ?_
   have := Int.gcd_dvd_left (g : Int) n
   exact Int.ofNat_dvd.mp this
theorem oh {ns : List Int} {g : Nat} (h : g ≠ 0 ∨ ∃ n ∈ ns, n ≠ 0) : bN g ns ≠ 0 := λ z => by
 obtain ⟨h1, h2⟩ := jP ns g
 rw [z] at h1 h2
 rcases h with h | ⟨n, hn, h⟩
 .exact h (Nat.eq_zero_of_zero_dvd h2)
 .have := h1 n hn
  exact h (by simpa using this)
theorem Hh {ns : List Int} {g : Nat} {n : Int} (hn : n ∈ ns) (h : n ≠ 0) : bN g ns <= n.natAbs := by
 have h1 := (jP ns g).1 n hn
 have h2 : bN g ns ∣ n.natAbs := by
  have := Int.natAbs_dvd_natAbs.mpr h1
  simpa using this
 exact Nat.le_of_dvd (by omega) h2
def JR (φ : FF) : Prop := ∀ (ns : List Int) (μ : Mu), bN 0 ns ≠ 0 -> Sm 8000 (bN 0 ns : Nat) -> ns.length <= 100 -> φ [.lst (ns.map .int)] μ = some (.tup (ns.map λ n => .int (n.fdiv (bN 0 ns : Nat))), μ)
theorem Qu {φ : FF} (hφ : Ej φ) : JR (aF 2 (rY φ)) := λ ns μ h0 hs hl => by
 have e : BP ((ns.map D.int).map (thG (hName 0) (M2 (ak 0) (ak 1) oDiv) (cz ["number"] [some (.lst (ns.map .int)), some (.int (bN 0 ns : Nat))] [1]))) μ = some ((ns.map D.int).map (λ d => match d with | .int n => .int (n.fdiv (bN 0 ns : Nat)) | _ => .non), μ) := by
  refine wA _ λ d hd => ?_
  obtain ⟨n, _, rfl⟩ := List.mem_map.mp hd
  have := gP (x := n) μ (show ((bN 0 ns : Nat) : Int) ≠ 0 by omega) hs (by decide)
  simp [thG, hName, cz, M2, ak, this]
 unfold aF rY
 have hz : ns.length <= sizeLine := Nat.le_trans hl (by decide)
 rw [List.map_map, List.map_map] at e
 simp [aP, aY, MC, aa, aq, ak, hφ ns μ, bF, CJ, sO, eZ, srcOf, hz, e]
def sgn (b : Int) : Int := if b > 0 then 1 else -1
theorem LK {b : Nat} {n s : Int} (hs : s = 1 ∨ s = -1) (h : Sm b n) : Sm b (s * n) := by
 unfold Sm at *
 rw [Int.natAbs_mul]
 rcases hs with rfl | rfl <;> simpa using h
theorem JV (b : Int) : sgn b = 1 ∨ sgn b = -1 := by unfold sgn; split <;> simp
theorem xn {φ : FF} (hφ : mQ φ) (x y : D) (all : List D) : ∀ (ns : List Int) (c : Int) (o : Option D) (μ : Mu), ∃ (c' : Int) (o' : Option D),
  forL ⟨all, none⟩ (hName 3) (aY 2 (MC (aa (ak 2) (aa (ak 3) (aq))) φ)) (ns.map D.int) [some x, some y, some (.int c), o] μ = some (.nx, [some x, some y, some (.int c'), o'], μ) /\ c'.natAbs = bN c.natAbs ns /\ (0 <= c ∨ ns ≠ [] -> 0 <= c')
 | [], c, o, μ => ⟨c, o, by unfold forL; simp [bK], rfl, λ h => h.elim id λ z => absurd rfl z⟩
 | n :: ns, c, o, μ => by
  obtain ⟨c', o', e, hc, hn0⟩ := xn hφ x y all ns (Int.gcd c n) (some (.int n)) μ
  refine ⟨c', o', ?_, ?_, λ _ => hn0 (.inl (Int.natCast_nonneg _))⟩
  .rw [List.map_cons]
   unfold forL
   simp [bK, hName, aY, MC, aa, aq, ak, hφ c n, e]
  .rw [hc]
   show _ = bN (Int.gcd (c.natAbs : Nat) n) ns
   congr 1
def ul (φ : FF) : Prop := ∀ (ns : List Int) (b : Int) (μ : Mu), b ≠ 0 -> Sm 4000 b -> ns.length <= 50 -> ns ≠ [] ->
 φ [.lst (ns.map .int), .int b] μ = some (.tup ((ns ++ [b]).map λ n => .int (n.fdiv (sgn b * (bN b.natAbs ns : Nat)))), μ)
theorem KQ {φ : FF} (hφ : mQ φ) : ul (aF 4 (gH φ)) := λ ns b μ hb hs hl hne => by
 obtain ⟨c', o', e, hc, hc0⟩ := xn hφ (.lst (ns.map .int)) (.int b) (ns.map .int) ns b none μ
 have hsg := JV b
 have hg0 : bN b.natAbs ns ≠ 0 := oh (.inl (by omega))
 have hgle : bN b.natAbs ns <= b.natAbs := Nat.le_of_dvd (by omega) (jP ns b.natAbs).2
 have hdiv : ∀ δo, ∃ δ', sIf (toB (M2 (ak 1) (mC (.int 0)) oLt)) (aY 2 (M2 (mC (.int 0)) (MC (aa (ak 2) (aq)) (aR mW)) dF)) bT [some (.lst (ns.map .int)), some (.int b), some (.int c'), δo] μ = some (.nx, δ', μ) /\ (0 <= c' -> δ' = [some (.lst (ns.map .int)), some (.int b), some (.int (sgn b * (bN b.natAbs ns : Nat))), δo]) := λ δo => by
  by_cases hn : b < 0
  .refine ⟨[some (.lst (ns.map .int)), some (.int b), some (.int (0 - if c' < 0 then -c' else c')), δo], by simp [sIf, toB, M2, ak, mC, oLt, hn, aY, MC, aa, aq, aR, mW, dF], λ hc0 => ?_⟩
   have h1 : sgn b = -1 := by unfold sgn; rw [if_neg (by omega)]
   rw [h1, if_neg (by omega)]
   have : c' = (bN b.natAbs ns : Nat) := by omega
   rw [this]
   simp
  .refine ⟨[some (.lst (ns.map .int)), some (.int b), some (.int c'), δo], by simp [sIf, toB, M2, ak, mC, oLt, hn, bT], λ hc0 => ?_⟩
   have h1 : sgn b = 1 := by unfold sgn; rw [if_pos (by omega)]
   have : c' = (bN b.natAbs ns : Nat) := by omega
   rw [h1, this]
   simp
 obtain ⟨δ', e3, e4⟩ := hdiv o'
 have e5 := e4 (hc0 (.inr hne))
 subst e5
 have hd0 : sgn b * ((bN b.natAbs ns : Nat) : Int) ≠ 0 := by rcases hsg with h | h <;> rw [h] <;> omega
 have hds : Sm 4000 (sgn b * ((bN b.natAbs ns : Nat) : Int)) := LK hsg (by unfold Sm at *; simp only [Int.natAbs_natCast]; omega)
 have eL : lcL ⟨ns.map D.int, none⟩ (hName 0) bG (M2 (ak 0) (ak 1) oDiv) (cz ["_law_number"] [some (.lst (ns.map .int)), some (.int b), some (.int (sgn b * (bN b.natAbs ns : Nat))), o'] [2]) (ns.map D.int) μ = some ((ns.map D.int).map (λ d => match d with | .int n => .int (n.fdiv (sgn b * (bN b.natAbs ns : Nat))) | _ => .non), μ) := by
  refine vW _ λ d hd => ?_
  obtain ⟨n, _, rfl⟩ := List.mem_map.mp hd
  have := gP (x := n) μ hd0 hds (by decide)
  exact ⟨_, rfl, by simp [hName, cz, M2, ak, this]⟩
 rw [List.map_map] at eL
 have eL2 : lcL ⟨ns.map D.int, none⟩ (hName 0) bG (M2 (ak 0) (ak 1) oDiv) (cz ["_law_number"] [some (.lst (ns.map .int)), some (.int b), some (.int (sgn b * (bN b.natAbs ns : Nat))), o'] [2]) (ns.map D.int) μ = some (ns.map (λ n => D.int (n.fdiv (sgn b * (bN b.natAbs ns : Nat)))), μ) := eL
 have eD := gP (x := b) μ hd0 hds (by decide)
 have hz : ns.length <= sizeLine := Nat.le_trans hl (by decide)
 have hz2 : ns.length + 1 <= sizeLine := Nat.le_trans (by omega : ns.length + 1 <= 100) (by decide)
 have h1s : 1 <= sizeLine := by decide
 unfold aF gH
 simp [aP, aY, ak, gZ, eZ, srcOf, e, e3, bF, M2, MC, aa, aq, mFz, lLC, hz, eL2, dh, bC, eD, oTup, h1s, bf, hz2]
theorem cW {a b : Nat} {x : Int} (h : Sm a x) (hab : a <= b) : Sm b x := Nat.lt_of_lt_of_le h (Nat.pow_le_pow_right (by decide) hab)
theorem gO {a b : Nat} {x y : Int} (hx : Sm a x) (hy : Sm b y) : Sm (a + b) (x * y) := by
 unfold Sm at *
 rw [Int.natAbs_mul, Nat.pow_add]
 exact Nat.mul_lt_mul'' hx hy
theorem uX {a : Nat} {x y : Int} (hx : Sm a x) (hy : Sm a y) : Sm (a + 1) (x + y) := by
 unfold Sm at *
 rw [Nat.pow_succ]
 have := Int.natAbs_add_le x y
 omega
theorem HF {a : Nat} {x y : Int} (hx : Sm a x) (h0 : 0 <= x) (hy : 0 < y) : Sm a (x.fdiv y) /\ 0 <= x.fdiv y := by
 rw [Int.fdiv_eq_ediv_of_nonneg x (by omega)]
 have h1 : 0 <= x / y := Int.ediv_nonneg h0 (by omega)
 have h2 : x / y <= x := Int.ediv_le_self y h0
 unfold Sm at *
 omega
def Dr (x : Int) : Prop := 0 <= x /\ x < 2147483648
theorem Dr.sm {x : Int} (h : Dr x) : Sm 31 x := by
 unfold Sm
 have := h.1
 have := h.2
 have e : (2 : Nat) ^ 31 = 2147483648 := by decide
 omega
theorem jQ : ∀ (L : List Int), dg (L.map D.int) = true
 | [] => by unfold dg; rfl
 | x :: L => by
  rw [List.map_cons]
  unfold dg
  rw [jQ L]
  simp [cJ]
theorem lG : ∀ (L : List Int), gW (L.map D.int) = 0
 | [] => by unfold gW; rfl
 | x :: L => by
  rw [List.map_cons]
  unfold gW
  rw [lG L]
  simp [ie]
theorem lY {ds : List D} {i : Int} (h0 : 0 <= i) (h1 : i < ds.length) : ∃ d, d ∈ ds /\ atI ds i = some d := by
 have hi : i.toNat < ds.length := by omega
 refine ⟨ds[i.toNat], List.getElem_mem hi, ?_⟩
 unfold atI ixN
 rw [if_pos h0, if_pos h1]
 simp [hi]
theorem aU {x m : Int} (hm : 0 < m) : 0 <= x.fmod m /\ x.fmod m < m := ⟨Int.fmod_nonneg_of_pos x hm, Int.fmod_lt_of_pos x hm⟩
def ou (φ : FF) : Prop := ∀ (x k : Int) (μ : Mu), 0 <= k -> k < 1000 -> ∃ r, φ [.int x, .int k] μ = some (.int r, μ) /\ Dr r
theorem JL : ou (aF 3 iH) := λ x k μ h0 h1 => by
 obtain ⟨a0, a1⟩ := aU (x := x) (m := 2147483647) (by decide)
 have w1 := fM (x := x) (y := 2147483647) μ (by decide)
 have sa : Sm 31 (x.fmod 2147483647) := by unfold Sm; have e : (2 : Nat) ^ 31 = 2147483648 := by decide
                                           omega
 have m1 := bz (x := x.fmod 2147483647) (y := 48271) μ sa (show Sm 16 48271 by unfold Sm; decide) (by decide)
 have sk : Sm 10 k := by unfold Sm; have e : (2 : Nat) ^ 10 = 1024 := by decide
                         omega
 have m2 := bz (x := 7919) (y := k) μ (show Sm 13 7919 by unfold Sm; decide) sk (by decide)
 have m3 := bz (x := 7919 * k) (y := k) μ (gO (show Sm 13 7919 by unfold Sm; decide) sk) sk (by decide)
 have w2 := fM (x := x.fmod 2147483647 * 48271 + 7919 * k * k + 104729) (y := 2147483647) μ (by decide)
 obtain ⟨b0, b1⟩ := aU (x := x.fmod 2147483647 * 48271 + 7919 * k * k + 104729) (m := 2147483647) (by decide)
 generalize hn : (x.fmod 2147483647 * 48271 + 7919 * k * k + 104729).fmod 2147483647 = n at *
 have sn : Sm 31 n := by unfold Sm; have e : (2 : Nat) ^ 31 = 2147483648 := by decide
                         omega
 have m4 := bz (x := n) (y := n) μ sn sn (by decide)
 have w3 := fM (x := n * n) (y := 2147483629) μ (by decide)
 obtain ⟨c0, c1⟩ := aU (x := n * n) (m := 2147483629) (by decide)
 refine ⟨(n * n).fmod 2147483629, ?_, c0, by omega⟩
 unfold aF iH
 simp [aP, aY, M2, ak, mC, w1, m1, m2, m3, bf, w2, bF, m4, w3]
theorem uQ {δ : En} {L : List Int} {y : Int} {fs : AF} (h1 : δ[1]? = some (some (.cell 0))) (h2 : fs δ [some (L.map .int)] = some ([.int y], [some (L.map .int)])) (hl : L.length < 10000) :
  fZ (ak 1) fs δ [some (L.map .int)] = some (.non, [some ((L ++ [y]).map .int)]) := by
 have hz : L.length < sizeLine := Nat.lt_of_lt_of_le hl (by decide)
 unfold fZ
 simp [ak, h1, h2, fu, hz]
theorem Nx {φ : FF} (hφ : ou φ) (s : D) (k c : Int) (hk : 0 <= k /\ k < 100) (all : List D) : ∀ (js : List Int), (∀ j ∈ js, 0 <= j /\ j < 12) -> ∀ (L : List Int) (o : Option D), (∀ x ∈ L, Dr x) -> L.length + js.length < 10000 -> ∃ (L' : List Int) (o' : Option D),
  forL ⟨all, none⟩ (hName 4) (fK (fZ (ak 1) (aa (MC (aa (MC (aa (ak 3) (aa (M2 (M2 (mC (.int 3)) (ak 4) bJ) (mC (.int 1)) bf) (aq))) φ) (aa (M2 (M2 (ak 4) (ak 2) bf) (mC (.int 2)) bf) (aq))) φ) (aq)))) (js.map D.int)
   [some s, some (.cell 0), some (.int k), some (.int c), o] [some (L.map .int)] = some (.nx, [some s, some (.cell 0), some (.int k), some (.int c), o'], [some (L'.map .int)]) /\ (∀ x ∈ L', Dr x) /\ L'.length = L.length + js.length
 | [], _, L, o, hL, _ => ⟨L, o, by unfold forL; simp [bK], hL, rfl⟩
 | j :: js, hj, L, o, hL, hlen => by
  have hj0 := hj j (by simp)
  obtain ⟨r1, e1, d1⟩ := hφ c (3 * j + 1) [some (L.map .int)] (by omega) (by omega)
  obtain ⟨r2, e2, d2⟩ := hφ r1 (j + k + 2) [some (L.map .int)] (by omega) (by omega)
  have m1 := bz (x := 3) (y := j) [some (L.map D.int)] (show Sm 2 3 by unfold Sm; decide) (show Sm 4 j by unfold Sm; omega) (by decide)
  obtain ⟨L', o', e, hd, hl⟩ := Nx hφ s k c hk all js (λ x hx => hj x (by simp [hx])) (L ++ [r2]) (some (.int j)) (λ x hx => by
   rcases List.mem_append.mp hx with z | z
   .exact hL x z
   .simp at z; subst z; exact d2) (by simp at hlen ⊢; omega)
  refine ⟨L', o', ?_, hd, by rw [hl]; simp; omega⟩
  rw [List.map_cons]
  unfold forL
  have ea := uQ (δ := [some s, some (.cell 0), some (.int k), some (.int c), some (.int j)]) (L := L) (y := r2) (fs := aa (MC (aa (MC (aa (ak 3) (aa (M2 (M2 (mC (.int 3)) (ak 4) bJ) (mC (.int 1)) bf) (aq))) φ) (aa (M2 (M2 (ak 4) (ak 2) bf) (mC (.int 2)) bf) (aq))) φ) (aq)) rfl
   (by simp [aa, aq, MC, M2, ak, mC, m1, bf, e1, e2]) (by simp at hlen; omega)
  simp only [List.map_append, List.map_cons, List.map_nil] at ea e
  simp [bK, hName, fK, ea, e]
abbrev drC : TF := lF (toB (M2 (ak 3) (M2 (mC (.int 10)) (mC (.int 18)) xx) oGe)) (toB (M2 (MC (aa (ak 1) (aq)) (aR bx)) (mC (.int 900)) oLt))
abbrev drB : SF := aP (fK (fZ (ak 1) (aa (M2 (ak 3) (mC (.int 2147483629)) oMod) (aq)))) (aY 3 (M2 (ak 3) (mC (.int 2147483629)) oDiv))
theorem wX (s k o : Option D) : ∀ (n : Nat) (c : Int) (L : List Int), 0 <= c -> (∀ x ∈ L, Dr x) -> 900 - L.length <= n -> ∃ (c' : Int) (L' : List Int),
  eY drC drB (n + 1) [s, some (.cell 0), k, some (.int c), o] [some (L.map .int)] = some (.nx, [s, some (.cell 0), k, some (.int c'), o], [some (L'.map .int)]) /\ 0 <= c' /\ (∀ x ∈ L', Dr x) /\ L'.length <= max L.length 900
 | n, c, L, hc, hL, hn => by
  have ep : xx (.int 10) (.int 18) [some (L.map D.int)] = some (.int 1000000000000000000, [some (L.map .int)]) := rfl
  by_cases ht : (1000000000000000000 : Int) <= c /\ L.length < 900
  .cases n with
   | zero => omega
   | succ n =>
    obtain ⟨m0, m1⟩ := aU (x := c) (m := 2147483629) (by decide)
    have w1 := fM (x := c) (y := 2147483629) [some (L.map D.int)] (by decide)
    have w2 := gP (x := c) (y := 2147483629) [some ((L ++ [c.fmod 2147483629]).map D.int)] (by decide) (show Sm 31 2147483629 by unfold Sm; decide) (by decide)
    have q0 : 0 <= c.fdiv 2147483629 := by rw [Int.fdiv_eq_ediv_of_nonneg c (by decide)]; exact Int.ediv_nonneg hc (by decide)
    obtain ⟨c', L', e, h1, h2, h3⟩ := wX s k o n (c.fdiv 2147483629) (L ++ [c.fmod 2147483629]) q0 (λ x hx => by
     rcases List.mem_append.mp hx with z | z
     .exact hL x z
     .simp at z; subst z; exact ⟨m0, by omega⟩) (by simp; omega)
    refine ⟨c', L', ?_, h1, h2, by simp at h3; omega⟩
    unfold eY
    have ea := uQ (δ := [s, some (.cell 0), k, some (.int c), o]) (L := L) (y := c.fmod 2147483629) (fs := aa (M2 (ak 3) (mC (.int 2147483629)) oMod) (aq)) rfl (by simp [aa, aq, M2, ak, mC, w1]) (by omega)
    simp only [List.map_append, List.map_cons, List.map_nil] at ea e w2
    have hlen : ((L.length : Nat) : Int) < 900 := by omega
    have ht1 := ht.1
    simp [lF, toB, M2, ak, mC, ep, oGe, ht1, MC, aa, aq, aR, bx, bC, oLt, hlen, aP, fK] at ea ⊢
    simp [ea, aY, M2, ak, mC, w2, e]
  .refine ⟨c, L, ?_, hc, hL, by omega⟩
   unfold eY
   by_cases h1 : (1000000000000000000 : Int) <= c
   .have h2 : ¬ ((L.length : Nat) : Int) < 900 := by omega
    simp [lF, toB, M2, ak, mC, ep, oGe, h1, MC, aa, aq, aR, bx, bC, oLt, h2]
   .simp [lF, toB, M2, ak, mC, ep, oGe, h1]
theorem wM (n : Nat) : cU 0 n = ((List.range n).map λ (k : Nat) => (k : Int)).map D.int := by
 unfold cU
 rw [List.map_map]
 apply List.map_congr_left
 intro k _
 simp
noncomputable abbrev tW (φ : FF) : SF := (aP (aY 3 (MC (aa (M2 (ak 0) (ak 2) oIx) (aq)) (aR mW))) (aP (sIf (toB (M2 (ak 3) (M2 (mC (.int 10)) (mC (.int 18)) xx) oLt)) (gZ (bO (aa (mC (.int 12)) (aq))) (hName 4) (fK (fZ (ak 1) (aa (MC (aa (MC (aa (ak 3) (aa (M2 (M2 (mC (.int 3)) (ak 4) bJ) (mC (.int 1)) bf) (aq))) φ) (aa (M2 (M2 (ak 4) (ak 2) bf) (mC (.int 2)) bf) (aq))) φ) (aq))))) (bT)) (aP (km drC drB) (sIf (toB (M2 (ak 3) (mC (.int 2147483629)) oGe)) (fK (fZ (ak 1) (aa (M2 (ak 3) (mC (.int 2147483629)) oMod) (aq)))) (bT)))))
theorem FZ {φ : FF} (hφ : ou φ) (ns : List Int) (k : Nat) (hk : k < ns.length) (hk2 : k < 100) (L : List Int) (o3 o4 : Option D) (hL : ∀ x ∈ L, Dr x) (hlen : L.length < 9000) : ∃ (L' : List Int) (o3' o4' : Option D),
  tW φ [some (.ro (ns.map .int)), some (.cell 0), some (.int k), o3, o4] [some (L.map .int)] = some (.nx, [some (.ro (ns.map .int)), some (.cell 0), some (.int k), o3', o4'], [some (L'.map .int)]) /\ (∀ x ∈ L', Dr x) /\ L'.length <= max (L.length + 12) 900 + 1 := by
 have hat : atI (ns.map D.int) (k : Int) = some (.int ns[k]) := GX (by simp [hk])
 generalize hc : (if ns[k] < 0 then -ns[k] else ns[k]) = c
 have hc0 : 0 <= c := by rw [<- hc]; split <;> omega
 have ep : xx (.int 10) (.int 18) [some (L.map D.int)] = some (.int 1000000000000000000, [some (L.map .int)]) := rfl
 obtain ⟨L1, o1, e1, h1, l1⟩ : ∃ (L1 : List Int) (o1 : Option D), sIf (toB (M2 (ak 3) (M2 (mC (.int 10)) (mC (.int 18)) xx) oLt)) (gZ (bO (aa (mC (.int 12)) (aq))) (hName 4) (fK (fZ (ak 1) (aa (MC (aa (MC (aa (ak 3) (aa (M2 (M2 (mC (.int 3)) (ak 4) bJ) (mC (.int 1)) bf) (aq))) φ) (aa (M2 (M2 (ak 4) (ak 2) bf) (mC (.int 2)) bf) (aq))) φ) (aq))))) (bT)
   [some (.ro (ns.map .int)), some (.cell 0), some (.int k), some (.int c), o4] [some (L.map .int)] = some (.nx, [some (.ro (ns.map .int)), some (.cell 0), some (.int k), some (.int c), o1], [some (L1.map .int)]) /\ (∀ x ∈ L1, Dr x) /\ L1.length <= L.length + 12 := by
  by_cases hs : c < 1000000000000000000
  .obtain ⟨L1, o1, e, h, l⟩ := Nx hφ (.ro (ns.map .int)) k c (by omega) (cU 0 12) ((List.range 12).map λ (k : Nat) => (k : Int)) (λ j hj => by simp at hj; omega) L o4 hL (by simp; omega)
   refine ⟨L1, o1, ?_, h, by rw [l]; simp⟩
   rw [<- wM] at e
   simp [sIf, toB, M2, ak, mC, ep, oLt, hs, gZ, bO, aa, aq]
   exact e
  .exact ⟨L, o4, by simp [sIf, toB, M2, ak, mC, ep, oLt, hs, bT], hL, by omega⟩
 obtain ⟨c', L2, e2, hc', h2, l2⟩ := wX (some (.ro (ns.map .int))) (some (.int k)) o1 _ c L1 hc0 h1 (Nat.le_refl _)
 have ew := pP e2
 have hab : mW (.int ns[k]) [some (L.map D.int)] = some (.int c, [some (L.map D.int)]) := by rw [<- hc]; rfl
 by_cases hb : (2147483629 : Int) <= c'
 .obtain ⟨m0, m1⟩ := aU (x := c') (m := 2147483629) (by decide)
  have w1 := fM (x := c') (y := 2147483629) [some (L2.map D.int)] (by decide)
  have ea := uQ (δ := [some (.ro (ns.map .int)), some (.cell 0), some (.int k), some (.int c'), o1]) (L := L2) (y := c'.fmod 2147483629) (fs := aa (M2 (ak 3) (mC (.int 2147483629)) oMod) (aq)) rfl (by simp [aa, aq, M2, ak, mC, w1]) (by omega)
  refine ⟨L2 ++ [c'.fmod 2147483629], some (.int c'), o1, ?_, λ x hx => by
   rcases List.mem_append.mp hx with z | z
   .exact h2 x z
   .simp at z; subst z; exact ⟨m0, by omega⟩, by simp; omega⟩
  have e0 : aY 3 (MC (aa (M2 (ak 0) (ak 2) oIx) (aq)) (aR mW)) [some (.ro (ns.map .int)), some (.cell 0), some (.int k), o3, o4] [some (L.map .int)] = some (.nx, [some (.ro (ns.map .int)), some (.cell 0), some (.int k), some (.int c), o4], [some (L.map .int)]) := by
   simp [aY, MC, aa, aq, M2, ak, oIx, bC, hat, aR, hab]
  have e3 : sIf (toB (M2 (ak 3) (mC (.int 2147483629)) oGe)) (fK (fZ (ak 1) (aa (M2 (ak 3) (mC (.int 2147483629)) oMod) (aq)))) (bT) [some (.ro (ns.map .int)), some (.cell 0), some (.int k), some (.int c'), o1] [some (L2.map .int)] = some (.nx, [some (.ro (ns.map .int)), some (.cell 0), some (.int k), some (.int c'), o1], [some ((L2 ++ [c'.fmod 2147483629]).map .int)]) := by
   simp only [sIf, toB, M2, ak, mC, oGe, fK] at ea ⊢
   simp [hb] at ea ⊢
   simp [ea]
  unfold tW aP
  rw [e0]
  simp only [Option.bind_some]
  rw [e1]
  simp only [Option.bind_some]
  rw [ew]
  simp only [Option.bind_some]
  exact e3
 .refine ⟨L2, some (.int c'), o1, ?_, h2, by omega⟩
  have e0 : aY 3 (MC (aa (M2 (ak 0) (ak 2) oIx) (aq)) (aR mW)) [some (.ro (ns.map .int)), some (.cell 0), some (.int k), o3, o4] [some (L.map .int)] = some (.nx, [some (.ro (ns.map .int)), some (.cell 0), some (.int k), some (.int c), o4], [some (L.map .int)]) := by
   simp [aY, MC, aa, aq, M2, ak, oIx, bC, hat, aR, hab]
  have e3 : sIf (toB (M2 (ak 3) (mC (.int 2147483629)) oGe)) (fK (fZ (ak 1) (aa (M2 (ak 3) (mC (.int 2147483629)) oMod) (aq)))) (bT) [some (.ro (ns.map .int)), some (.cell 0), some (.int k), some (.int c'), o1] [some (L2.map .int)] = some (.nx, [some (.ro (ns.map .int)), some (.cell 0), some (.int k), some (.int c'), o1], [some (L2.map .int)]) := by
   simp [sIf, toB, M2, ak, mC, oGe, hb, bT]
  unfold tW aP
  rw [e0]
  simp only [Option.bind_some]
  rw [e1]
  simp only [Option.bind_some]
  rw [ew]
  simp only [Option.bind_some]
  exact e3
theorem zK {φ : FF} (hφ : ou φ) (ns : List Int) (all : List D) : ∀ (ks : List Nat), (∀ k ∈ ks, k < ns.length /\ k < 100) -> ∀ (L : List Int) (o2 o3 o4 : Option D), (∀ x ∈ L, Dr x) -> max L.length 900 + 13 * ks.length <= 5000 -> ∃ (L' : List Int) (o2' o3' o4' : Option D),
  forL ⟨all, none⟩ (hName 2) (tW φ) ((ks.map λ (k : Nat) => (k : Int)).map D.int) [some (.ro (ns.map .int)), some (.cell 0), o2, o3, o4] [some (L.map .int)] = some (.nx, [some (.ro (ns.map .int)), some (.cell 0), o2', o3', o4'], [some (L'.map .int)]) /\ (∀ x ∈ L', Dr x)
 | [], _, L, o2, o3, o4, hL, _ => ⟨L, o2, o3, o4, by simp only [List.map_nil]; unfold forL; simp [bK], hL⟩
 | k :: ks, hk, L, o2, o3, o4, hL, hlen => by
  have hk0 := hk k (by simp)
  simp only [List.length_cons] at hlen
  obtain ⟨L1, a3, a4, e1, h1, l1⟩ := FZ hφ ns k hk0.1 hk0.2 L o3 o4 hL (by omega)
  obtain ⟨L', b2, b3, b4, e, h⟩ := zK hφ ns all ks (λ x hx => hk x (by simp [hx])) L1 (some (.int k)) a3 a4 h1 (by omega)
  refine ⟨L', b2, b3, b4, ?_, h⟩
  rw [List.map_cons, List.map_cons]
  unfold forL
  simp only [hName, List.set_cons_succ, List.set_cons_zero, Option.bind_some]
  rw [if_pos (bK _ _), e1]
  exact e
def uK (φ : FF) : Prop := ∀ (ns : List Int), ns.length <= 63 -> ∃ L : List Int, φ [.ro (ns.map .int)] [] = some (.cell 0, [some (L.map .int)]) /\ ∀ x ∈ L, Dr x
theorem Er {φ : FF} (hφ : ou φ) : uK (aF 5 (lL φ)) := λ ns hn => by
 obtain ⟨L, o2, o3, o4, e, h⟩ := zK hφ ns (cU 0 ns.length) (List.range ns.length) (λ k hk => by simp at hk; omega) [] none none none (λ x hx => by simp at hx) (by simp; omega)
 refine ⟨L, ?_, h⟩
 rw [<- wM] at e
 have hmin : (if (63 : Int) < (ns.length : Int) then (63 : Int) else (ns.length : Int)) = (ns.length : Int) := by rw [if_neg (by omega)]
 have hr : (-(2 ^ 62) <= (ns.length : Int) /\ (ns.length : Int) < 2 ^ 62) := by omega
 have hz : 0 <= sizeLine := Nat.zero_le _
 have eS : ∀ δ : En, δ[0]? = some (some (.ro (ns.map .int))) -> ∀ μ, bO (aa (MC (aa (MC (aa (ak 0) (aq)) (aR bx)) (aa (mC (.int 63)) (aq))) (mK qd)) (aq)) δ μ = some (⟨cU 0 ns.length, none⟩, μ) := λ δ h0 μ => by
  simp only [bO, aa, MC, ak, h0, aq, aR, bx, bC, mC, mK, qd, Option.bind_some, Option.map_some, List.length_map]
  rw [hmin]
  rw [if_pos hr]
  simp
 have e0 : aY 1 (mU (pM aq)) [some (.ro (ns.map .int)), none, none, none, none] [] = some (.nx, [some (.ro (ns.map .int)), some (.cell 0), none, none, none], [some []]) := by
  simp [aY, mU, pM, aq]
 have e1 : gZ (bO (aa (MC (aa (MC (aa (ak 0) (aq)) (aR bx)) (aa (mC (.int 63)) (aq))) (mK qd)) (aq))) (hName 2) (tW φ) [some (.ro (ns.map .int)), some (.cell 0), none, none, none] [some []] = some (.nx, [some (.ro (ns.map .int)), some (.cell 0), o2, o3, o4], [some (L.map .int)]) := by
  unfold gZ
  rw [eS _ rfl]
  exact e
 show (aP (aY 1 (mU (pM aq))) (aP (gZ (bO (aa (MC (aa (MC (aa (ak 0) (aq)) (aR bx)) (aa (mC (.int 63)) (aq))) (mK qd)) (aq))) (hName 2) (tW φ)) (bF (ak 1))) [some (.ro (ns.map .int)), none, none, none, none] []).bind _ = _
 unfold aP
 rw [e0]
 simp only [Option.bind_some]
 rw [e1]
 simp [bF, ak]
theorem wu : ∀ (ns : List Int) (g d : Nat), d ∣ bN g ns ↔ d ∣ g /\ ∀ n ∈ ns, d ∣ n.natAbs
 | [], g, d => by simp [bN]
 | n :: ns, g, d => by
  have e : bN g (n :: ns) = bN (Int.gcd g n) ns := rfl
  rw [e, wu ns (Int.gcd g n) d]
  have h : d ∣ Int.gcd g n ↔ d ∣ g /\ d ∣ n.natAbs := by
   show d ∣ Nat.gcd (Int.natAbs g) (Int.natAbs n) ↔ _
   rw [Nat.dvd_gcd_iff]
   simp
  rw [h]
  simp only [List.mem_cons, forall_eq_or_imp]
  constructor
  .rintro ⟨⟨h1, h2⟩, h3⟩; exact ⟨h1, h2, h3⟩
  .rintro ⟨h1, h2, h3⟩; exact ⟨⟨h1, h2⟩, h3⟩
theorem sH (f : Int) : ∀ (ns : List Int) (g : Nat), bN (f.natAbs * g) (ns.map (f * ·)) = f.natAbs * bN g ns
 | [], g => rfl
 | n :: ns, g => by
  show bN (Int.gcd ((f.natAbs * g : Nat) : Int) (f * n)) (ns.map (f * ·)) = f.natAbs * bN (Int.gcd g n) ns
  have : Int.gcd ((f.natAbs * g : Nat) : Int) (f * n) = f.natAbs * Int.gcd g n := by
   show Nat.gcd (Int.natAbs ((f.natAbs * g : Nat) : Int)) (Int.natAbs (f * n)) = _
   rw [Int.natAbs_natCast, Int.natAbs_mul, Nat.gcd_mul_left]
   rfl
  rw [this, sH f ns]
end LG
namespace L3
open PySem PySem.Spec PyProof.Rows L2
class Post (α : Type) where
 run : α -> Prop
@[simp] theorem yP {α : Type} {f : α -> Prop} {r : α} : @Post.run α ⟨f⟩ r = f r := rfl
def OkI {α : Type} (o : Option α) [Q : Post α] : Prop := ∃ r, o = some r /\ Q.run r
abbrev Ok {α : Type} (o : Option α) (Q : α -> Prop) : Prop := @OkI α o ⟨Q⟩
section
variable {α β : Type} {Q : Post α}
@[simp] theorem Hd {r : α} : OkI (some r) (Q := Q) = Q.run r := by
 apply propext
 exact ⟨λ ⟨q, e, h⟩ => by cases e; exact h, λ h => ⟨r, rfl, h⟩⟩
@[simp] theorem Qn : OkI (none : Option α) (Q := Q) = False := by
 apply propext
 exact ⟨λ ⟨q, e, h⟩ => (by cases e), λ h => h.elim⟩
@[simp] theorem fV {o : Option β} {k : β -> Option α} : OkI (o.bind k) (Q := Q) = OkI o (Q := ⟨λ r => OkI (k r) (Q := Q)⟩) := by
 apply propext
 constructor
 .rintro ⟨q, e, h⟩
  obtain ⟨r, e1, e2⟩ := Option.bind_eq_some_iff.mp e
  exact ⟨r, e1, q, e2, h⟩
 .rintro ⟨r, e1, q, e2, h⟩
  exact ⟨q, by rw [e1]; exact e2, h⟩
@[simp] theorem Rg {o : Option β} {k : β -> α} : OkI (o.map k) (Q := Q) = OkI o (Q := ⟨λ r => Q.run (k r)⟩) := by
 apply propext
 constructor
 .rintro ⟨q, e, h⟩
  obtain ⟨r, e1, e2⟩ := Option.map_eq_some_iff.mp e
  exact ⟨r, e1, by subst e2; exact h⟩
 .rintro ⟨r, e1, h⟩
  exact ⟨_, by rw [e1]; rfl, h⟩
theorem OkI.mono {o : Option α} {Q' : Post α} (h : OkI o (Q := Q)) (k : ∀ r, Q.run r -> Q'.run r) : OkI o (Q := Q') := let ⟨r, e, q⟩ := h; ⟨r, e, k r q⟩
end
class Two where
 t : Prop
 f : Prop
def tE (b : Bool) [T : Two] : Prop := if b = true then T.t else T.f
@[simp] theorem MN {P R : Prop} : tE true (T := ⟨P, R⟩) = P := rfl
@[simp] theorem Mf {P R : Prop} : tE false (T := ⟨P, R⟩) = R := rfl
def asB (r : D × Mu) : Option (Bool × Mu) := match r.1 with
 | .bl k => some (k, r.2)
 | _ => none
@[simp] theorem QL {k : Bool} {μ : Mu} : asB (.bl k, μ) = some (k, μ) := rfl
def Jh (r : List D × Mu) : Option (Src × Mu) := match r.1 with
 | [.int j] => if -(2 ^ 62) <= j /\ j < 2 ^ 62 then some (⟨cU 0 j.toNat, none⟩, r.2) else none
 | _ => none
def DY (r : List D × Mu) : Option (List D × Mu) := match r.1 with
 | [.int j] => if -(2 ^ 62) <= j /\ j < 2 ^ 62 /\ j.toNat <= sizeLine then some (cU 0 j.toNat, r.2) else none
 | _ => none
theorem vp {j : Int} {μ : Mu} (h0 : -(2 ^ 62) <= j) (h1 : j < 2 ^ 62) : Jh ([.int j], μ) = some (⟨cU 0 j.toNat, none⟩, μ) := if_pos ⟨h0, h1⟩
theorem Nv {j : Int} {μ : Mu} (h0 : -(2 ^ 62) <= j) (h1 : j.toNat <= sizeLine) (h2 : j < 2 ^ 62) : DY ([.int j], μ) = some (cU 0 j.toNat, μ) := if_pos ⟨h0, h2, h1⟩
def Py (r : List D × Mu) : Option (Src × Mu) := match r.1 with
 | [x, y] => (bV x).bind λ xs => (bV y).map λ ys => (⟨jR xs ys, none⟩, r.2)
 | _ => none
@[simp] theorem Oq {x y : D} {μ : Mu} : Py ([x, y], μ) = (bV x).bind λ xs => (bV y).map λ ys => (⟨jR xs ys, none⟩, μ) := rfl
@[simp] theorem PX {ds : List D} : bV (.tup ds) = some ds := rfl
@[simp] theorem Qv {ds : List D} : bV (.lst ds) = some ds := rfl
def Ov (th : D -> fX) (r : Src × Mu) : Option (List fX × Mu) := match r.1.cel with
 | none => some (r.1.items.map th, r.2)
 | some _ => none
@[simp] theorem MF {th : D -> fX} {items : List D} {μ : Mu} : Ov th (⟨items, none⟩, μ) = some (items.map th, μ) := rfl
def Mr (r : D × Mu) : Option (List fX × Mu) := match r.1 with
 | .tup ds => some (ds.map thE, r.2)
 | .lst ds => some (ds.map thE, r.2)
 | _ => none
@[simp] theorem NP {ds : List D} {μ : Mu} : Mr (.tup ds, μ) = some (ds.map thE, μ) := rfl
@[simp] theorem Pq {ds : List D} {μ : Mu} : Mr (.lst ds, μ) = some (ds.map thE, μ) := rfl
def Px (r : D × Mu) : Option (D × Mu) := match r.1 with
 | .cell n => (r.2.getD n none).map λ ds => (.lst ds, r.2.set n none)
 | d => some (d, r.2)
@[simp] theorem Nf {n : Nat} {μ : Mu} : Px (.cell n, μ) = (μ.getD n none).map λ ds => (.lst ds, μ.set n none) := rfl
section
variable {Q : Post (D × Mu)} {QT : Post (Bool × Mu)} {QS : Post (Fl × En × Mu)} {δ : En} {μ : Mu} {f fa fb fc : EF} {fs : AF} {t ta tc : TF} {g h : SF} {op op' : O2}
@[simp] theorem Mt {d : D} : ak 0 (some d :: δ) μ = some (d, μ) := rfl
@[simp] theorem QZ {i : Nat} {o : Option D} : ak (i + 1) (o :: δ) μ = ak i δ μ := rfl
@[simp] theorem w_c {d : D} : mC d δ μ = some (d, μ) := rfl
@[simp] theorem w_m1 {op : O1'} : M1 fa op δ μ = (fa δ μ).bind λ r => op r.1 r.2 := rfl
@[simp] theorem Mz : M2 fa fb op δ μ = (fa δ μ).bind λ r => (fb δ r.2).bind λ q => op r.1 q.1 q.2 := rfl
@[simp] theorem zV : aq δ μ = some ([], μ) := rfl
@[simp] theorem vh : aa f fs δ μ = (f δ μ).bind λ r => (fs δ r.2).bind λ q => some (r.1 :: q.1, q.2) := rfl
@[simp] theorem Lw {op : ON} : MC fs op δ μ = (fs δ μ).bind λ r => op r.1 r.2 := rfl
@[simp] theorem Ri : sW f δ μ = (f δ μ).bind λ r => (xT r.1 r.2).map λ k => (k, r.2) := rfl
@[simp] theorem w_toB : toB f δ μ = (f δ μ).bind asB := rfl
@[simp] theorem w_ch : OkI (MCh fa fb fc op op' δ μ) (Q := Q) = OkI (fa δ μ) (Q := ⟨λ r => OkI (fb δ r.2) (Q := ⟨λ q => OkI ((op r.1 q.1 q.2).bind asB) (Q := ⟨λ z => tE z.1 (T := ⟨OkI ((fc δ z.2).bind λ t => op' q.1 t.1 t.2) (Q := Q), Q.run (.bl false, z.2)⟩)⟩)⟩)⟩) := by
 unfold MCh; rw [fV]; congr 2; funext r; rw [fV]; congr 2; funext q; rw [fV, fV]; congr 2; funext z; obtain ⟨d, μ'⟩ := z
 cases d <;> simp [asB]
 rename_i b
 cases b <;> simp
@[simp] theorem w_and : OkI (lF ta tc δ μ) (Q := QT) = OkI (ta δ μ) (Q := ⟨λ r => tE r.1 (T := ⟨OkI (tc δ r.2) (Q := QT), QT.run (false, r.2)⟩)⟩) := by
 unfold lF; rw [fV]; congr 2; funext r; unfold tE; split <;> simp [*]
@[simp] theorem w_or : OkI (qt ta tc δ μ) (Q := QT) = OkI (ta δ μ) (Q := ⟨λ r => tE r.1 (T := ⟨QT.run (true, r.2), OkI (tc δ r.2) (Q := QT)⟩)⟩) := by
 unfold qt; rw [fV]; congr 2; funext r; unfold tE; split <;> simp [*]
@[simp] theorem w_not : lD ta δ μ = (ta δ μ).bind λ r => some (!r.1, r.2) := rfl
@[simp] theorem Rb : OkI (pU fa fb δ μ) (Q := Q) = OkI ((fa δ μ).bind asB) (Q := ⟨λ k => tE k.1 (T := ⟨OkI (fb δ k.2) (Q := Q), Q.run (.bl false, k.2)⟩)⟩) := by
 unfold pU; rw [fV, fV]; congr 2; funext r; obtain ⟨d, μ'⟩ := r
 cases d <;> simp [asB]
 rename_i b
 cases b <;> simp
@[simp] theorem QW : rm fa δ μ = ((fa δ μ).bind asB).bind λ r => some (.bl !r.1, r.2) := by
 unfold rm
 cases fa δ μ with
 | none => rfl
 | some r => obtain ⟨d, μ'⟩ := r; cases d <;> rfl
@[simp] theorem w_next : bT δ μ = some (.nx, δ, μ) := rfl
@[simp] theorem w_ret : bF f δ μ = (f δ μ).bind λ r => some (.rt r.1, δ, r.2) := rfl
@[simp] theorem QR : fK f δ μ = (f δ μ).bind λ r => some (.nx, δ, r.2) := rfl
@[simp] theorem w_set {i : Nat} : aY i f δ μ = (f δ μ).bind λ r => some (.nx, δ.set i (some r.1), r.2) := rfl
@[simp] theorem w_if : OkI (sIf t g h δ μ) (Q := QS) = OkI (t δ μ) (Q := ⟨λ r => tE r.1 (T := ⟨OkI (g δ r.2) (Q := QS), OkI (h δ r.2) (Q := QS)⟩)⟩) := by
 unfold sIf; rw [fV]; congr 2; funext r; unfold tE; split <;> simp [*]
def tU (h : SF) (QS : Post (Fl × En × Mu)) (r : Fl × En × Mu) : Prop := match r.1 with
 | .nx => OkI (h r.2.1 r.2.2) (Q := QS)
 | _ => QS.run r
@[simp] theorem Jm : OkI (aP g h δ μ) (Q := QS) = OkI (g δ μ) (Q := ⟨tU h QS⟩) := by
 unfold aP
 rw [fV]
 congr 2
 funext r
 obtain ⟨fl, δ', μ'⟩ := r
 cases fl <;> simp [tU]
@[simp] theorem Gb {δ' : En} {μ' : Mu} : tU h QS (.nx, δ', μ') = OkI (h δ' μ') (Q := QS) := rfl
@[simp] theorem Qj {d : D} {δ' : En} {μ' : Mu} : tU h QS (.rt d, δ', μ') = QS.run (.rt d, δ', μ') := rfl
@[simp] theorem Qe {δ' : En} {μ' : Mu} : tU h QS (.bk, δ', μ') = QS.run (.bk, δ', μ') := rfl
@[simp] theorem Qh {δ' : En} {μ' : Mu} : tU h QS (.ct, δ', μ') = QS.run (.ct, δ', μ') := rfl
@[simp] theorem w_asg {hh : GF} : HN f hh δ μ = (f δ μ).bind λ r => (hh r.1 δ r.2).bind λ δ' => some (.nx, δ', r.2) := rfl
@[simp] theorem w_par {i j : Nat} : sX i j fs δ μ = (fs δ μ).bind λ r => match r.1 with
 | [x, y] => some (.nx, (δ.set i (some x)).set j (some y), r.2)
 | _ => none := rfl
@[simp] theorem Ob {fi : IF} {hh : GF} : gZ fi hh g δ μ = (fi δ μ).bind λ r => forL r.1 hh g r.1.items δ r.2 := rfl
@[simp] theorem w_fz {lf : LF} : mFz lf δ μ = (lf δ μ).bind λ r => some (.lst r.1, r.2) := rfl
@[simp] theorem w_new {lf : LF} : mU lf δ μ = (lf δ μ).bind λ r => some (.cell r.2.length, r.2 ++ [some r.1]) := rfl
@[simp] theorem Rf : pM fs δ μ = (fs δ μ).bind λ r => if r.1.length <= sizeLine then some r else none := rfl
@[simp] theorem QJ {i : Nat} {d : D} : hName i d δ μ = some (δ.set i (some d)) := rfl
@[simp] theorem w_tup {n : Nat} {hs : GsF} {ds : List D} : kW n hs (.tup ds) δ μ = if ds.length = n then hs ds δ μ else none := rfl
@[simp] theorem QQ : kY [] δ μ = some δ := rfl
@[simp] theorem Qp {hh : GF} {hs : GsF} {d : D} {ds : List D} : cB hh hs (d :: ds) δ μ = (hh d δ μ).bind λ δ1 => hs ds δ1 μ := rfl
@[simp] theorem QX : eZ f δ μ = (f δ μ).bind λ r => (srcOf r.1 r.2).map λ S => (S, r.2) := rfl
@[simp] theorem Qc {ds : List D} : srcOf (.tup ds) μ = some ⟨ds, none⟩ := rfl
@[simp] theorem Qs {ds : List D} : srcOf (.lst ds) μ = some ⟨ds, none⟩ := rfl
@[simp] theorem Qd {fl fh : PF} : mSl f fl fh δ μ = (f δ μ).bind λ r => (fl δ r.2).bind λ l => (fh δ l.2).bind λ u => oSl r.1 l.1 u.1 u.2 := rfl
@[simp] theorem Oh {fl fh : PF} : lSl f fl fh δ μ = (f δ μ).bind λ r => (fl δ r.2).bind λ l => (fh δ l.2).bind λ u => match r.1 with
 | .lst ds => some (L3.cutD ds l.1 u.1, u.2)
 | .ro ds => some (L3.cutD ds l.1 u.1, u.2)
 | _ => none := rfl
@[simp] theorem MT {ds : List D} : zQ (.lst ds) μ = some ds := rfl
@[simp] theorem w_fno : fNo δ μ = some (none, μ) := rfl
@[simp] theorem w_fat : fAt f δ μ = (f δ μ).bind λ r => match r.1 with
 | .int i => some (some i, r.2)
 | _ => none := rfl
@[simp] theorem Jd {op : O1'} {x : D} : aR op [x] μ = op x μ := rfl
@[simp] theorem w_two {x y : D} : mK op [x, y] μ = op x y μ := rfl
variable {i j : Int} {ds es : List D} {k : Bool}
@[simp] theorem a_add : bf (.int i) (.int j) μ = some (.int (i + j), μ) := rfl
@[simp] theorem Rh : bf (.tup ds) (.tup es) μ = if ds.length + es.length <= sizeLine then some (.tup (ds ++ es), μ) else none := rfl
@[simp] theorem QH : bf (.lst ds) (.lst es) μ = if ds.length + es.length <= sizeLine then some (.lst (ds ++ es), μ) else none := rfl
@[simp] theorem a_sub : dF (.int i) (.int j) μ = some (.int (i - j), μ) := rfl
theorem Oz (h : iZ i j <= 134217728) : bJ (.int i) (.int j) μ = some (.int (i * j), μ) := if_pos h
@[simp] theorem a_mod (h : j ≠ 0) : oMod (.int i) (.int j) μ = some (.int (i.fmod j), μ) := if_pos h
theorem oG (h : j ≠ 0) (h2 : j.natAbs.log2 < 9000) : oDiv (.int i) (.int j) μ = some (.int (i.fdiv j), μ) := if_pos ⟨h, h2⟩
@[simp] theorem a_lt : oLt (.int i) (.int j) μ = some (.bl (decide (i < j)), μ) := rfl
@[simp] theorem a_gt : oGt (.int i) (.int j) μ = some (.bl (decide (j < i)), μ) := rfl
@[simp] theorem a_ge : oGe (.int i) (.int j) μ = some (.bl (decide (j <= i)), μ) := rfl
@[simp] theorem a_neg : ir (.int i) μ = some (.int (-i), μ) := rfl
@[simp] theorem a_abs : mW (.int i) μ = some (.int (i.natAbs), μ) := by
 show some (D.int (if i < 0 then -i else i), μ) = _
 congr 3
 split <;> omega
@[simp] theorem a_min : qd (.int i) (.int j) μ = some (.int (min i j), μ) := by
 show some (D.int (if j < i then j else i), μ) = _
 congr 3
 split <;> omega
@[simp] theorem a_eq : oEq (.int i) (.int j) μ = some (.bl (i == j), μ) := by unfold oEq rsv; simp [cJ, ie, eqD]
@[simp] theorem a_ne : oNe (.int i) (.int j) μ = some (.bl (!(i == j)), μ) := by unfold oNe rsv; simp [cJ, ie, eqD]
@[simp] theorem a_neE : tH (.lst ds) (.lst []) μ = some (.bl (!ds.isEmpty), μ) := rfl
@[simp] theorem a_eqB {k l : Bool} : oEq (.bl k) (.bl l) μ = some (.bl (k == l), μ) := by unfold oEq rsv; simp [cJ, ie, eqD]
@[simp] theorem a_neB {k l : Bool} : oNe (.bl k) (.bl l) μ = some (.bl (!(k == l)), μ) := by unfold oNe rsv; simp [cJ, ie, eqD]
@[simp] theorem a_tup : oTup ds μ = if ds.length <= sizeLine then some (.tup ds, μ) else none := rfl
@[simp] theorem a_lst : oLst ds μ = if ds.length <= sizeLine then some (.lst ds, μ) else none := rfl
@[simp] theorem a_ix {d : D} : oIx d (.int i) μ = (bC d μ).bind λ ds => (atI ds i).map λ d => (d, μ) := rfl
@[simp] theorem i_tup : bC (.tup ds) μ = some ds := rfl
@[simp] theorem i_lst : bC (.lst ds) μ = some ds := rfl
@[simp] theorem i_ro : bC (.ro ds) μ = some ds := rfl
@[simp] theorem Dd : bx (.tup ds) μ = some (.int ds.length, μ) := rfl
@[simp] theorem jV : bx (.lst ds) μ = some (.int ds.length, μ) := rfl
@[simp] theorem QV : bx (.ro ds) μ = some (.int ds.length, μ) := rfl
@[simp] theorem Qa {d : D} : dh [d] μ = (bC d μ).map λ ds => (.tup ds, μ) := rfl
@[simp] theorem w_lOf : lOf fs δ μ = (fs δ μ).bind λ r => match r.1 with
 | [x] => (bC x r.2).map λ ds => (ds, r.2)
 | _ => none := rfl
@[simp] theorem NT {own : List Str} {capI : List Nat} {f fe : EF} : vd own capI f fe δ μ = (f δ μ).bind λ r => (zQ r.1 r.2).bind λ ds => if ds.length < 64 then (nR (ds.map (thG (hName 0) fe (cz own δ capI))) r.2).map λ q => (mj q.1 ds, q.2) else none := rfl
@[simp] theorem t_bl : xT (.bl k) μ = some k := rfl
@[simp] theorem t_int : xT (.int i) μ = some (i != 0) := rfl
@[simp] theorem t_tup : xT (.tup ds) μ = some !ds.isEmpty := rfl
@[simp] theorem t_lst : xT (.lst ds) μ = some !ds.isEmpty := rfl
@[simp] theorem t_non : xT .non μ = some false := rfl
@[simp] theorem QB {T : String} : kj T (.int i) μ = some (.bl (T == "int"), μ) := rfl
@[simp] theorem Rm {T : String} : kj T (.bl k) μ = some (.bl (T == "bool" || T == "int"), μ) := rfl
@[simp] theorem Qg {T : String} : kj T (.tup ds) μ = some (.bl (T == "tuple"), μ) := rfl
@[simp] theorem Qz {T : String} : kj T (.lst ds) μ = some (.bl (T == "list"), μ) := rfl
@[simp] theorem Qx {T : String} {x : Str} : kj T (.str x) μ = some (.bl (T == "str"), μ) := rfl
@[simp] theorem Qw {T : String} : kj T .non μ = some (.bl false, μ) := rfl
@[simp] theorem Qy {T : String} {x} : kj T (.dic x) μ = some (.bl (T == "dict"), μ) := rfl
@[simp] theorem Jv : bO fs δ μ = (fs δ μ).bind Jh := rfl
@[simp] theorem Qk : Ab fs δ μ = (fs δ μ).bind DY := rfl
@[simp] theorem w_zip : nJ fs δ μ = (fs δ μ).bind Py := rfl
def Jb (r : List D × Mu) : Option (Src × Mu) := match r.1 with
 | [x] => (bV x).map λ xs => (⟨fO 0 xs, none⟩, r.2)
 | _ => none
@[simp] theorem MK {x : D} : Jb ([x], μ) = (bV x).map λ xs => (⟨fO 0 xs, none⟩, μ) := rfl
@[simp] theorem QG : oV fs δ μ = (fs δ μ).bind Jb := rfl
@[simp] theorem w_lc {own : List Str} {capI : List Nat} {fi : IF} {hh : GF} : lLC own capI fi hh t f δ μ = (fi δ μ).bind λ r => if r.1.items.length <= sizeLine then lcL r.1 hh t f (cz own δ capI) r.1.items r.2 else none := rfl
@[simp] theorem w_all {st : StF} : Ia st δ μ = (st δ μ).bind λ r => (yD r.1 r.2).bind λ q => some (.bl q.1, q.2) := rfl
@[simp] theorem w_any {st : StF} : CN st δ μ = (st δ μ).bind λ r => (xj r.1 r.2).bind λ q => some (.bl q.1, q.2) := rfl
@[simp] theorem Ra {st : StF} : CJ st δ μ = (st δ μ).bind λ r => if r.1.length <= sizeLine then (BP r.1 r.2).bind λ q => some (.tup q.1, q.2) else none := rfl
@[simp] theorem w_sum {st : StF} : wW st δ μ = (st δ μ).bind λ r => (qu 0 r.1 r.2).bind λ q => some (.int q.1, q.2) := rfl
@[simp] theorem w_gen {own : List Str} {capI : List Nat} {fi : IF} {hh : GF} : sO own capI fi hh f δ μ = (fi δ μ).bind λ r => Ov (thG hh f (cz own δ capI)) r := rfl
@[simp] theorem QK : oM f δ μ = (f δ μ).bind Mr := rfl
@[simp] theorem w_rev : xJ f δ μ = (f δ μ).bind λ r => Hj r.1 r.2 := rfl
@[simp] theorem Rk : Hj (.tup ds) μ = some (.tup ds.reverse, μ) := rfl
@[simp] theorem Rj : Hj (.lst ds) μ = some (.lst ds.reverse, μ) := rfl
@[simp] theorem w_put {fo fi : EF} : Dz f fo fi δ μ = (f δ μ).bind λ r => (fo δ r.2).bind λ o => (fi δ o.2).bind λ i => (wy r.1 o.1 i.1 i.2).map λ μ' => (.nx, δ, μ') := rfl
@[simp] theorem QC {x : D} : Bv 0 f op (some x :: δ) μ = (f (some x :: δ) μ).bind λ r => (op x r.1 r.2).map λ z => (.nx, (some x :: δ).set 0 (some z.1), z.2) := rfl
@[simp] theorem QF : Pu (.int i) (.int j) μ = some (.int (i + j), μ) := rfl
theorem Jw (h : iZ i j <= 134217728) : Ar (.int i) (.int j) μ = some (.int (i * j), μ) := if_pos h
@[simp] theorem w_frz : rZ f δ μ = (f δ μ).bind Px := rfl
end
theorem Js {items : List D} {μ : Mu} : Src.ok ⟨items, none⟩ μ := λ n e => by cases e
def wz (I : En -> Mu -> Prop) (QS : Post (Fl × En × Mu)) (r : Fl × En × Mu) : Prop := match r.1 with
 | .nx => I r.2.1 r.2.2
 | .ct => I r.2.1 r.2.2
 | .bk => QS.run (.nx, r.2)
 | .rt d => QS.run (.rt d, r.2)
section
variable {I : En -> Mu -> Prop} {QS : Post (Fl × En × Mu)} {δ : En} {μ : Mu}
@[simp] theorem Qq : wz I QS (.nx, δ, μ) = I δ μ := rfl
@[simp] theorem Qi : wz I QS (.ct, δ, μ) = I δ μ := rfl
@[simp] theorem PQ : wz I QS (.bk, δ, μ) = QS.run (.nx, δ, μ) := rfl
@[simp] theorem Qf {d : D} : wz I QS (.rt d, δ, μ) = QS.run (.rt d, δ, μ) := rfl
end
theorem eG {all : List D} {h : GF} {b : SF} {QS : Post (Fl × En × Mu)} (I : List D -> En -> Mu -> Prop)
  (turn : ∀ d r δ μ, I (d :: r) δ μ -> OkI (h d δ μ) (Q := ⟨λ δ1 => OkI (b δ1 μ) (Q := ⟨wz (I r) QS⟩)⟩)) (fin : ∀ δ μ, I [] δ μ -> QS.run (.nx, δ, μ)) :
  ∀ (its : List D) (δ : En) (μ : Mu), I its δ μ -> OkI (forL ⟨all, none⟩ h b its δ μ) (Q := QS)
 | [], δ, μ, hI => by unfold forL; rw [if_pos Js, Hd]; exact fin δ μ hI
 | d :: r, δ, μ, hI => by
  unfold forL
  rw [if_pos Js, fV]
  refine (turn d r δ μ hI).mono λ δ1 h1 => ?_
  rw [yP] at h1 ⊢
  rw [fV]
  refine h1.mono λ q h2 => ?_
  rw [yP] at h2 ⊢
  obtain ⟨fl, δ', μ'⟩ := q
  cases fl with
  | nx => exact eG (all := all) I turn fin r δ' μ' h2
  | ct => exact eG (all := all) I turn fin r δ' μ' h2
  | bk => exact ⟨_, rfl, h2⟩
  | rt d => exact ⟨_, rfl, h2⟩
def retS (R : Post (D × Mu)) (r : Fl × En × Mu) : Prop := match r.1 with
 | .rt d => R.run (d, r.2.2)
 | .nx => R.run (.non, r.2.2)
 | _ => False
@[simp] theorem Rc {R : Post (D × Mu)} {d : D} {δ : En} {μ : Mu} : retS R (.rt d, δ, μ) = R.run (d, μ) := rfl
@[simp] theorem QM {R : Post (D × Mu)} {δ : En} {μ : Mu} : retS R (.nx, δ, μ) = R.run (.non, μ) := rfl
theorem fY {m : Nat} {g : SF} {ds : List D} {μ : Mu} {R : Post (D × Mu)} (h : OkI (g (ds.map some ++ List.replicate (m - ds.length) none) μ) (Q := ⟨retS R⟩)) : OkI (aF m g ds μ) (Q := R) := by
 unfold aF
 rw [fV]
 refine h.mono λ r hr => ?_
 obtain ⟨fl, δ, μ'⟩ := r
 cases fl with
 | rt d => exact ⟨_, rfl, hr⟩
 | nx => exact ⟨_, rfl, hr⟩
 | bk => exact hr.elim
 | ct => exact hr.elim
theorem FQ {φ : FF} {ds : List D} {μ : Mu} {R : Post (D × Mu)} (h : OkI (φ ds μ) (Q := ⟨λ r => r.2.length = μ.length /\ R.run r⟩)) : OkI (trunc φ ds μ) (Q := R) := by
 obtain ⟨⟨d, μ'⟩, e, hl, hr⟩ := h
 exact ⟨_, jd e hl, hr⟩
end L3
namespace LG
open PySem PySem.Spec PyProof.Rows L2 L3
theorem xX {α : Type} {o : Option α} {x : α} (h : Ok o (λ r => r = x)) : o = some x := by
 obtain ⟨r, e, h⟩ := h
 have h : r = x := h
 rw [e, h]
theorem dR {m : Nat} {g : SF} {ds : List D} {μ : Mu} {d : D} (h : OkI (g (ds.map some ++ List.replicate (m - ds.length) none) μ) (Q := ⟨retS ⟨λ r => r = (d, μ)⟩⟩)) : trunc (aF m g) ds μ = some (d, μ) :=
 gF (xX (fY h))
@[simp] theorem sz {n : Nat} (h : n <= 1000) : (n <= sizeLine) = True := eq_true (Nat.le_trans h (by decide))
abbrev nc (d : D) : Prop := cLt 0 d = true
theorem qx : ∀ {ds : List D}, lJ 0 ds = true ↔ ∀ d ∈ ds, nc d
 | [] => by unfold lJ; simp
 | d :: ds => by unfold lJ; simp [qx (ds := ds)]
theorem mV {ds : List D} : nc (.tup ds) ↔ ∀ d ∈ ds, nc d := by
 have e : cLt 0 (.tup ds) = lJ 0 ds := by rw [cLt]
 unfold nc
 rw [e]
 exact qx
theorem Fx {ds : List D} : nc (.lst ds) ↔ ∀ d ∈ ds, nc d := by
 have e : cLt 0 (.lst ds) = lJ 0 ds := by rw [cLt]
 unfold nc
 rw [e]
 exact qx
theorem KR {i : Int} : nc (.int i) := by unfold nc cLt; rfl
theorem jy {ns : List Int} : ∀ d ∈ ns.map D.int, nc d := λ d h => by
 obtain ⟨n, _, rfl⟩ := List.mem_map.mp h
 exact KR
def isInt : D -> Bool
 | .int _ => true
 | _ => false
def intOf : D -> Int
 | .int i => i
 | _ => 0
@[simp] theorem Ng {i : Int} : isInt (.int i) = true := rfl
@[simp] theorem ud {i : Int} : intOf (.int i) = i := rfl
theorem ints_of : ∀ {ds : List D}, ds.all isInt = true -> ds = (ds.map intOf).map D.int
 | [], _ => rfl
 | d :: ds, h => by
  rw [List.all_cons, Bool.and_eq_true] at h
  cases d with
  | int i => rw [List.map_cons, List.map_cons, <- ints_of h.2]; rfl
  | _ => exact absurd h.1 (by simp [isInt])
theorem ints_map (ns : List Int) : (ns.map D.int).map intOf = ns := by simp [Function.comp_def]
theorem Fd (ns : List Int) : (ns.map D.int).all isInt = true := by simp
theorem DW (d : D) (μ : Mu) (h : nc d) : trunc (aF 1 fH) [d] μ = some (.bl (isInt d), μ) := by
 apply dR
 cases d with
 | cell n => simp [nc, cLt] at h
 | ro ds => simp [fH, isInt, kj, Hf]
 | _ => simp [fH, isInt]
theorem DK (d : D) (μ : Mu) (h : nc d) : trunc (aF 1 lM) [d] μ = some (.bl (isInt d), μ) := DW d μ h
theorem wC {th : D -> fX} {p : D -> Bool} {μ : Mu} : ∀ (ds : List D), (∀ d ∈ ds, th d μ = some (.bl (p d), μ)) -> yD (ds.map th) μ = some (ds.all p, μ)
 | [], _ => rfl
 | d :: ds, h => by
  rw [List.map_cons]
  unfold yD
  rw [h d (by simp)]
  have ih := wC ds λ x hx => h x (by simp [hx])
  cases hp : p d <;> simp [hp, zA, ih]
theorem jj {all : List D} {h : GF} {tt : TF} {fe : EF} {δb : En} {p : D -> Bool} {f : D -> D} {μ : Mu} : ∀ (items : List D), (∀ d ∈ items, ∃ δ1, h d δb μ = some δ1 /\ tt δ1 μ = some (p d, μ) /\ (p d = true -> fe δ1 μ = some (f d, μ))) -> lcL ⟨all, none⟩ h tt fe δb items μ = some ((items.filter p).map f, μ)
 | [], _ => by unfold lcL; simp [bK]
 | d :: r, hd => by
  obtain ⟨δ1, h1, h2, h3⟩ := hd d (by simp)
  have ih := jj (all := all) r λ x hx => hd x (by simp [hx])
  unfold lcL
  cases hp : p d with
  | false => simp [bK, h1, h2, hp, ih]
  | true => simp [bK, h1, h2, hp, h3 hp, ih]
def uo : D -> Bool
 | .tup ds => ds.all isInt
 | _ => false
def zY (φ : FF) : Prop := ∀ d μ, nc d -> φ [d] μ = some (.bl (isInt d), μ)
theorem yV {φ : FF} (hφ : zY φ) (d : D) (μ : Mu) (h : nc d) : trunc (aF 1 (dw φ)) [d] μ = some (.bl (uo d), μ) := by
 apply dR
 cases d with
 | cell n => simp [nc, cLt] at h
 | ro ds => simp [dw, uo, kj, Hf]
 | tup ds =>
  have e := wC (th := thG (hName 0) (MC (aa (ak 0) aq) φ) (cz ["part"] [some (D.tup ds)] [])) (p := isInt) (μ := μ) ds λ x hx => by
   simp [thG, cz, hφ x μ (mV.mp h x hx)]
  simp [dw, uo, e]
 | _ => simp [dw, uo]
theorem vY {ds : List D} (h : ds ≠ []) : atI ds (-1) = some (ds.getLast h) := by
 have hl : 0 < ds.length := List.length_pos_iff.mpr h
 unfold atI ixN
 rw [if_neg (by omega), if_pos (by omega)]
 have : ((-1 : Int) + ds.length).toNat = ds.length - 1 := by omega
 simp only [Option.bind_some, this]
 rw [List.getLast_eq_getElem]
 simp [hl]
theorem Cj {ns : List Int} (h : ns ≠ []) : atI (ns.map D.int) (-1) = some (.int (ns.getLastD 0)) := by
 rw [vY (by simpa using h)]
 simp [List.getLastD_eq_getLast?, List.getLast?_eq_some_getLast h]
def Do (φ : FF) : Prop := ∀ d μ, nc d -> φ [d] μ = some (.bl (uo d), μ)
theorem Hw (k l : Bool) (μ : Mu) : trunc (aF 2 lQ) [.bl k, .bl l] μ = some (.bl (k == l), μ) := by
 apply dR
 simp [lQ]
theorem qw {n d : Nat} {i : Int} (h : 0 <= i) : HT.sIx n d (some i) = min i.toNat n := if_neg (by omega)
theorem Jj {ds : List D} {i : Int} {μ : Mu} (h0 : 0 <= i) (h1 : i < ds.length) : oSl (.tup ds) none (some i) μ = some (.tup (ds.take i.toNat), μ) := by
 have h0' : 0 <= i := by omega
 have e : HT.sIx ds.length ds.length (some i) = i.toNat := by rw [qw h0']; omega
 have e0 : HT.sIx ds.length 0 none = 0 := rfl
 unfold oSl L3.cutD
 simp only [e, e0]
 simp
theorem Am {ds : List D} {i : Int} {μ : Mu} (h0 : 0 < i) (h1 : i <= ds.length) : oSl (.tup ds) (some i) none μ = some (.tup (ds.drop i.toNat), μ) := by
 have h0' : 0 <= i := by omega
 have e : HT.sIx ds.length 0 (some i) = i.toNat := by rw [qw h0']; omega
 have e0 : HT.sIx ds.length ds.length none = ds.length := rfl
 unfold oSl L3.cutD
 simp only [e, e0]
 simp [List.take_of_length_le]
theorem Hx {ds : List D} {μ : Mu} (h : ds ≠ []) : oSl (.tup ds) none (some (-1)) μ = some (.tup ds.dropLast, μ) := by
 have hl : 0 < ds.length := List.length_pos_iff.mpr h
 have e : HT.sIx ds.length ds.length (some (-1)) = ds.length - 1 := by show (if (-1 : Int) < 0 then ((-1 : Int) + ds.length).toNat else min (-1 : Int).toNat ds.length) = _; rw [if_pos (by decide)]; omega
 have e0 : HT.sIx ds.length 0 none = 0 := rfl
 unfold oSl L3.cutD
 simp only [e, e0]
 simp [List.dropLast_eq_take]
theorem Mm {ds : List D} {i : Int} {μ : Mu} (h0 : 0 <= i) : oSl (.lst ds) none (some i) μ = some (.lst (ds.take i.toNat), μ) := by
 have h0' : 0 <= i := by omega
 have e : HT.sIx ds.length ds.length (some i) = min i.toNat ds.length := by rw [qw h0']
 have e0 : HT.sIx ds.length 0 none = 0 := rfl
 unfold oSl L3.cutD
 simp only [e, e0]
 simp [List.take_eq_take_iff]
theorem Dk {ds : List D} {i : Int} {μ : Mu} (h0 : 0 <= i) : oSl (.lst ds) (some i) none μ = some (.lst (ds.drop i.toNat), μ) := by
 have h0' : 0 <= i := by omega
 have e : HT.sIx ds.length 0 (some i) = min i.toNat ds.length := by rw [qw h0']
 have e0 : HT.sIx ds.length ds.length none = ds.length := rfl
 unfold oSl L3.cutD
 simp only [e, e0]
 congr 3
 by_cases h : i.toNat <= ds.length
 .rw [Nat.min_eq_left h]; simp [List.take_of_length_le]
 .rw [Nat.min_eq_right (by omega)]; simp; omega
def Ja (φ : FF) : Prop := ∀ (ds : List D) (i : Int) (x : D) (μ : Mu), 0 <= i -> i < ds.length -> ds.length <= 500 -> φ [.tup ds, .int i, x] μ = some (.tup (ds.take i.toNat ++ x :: ds.drop (i.toNat + 1)), μ)
theorem KY : Ja (trunc (aF 3 oO)) := λ ds i x μ h0 h1 hl => by
 apply dR
 have e1 := Jj (μ := μ) h0 h1
 have e2 := Am (ds := ds) (i := i + 1) (μ := μ) (by omega) (by omega)
 have e3 : (i + 1).toNat = i.toNat + 1 := by omega
 rw [e3] at e2
 have l1 : (ds.take i.toNat).length <= 500 := by simp; omega
 have l2 : (ds.drop (i.toNat + 1)).length <= 500 := by simp; omega
 have s1 : (ds.take i.toNat).length + 1 <= sizeLine := Nat.le_trans (by omega : _ <= 1000) (by decide)
 have s2 : (ds.take i.toNat).length + (ds.drop (i.toNat + 1)).length + 1 <= sizeLine := Nat.le_trans (by simp; omega : _ <= 1000) (by decide)
 generalize ds.take i.toNat = A at *
 generalize ds.drop (i.toNat + 1) = B at *
 have s3 : A.length + 1 + B.length <= sizeLine := by omega
 simp [oO, e1, e2, s1, s3]
def muD (L : List Int) : Mu := [some (L.map .int)]
def DlD (L : List Int) : Prop := ∀ x ∈ L, Dr x
theorem rH {a : Nat} {x y : Int} (hx : Sm a x) (hy : 0 < y) : Sm a (x.fdiv y) := by
 rw [Int.fdiv_eq_ediv_of_nonneg x (by omega)]
 unfold Sm at *
 have := Int.natAbs_ediv_le_natAbs x y
 omega
theorem mulL {ds : List D} {k : Int} {μ : Mu} (h0 : 0 <= k) (h1 : k <= 1000) (hl : ds.length * k.toNat <= 1000) : bJ (.lst ds) (.int k) μ = some (.lst (List.replicate k.toNat ds).flatten, μ) := if_pos ⟨by omega, by omega, Nat.le_trans hl (by decide)⟩
theorem gn {a : Int} {n : Nat} : (cU a n).length = n := by unfold cU; simp
theorem EY {φ : FF} (h : uK φ) (ns : List Int) (hn : ns.length <= 63) : ∃ L, φ [.ro (ns.map .int)] [] = some (.cell 0, muD L) /\ DlD L := h ns hn
theorem HX {φ : FF} {ns : List Int} (h : Ok (φ [.ro (ns.map .int)] []) (λ r => r.1 = .bl true)) : ∃ μ', φ [.ro (ns.map .int)] [] = some (.bl true, μ') := by
 obtain ⟨⟨d, μ'⟩, e, h⟩ := h
 have h : d = .bl true := h
 subst h
 exact ⟨μ', e⟩
@[simp] theorem Oo {α : Type} {l : List α} {x y : α} : (l ++ [x]).set l.length y = l ++ [y] := by simp [List.set_append]
mutual
theorem qU {m : Nat} : ∀ {d : D}, cLt 0 d = true -> cLt m d = true
 | .non, _ => by simp [cLt]
 | .bl _, _ => by simp [cLt]
 | .int _, _ => by simp [cLt]
 | .str _, _ => by simp [cLt]
 | .tup ds, h => by rw [cLt] at h ⊢; exact jL h
 | .lst ds, h => by rw [cLt] at h ⊢; exact jL h
 | .ro ds, h => by rw [cLt] at h ⊢; exact jL h
 | .dic ds, h => by rw [cLt] at h ⊢; exact uC h
 | .cell n, h => by rw [cLt] at h; simp at h
theorem jL {m : Nat} : ∀ {ds : List D}, lJ 0 ds = true -> lJ m ds = true
 | [], _ => by rw [lJ]
 | d :: ds, h => by
  rw [lJ, Bool.and_eq_true] at h ⊢
  exact ⟨qU h.1, jL h.2⟩
theorem uC {m : Nat} : ∀ {ds : List (Key × D)}, wO 0 ds = true -> wO m ds = true
 | [], _ => by rw [wO]
 | d :: ds, h => by
  rw [wO, Bool.and_eq_true] at h ⊢
  exact ⟨qU h.1, uC h.2⟩
end
def gY (μ : Mu) : Prop := ∀ ds, some ds ∈ μ -> ∀ d ∈ ds, nc d
theorem gY.c {μ : Mu} (h : gY μ) (m : Nat) : cOk m μ = true := by
 unfold cOk
 rw [List.all_eq_true]
 intro o ho
 cases o with
 | none => rfl
 | some ds => exact jL (qx.mpr (h ds ho))
theorem gY.nil : gY [] := λ ds h => by simp at h
theorem gY.cons {ds : List D} {μ : Mu} (h1 : ∀ d ∈ ds, nc d) (h2 : gY μ) : gY (some ds :: μ) := λ es h => by
 rcases List.mem_cons.mp h with z | z
 .cases z; exact h1
 .exact h2 es z
theorem gY.dr {L : List Int} {μ : Mu} (h : gY μ) : gY (some (L.map .int) :: μ) := gY.cons jy h
theorem xR {φ : FF} {ds : List D} {μ μ' junk : Mu} {d : D} (h : φ ds μ = some (d, μ' ++ junk)) (hl : μ'.length = μ.length) (hd : nc d) (hm : gY μ') : trunc φ ds μ = some (d, μ') := by
 unfold trunc
 rw [h]
 simp only [Option.bind_some]
 have e : (μ' ++ junk).take μ.length = μ' := by rw [<- hl]; simp
 rw [e, qU hd, hm.c]
 rfl
theorem vM {φ : FF} {ds : List D} {μ : Mu} {P : D -> Prop} (hm : gY μ) (h : Ok (φ ds μ) (λ r => ∃ junk, r.2 = μ ++ junk /\ nc r.1 /\ P r.1)) : ∃ d, trunc φ ds μ = some (d, μ) /\ P d := by
 obtain ⟨⟨d, μ1⟩, e, junk, h1, h4, h5⟩ := h
 have h1 : μ1 = μ ++ junk := h1
 subst h1
 exact ⟨d, xR e rfl h4 hm, h5⟩
def iD (φ : FF) : Prop := ∀ (L : List Int) (rest : Mu), φ [.cell 0] (some (L.map .int) :: rest) = some (.int (L.headD 0), some (L.tail.map .int) :: rest)
theorem DP : iD (trunc (aF 1 gq)) := λ L rest => by
 have h1 : oEq (.cell 0) (.lst []) (some (L.map D.int) :: rest) = some (.bl L.isEmpty, some (L.map D.int) :: rest) := by
  unfold oEq rsv
  simp [cJ, jQ, ie, lG, eqD, dg]
  cases L <;> simp [kJ]
 refine jd ?_ (by simp)
 unfold aF gq
 have hz : 0 <= sizeLine := Nat.zero_le _
 cases L with
 | nil =>
  simp at h1
  simp [aP, sIf, toB, M2, ak, MC, aq, oLst, hz, h1, bF, mC]
 | cons x t =>
  simp at h1
  simp [aP, sIf, toB, M2, ak, MC, aq, oLst, hz, h1, bF, mC, bT, Aq]
theorem dW {φ : FF} (h : iD φ) {L : List Int} (hL : DlD L) (rest : Mu) : ∃ x L', φ [.cell 0] (some (L.map .int) :: rest) = some (.int x, some (L'.map .int) :: rest) /\ Dr x /\ DlD L' := by
 refine ⟨L.headD 0, L.tail, h L rest, ?_, λ x hx => hL x (List.mem_of_mem_tail hx)⟩
 cases L with
 | nil => exact ⟨by decide, by decide⟩
 | cons a b => exact hL a (by simp)
def PtL (d : Nat) (ns : List Int) (b : Int) : Prop := ns.length = d /\ (∀ n ∈ ns, n.natAbs <= 10000) /\ 1 <= b /\ b <= 60
def mD (d : Nat) (p : D) : Prop := ∃ ns b, p = .tup ((ns ++ [b]).map .int) /\ PtL d ns b /\ bN b.natAbs ns = 1
theorem mD.nc {d : Nat} {p : D} (h : mD d p) : nc p := by
 obtain ⟨ns, b, rfl, _⟩ := h
 exact mV.mpr jy
theorem lK {x y : Int} (hy : 0 < y) : (x.fdiv y).natAbs <= x.natAbs := by
 rw [Int.fdiv_eq_ediv_of_nonneg x (by omega)]
 exact Int.natAbs_ediv_le_natAbs x y
theorem Iw {ns : List Int} {b : Int} (hb : 0 < b) : bN (b.fdiv (bN b.natAbs ns : Nat)).natAbs (ns.map λ n => n.fdiv (bN b.natAbs ns : Nat)) = 1 := by
 have h := (wu ns b.natAbs _).mp (Nat.dvd_refl _)
 have g0 : bN b.natAbs ns ≠ 0 := oh (.inl (by omega))
 obtain ⟨g, hg⟩ : ∃ g, bN b.natAbs ns = g := ⟨_, rfl⟩
 rw [hg] at h g0 ⊢
 have hm : ∀ n : Int, g ∣ n.natAbs -> (g : Int) * n.fdiv (g : Nat) = n := λ n hn => by
  rw [Int.fdiv_eq_ediv_of_nonneg n (by omega)]
  exact Int.mul_ediv_cancel' (Int.ofNat_dvd_left.mpr hn)
 have hs := sH (g : Int) (ns.map λ n => n.fdiv (g : Nat)) (b.fdiv (g : Nat)).natAbs
 have e1 : ((g : Int)).natAbs * (b.fdiv (g : Nat)).natAbs = b.natAbs := by rw [<- Int.natAbs_mul, hm b h.1]
 have e2 : (ns.map λ n => n.fdiv (g : Nat)).map ((g : Int) * ·) = ns := by
  rw [List.map_map]
  conv => rhs; rw [<- List.map_id ns]
  apply List.map_congr_left
  intro n hn
  exact hm n (h.2 n hn)
 rw [e1, e2, hg, Int.natAbs_natCast] at hs
 exact Nat.eq_of_mul_eq_mul_left (show 0 < g by omega) (by rw [Nat.mul_one]; exact hs.symm)
theorem rD {φ : FF} (h : ul φ) {d : Nat} {ns : List Int} {b : Int} (μ : Mu) (hd : 1 <= d) (hd3 : d <= 3) (hp : PtL d ns b) : ∃ p, φ [.lst (ns.map .int), .int b] μ = some (p, μ) /\ mD d p := by
 obtain ⟨hl, hn, b0, b1⟩ := hp
 have e := h ns b μ (by omega) (by unfold Sm; have : (2 : Nat) ^ 4000 >= 2 ^ 7 := Nat.pow_le_pow_right (by decide) (by decide); omega) (by omega) (λ z => by rw [z] at hl; simp at hl; omega)
 have e1 : sgn b = 1 := if_pos (by omega)
 rw [e1, Int.one_mul] at e
 have g0 : bN b.natAbs ns ≠ 0 := oh (.inl (by omega))
 have gd := (jP ns b.natAbs).2
 have gle := Nat.le_of_dvd (by omega) gd
 refine ⟨_, e, ns.map (λ n => n.fdiv (bN b.natAbs ns : Nat)), b.fdiv (bN b.natAbs ns : Nat), by simp [List.map_append], ⟨by simp [hl], λ m hm => ?_, ?_, ?_⟩, Iw (by omega)⟩
 .obtain ⟨n, hn', rfl⟩ := List.mem_map.mp hm
  have := lK (x := n) (y := (bN b.natAbs ns : Nat)) (by omega)
  have := hn n hn'
  omega
 .rw [Int.fdiv_eq_ediv_of_nonneg b (by omega)]
  exact (Int.le_ediv_iff_mul_le (by omega)).mpr (by omega)
 .have := lK (x := b) (y := (bN b.natAbs ns : Nat)) (by omega)
  omega
def isPlace (φ : FF) : Prop := ∀ (x k b : Int) (μ : Mu), Dr x -> 0 <= k -> k <= 4 -> 0 <= b -> b <= 500 -> ∃ t u : Int, φ [.int x, .int k, .int b] μ = some (.tup [.int t, .int u], μ) /\ t.natAbs <= 10000 /\ 1 <= u /\ u <= 60
theorem CT : isPlace (trunc (aF 3 gh)) := λ x k b μ hx k0 k4 b0 b5 => by
 have q1 := aU (x := x) (m := 20001) (by decide)
 have q2 := aU (x := x.fdiv 20001) (m := 60) (by decide)
 have q3 := aU (x := x) (m := 5) (by decide)
 have q4 := aU (x := x) (m := 11) (by decide)
 have q5 := aU (x := x.fdiv 11) (m := 3) (by decide)
 have q6 := aU (x := x) (m := 4) (by decide)
 have q7 := aU (x := x) (m := 2) (by decide)
 have q8 := aU (x := b) (m := 7) (by decide)
 have d1 := oG (i := x) (j := 20001) (μ := μ) (by decide) (by decide)
 have d2 := oG (i := x) (j := 11) (μ := μ) (by decide) (by decide)
 have hk : k = 0 ∨ k = 1 ∨ k = 2 ∨ k = 3 ∨ k = 4 := by omega
 rcases hk with rfl | rfl | rfl | rfl | rfl
 .refine ⟨x.fmod 20001 - 10000, 1 + (x.fdiv 20001).fmod 60, dR ?_, by omega, by omega, by omega⟩
  simp [gh, d1]
 .refine ⟨x.fmod 5 - 2, 1, dR ?_, by omega, by omega, by omega⟩
  simp [gh]
 .refine ⟨x.fmod 11 - 5, 1 + (x.fdiv 11).fmod 3, dR ?_, by omega, by omega, by omega⟩
  simp [gh, d2]
 .obtain ⟨y, hy, e⟩ := lY (ds := [D.int 0, .int 0, .int 1, .int 40]) q6.1 q6.2
  have hy : ∃ z : Int, y = .int z /\ 0 <= z /\ z <= 40 := by
   simp only [List.mem_cons, List.not_mem_nil, or_false] at hy
   rcases hy with rfl | rfl | rfl | rfl <;> exact ⟨_, rfl, by decide, by decide⟩
  obtain ⟨z, rfl, z0, z1⟩ := hy
  refine ⟨b + z, 1, dR ?_, by omega, by omega, by omega⟩
  simp [gh, e]
 .have s1 : Sm 10 (x.fmod 2) := by
   unfold Sm
   have : (2 : Nat) ^ 10 = 1024 := by decide
   omega
  have s2 : Sm 10 (1 + b.fmod 7) := by
   unfold Sm
   have : (2 : Nat) ^ 10 = 1024 := by decide
   omega
  have m := Oz (μ := μ) (yw s1 s2 (by decide))
  have hb : (x.fmod 2 * (1 + b.fmod 7)).natAbs <= 10000 := by
   have h2 : x.fmod 2 = 0 ∨ x.fmod 2 = 1 := by omega
   rcases h2 with h2 | h2 <;> rw [h2] <;> omega
  refine ⟨x.fmod 2 * (1 + b.fmod 7), 1, dR ?_, hb, by omega, by omega⟩
  simp [gh, m]
theorem uM {a : Int} {n : Nat} {d : D} (h : d ∈ cU a n) : ∃ k : Int, d = .int k /\ a <= k /\ k < a + n := by
 unfold cU at h
 obtain ⟨k, hk, rfl⟩ := List.mem_map.mp h
 have := List.mem_range.mp hk
 exact ⟨_, rfl, by omega, by omega⟩
def nH (φ : FF) : Prop := ∀ (x d k b : Int) (μ : Mu), gY μ -> Dr x -> 1 <= d -> d <= 3 -> 0 <= k -> k <= 4 -> 0 <= b -> b <= 400 -> ∃ p, φ [.int x, .int d, .int k, .int b] μ = some (p, μ) /\ mD d.toNat p
theorem Ey {φ1 φ2 φ3 : FF} (h1 : ou φ1) (h2 : isPlace φ2) (h3 : ul φ3) : nH (trunc (aF 9 (jk φ1 φ2 φ3))) := λ x d k b μ hm hx d1 d3 k0 k4 b0 b4 => by
 apply vM hm
 apply fY
 unfold jk
 simp [vp (j := d) (by omega) (by omega)]
 refine eG (λ its δ μ' => ∃ (acc : List Int) (bot : Int) (o6 o7 o8 : Option D), μ' = μ ++ [some (acc.map .int)] /\ acc.length + its.length = d.toNat /\ (∀ n ∈ acc, n.natAbs <= 10000) /\ (1 <= bot /\ bot <= 60) /\ (∀ i ∈ its, ∃ k : Int, i = .int k /\ 0 <= k /\ k < 3) /\
  δ = [some (.int x), some (.int d), some (.int k), some (.int b), some (.cell μ.length), some (.int bot), o6, o7, o8]) ?_ ?_ _ _ _ ⟨[], 1, none, none, none, rfl, by simp [gn], by simp, by omega, λ i hi => by
   obtain ⟨k, rfl, h0, h1⟩ := uM hi
   exact ⟨k, rfl, by omega, by omega⟩, rfl⟩
 .rintro i rest δ μ' ⟨acc, bot, o6, o7, o8, rfl, hl, ha, hb, hi, rfl⟩
  obtain ⟨j, rfl, j0, j1⟩ := hi i (by simp)
  obtain ⟨y, ey, hy⟩ := h1 x (j + 1) (μ ++ [some (acc.map .int)]) (by omega) (by omega)
  obtain ⟨t, u, et, ht, u0, u1⟩ := h2 y k (b + j) (μ ++ [some (acc.map .int)]) hy k0 k4 (by omega) (by omega)
  have hz : acc.length < sizeLine := Nat.lt_of_lt_of_le (by omega : acc.length < 1000) (by decide)
  have fin : ∀ bot', 1 <= bot' -> bot' <= 60 -> ∃ (acc' : List Int) (bot : Int) (o6 o7 o8 : Option D), μ ++ [some (acc.map D.int ++ [.int t])] = μ ++ [some (acc'.map .int)] /\ acc'.length + rest.length = d.toNat /\ (∀ n ∈ acc', n.natAbs <= 10000) /\ (1 <= bot /\ bot <= 60) /\ (∀ i ∈ rest, ∃ k : Int, i = .int k /\ 0 <= k /\ k < 3) /\
    ([some (.int x), some (.int d), some (.int k), some (.int b), some (.cell μ.length), some (.int bot'), some (.int j), some (.int t), some (.int u)] : En) = [some (.int x), some (.int d), some (.int k), some (.int b), some (.cell μ.length), some (.int bot), o6, o7, o8] := λ bot' q1 q2 =>
   ⟨acc ++ [t], bot', _, _, _, by simp, by simp at hl ⊢; omega, λ n hn => by
    rcases List.mem_append.mp hn with z | z
    .exact ha n z
    .rw [List.mem_singleton.mp z]; exact ht, ⟨q1, q2⟩, λ i h => hi i (by simp [h]), rfl⟩
  by_cases hj : j = 0
  .subst hj
   rw [show (0 : Int) + 1 = 1 from rfl] at ey
   rw [show b + (0 : Int) = b by omega] at et
   simp [ey, et, fZ, fu, hz]
   simpa using fin u u0 u1
  .have hjb : (j == 0) = false := by simpa using hj
   simp [ey, et, hjb, fZ, fu, hz]
   simpa using fin bot hb.1 hb.2
 .rintro δ μ' ⟨acc, bot, o6, o7, o8, rfl, hl, ha, hb, hi, rfl⟩
  obtain ⟨p, ep, hp⟩ := rD h3 (d := d.toNat) (ns := acc) (b := bot) (μ ++ [none]) (by omega) (by omega) ⟨by simpa using hl, ha, hb⟩
  simp [ep]
  exact ⟨hp.nc, hp⟩
section
variable {α : Type} {r j : List α} {x y z : α}
@[simp] theorem Qo : (r ++ x :: j)[r.length]? = some x := by simp
@[simp] theorem Ql : (r ++ x :: j).set r.length y = r ++ y :: j := by simp [List.set_append]
@[simp] theorem Qm : (r ++ x :: (j ++ [y]))[r.length + (j.length + 1)]? = some y := by
 rw [List.getElem?_append_right (by omega)]
 have : r.length + (j.length + 1) - r.length = j.length + 1 := by omega
 rw [this]
 simp
@[simp] theorem Qt : (r ++ x :: (j ++ [y])).set (r.length + (j.length + 1)) z = r ++ x :: (j ++ [z]) := by
 rw [List.set_append_right _ _ (by omega)]
 have : r.length + (j.length + 1) - r.length = j.length + 1 := by omega
 rw [this]
 simp
end
theorem iY {ys : List Int} {k : Int} (h0 : 0 <= k) (h1 : k < ys.length) : atI (ys.map D.int) k = some (.int (ys.getD k.toNat 0)) /\ ys.getD k.toNat 0 ∈ ys := by
 have hk : k.toNat < ys.length := by omega
 have e : ys.getD k.toNat 0 = ys[k.toNat] := by simp [List.getD, hk]
 refine ⟨?_, by rw [e]; exact List.getElem_mem hk⟩
 unfold atI ixN
 rw [if_pos h0, if_pos (by simpa using h1), e]
 simp [hk]
theorem vA {φ : FF} (h : iD φ) (a c : Int) (ha : 0 < a) (all : List D) (rest : Mu) : ∀ (its : List D) (L : List Int), DlD L -> ∃ ys L' : List Int,
  lcL ⟨all, none⟩ (hName 0) bG (M2 (M2 (MC (aa (ak 1) aq) φ) (mC (.int a)) oMod) (mC (.int c)) dF) [none, some (.cell 0)] its (some (L.map .int) :: rest) = some (ys.map .int, some (L'.map .int) :: rest) /\ DlD L' /\ ys.length = its.length /\ ∀ y ∈ ys, -c <= y /\ y < a - c
 | [], L, hL => ⟨[], L, by unfold lcL; simp [bK], hL, rfl, by simp⟩
 | d :: its, L, hL => by
  obtain ⟨x, L1, e1, hx, hL1⟩ := dW h hL rest
  obtain ⟨ys, L', e, hL', hl, hs⟩ := vA h a c ha all rest its L1 hL1
  obtain ⟨q0, q1⟩ := aU (x := x) (m := a) ha
  have ha' : a ≠ 0 := by omega
  refine ⟨(x.fmod a - c) :: ys, L', ?_, hL', by simp [hl], λ n hn => ?_⟩
  .unfold lcL
   simp [bK, bG, e1, ha', e]
  .rcases List.mem_cons.mp hn with z | z
   .rw [z]; omega
   .exact hs n z
def vH (φ : FF) : Prop := ∀ (L : List Int) (rest : Mu) (d many : Int), DlD L -> gY rest -> 1 <= d -> d <= 3 -> 0 <= many -> many <= 40 ->
 ∃ ps L', φ [.cell 0, .int d, .int many] (some (L.map .int) :: rest) = some (.lst ps, some (L'.map .int) :: rest) /\ DlD L' /\ ps.length = many.toNat /\ ∀ p ∈ ps, mD d.toNat p
theorem sr {φ : FF} {as : List D} {μ : Mu} {P : List D -> List Int -> Prop} {rest : Mu} (hl : μ.length = rest.length + 1) (hm : gY rest) (h : Ok (φ as μ) (λ r => ∃ ps L junk, r = (.lst ps, some (L.map .int) :: (rest ++ junk)) /\ (∀ p ∈ ps, nc p) /\ P ps L)) :
  ∃ ps L', trunc φ as μ = some (.lst ps, some (L'.map .int) :: rest) /\ P ps L' := by
 obtain ⟨r, e, ps, L, junk, h1, h2, h3⟩ := h
 have h1 : r = (.lst ps, some (L.map .int) :: (rest ++ junk)) := h1
 rw [h1] at e
 exact ⟨ps, L, xR (junk := junk) (by rw [e]; rfl) (by simp [hl]) (Fx.mpr h2) hm.dr, h3⟩
theorem yX {φ1 φ2 : FF} (h1 : iD φ1) (h2 : ul φ2) : vH (trunc (aF 8 (iz φ1 φ2))) := λ L rest d many hL hm d1 d3 m0 m40 => by
 apply sr (by simp) hm
 apply fY
 unfold iz
 obtain ⟨ys, L1, e1, hL1, hl1, hs1⟩ := vA h1 41 20 (by decide) (cU 0 d.toNat) rest (cU 0 d.toNat) L hL
 obtain ⟨zs, L2, e2, hL2, hl2, hs2⟩ := vA h1 7 3 (by decide) (cU 0 d.toNat) rest (cU 0 d.toNat) L1 hL1
 rw [gn] at hl1 hl2
 have zd : d.toNat <= 1000 := by omega
 simp [vp (j := d) (by omega) (by omega), vp (j := many) (by omega) (by omega), gn, zd, cz, e1, e2]
 refine eG (λ its δ μ' => ∃ (L : List Int) (acc : List D) (o6 o7 : Option D), μ' = some (L.map .int) :: (rest ++ [some acc]) /\ DlD L /\ (∀ p ∈ acc, mD d.toNat p) /\ acc.length + its.length = many.toNat /\
  δ = [some (.cell 0), some (.int d), some (.int many), some (.lst (ys.map .int)), some (.lst (zs.map .int)), some (.cell (rest.length + 1)), o6, o7]) ?_ ?_ _ _ _ ⟨L2, [], none, none, rfl, hL2, by simp, by simp [gn], rfl⟩
 .rintro i its δ μ' ⟨L, acc, o6, o7, rfl, hL, ha, hl, rfl⟩
  obtain ⟨x, L3, e3, hx, hL3⟩ := dW h1 hL (rest ++ [some acc])
  obtain ⟨q0, q1⟩ := aU (x := x) (m := 13) (by decide)
  generalize ht : x.fmod 13 - 6 = t
  have ht1 : t.natAbs <= 6 := by omega
  have ec := vW (all := cU 0 d.toNat) (h := hName 0) (fe := M2 (M2 (ak 1) (ak 0) oIx) (M2 (ak 2) (M2 (ak 3) (ak 0) oIx) bJ) bf) (δb := [none, some (.lst (ys.map .int)), some (.int t), some (.lst (zs.map .int))])
   (f := λ i => .int (ys.getD (intOf i).toNat 0 + t * zs.getD (intOf i).toNat 0)) (μ := some (L3.map .int) :: (rest ++ [some acc])) (cU 0 d.toNat) λ i hi => by
    obtain ⟨k, rfl, k0, k1⟩ := uM hi
    obtain ⟨a1, _⟩ := iY (ys := ys) (k := k) (by omega) (by omega)
    obtain ⟨a2, b2⟩ := iY (ys := zs) (k := k) (by omega) (by omega)
    have b3 := hs2 _ b2
    have mm := bz (x := t) (y := zs.getD k.toNat 0) (some (L3.map .int) :: (rest ++ [some acc])) (a := 3) (b := 3) (by unfold Sm; omega) (by unfold Sm; omega) (by decide)
    refine ⟨_, rfl, ?_⟩
    simp only [ud]
    generalize zs.getD k.toNat 0 = c2 at *
    generalize ys.getD k.toNat 0 = c1 at *
    simp [a1, a2, mm]
  have ep : (cU 0 d.toNat).map (λ i => D.int (ys.getD (intOf i).toNat 0 + t * zs.getD (intOf i).toNat 0)) = ((cU 0 d.toNat).map (λ i => ys.getD (intOf i).toNat 0 + t * zs.getD (intOf i).toNat 0)).map D.int := by simp
  rw [ep] at ec
  obtain ⟨p, e4, hp⟩ := rD h2 (d := d.toNat) (ns := (cU 0 d.toNat).map (λ i => ys.getD (intOf i).toNat 0 + t * zs.getD (intOf i).toNat 0)) (b := 1) (some (L3.map .int) :: (rest ++ [some acc])) (by omega) (by omega) ⟨by simp [gn], λ n hn => by
   obtain ⟨i, hi, rfl⟩ := List.mem_map.mp hn
   obtain ⟨k, rfl, k0, k1⟩ := uM hi
   obtain ⟨_, b1⟩ := iY (ys := ys) (k := k) (by omega) (by omega)
   obtain ⟨_, b2⟩ := iY (ys := zs) (k := k) (by omega) (by omega)
   have b3 := hs1 _ b1
   have b4 := hs2 _ b2
   simp only [ud]
   generalize zs.getD k.toNat 0 = c2 at *
   generalize ys.getD k.toNat 0 = c1 at *
   have h1 : (t * c2).natAbs <= 6 * 3 := by rw [Int.natAbs_mul]; exact Nat.mul_le_mul ht1 (by omega)
   omega, by decide, by decide⟩
  have hz : acc.length < sizeLine := Nat.lt_of_lt_of_le (by omega : acc.length < 1000) (by decide)
  generalize ((cU 0 d.toNat).map (λ i => ys.getD (intOf i).toNat 0 + t * zs.getD (intOf i).toNat 0)) = ms at *
  simp [e3, ht, vp (j := d) (by omega) (by omega), gn, zd, cz, ec, e4, fZ, fu, hz]
  refine ⟨L3, acc ++ [p], by simp, hL3, λ q hq => ?_, by simp at hl ⊢; omega⟩
  rcases List.mem_append.mp hq with z | z
  .exact ha q z
  .rw [List.mem_singleton.mp z]; exact hp
 .rintro δ μ' ⟨L, acc, o6, o7, rfl, hL, ha, hl, rfl⟩
  simp
  exact ⟨acc, L, ⟨rfl, rfl⟩, λ p hp => (ha p hp).nc, hL, by simpa using hl, ha⟩
theorem Gs {φ1 φ2 : FF} (h1 : iD φ1) (h2 : ul φ2) : vH (trunc (aF 9 (mx φ1 φ2))) := λ L rest d many hL hm d1 d3 m0 m40 => by
 apply sr (by simp) hm
 apply fY
 unfold mx
 obtain ⟨x1, L1, e1, hx1, hL1⟩ := dW h1 hL rest
 obtain ⟨x2, L2, e2, hx2, hL2⟩ := dW h1 hL1 rest
 obtain ⟨q0, q1⟩ := aU (x := x1) (m := 5) (by decide)
 obtain ⟨q2, q3⟩ := aU (x := x2) (m := 5) (by decide)
 generalize hf : x1.fmod 5 - 2 = f
 generalize hs : x2.fmod 5 - 2 = s
 have f1 : f.natAbs <= 2 := by omega
 have s1 : s.natAbs <= 2 := by omega
 simp [e1, e2, hf, hs, vp (j := many) (by omega) (by omega)]
 refine eG (λ its δ μ' => ∃ (L : List Int) (acc : List D) (junk : Mu) (o6 o7 o8 : Option D), μ' = some (L.map .int) :: (rest ++ some acc :: junk) /\ DlD L /\ (∀ p ∈ acc, mD d.toNat p) /\ acc.length + its.length = many.toNat /\
  δ = [some (.cell 0), some (.int d), some (.int many), some (.int f), some (.int s), some (.cell (rest.length + 1)), o6, o7, o8]) ?_ ?_ _ _ _ ⟨L2, [], [], none, none, none, rfl, hL2, by simp, by simp [gn], rfl⟩
 .rintro i its δ μ' ⟨L, acc, junk, o6, o7, o8, rfl, hL, ha, hl, rfl⟩
  obtain ⟨x, M3, e3, hx, hM3⟩ := dW h1 hL (rest ++ some acc :: junk)
  have b1 := aU (x := x) (m := 9) (by decide)
  have b2 := aU (x := x.fdiv 9) (m := 9) (by decide)
  have b3 := aU (x := x.fdiv 81) (m := 9) (by decide)
  have v1 := oG (i := x) (j := 9) (μ := some (M3.map .int) :: (rest ++ some acc :: junk)) (by decide) (by decide)
  have v2 := oG (i := x) (j := 81) (μ := some (M3.map .int) :: (rest ++ some acc :: junk)) (by decide) (by decide)
  generalize ha1 : x.fmod 9 - 4 = a1
  generalize ha2 : (x.fdiv 9).fmod 9 - 4 = a2
  generalize ha3 : (x.fdiv 81).fmod 9 - 4 = a3
  have hz : acc.length < sizeLine := Nat.lt_of_lt_of_le (by omega : acc.length < 1000) (by decide)
  have fin : ∀ p, mD d.toNat p -> ∀ (j' : Mu), ∃ (L : List Int) (acc' : List D) (junk : Mu), some (M3.map D.int) :: (rest ++ some (acc ++ [p]) :: j') = some (L.map .int) :: (rest ++ some acc' :: junk) /\ DlD L /\ (∀ p ∈ acc', mD d.toNat p) /\ acc'.length + its.length = many.toNat := λ p hp j' => by
   refine ⟨M3, acc ++ [p], j', rfl, hM3, λ q hq => ?_, by simp at hl ⊢; omega⟩
   rcases List.mem_append.mp hq with z | z
   .exact ha q z
   .rw [List.mem_singleton.mp z]; exact hp
  have hdd : d = 1 ∨ d = 2 ∨ d = 3 := by omega
  rcases hdd with rfl | rfl | rfl
  .obtain ⟨p, e4, hp⟩ := rD h2 (d := 1) (ns := [a1]) (b := 1) (some (M3.map .int) :: (rest ++ some acc :: (junk ++ [none]))) (by decide) (by decide) ⟨rfl, by simp; omega, by decide, by decide⟩
   simp at e4
   have ec : L3.cutD [D.int a1, D.int a2, D.int a3] none (some 1) = [.int a1] := rfl
   simp [e3, v1, v2, ha1, ha2, ha3, ec, e4, fZ, fu, hz]
   simpa using fin p hp (junk ++ [none])
  .have m1 := bz (x := f) (y := a1) (some (M3.map .int) :: (rest ++ some acc :: (junk ++ [some [D.int a1, .int a2]]))) (a := 5) (b := 5) (by unfold Sm; omega) (by unfold Sm; omega) (by decide)
   have m2 := bz (x := s) (y := a1) (some (M3.map .int) :: (rest ++ some acc :: (junk ++ [some [D.int a1, .int a2]]))) (a := 5) (b := 5) (by unfold Sm; omega) (by unfold Sm; omega) (by decide)
   have bd : (f * a1 + s * a1).natAbs <= 10000 := by
    have c1 : (f * a1).natAbs <= 2 * 4 := by rw [Int.natAbs_mul]; exact Nat.mul_le_mul f1 (by omega)
    have c2 : (s * a1).natAbs <= 2 * 4 := by rw [Int.natAbs_mul]; exact Nat.mul_le_mul s1 (by omega)
    omega
   obtain ⟨p, e4, hp⟩ := rD h2 (d := 2) (ns := [a1, f * a1 + s * a1]) (b := 1) (some (M3.map .int) :: (rest ++ some acc :: (junk ++ [none]))) (by decide) (by decide) ⟨rfl, λ n hn => by
    simp at hn
    rcases hn with rfl | rfl
    .omega
    .exact bd, by decide, by decide⟩
   simp at e4
   have ec : L3.cutD [D.int a1, D.int a2, D.int a3] none (some 2) = [.int a1, .int a2] := rfl
   have at0 : atI [D.int a1, .int a2] 0 = some (.int a1) := rfl
   simp [e3, v1, v2, ha1, ha2, ha3, ec, bC, at0, m1, m2, L3.wy, ixN, e4, fZ, fu, hz]
   simpa using fin p hp (junk ++ [none])
  .have m1 := bz (x := f) (y := a1) (some (M3.map .int) :: (rest ++ some acc :: (junk ++ [some [D.int a1, .int a2, .int a3]]))) (a := 5) (b := 5) (by unfold Sm; omega) (by unfold Sm; omega) (by decide)
   have m2 := bz (x := s) (y := a2) (some (M3.map .int) :: (rest ++ some acc :: (junk ++ [some [D.int a1, .int a2, .int a3]]))) (a := 5) (b := 5) (by unfold Sm; omega) (by unfold Sm; omega) (by decide)
   have bd : (f * a1 + s * a2).natAbs <= 10000 := by
    have c1 : (f * a1).natAbs <= 2 * 4 := by rw [Int.natAbs_mul]; exact Nat.mul_le_mul f1 (by omega)
    have c2 : (s * a2).natAbs <= 2 * 4 := by rw [Int.natAbs_mul]; exact Nat.mul_le_mul s1 (by omega)
    omega
   obtain ⟨p, e4, hp⟩ := rD h2 (d := 3) (ns := [a1, a2, f * a1 + s * a2]) (b := 1) (some (M3.map .int) :: (rest ++ some acc :: (junk ++ [none]))) (by decide) (by decide) ⟨rfl, λ n hn => by
    simp at hn
    rcases hn with rfl | rfl | rfl
    .omega
    .omega
    .exact bd, by decide, by decide⟩
   simp at e4
   have ec : L3.cutD [D.int a1, D.int a2, D.int a3] none (some 3) = [.int a1, .int a2, .int a3] := rfl
   have at0 : atI [D.int a1, .int a2, .int a3] 0 = some (.int a1) := rfl
   have at1 : atI [D.int a1, .int a2, .int a3] 1 = some (.int a2) := rfl
   simp [e3, v1, v2, ha1, ha2, ha3, ec, bC, at0, at1, m1, m2, L3.wy, ixN, e4, fZ, fu, hz]
   simpa using fin p hp (junk ++ [none])
 .rintro δ μ' ⟨L, acc, junk, o6, o7, o8, rfl, hL, ha, hl, rfl⟩
  simp
  exact ⟨acc, L, ⟨rfl, rfl⟩, λ p hp => (ha p hp).nc, hL, by simpa using hl, ha⟩
theorem vz {d : Nat} : ∀ {ps : List D}, (∀ p ∈ ps, mD d p) -> dg ps = true /\ gW ps <= 1
 | [], _ => ⟨by rw [dg], by rw [gW]; decide⟩
 | p :: ps, h => by
  obtain ⟨ns, b, rfl, _⟩ := h p (by simp)
  obtain ⟨i1, i2⟩ := vz (ps := ps) λ q hq => h q (by simp [hq])
  refine ⟨?_, ?_⟩
  .rw [dg, i1, cJ, jQ]; rfl
  .rw [gW, ie, lG]; omega
theorem JZ {n : Nat} {ps : List D} {μ : Mu} (h : μ[n]? = some (some ps)) (h1 : dg ps = true) (h2 : gW ps < 90) : tH (.cell n) (.lst []) μ = some (.bl (!ps.isEmpty), μ) := by
 show oNe (.cell n) (.lst []) μ = _
 have e1 : rsv (.cell n) μ = .lst ps := by
  show (match μ[n]? with | some (some ds) => D.lst ds | _ => D.cell n) = _
  rw [h]
 have e2 : rsv (.lst []) μ = .lst [] := rfl
 unfold oNe
 rw [e1, e2]
 have e3 : cJ (.lst ps) = true := by rw [cJ]; exact h1
 have e4 : cJ (.lst []) = true := by rw [cJ, dg]
 have e5 : ie (.lst ps) < 100 := by rw [ie]; omega
 have e6 : eqD (.lst ps) (.lst []) = ps.isEmpty := by cases ps <;> rw [eqD] <;> simp [kJ]
 rw [e3, e4, e6, if_pos ⟨rfl, e5⟩]
def nM (φ : FF) : Prop := ∀ (L : List Int) (rest : Mu) (d most : Int), DlD L -> gY rest -> 1 <= d -> d <= 3 -> 0 <= most -> most <= 40 ->
 ∃ ps L', φ [.cell 0, .int d, .int most] (some (L.map .int) :: rest) = some (.lst ps, some (L'.map .int) :: rest) /\ DlD L' /\ ps.length <= most.toNat /\ ∀ p ∈ ps, mD d.toNat p
theorem Bk {φ1 φ2 φ3 φ4 : FF} (h1 : iD φ1) (h2 : vH φ2) (h3 : vH φ3) (h4 : nH φ4) : nM (trunc (aF 9 (je φ1 φ2 φ3 φ4))) := λ L rest d most hL hm d1 d3 m0 m40 => by
 apply sr (by simp) hm
 apply fY
 unfold je
 obtain ⟨x, L1, e1, hx, hL1⟩ := dW h1 hL rest
 obtain ⟨q0, q1⟩ := aU (x := x.fdiv 9) (m := most + 1) (by omega)
 obtain ⟨k0, k1⟩ := aU (x := x) (m := 9) (by decide)
 have v1 := oG (i := x) (j := 9) (μ := some (L1.map .int) :: rest) (by decide) (by decide)
 have w1 := fM (x := x.fdiv 9) (y := most + 1) (some (L1.map .int) :: rest) (by omega)
 generalize (x.fdiv 9).fmod (most + 1) = many at *
 generalize hk : x.fmod 9 = kind at *
 by_cases c5 : kind = 5
 .subst c5
  obtain ⟨ps, L2, e2, hL2, hl2, hp2⟩ := h2 L1 rest d many hL1 hm d1 d3 q0 (by omega)
  simp [e1, v1, w1, hk, e2]
  exact ⟨ps, L2, ⟨rfl, rfl⟩, λ p hp => (hp2 p hp).nc, hL2, by omega, hp2⟩
 .have c5b : (kind == 5) = false := by simpa using c5
  by_cases c6 : kind = 6
  .subst c6
   obtain ⟨ps, L2, e2, hL2, hl2, hp2⟩ := h3 L1 rest d many hL1 hm d1 d3 q0 (by omega)
   simp [e1, v1, w1, hk, e2]
   exact ⟨ps, L2, ⟨rfl, rfl⟩, λ p hp => (hp2 p hp).nc, hL2, by omega, hp2⟩
  .have c6b : (kind == 6) = false := by simpa using c6
   by_cases c7 : kind = 7
   .subst c7
    obtain ⟨p, e2, hp⟩ := h4 x d 2 0 (some (L1.map .int) :: rest) hm.dr hx d1 d3 (by decide) (by decide) (by decide) (by decide)
    have em : bJ (.lst [p]) (.int many) (some (L1.map .int) :: rest) = some (.lst (List.replicate many.toNat [p]).flatten, some (L1.map .int) :: rest) := if_pos ⟨by omega, by omega, by
     simp only [List.length_cons, List.length_nil]
     exact Nat.le_trans (by omega : _ <= 1000) (by decide)⟩
    simp [e1, v1, w1, hk, e2, em]
    have hps : ∀ q ∈ List.replicate many.toNat p, mD d.toNat q := λ q hq => by rw [(List.mem_replicate.mp hq).2]; exact hp
    exact ⟨_, L1, ⟨rfl, rfl⟩, λ q hq => (hps q hq).nc, hL1, by simp; omega, hps⟩
   .have c7b : (kind == 7) = false := by simpa using c7
    simp [e1, v1, w1, hk, c5b, c6b, c7b, vp (j := many) (by omega) (by omega)]
    refine eG (λ its δ μ' => ∃ (L : List Int) (acc : List D) (o7 o8 : Option D), μ' = some (L.map .int) :: (rest ++ [some acc]) /\ DlD L /\ (∀ p ∈ acc, mD d.toNat p) /\ acc.length + its.length = many.toNat /\
     δ = [some (.cell 0), some (.int d), some (.int most), some (.int x), some (.int many), some (.int kind), some (.cell (rest.length + 1)), o7, o8]) ?_ ?_ _ _ _ ⟨L1, [], none, none, rfl, hL1, by simp, by simp [gn], rfl⟩
    .rintro i its δ μ' ⟨L, acc, o7, o8, rfl, hL, ha, hl, rfl⟩
     obtain ⟨y, M3, e3, hy, hM3⟩ := dW h1 hL (rest ++ [some acc])
     have hz : acc.length < sizeLine := Nat.lt_of_lt_of_le (by omega : acc.length < 1000) (by decide)
     have fin : ∀ p, mD d.toNat p -> ∃ (L : List Int) (acc' : List D), some (M3.map D.int) :: (rest ++ [some (acc ++ [p])]) = some (L.map .int) :: (rest ++ [some acc']) /\ DlD L /\ (∀ p ∈ acc', mD d.toNat p) /\ acc'.length + its.length = many.toNat := λ p hp => by
      refine ⟨M3, acc ++ [p], rfl, hM3, λ q hq => ?_, by simp at hl ⊢; omega⟩
      rcases List.mem_append.mp hq with z | z
      .exact ha q z
      .rw [List.mem_singleton.mp z]; exact hp
     obtain ⟨pu, pd⟩ := vz ha
     have en := JZ (n := rest.length + 1) (ps := acc) (μ := some (M3.map .int) :: (rest ++ [some acc])) (by simp) pu (by omega)
     have t3 := aU (x := y) (m := 3) (by decide)
     have t5 := aU (x := y) (m := 5) (by decide)
     have dv3 := oG (i := y) (j := 3) (μ := some (M3.map .int) :: (rest ++ [some acc])) (by decide) (by decide)
     have dv7 := oG (i := y) (j := 7) (μ := some (M3.map .int) :: (rest ++ [some acc])) (by decide) (by decide)
     have mm := bz (x := y.fmod 5) (y := 30) (some (M3.map .int) :: (rest ++ [some acc])) (a := 5) (b := 5) (by unfold Sm; omega) (by unfold Sm; decide) (by decide)
     have kk : 0 <= (kind.fmod 8).fmod 5 /\ (kind.fmod 8).fmod 5 <= 4 := by have := aU (x := kind.fmod 8) (m := 5) (by decide); omega
     obtain ⟨p, e4, hp⟩ := h4 (y.fdiv 7) d ((kind.fmod 8).fmod 5) (y.fmod 5 * 30) (some (M3.map .int) :: (rest ++ [some acc])) (gY.dr (λ ds hd => by
       rcases List.mem_append.mp hd with z | z
       .exact hm ds z
       .simp at z; subst z; exact λ q hq => (ha q hq).nc)) (by
        have := hy.1
        have := hy.2
        refine ⟨?_, ?_⟩
        .exact (HF hy.sm hy.1 (by decide)).2
        .have := lK (x := y) (y := 7) (by decide); omega) d1 d3 kk.1 kk.2 (by omega) (by omega)
     by_cases ctest : kind = 8 /\ acc ≠ [] /\ y.fmod 3 = 0
     .obtain ⟨k8, hne, y3⟩ := ctest
      subst k8
      have hpos : 0 < acc.length := List.length_pos_iff.mpr hne
      obtain ⟨i0, i1⟩ := aU (x := y.fdiv 3) (m := acc.length) (by omega)
      obtain ⟨q, hq, eq⟩ := lY i0 i1
      have wl := fM (x := y.fdiv 3) (y := (acc.length : Int)) (some (M3.map .int) :: (rest ++ [some acc])) (by omega)
      have hemp : acc.isEmpty = false := by cases acc <;> simp_all
      have olen : bx (.cell (rest.length + 1)) (some (M3.map .int) :: (rest ++ [some acc])) = some (.int acc.length, some (M3.map .int) :: (rest ++ [some acc])) := by simp [bx, bC]
      simp [e3, en, hemp, y3, dv3, olen, wl, bC, eq, fZ, fu, hz]
      simpa using fin q (ha q hq)
     .simp [e3]
      by_cases k8 : kind = 8
      .subst k8
       rw [show ((8 : Int).fmod 8).fmod 5 = 0 from rfl] at e4
       simp [en]
       cases hac : acc.isEmpty with
       | true =>
        simp [dv7, mm, e4, fZ, fu, hz]
        simpa using fin p hp
       | false =>
        have y3 : ¬ y.fmod 3 = 0 := λ z => ctest ⟨rfl, (λ z2 => by rw [z2] at hac; cases hac), z⟩
        have y3b : (y.fmod 3 == 0) = false := by simpa using y3
        simp [y3b, dv7, mm, e4, fZ, fu, hz]
        simpa using fin p hp
      .have k8b : (kind == 8) = false := by simpa using k8
       simp [k8b, dv7, mm, e4, fZ, fu, hz]
       simpa using fin p hp
    .rintro δ μ' ⟨L, acc, o7, o8, rfl, hL, ha, hl, rfl⟩
     simp
     exact ⟨acc, L, ⟨rfl, rfl⟩, λ p hp => (ha p hp).nc, hL, by simp at hl; omega, ha⟩
theorem vG {ps : List D} {μ : Mu} (h1 : dg ps = true) (h2 : gW ps < 90) : oEq (.lst ps) (.lst []) μ = some (.bl ps.isEmpty, μ) := by
 unfold oEq
 have e1 : rsv (.lst ps) μ = .lst ps := rfl
 have e2 : rsv (.lst []) μ = .lst [] := rfl
 rw [e1, e2]
 have e3 : cJ (.lst ps) = true := by rw [cJ]; exact h1
 have e4 : cJ (.lst []) = true := by rw [cJ, dg]
 have e5 : ie (.lst ps) < 100 := by rw [ie]; omega
 have e6 : eqD (.lst ps) (.lst []) = ps.isEmpty := by cases ps <;> rw [eqD] <;> simp [kJ]
 rw [e3, e4, e6, if_pos ⟨rfl, e5⟩]
theorem nq {α : Type} {p q : α -> Bool} : ∀ (l : List α), (∀ x ∈ l, q x = !p x) -> (l.filter q).isEmpty = l.all p
 | [], _ => rfl
 | x :: l, h => by
  have hx := h x (by simp)
  have ih := nq l λ y hy => h y (by simp [hy])
  rw [List.filter_cons, List.all_cons]
  cases hp : p x with
  | true => rw [hp] at hx; rw [hx]; simpa using ih
  | false => rw [hp] at hx; rw [hx]; rfl
theorem jc {b : Nat} {x : Int} (n : Nat) (h : x.natAbs < n) (hn : n <= 2 ^ b) : Sm b x := Nat.lt_of_lt_of_le h hn
def aH (r : List Int) : D := .tup (r.map .int)
@[simp] theorem MJ {r : List Int} {μ : Mu} : bC (aH r) μ = some (r.map .int) := rfl
@[simp] theorem HB {r : List Int} {μ : Mu} : bx (aH r) μ = some (.int r.length, μ) := by simp [aH]
theorem nQ {α : Type} {F : α -> D} {l : List α} {k : Int} {z : α} (h0 : 0 <= k) (h1 : k < l.length) : atI (l.map F) k = some (F (l.getD k.toNat z)) /\ l.getD k.toNat z ∈ l := by
 have hk : k.toNat < l.length := by omega
 have e : l.getD k.toNat z = l[k.toNat] := by simp [List.getD, hk]
 refine ⟨?_, by rw [e]; exact List.getElem_mem hk⟩
 unfold atI ixN
 rw [if_pos h0, if_pos (by simpa using h1), e]
 simp [hk]
theorem jJ {α β : Type} {F : α -> D} {G : β -> D} : ∀ (a : List α) (b : List β), jR (a.map F) (b.map G) = (a.zip b).map λ p => .tup [F p.1, G p.2]
 | [], _ => by simp [jR]
 | a :: as, [] => by simp [jR]
 | a :: as, b :: bs => by simp [jR, jJ as bs]
theorem wZ {α : Type} {th : D -> fX} {F : α -> D} {g : α -> Int} {μ : Mu} : ∀ (l : List α) (a : Int), (∀ x ∈ l, th (F x) μ = some (.int (g x), μ)) -> qu a ((l.map F).map th) μ = some (a + (l.map g).sum, μ)
 | [], a, _ => by simp [qu]
 | x :: l, a, h => by
  have h1 := h x (by simp)
  have ih := wZ l (a + g x) λ y hy => h y (by simp [hy])
  rw [List.map_cons, List.map_cons]
  unfold qu
  rw [h1]
  simp only [Option.bind_some]
  rw [ih]
  simp
  omega
theorem eO {α : Type} {all : List D} {h : GF} {fe : EF} {δb : En} {F : α -> D} {f : α -> D} {μ : Mu} : ∀ (l : List α), (∀ x ∈ l, ∃ δ1, h (F x) δb μ = some δ1 /\ fe δ1 μ = some (f x, μ)) -> lcL ⟨all, none⟩ h bG fe δb (l.map F) μ = some (l.map f, μ)
 | [], _ => by simp only [List.map_nil]; unfold lcL; simp [bK]
 | d :: r, hd => by
  obtain ⟨δ1, h1, h2⟩ := hd d (by simp)
  have h3 := eO (all := all) r λ x hx => hd x (by simp [hx])
  rw [List.map_cons]
  unfold lcL
  simp [bK, h1, bG, h2, h3]
def mX : Int -> List Int -> Int
 | m, [] => m
 | m, b :: bs => mX (m * b.fdiv (Int.gcd m b)) bs
theorem uY {m b : Int} (hm : 1 <= m) (hb : 1 <= b) : 1 <= (Int.gcd m b : Int) /\ ((Int.gcd m b : Int) ∣ b) /\ ((Int.gcd m b : Int) ∣ m) /\ (Int.gcd m b : Int) <= b := by
 have h0 : Int.gcd m b ≠ 0 := by
  intro z
  rw [Int.gcd_eq_zero_iff] at z
  omega
 refine ⟨by omega, Int.gcd_dvd_right _ _, Int.gcd_dvd_left _ _, Int.le_of_dvd (by omega) (Int.gcd_dvd_right _ _)⟩
theorem qZ {m b : Int} (hm : 1 <= m) (hb : 1 <= b) : 1 <= b.fdiv (Int.gcd m b) /\ b.fdiv (Int.gcd m b) <= b /\ (m * b).fdiv (Int.gcd m b) = m * b.fdiv (Int.gcd m b) /\ b ∣ m * b.fdiv (Int.gcd m b) := by
 obtain ⟨g1, g2, g3, g4⟩ := uY hm hb
 generalize (Int.gcd m b : Int) = g at *
 rw [Int.fdiv_eq_ediv_of_nonneg b (by omega), Int.fdiv_eq_ediv_of_nonneg (m * b) (by omega)]
 refine ⟨(Int.le_ediv_iff_mul_le (by omega)).mpr (by omega), Int.ediv_le_self _ (by omega), Int.mul_ediv_assoc m g2, ?_⟩
 obtain ⟨c, hc⟩ := g3
 obtain ⟨e, he⟩ := g2
 have : b / g = e := by rw [he]; exact Int.mul_ediv_cancel_left e (by omega)
 rw [this, hc, he]
 exact ⟨c, by rw [Int.mul_assoc, Int.mul_comm c e, <- Int.mul_assoc]⟩
theorem Cp : ∀ (bs : List Int) (m : Int), 1 <= m -> (∀ b ∈ bs, 1 <= b /\ b < 64) -> 1 <= mX m bs /\ (m ∣ mX m bs) /\ (∀ b ∈ bs, b ∣ mX m bs) /\ ∀ k, Sm k m -> Sm (k + 6 * bs.length) (mX m bs)
 | [], m, hm, _ => ⟨hm, Int.dvd_refl _, by simp, λ k h => h⟩
 | b :: bs, m, hm, hb => by
  obtain ⟨b1, b2⟩ := hb b (by simp)
  obtain ⟨f1, f2, f3, f4⟩ := qZ hm b1
  have hm' : 1 <= m * b.fdiv (Int.gcd m b) := by
   have := Int.mul_le_mul hm f1 (by decide) (by omega)
   omega
  obtain ⟨h1, h2, h3, h4⟩ := Cp bs (m * b.fdiv (Int.gcd m b)) hm' λ c hc => hb c (by simp [hc])
  show 1 <= mX (m * b.fdiv (Int.gcd m b)) bs /\ _
  refine ⟨h1, Int.dvd_trans (Int.dvd_mul_right _ _) h2, λ c hc => ?_, λ k hk => ?_⟩
  .rcases List.mem_cons.mp hc with z | z
   .rw [z]; exact Int.dvd_trans f4 h2
   .exact h3 c z
  .have := h4 (k + 6) (gO hk (jc 64 (by omega) (by decide)))
   refine cW this ?_
   simp only [List.length_cons]
   omega
def FP (φ : FF) : Prop := ∀ (bs : List Int) (μ : Mu), (∀ b ∈ bs, 1 <= b /\ b < 64) -> bs.length <= 100 -> φ [.lst (bs.map .int)] μ = some (.int (mX 1 bs), μ)
theorem Hz {φ : FF} (hφ : mQ φ) : FP (trunc (aF 3 (cA φ))) := λ bs μ hb hl => by
 apply dR
 unfold cA
 simp
 refine eG (λ its δ μ' => ∃ (ms : List Int) (m : Int) (o : Option D) (k : Nat), its = ms.map .int /\ μ' = μ /\ mX m ms = mX 1 bs /\ 1 <= m /\ Sm k m /\ k + 6 * ms.length <= 700 /\ (∀ b ∈ ms, 1 <= b /\ b < 64) /\ δ = [some (.lst (bs.map .int)), some (.int m), o]) ?_ ?_ _ _ _ ⟨bs, 1, none, 1, rfl, rfl, rfl, by decide, by unfold Sm; decide, by omega, hb, rfl⟩
 .rintro d rest δ μ' ⟨ms, m, o, k, hi, rfl, hm, m1, hk, hkl, hb, rfl⟩
  cases ms with
  | nil => cases hi
  | cons b ms =>
   cases hi
   obtain ⟨b1, b2⟩ := hb b (by simp)
   obtain ⟨g1, g2, g3, g4⟩ := uY m1 b1
   obtain ⟨f1, f2, f3, f4⟩ := qZ m1 b1
   have sb : Sm 6 (b.fdiv (Int.gcd m b)) := jc 64 (by omega) (by decide)
   have eg := hφ m b μ'
   have ed := gP (x := b) (y := (Int.gcd m b : Int)) (b := 6) μ' (by omega) (jc 64 (by omega) (by decide)) (by decide)
   have em := Jw (i := m) (j := b.fdiv (Int.gcd m b)) (μ := μ') (yw hk sb (by simp at hkl; omega))
   simp only [List.length_cons] at hkl
   simp [Bv, eg, ed, em]
   refine ⟨ms, rfl, _, hm, ?_, _, k + 6, gO hk sb, by omega, λ c hc => hb c (List.mem_cons_of_mem _ hc), rfl, rfl⟩
   have := Int.mul_le_mul m1 f1 (by decide) (by omega)
   omega
 .rintro δ μ' ⟨ms, m, o, k, hi, rfl, hm, m1, hk, hkl, hb, rfl⟩
  cases ms with
  | nil =>
   have hm : m = mX 1 bs := hm
   subst hm
   simp
  | cons b ms => cases hi
def dot (ws cs : List Int) : Int := ((ws.zip cs).map λ p => p.1 * p.2).sum
def Di (φ : FF) : Prop := ∀ (ws cs : List Int) (μ : Mu), (∀ w ∈ ws, Sm 9000 w) -> (∀ c ∈ cs, Sm 9000 c) -> φ [.lst (ws.map .int), .lst (cs.map .int)] μ = some (.int (dot ws cs), μ)
theorem Kl : Di (trunc (aF 2 cC)) := λ ws cs μ hw hc => by
 apply dR
 have e := wZ (th := thG (kW 2 (cB (hName 0) (cB (hName 1) kY))) (M2 (ak 0) (ak 1) bJ) (cz ["one", "other"] [some (.lst (ws.map .int)), some (.lst (cs.map .int))] [])) (F := λ p : Int × Int => .tup [D.int p.1, .int p.2]) (g := λ p => p.1 * p.2) (μ := μ) (ws.zip cs) 0 λ p hp => by
  obtain ⟨p1, p2⟩ := p
  have hm := List.of_mem_zip hp
  have := bz (x := p1) (y := p2) μ (hw _ hm.1) (hc _ hm.2) (by decide)
  simp [thG, cz, this]
 have ez := jJ (F := D.int) (G := D.int) ws cs
 unfold dot
 simp [cC, ez]
 rw [List.map_map] at e
 rw [e]
 simp
def bL (r : List Int) : Int := r.getLastD 0
def wts (M : Int) (rs : List (List Int)) (ss : List Int) : List Int := (ss.zip rs).map λ p => p.1 * M.fdiv (bL p.2)
def col (rs : List (List Int)) (i : Nat) : List Int := rs.map λ r => r.getD i 0
def gw (rs : List (List Int)) : Int := mX 1 (rs.map bL)
structure gm (d1 : Nat) (r : List Int) : Prop where
 len : r.length = d1
 sm : ∀ n ∈ r, n.natAbs <= 10000
 b1 : 1 <= bL r
 b2 : bL r < 64
theorem PtL.row {d : Nat} {ns : List Int} {b : Int} (h : PtL d ns b) : gm (d + 1) (ns ++ [b]) := ⟨by simp [h.1], λ n hn => by
 rcases List.mem_append.mp hn with z | z
 .exact h.2.1 n z
 .rw [List.mem_singleton.mp z]; have := h.2.2; omega, by unfold bL; simp; exact h.2.2.1, by unfold bL; simp; have := h.2.2.2; omega⟩
theorem kZ {d1 : Nat} {r : List Int} (h : gm d1 r) (hd : 1 <= d1) : atI (r.map D.int) (-1) = some (.int (bL r)) := Cj (λ z => by have := h.len; rw [z] at this; simp at this; omega)
theorem qC {d1 : Nat} {rs : List (List Int)} (h : ∀ r ∈ rs, gm d1 r) : 1 <= gw rs /\ (∀ r ∈ rs, bL r ∣ gw rs) /\ Sm (1 + 6 * rs.length) (gw rs) := by
 obtain ⟨h1, _, h3, h4⟩ := Cp (rs.map bL) 1 (by decide) λ b hb => by
  obtain ⟨r, hr, rfl⟩ := List.mem_map.mp hb
  exact ⟨(h r hr).b1, (h r hr).b2⟩
 refine ⟨h1, λ r hr => h3 _ (List.mem_map.mpr ⟨r, hr, rfl⟩), ?_⟩
 have := h4 1 (by unfold Sm; decide)
 rw [List.length_map] at this
 exact this
theorem Gu {d1 : Nat} {rs : List (List Int)} {i : Nat} (h : ∀ r ∈ rs, gm d1 r) (hi : i < d1) : ∀ c ∈ col rs i, c.natAbs <= 10000 := λ c hc => by
 obtain ⟨r, hr, rfl⟩ := List.mem_map.mp hc
 have hl := (h r hr).len
 have hk : i < r.length := by omega
 have : r.getD i 0 = r[i] := by simp [List.getD, hk]
 rw [this]
 exact (h r hr).sm _ (List.getElem_mem hk)
def ux (φ : FF) : Prop := ∀ (d1 : Nat) (rs : List (List Int)) (ws : List Int) (μ : Mu), 1 <= d1 -> d1 <= 100 -> rs ≠ [] -> (∀ r ∈ rs, gm d1 r) -> rs.length <= 60 -> (∀ w ∈ ws, Sm 9000 w) -> φ [.lst (rs.map aH), .lst (ws.map .int)] μ = some (.lst (((List.range d1).map λ i => dot ws (col rs i)).map .int), μ)
theorem vf {φ : FF} (hφ : Di φ) {d1 : Nat} {rs : List (List Int)} {ws : List Int} {μ : Mu} (hr : ∀ r ∈ rs, gm d1 r) (hz1 : rs.length <= 1000) (hw : ∀ w ∈ ws, Sm 9000 w) (i : Nat) (hi : i < d1) :
  MC (aa (ak 1) (aa (mFz (lLC ["row"] [0] (eZ (ak 2)) (hName 0) (bG) (M2 (ak 0) (ak 1) oIx))) (aq))) φ [some (.int (0 + (i : Int))), some (.lst (ws.map .int)), some (.lst (rs.map aH))] μ = some (.int (dot ws (col rs i)), μ) := by
 have e1 := eO (all := rs.map aH) (h := hName 0) (fe := M2 (ak 0) (ak 1) oIx) (δb := [none, some (.int (0 + (i : Int)))]) (F := aH) (f := λ r => .int (r.getD i 0)) (μ := μ) rs λ r h => ⟨_, rfl, by
  have hk : ((0 : Int) + i) < r.length := by have := (hr r h).len; omega
  obtain ⟨a1, _⟩ := iY (ys := r) (k := 0 + (i : Int)) (by omega) hk
  have : (0 + (i : Int)).toNat = i := by omega
  rw [this] at a1
  generalize r.getD i 0 = z at *
  generalize (0 + (i : Int)) = j at *
  simp [a1]⟩
 have e1' : rs.map (λ r => D.int (r.getD i 0)) = (col rs i).map D.int := by unfold col; simp
 rw [e1'] at e1
 have e2 := hφ ws (col rs i) μ hw λ c hc => cW (jc (b := 14) 10001 (by have := Gu hr hi c hc; omega) (by decide)) (by decide)
 generalize (col rs i).map D.int = cD at *
 generalize dot ws (col rs i) = z at *
 generalize (0 + (i : Int)) = j at *
 simp [hz1, cz, e1, e2]
theorem Cu {F : EF} {δ : En} {μ : Mu} {k : Int} (h0 : 0 <= k) (h1 : k <= 100000) (a : F δ μ = some (.int k, μ)) : bO (aa F aq) δ μ = some (⟨cU 0 k.toNat, none⟩, μ) := by
 have rr := vp (j := k) (μ := μ) (by omega) (by omega)
 rw [Jv, vh, a]
 simp only [Option.bind_some, zV]
 exact rr
theorem Em {F : EF} {δ : En} {μ : Mu} {r : List Int} {d1 : Nat} (hl : r.length = d1) (a : F δ μ = some (aH r, μ)) : MC (aa F aq) (aR bx) δ μ = some (.int d1, μ) := by
 rw [Lw, vh, a]
 simp only [Option.bind_some, zV, Jd, HB, hl]
theorem yp {φ : FF} (hφ : Di φ) : ux (trunc (aF 2 (jf φ))) := λ d1 rs ws μ hd hd2 hne hr hl hw => by
 apply dR
 have hz1 : rs.length <= 1000 := by omega
 have e3 := eO (all := cU 0 d1) (h := hName 0) (fe := MC (aa (ak 1) (aa (mFz (lLC ["row"] [0] (eZ (ak 2)) (hName 0) (bG) (M2 (ak 0) (ak 1) oIx))) (aq))) φ) (δb := cz ["at"] [some (.lst (rs.map aH)), some (.lst (ws.map .int))] [1, 0]) (F := λ i : Nat => D.int (0 + (i : Int))) (f := λ i => .int (dot ws (col rs i))) (μ := μ) (List.range d1) λ i hi =>
  ⟨[some (.int (0 + (i : Int))), some (.lst (ws.map .int)), some (.lst (rs.map aH))], by simp [cz], vf hφ hr hz1 hw i (List.mem_range.mp hi)⟩
 have e3' : (List.range d1).map (λ i => D.int (dot ws (col rs i))) = ((List.range d1).map λ i => dot ws (col rs i)).map D.int := by simp
 rw [e3'] at e3
 have er : (List.range d1).map (λ i : Nat => D.int (0 + (i : Int))) = cU 0 d1 := rfl
 rw [er] at e3
 have h0 : ∃ r0, atI (rs.map aH) 0 = some (aH r0) /\ r0 ∈ rs := by
  obtain ⟨a, b⟩ := nQ (F := aH) (l := rs) (k := 0) (z := []) (by decide) (by have := List.length_pos_iff.mpr hne; omega)
  exact ⟨_, a, b⟩
 obtain ⟨r0, a0, hr0⟩ := h0
 have hlen0 := (hr r0 hr0).len
 generalize ((List.range d1).map λ i => dot ws (col rs i)).map D.int = wD at *
 have it : bO (aa (MC (aa (M2 (ak 0) (mC (.int 0)) oIx) (aq)) (aR bx)) (aq)) [some (.lst (rs.map aH)), some (.lst (ws.map .int))] μ = some (⟨cU 0 d1, none⟩, μ) := by
  have := Cu (k := (d1 : Int)) (by omega) (by omega) (Em (F := M2 (ak 0) (mC (.int 0)) oIx) (δ := [some (.lst (rs.map aH)), some (.lst (ws.map .int))]) (μ := μ) hlen0 (by simp [a0]))
  rwa [show ((d1 : Int)).toNat = d1 by omega] at this
 have hz2 : (cU 0 d1).length <= sizeLine := by rw [gn]; exact Nat.le_trans (by omega : _ <= 1000) (by decide)
 unfold jf
 generalize bO (aa (MC (aa (M2 (ak 0) (mC (.int 0)) oIx) (aq)) (aR bx)) (aq)) = IT at it ⊢
 simp [it, hz2, e3]
theorem wL {w c : Int} {ws cs : List Int} : dot (w :: ws) (c :: cs) = w * c + dot ws cs := by unfold dot; simp
theorem wN (M : Int) : ∀ (rs : List (List Int)) (ss : List Int), rs.length = ss.length -> (∀ r ∈ rs, 1 <= bL r /\ bL r ∣ M) -> dot (wts M rs ss) (rs.map bL) = M * ss.sum
 | [], ss, h, _ => by
  have : ss = [] := List.eq_nil_of_length_eq_zero (by simpa using h.symm)
  subst this
  simp [dot, wts]
 | r :: rs, [], h, _ => by simp at h
 | r :: rs, s :: ss, h, hr => by
  have ih := wN M rs ss (by simpa using h) λ x hx => hr x (by simp [hx])
  obtain ⟨b1, b2⟩ := hr r (by simp)
  have e1 : wts M (r :: rs) (s :: ss) = s * M.fdiv (bL r) :: wts M rs ss := by simp [wts]
  rw [e1, List.map_cons, wL, ih, List.sum_cons, Int.mul_add]
  congr 1
  rw [Int.fdiv_eq_ediv_of_nonneg M (by omega), Int.mul_assoc, Int.ediv_mul_cancel b2, Int.mul_comm]
theorem Dh {d1 : Nat} {rs : List (List Int)} (hd : 1 <= d1) (h : ∀ r ∈ rs, gm d1 r) : col rs (d1 - 1) = rs.map bL := by
 unfold col
 apply List.map_congr_left
 intro r hr
 have hl := (h r hr).len
 have hne : r ≠ [] := λ z => by rw [z] at hl; simp at hl; omega
 unfold bL
 rw [List.getLastD_eq_getLast?, List.getLast?_eq_getElem?, hl]
 rfl
@[simp] theorem Nb {μ : Mu} {ds : List D} : bC (.cell μ.length) (μ ++ [some ds]) = some ds := by unfold bC; simp
def fnL (d : Nat) (g : Nat -> Int) : List D := ((List.range d).map g).map D.int
theorem wI {d j : Nat} (h : j < d) : (cU 0 d).drop j = D.int (0 + (j : Int)) :: (cU 0 d).drop (j + 1) := by
 unfold cU
 rw [<- List.map_drop, <- List.map_drop, List.drop_eq_getElem_cons (by simpa using h)]
 simp
theorem Gj {d j : Nat} (h : d <= j) : (cU 0 d).drop j = [] := List.drop_of_length_le (by rw [gn]; exact h)
theorem CQ {d1 : Nat} {ps : List (List Int)} {k : Int} (hp : ∀ p ∈ ps, gm d1 p) (k0 : 0 <= k) (k1 : k < ps.length) : atI (ps.map aH) k = some (aH (ps.getD k.toNat [])) /\ gm d1 (ps.getD k.toNat []) := by
 obtain ⟨a, b⟩ := nQ (F := aH) (l := ps) (k := k) (z := []) k0 k1
 exact ⟨a, hp _ b⟩
theorem Bt {m b : Int} {bs : List Int} : mX m (b :: bs) = mX (m * b.fdiv (Int.gcd m b)) bs := rfl
structure Geo (d : Nat) (ps : List (List Int)) : Prop where
 d1 : 1 <= d
 d2 : d <= 3
 rows : ∀ p ∈ ps, gm (d + 1) p
 len : ps.length <= 60
 ne : ps ≠ []
def mz (ps : List (List Int)) : D := .lst (ps.map aH)
def zW (φ : FF) : Prop := ∀ (d1 : Nat) (rs : List (List Int)) (ss : List Int) (μ : Mu), 1 <= d1 -> (∀ r ∈ rs, gm d1 r) -> rs.length <= 60 -> ss.length <= 60 -> (∀ s ∈ ss, Sm 3000 s) -> φ [.lst (rs.map aH), .tup (ss.map .int)] μ = some (.lst ((wts (gw rs) rs ss).map .int), μ)
theorem CW {φ : FF} (hφ : FP φ) : zW (trunc (aF 3 (dU φ))) := λ d1 rs ss μ hd hr hl hl2 hs => by
 apply dR
 have e1 := eO (all := rs.map aH) (h := hName 0) (fe := M2 (ak 0) (M1 (mC (.int 1)) ir) oIx) (δb := cz ["point"] [some (.lst (rs.map aH)), some (.tup (ss.map .int)), none] []) (F := aH) (f := λ r => .int (bL r)) (μ := μ) rs λ r h => ⟨_, rfl, by simp [cz, kZ (hr r h) hd]⟩
 have e1' : rs.map (λ r => D.int (bL r)) = (rs.map bL).map D.int := by simp
 rw [e1'] at e1
 have e2 := hφ (rs.map bL) μ (λ b hb => by
  obtain ⟨r, h, rfl⟩ := List.mem_map.mp hb
  exact ⟨(hr r h).b1, (hr r h).b2⟩) (by simp; omega)
 obtain ⟨hM1, hM2, hM3⟩ := qC hr
 have e3 := eO (all := (ss.zip rs).map λ p => D.tup [.int p.1, aH p.2]) (h := kW 2 (cB (hName 0) (cB (hName 1) kY))) (fe := M2 (ak 0) (M2 (ak 2) (M2 (ak 1) (M1 (mC (.int 1)) ir) oIx) oDiv) bJ) (δb := cz ["number", "point"] [some (.lst (rs.map aH)), some (.tup (ss.map .int)), some (.int (gw rs))] [2]) (F := λ p : Int × List Int => D.tup [.int p.1, aH p.2]) (f := λ p => .int (p.1 * (gw rs).fdiv (bL p.2))) (μ := μ) (ss.zip rs) λ p hp => by
  obtain ⟨s, r⟩ := p
  have hm := List.of_mem_zip hp
  have hrr := hr r hm.2
  have ed := gP (x := gw rs) (y := bL r) (b := 6) μ (by have := hrr.b1; omega) (jc 64 (by have := hrr.b1; have := hrr.b2; omega) (by decide)) (by decide)
  have em := bz (x := s) (y := (gw rs).fdiv (bL r)) (a := 3000) (b := 1 + 6 * rs.length) μ (hs s hm.1) (rH hM3 (by have := hrr.b1; omega)) (by omega)
  refine ⟨[some (.int s), some (aH r), some (.int (gw rs))], by simp [cz], ?_⟩
  simp [kZ hrr hd, ed, em]
 have ez := jJ (F := D.int) (G := aH) ss rs
 have e3' : (ss.zip rs).map (λ p => D.int (p.1 * (gw rs).fdiv (bL p.2))) = (wts (gw rs) rs ss).map D.int := by unfold wts; simp
 rw [e3'] at e3
 have hz1 : rs.length <= 1000 := by omega
 have hz2 : (ss.zip rs).length <= 1000 := by simp; omega
 have e2' : φ [.lst ((rs.map bL).map D.int)] μ = some (.int (gw rs), μ) := e2
 generalize (rs.map bL).map D.int = bD at *
 generalize (wts (gw rs) rs ss).map D.int = wD at *
 unfold dU
 simp only [List.length_zip] at hz2
 simp [hz1, hz2, e1, e2', ez, e3]
theorem any_ints (μ : Mu) : ∀ ns : List Int, xj ((ns.map D.int).map thE) μ = some (ns.any (λ n => n != 0), μ)
 | [] => rfl
 | n :: ns => by
  have ih := any_ints μ ns
  rw [List.map_cons, List.map_cons]
  unfold xj
  show ((zA (D.int n)).bind λ k => if k = true then some (true, μ) else xj ((ns.map D.int).map thE) μ) = _
  cases h : (n != 0) with
  | true => simp [zA, h]
  | false =>
   rw [List.map_map] at ih
   simp [zA, h, ih]
theorem sum_ints (μ : Mu) : ∀ (ns : List Int) (a : Int), qu a ((ns.map D.int).map thE) μ = some (a + ns.sum, μ)
 | [], a => by simp [qu]
 | n :: ns, a => by
  have ih := sum_ints μ ns (a + n)
  rw [List.map_cons, List.map_cons]
  unfold qu
  show qu (a + n) ((ns.map D.int).map thE) μ = _
  rw [ih, List.sum_cons, Int.add_assoc]
def xg (d1 : Nat) (ps : List (List Int)) (ns : List Int) : List Int := (List.range d1).map λ i => dot (wts (gw ps) ps ns) (col ps i)
def sZ (d1 : Nat) (ps : List (List Int)) (ns : List Int) : Bool := ns.length == ps.length && (ns.any (λ n => n != 0) && !(xg d1 ps ns).any (λ n => n != 0))
def zj (d1 : Nat) (ps : List (List Int)) : D -> Bool
 | .tup ds => ds.all isInt && sZ d1 ps (ds.map intOf)
 | _ => false
theorem oH {d1 : Nat} {ps : List (List Int)} {ds : List D} : zj d1 ps (.tup ds) = (ds.all isInt && sZ d1 ps (ds.map intOf)) := rfl
theorem uz {d1 : Nat} {ps : List (List Int)} {ns : List Int} : zj d1 ps (.tup (ns.map .int)) = sZ d1 ps ns := by
 rw [oH, ints_map, Fd]
 rfl
def smT : D -> Prop
 | .tup ds => ∀ i, D.int i ∈ ds -> Sm 2000 i
 | _ => True
def Ao (φ : FF) : Prop := ∀ (d : Nat) (ps : List (List Int)) (t : D) (μ : Mu), Geo d ps -> nc t -> smT t -> φ [mz ps, t] μ = some (.bl (zj (d + 1) ps t), μ)
theorem JQ {φ1 φ2 φ3 : FF} (h1 : Do φ1) (h2 : zW φ2) (h3 : ux φ3) : Ao (trunc (aF 2 (dD φ1 φ2 φ3))) := λ d ps t μ G hn hs => by
 apply dR
 have e1 := h1 t μ hn
 have hd2 := G.d2
 cases hb : uo t with
 | false =>
  rw [hb] at e1
  have eV : zj (d + 1) ps t = false := by
   cases t with
   | tup ds =>
    have hb : ds.all isInt = false := hb
    rw [oH, hb]; rfl
   | _ => rfl
  rw [eV]
  simp [dD, e1]
 | true =>
  rw [hb] at e1
  cases t with
  | tup ds =>
   have hd := ints_of hb
   generalize ds.map intOf = ns at hd
   subst hd
   rw [uz]
   have elen : bx (mz ps) μ = some (.int ps.length, μ) := by simp [mz]
   have hsn : ∀ n ∈ ns, Sm 2000 n := λ n hn' => hs n (List.mem_map.mpr ⟨n, hn', rfl⟩)
   by_cases hl : ns.length = ps.length
   .have hlb : ((ns.length : Int) == (ps.length : Int)) = true := by simp [hl]
    have ea := any_ints μ ns
    have hl60 := G.len
    obtain ⟨M1', M2', M3'⟩ := qC G.rows
    have e2 := h2 (d + 1) ps ns μ (by omega) G.rows (by omega) (by omega) (λ s h => cW (hsn s h) (by decide))
    have hw : ∀ w ∈ wts (gw ps) ps ns, Sm 9000 w := λ w hw => by
     obtain ⟨⟨s, r⟩, hx, rfl⟩ := List.mem_map.mp hw
     have hm := List.of_mem_zip hx
     exact cW (gO (hsn s hm.1) (rH M3' (show 0 < bL r by have := (G.rows r hm.2).b1; omega))) (by omega)
    have e3 := h3 (d + 1) ps (wts (gw ps) ps ns) μ (by omega) (by omega) G.ne G.rows hl60 hw
    have e3' : φ3 [.lst (ps.map aH), .lst ((wts (gw ps) ps ns).map .int)] μ = some (.lst ((xg (d + 1) ps ns).map .int), μ) := e3
    have eb := any_ints μ (xg (d + 1) ps ns)
    have eV : sZ (d + 1) ps ns = (ns.any (λ n => n != 0) && !(xg (d + 1) ps ns).any (λ n => n != 0)) := by unfold sZ; simp [hl]
    rw [eV]
    generalize hVV : (xg (d + 1) ps ns).any (λ n => n != 0) = VV at *
    generalize (xg (d + 1) ps ns).map D.int = vD at *
    generalize (wts (gw ps) ps ns).map D.int = wD at *
    generalize hAA : ns.any (λ n => n != 0) = AA at *
    have hnl : (ns.map D.int).length = ns.length := by simp
    generalize ns.map D.int = nD at *
    cases AA with
    | false => simp [dD, e1, hnl, elen, hlb, ea]
    | true => simp [dD, e1, hnl, elen, hlb, ea, mz, e2, e3', eb]
   .have hlb : ((ns.length : Int) == (ps.length : Int)) = false := by
     have : (ns.length : Int) ≠ ps.length := by omega
     simpa using this
    have eV : sZ (d + 1) ps ns = false := by
     have : (ns.length == ps.length) = false := by simpa using hl
     unfold sZ; rw [this]; rfl
    rw [eV]
    simp [dD, e1, elen, hlb]
  | _ => cases hb
theorem Dy {d : Nat} {ps : List (List Int)} {ns : List Int} (hr : ∀ r ∈ ps, gm (d + 1) r) (hl : ns.length = ps.length) :
  (!(xg (d + 1) ps ns).any (λ n => n != 0)) = (decide (ns.sum = 0) && (List.range d).all λ i => dot (wts (gw ps) ps ns) (col ps i) == 0) := by
 obtain ⟨M1', M2', M3'⟩ := qC hr
 have el := wN (gw ps) ps ns hl.symm λ r h => ⟨(hr r h).b1, M2' r h⟩
 have ec := Dh (d1 := d + 1) (by omega) hr
 rw [show d + 1 - 1 = d by omega] at ec
 unfold xg
 rw [List.range_succ, List.map_append, List.any_append]
 simp only [List.map_cons, List.map_nil, List.any_cons, List.any_nil, Bool.or_false]
 rw [ec, el]
 have hz : (gw ps * ns.sum != 0) = !decide (ns.sum = 0) := by
  by_cases h : ns.sum = 0
  .simp [h]
  .have : gw ps * ns.sum ≠ 0 := Int.mul_ne_zero (by omega) h
   simp [h, this]
 rw [hz, List.any_map]
 have ha : ((List.range d).any ((λ n => n != 0) ∘ λ i => dot (wts (gw ps) ps ns) (col ps i))) = !((List.range d).all λ i => dot (wts (gw ps) ps ns) (col ps i) == 0) := by
  rw [List.any_eq_not_all_not]
  congr 1
  apply List.all_congr rfl
  intro i
  simp [bne]
 rw [ha]
 cases decide (ns.sum = 0) <;> cases ((List.range d).all λ i => dot (wts (gw ps) ps ns) (col ps i) == 0) <;> rfl
theorem Al {M : Int} {i : Nat} : ∀ (ps : List (List Int)) (ns : List Int), ((ns.zip ps).map λ p => p.1 * p.2.getD i 0 * M.fdiv (bL p.2)).sum = dot (wts M ps ns) (col ps i)
 | [], ns => by simp [dot, wts, col]
 | p :: ps, [] => by simp [dot, wts, col]
 | p :: ps, n :: ns => by
  have ih := Al (M := M) (i := i) ps ns
  have e2 : wts M (p :: ps) (n :: ns) = n * M.fdiv (bL p) :: wts M ps ns := by simp [wts]
  have e3 : col (p :: ps) i = p.getD i 0 :: col ps i := by simp [col]
  rw [e2, e3, wL, List.zip_cons_cons, List.map_cons, List.sum_cons, ih]
  congr 1
  simp only
  rw [Int.mul_assoc, Int.mul_assoc, Int.mul_comm (M.fdiv _)]
theorem zb {φ1 φ2 : FF} (h1 : zY φ1) (h2 : mQ φ2) : Ao (trunc (aF 5 (cQ φ1 φ2))) := λ d ps t μ G hn hs => by
 apply dR
 have hd1 := G.d1
 have hd2 := G.d2
 have hl60 := G.len
 have elen : bx (mz ps) μ = some (.int ps.length, μ) := by simp [mz]
 cases t with
 | cell n => simp [nc, cLt] at hn
 | ro ds => simp [cQ, zj, kj, Hf]
 | tup ds =>
  have hnd := mV.mp hn
  by_cases hl : ds.length = ps.length
  .have hlb : ((ds.length : Int) == (ps.length : Int)) = true := by simp [hl]
   have hz : ds.length <= 1000 := by omega
   have ef := jj (all := ds) (h := hName 0) (tt := lD (sW (MC (aa (ak 0) aq) φ1))) (fe := ak 0) (δb := [none]) (p := λ d => !isInt d) (f := id) (μ := μ) ds λ x hx => by
    refine ⟨_, rfl, ?_, λ _ => ?_⟩ <;> simp [h1 x μ (hnd x hx)]
   rw [List.map_id] at ef
   have hem := nq (p := isInt) (q := λ d => !isInt d) ds (λ _ _ => rfl)
   cases hi : ds.all isInt with
   | false =>
    rw [hi] at hem
    rw [oH, hi, Bool.false_and]
    simp [cQ, elen, hlb, hz, cz, ef, hem]
   | true =>
    rw [hi] at hem
    have hd := ints_of hi
    generalize ds.map intOf = ns at hd
    subst hd
    rw [uz]
    have hl' : ns.length = ps.length := by simpa using hl
    simp only [List.length_map] at hlb hz
    have hsn : ∀ n ∈ ns, Sm 2000 n := λ n hn' => hs n (List.mem_map.mpr ⟨n, hn', rfl⟩)
    have eg := jj (all := ns.map D.int) (h := hName 0) (tt := toB (M2 (ak 0) (mC (.int 0)) oNe)) (fe := ak 0) (δb := [none]) (p := λ d => intOf d != 0) (f := id) (μ := μ) (ns.map D.int) λ x hx => by
     obtain ⟨n, _, rfl⟩ := List.mem_map.mp hx
     refine ⟨_, rfl, ?_, λ _ => ?_⟩ <;> simp [bne]
    rw [List.map_id] at eg
    have hfe : ((ns.map D.int).filter (λ d => intOf d != 0)).isEmpty = !ns.any (λ n => n != 0) := by
     have := nq (p := λ d => intOf d == 0) (q := λ d => intOf d != 0) (ns.map D.int) (λ _ _ => rfl)
     rw [this, List.all_map, List.all_eq_not_any_not]
     rfl
    have hpu : dg ((ns.map D.int).filter (λ d => intOf d != 0)) = true /\ gW ((ns.map D.int).filter (λ d => intOf d != 0)) < 90 := by
     have : (ns.map D.int).filter (λ d => intOf d != 0) = (((ns.map D.int).filter (λ d => intOf d != 0)).map intOf).map D.int := ints_of (by
      rw [List.all_eq_true]
      intro x hx
      obtain ⟨n, _, rfl⟩ := List.mem_map.mp (List.mem_filter.mp hx).1
      rfl)
     rw [this]
     exact ⟨jQ _, by rw [lG]; decide⟩
    have eqn := vG (μ := μ) hpu.1 hpu.2
    rw [hfe] at eqn
    have esum := sum_ints μ ns 0
    rw [Int.zero_add] at esum
    have eV : sZ (d + 1) ps ns = (ns.any (λ n => n != 0) && (decide (ns.sum = 0) && (List.range d).all λ i => dot (wts (gw ps) ps ns) (col ps i) == 0)) := by
     unfold sZ
     rw [Dy G.rows hl']
     simp [hl']
    rw [eV]
    generalize (ns.map D.int).filter (λ d => !isInt d) = f1 at *
    generalize (ns.map D.int).filter (λ d => intOf d != 0) = f2 at *
    cases hA : ns.any (λ n => n != 0) with
    | false =>
     rw [hA] at eqn
     have eqn' : oEq (.lst f2) (.lst []) μ = some (.bl true, μ) := eqn
     have hnl : (ns.map D.int).length = ns.length := by simp
     generalize ns.map D.int = nD at *
     simp [cQ, elen, hnl, hlb, hz, cz, ef, hem, eg, eqn']
    | true =>
     rw [hA] at eqn
     have eqn' : oEq (.lst f2) (.lst []) μ = some (.bl false, μ) := eqn
     have hnl : (ns.map D.int).length = ns.length := by simp
     by_cases hs0 : ns.sum = 0
     .rw [decide_eq_true hs0, Bool.true_and, Bool.true_and]
      rw [hs0] at esum
      generalize hVV : ((List.range d).all λ i => dot (wts (gw ps) ps ns) (col ps i) == 0) = VV
      have ez := jJ (F := D.int) (G := aH) ns ps
      have hterm : ∀ (M : Int) (i : Nat), 1 <= M -> Sm 400 M -> i < d -> ∀ (μ : Mu), lcL ⟨(ns.zip ps).map (λ p => D.tup [.int p.1, aH p.2]), none⟩ (kW 2 (cB (hName 0) (cB (hName 1) kY))) bG (M2 (M2 (ak 0) (M2 (ak 1) (ak 2) oIx) bJ) (M2 (ak 3) (M2 (ak 1) (M1 (mC (.int 1)) ir) oIx) oDiv) bJ) [none, none, some (.int (0 + (i : Int))), some (.int M)] ((ns.zip ps).map (λ p => D.tup [.int p.1, aH p.2])) μ = some (((ns.zip ps).map λ p => p.1 * p.2.getD i 0 * M.fdiv (bL p.2)).map .int, μ) := λ M i hM hMs hi μ => by
       have e := eO (all := (ns.zip ps).map (λ p => D.tup [.int p.1, aH p.2])) (h := kW 2 (cB (hName 0) (cB (hName 1) kY))) (fe := M2 (M2 (ak 0) (M2 (ak 1) (ak 2) oIx) bJ) (M2 (ak 3) (M2 (ak 1) (M1 (mC (.int 1)) ir) oIx) oDiv) bJ) (δb := [none, none, some (.int (0 + (i : Int))), some (.int M)]) (F := λ p : Int × List Int => D.tup [.int p.1, aH p.2]) (f := λ p => .int (p.1 * p.2.getD i 0 * M.fdiv (bL p.2))) (μ := μ) (ns.zip ps) λ p hp => by
        obtain ⟨v, r⟩ := p
        have hm := List.of_mem_zip hp
        have hr := G.rows r hm.2
        have hlast := kZ hr (by omega)
        have hir : ((0 : Int) + (i : Int)) < r.length := by have := hr.len; omega
        obtain ⟨ai, him⟩ := iY (ys := r) (k := 0 + (i : Int)) (by omega) hir
        rw [show (0 + (i : Int)).toNat = i by omega] at ai him
        have hsj := hr.sm _ him
        have b1 := hr.b1
        have b2 := hr.b2
        refine ⟨[some (.int v), some (aH r), some (.int (0 + (i : Int))), some (.int M)], by simp, ?_⟩
        simp only
        generalize r.getD i 0 = rj at *
        have em1 := bz (x := v) (y := rj) μ (hsn v hm.1) (jc (b := 14) 10001 (by omega) (by decide)) (by decide)
        have ed := gP (x := M) (y := bL r) (b := 6) μ (by omega) (jc 64 (by omega) (by decide)) (by decide)
        have em2 := bz (x := v * rj) (y := M.fdiv (bL r)) μ (gO (hsn v hm.1) (jc (b := 14) 10001 (by omega) (by decide))) (rH hMs (by omega)) (by decide)
        generalize (0 + (i : Int)) = ij at *
        simp [ai, em1, hlast, ed, em2]
       rw [e, List.map_map]
       rfl
      obtain ⟨M1', M2', M3'⟩ := qC G.rows
      have hMs : Sm 400 (gw ps) := cW M3' (by omega)
      have eM : mX 1 (ps.map bL) = gw ps := rfl
      have hdot := λ i => Al (M := gw ps) (i := i) ps ns
      generalize hLM : gw ps = M at *
      have hzl : (ns.zip ps).length <= 1000 := by simp; omega
      have hnz : bV (.tup (ns.map D.int)) = some (ns.map D.int) := rfl
      have r0 : ∃ r0, atI (ps.map aH) 0 = some (aH r0) /\ r0 ∈ ps := by
       obtain ⟨x, y⟩ := nQ (F := aH) (l := ps) (k := 0) (z := []) (by decide) (by have := List.length_pos_iff.mpr G.ne; omega)
       exact ⟨_, x, y⟩
      obtain ⟨r0, a0, hr0⟩ := r0
      have hr0l := (G.rows r0 hr0).len
      generalize ns.map D.int = nD at *
      unfold cQ
      rw [Jm]
      have esrc : ∀ μ, srcOf (mz ps) μ = some ⟨ps.map aH, none⟩ := λ _ => rfl
      have efz : bV (mz ps) = some (ps.map aH) := rfl
      have eits : ∀ μ, bC (mz ps) μ = some (ps.map aH) := λ _ => rfl
      simp [elen, hnl, hlb, hz, cz, ef, hem, eg, eqn', esum, esrc]
      refine eG (λ its δ μ' => ∃ (xs : List (List Int)) (m : Int) (o3 : Option D) (k : Nat), its = xs.map aH /\ μ' = μ /\ mX m (xs.map bL) = M /\ 1 <= m /\ Sm k m /\ k + 6 * xs.length <= 700 /\ (∀ x ∈ xs, x ∈ ps) /\ δ = [some (mz ps), some (.tup nD), some (.int m), o3, none]) ?_ ?_ _ _ _ ⟨ps, 1, none, 1, rfl, rfl, eM, by decide, by unfold Sm; decide, by omega, λ x h => h, rfl⟩
      .rintro dd rest δ μ' ⟨xs, m, o3, k, hi, rfl, hlm, m1, hk, hkl, hsub, rfl⟩
       cases xs with
       | nil => cases hi
       | cons r xs =>
        cases hi
        have hrow := G.rows r (hsub r (List.mem_cons_self ..))
        rw [List.map_cons, Bt] at hlm
        have hlast := kZ hrow (by omega)
        have b1 := hrow.b1
        have b2 := hrow.b2
        generalize bL r = b at *
        obtain ⟨g1, g2, g3, g4⟩ := uY m1 b1
        obtain ⟨f1', f2', f3, f4⟩ := qZ m1 b1
        have eg' := h2 m b μ'
        simp only [List.length_cons] at hkl
        have em := bz (x := m) (y := b) μ' hk (jc (b := 6) 64 (by omega) (by decide)) (by omega)
        have ed := gP (x := m * b) (y := (Int.gcd m b : Int)) (b := 6) μ' (by omega) (jc 64 (by omega) (by decide)) (by decide)
        rw [f3] at ed
        have sb : Sm 6 (b.fdiv (Int.gcd m b)) := jc 64 (by omega) (by decide)
        generalize hm' : m * b.fdiv (Int.gcd m b) = m' at *
        simp [hlast, em, eg', ed]
        refine ⟨xs, rfl, m', hlm, ?_, _, k + 6, by rw [<- hm']; exact gO hk sb, by omega, λ x h => hsub _ (List.mem_cons_of_mem _ h), rfl, rfl⟩
        have := Int.mul_le_mul m1 f1' (by decide) (by omega)
        omega
      .rintro δ μ' ⟨xs, m, o3, k, hi, rfl, hlm, m1, hk, hkl, hsub, rfl⟩
       cases xs with
       | cons b ms => cases hi
       | nil =>
       have hlm : m = M := hlm
       subst hlm
       have it : bO (aa (M2 (MC (aa (M2 (ak 0) (mC (.int 0)) oIx) (aq)) (aR bx)) (mC (.int 1)) dF) (aq)) [some (mz ps), some (.tup nD), some (.int m), o3, none] μ' = some (⟨cU 0 d, none⟩, μ') := by
        have e1 : M2 (MC (aa (M2 (ak 0) (mC (.int 0)) oIx) (aq)) (aR bx)) (mC (.int 1)) dF [some (mz ps), some (.tup nD), some (.int m), o3, none] μ' = some (.int d, μ') := by
         have e2 : MC (aa (M2 (ak 0) (mC (.int 0)) oIx) (aq)) (aR bx) [some (mz ps), some (.tup nD), some (.int m), o3, none] μ' = some (.int (d + 1 : Nat), μ') := Em hr0l (by simp [eits, a0])
         generalize MC (aa (M2 (ak 0) (mC (.int 0)) oIx) (aq)) (aR bx) = F at e2 ⊢
         rw [Mz, e2]
         simp
        have := Cu (k := (d : Int)) (by omega) (by omega) e1
        rwa [show ((d : Int)).toNat = d by omega] at this
       generalize bO (aa (M2 (MC (aa (M2 (ak 0) (mC (.int 0)) oIx) (aq)) (aR bx)) (mC (.int 1)) dF) (aq)) = IT at it ⊢
       simp only [yP, Gb, Jm, Ob, it, Option.bind_some]
       refine eG (λ its δ μ1 => ∃ (j : Nat) (o4 : Option D), its = (cU 0 d).drop j /\ μ1 = μ' /\ (∀ i < j, i < d -> (dot (wts m ps ns) (col ps i) == 0) = true) /\ δ = [some (mz ps), some (.tup nD), some (.int m), o3, o4]) ?_ ?_ _ _ _ ⟨0, none, rfl, rfl, λ i h => by omega, rfl⟩
       .rintro it' rest δ μ1 ⟨j, o4, hi, rfl, hg, rfl⟩
        have hj : j < d := by
         by_cases h : j < d
         .exact h
         .rw [Gj (by omega)] at hi; cases hi
        rw [wI hj] at hi
        cases hi
        have et := hterm m j m1 hMs hj μ1
        have es := sum_ints μ1 ((ns.zip ps).map λ p => p.1 * p.2.getD j 0 * m.fdiv (bL p.2)) 0
        rw [hdot, Int.zero_add] at es
        generalize ((ns.zip ps).map λ p => p.1 * p.2.getD j 0 * m.fdiv (bL p.2)).map D.int = tD at *
        have hzl' : ((ns.zip ps).map λ p => D.tup [.int p.1, aH p.2]).length <= 1000 := by rw [List.length_map]; exact hzl
        generalize ((ns.zip ps).map λ p => D.tup [.int p.1, aH p.2]) = zD at *
        generalize hij : (0 + (j : Int)) = ij at *
        by_cases hd0 : dot (wts m ps ns) (col ps j) = 0
        .rw [hd0] at es
         simp [efz, ez, hzl', cz, et, es]
         refine ⟨j + 1, rfl, λ i h1 h2 => ?_⟩
         by_cases e : i = j
         .rw [e]; exact hd0
         .simpa using hg i (by omega) h2
        .have hVf : VV = false := by
          rw [<- hVV, List.all_eq_false]
          exact ⟨j, List.mem_range.mpr hj, by simpa using hd0⟩
         subst hVf
         have hdb : (dot (wts m ps ns) (col ps j) == 0) = false := by simpa using hd0
         generalize dot (wts m ps ns) (col ps j) = S at *
         simp [efz, ez, hzl', cz, et, es, hdb]
       .rintro δ μ1 ⟨j, o4, hi, rfl, hg, rfl⟩
        have hj : d <= j := by
         by_cases h : j < d
         .rw [wI h] at hi; cases hi
         .omega
        have hVt : VV = true := by
         rw [<- hVV, List.all_eq_true]
         intro i hi'
         exact hg i (by have := List.mem_range.mp hi'; omega) (List.mem_range.mp hi')
        subst hVt
        simp
     .rw [decide_eq_false hs0]
      have hsb : (ns.sum == 0) = false := by simpa using hs0
      generalize ns.map D.int = nD at *
      generalize ns.sum = S at *
      simp [cQ, elen, hnl, hlb, hz, cz, ef, hem, eg, eqn', esum, hsb]
  .have hlb : ((ds.length : Int) == (ps.length : Int)) = false := by
    have : (ds.length : Int) ≠ ps.length := by omega
    simpa using this
   have eV : zj (d + 1) ps (.tup ds) = false := by
    rw [oH]
    unfold sZ
    have : ((ds.map intOf).length == ps.length) = false := by simpa using hl
    rw [this]
    simp
   rw [eV]
   simp [cQ, elen, hlb]
 | _ => simp [cQ, zj]
theorem szl {n : Nat} (h : n <= 1000) : n <= sizeLine := Nat.le_trans h (by decide)
theorem wQ {φ : FF} (hφ : ou φ) (c : Int) (c0 : 0 <= c) (c1 : c < 100) (x : Int) (μ : Mu) : ∀ (js : List Int), (∀ j ∈ js, 0 <= j /\ j < 100) -> ∃ kz : List Int,
  nR ((js.map D.int).map (thG (hName 0) (MC (aa (ak 1) (aa (M2 (ak 0) (mC (.int c)) bf) (aq))) φ) [none, some (.int x)])) μ = some (kz, μ)
 | [], _ => ⟨[], rfl⟩
 | j :: js, hj => by
  obtain ⟨j0, j1⟩ := hj j (by simp)
  obtain ⟨r, er, _⟩ := hφ x (j + c) μ (by omega) (by omega)
  obtain ⟨kz, e⟩ := wQ hφ c c0 c1 x μ js λ i hi => hj i (by simp [hi])
  refine ⟨r :: kz, ?_⟩
  rw [List.map_cons, List.map_cons]
  have et : thG (hName 0) (MC (aa (ak 1) (aa (M2 (ak 0) (mC (.int c)) bf) (aq))) φ) [none, some (.int x)] (.int j) μ = some (.int r, μ) := by simp [thG, er]
  unfold nR
  rw [et]
  show Option.map (λ q => (r :: q.1, q.2)) (nR _ μ) = _
  rw [e]
  rfl
theorem wJ (kz : List Int) (js : List Int) : ∃ ts : List Int, mj kz (js.map .int) = ts.map .int /\ ts.Perm js := by
 refine ⟨(oY (λ i j => decide (kz.getD i 0 < kz.getD j 0)) js.length).map λ i => js.getD i 0, ?_, ?_⟩
 .unfold mj
  rw [List.length_map, List.map_map]
  apply List.map_congr_left
  intro i hi
  have hin : i < js.length := List.mem_range.mp ((pN _ _).mem_iff.mp hi)
  simp [List.getD, hin]
 .have h := (pN (λ i j => decide (kz.getD i 0 < kz.getD j 0)) js.length).map λ i => js.getD i 0
  rw [L2.range_getD] at h
  exact h
theorem Jz (n : Nat) : (List.replicate n [D.int 0]).flatten = fnL n λ _ => 0 := by
 unfold fnL
 induction n with
 | zero => rfl
 | succ n ih =>
  rw [List.replicate_succ, List.flatten_cons, ih, List.range_succ_eq_map]
  simp
def tM (many : Int) : List Int := (List.range many.toNat).map λ (k : Nat) => (0 + (k : Int))
theorem Km {many : Int} : cU 0 many.toNat = (tM many).map D.int := by unfold cU tM; rw [List.map_map]; rfl
theorem Ed {many : Int} : (tM many).length = many.toNat := by unfold tM; simp
theorem Ew {many : Int} : ∀ j ∈ tM many, 0 <= j /\ j < many := λ j hj => by
 obtain ⟨k, hk, rfl⟩ := List.mem_map.mp hj
 have := List.mem_range.mp hk
 omega
def xW (φ : FF) : Prop := ∀ (L : List Int) (many size : Int), DlD L -> 1 <= many -> many <= 40 -> 1 <= size -> size <= many -> ∃ (ts : List Int) (L' : List Int), φ [.cell 0, .int many, .int size] [some (L.map .int)] = some (.lst (ts.map .int), [some (L'.map .int)]) /\ DlD L' /\ ts.length = size.toNat /\ ∀ t ∈ ts, 0 <= t /\ t < many
theorem some_of {φ1 φ2 : FF} (h1 : iD φ1) (h2 : ou φ2) : xW (trunc (aF 4 (kE φ1 φ2))) := λ L many size hL m1 m2 s1 s2 => by
 obtain ⟨x, L1, e1, hx, hL1⟩ := dW h1 hL []
 obtain ⟨kz, e2⟩ := wQ h2 5 (by decide) (by decide) x [some (L1.map .int)] (tM many) λ j hj => by have := Ew j hj; omega
 obtain ⟨ts, e3, hp⟩ := wJ kz (tM many)
 have hlen : ts.length = (tM many).length := hp.length_eq
 have es := Mm (ds := ts.map D.int) (i := size) (μ := [some (L1.map .int)]) (by omega)
 rw [<- List.map_take] at es
 have rl := Nv (j := many) (μ := [some (L1.map .int)]) (by omega) (szl (by omega)) (by omega)
 rw [Km] at rl
 refine ⟨ts.take size.toNat, L1, ?_, hL1, by rw [List.length_take, hlen, Ed]; omega, λ t ht => Ew t (hp.mem_iff.mp (List.mem_of_mem_take ht))⟩
 have hjl : ((tM many).map D.int).length < 64 := by rw [List.length_map, Ed]; omega
 generalize (ts.take size.toNat).map D.int = TK at *
 generalize ts.map D.int = TD at *
 generalize (tM many).map D.int = JD at *
 have key : Ok (aF 4 (kE φ1 φ2) [.cell 0, .int many, .int size] [some (L.map .int)]) (λ r => r = (.lst TK, [some (L1.map .int)])) := by
  apply fY
  unfold kE
  simp [e1, rl, hjl, cz, e2, e3, es]
 exact jd (xX key) rfl
def ur (n : Nat) (φ : FF) : Prop := ∀ (rs : List (List Int)) (μ : Mu), rs.length = n -> (∀ r ∈ rs, r.length = n /\ ∀ x ∈ r, Sm 14 x) -> ∃ v, φ [.lst (rs.map aH)] μ = some (.int v, μ) /\ Sm (20 * n + 2) v
theorem uE : ∀ qs : List (List Int), dg (qs.map aH) = true /\ gW (qs.map aH) <= 1
 | [] => ⟨by simp [dg], by simp [gW]⟩
 | q :: qs => by
  obtain ⟨a, b⟩ := uE qs
  refine ⟨?_, ?_⟩
  .rw [List.map_cons, dg, a]; unfold aH; rw [cJ, jQ]; rfl
  .rw [List.map_cons, gW]; unfold aH at *; rw [ie, lG]; omega
theorem det0 (φ : FF) : ur 0 (trunc (aF 5 (jD φ))) := λ rs μ hl _ => by
 have : rs = [] := List.eq_nil_of_length_eq_zero hl
 subst this
 refine ⟨1, dR ?_, by unfold Sm; decide⟩
 have e := vG (ps := []) (μ := μ) (by rw [dg]) (by rw [gW]; decide)
 simp [jD, e]
theorem ug {r : List Int} {k : Nat} (h : k < r.length) : fO k ((r.drop k).map D.int) = .tup [.int (k : Int), .int (r.getD k 0)] :: fO (k + 1) ((r.drop (k + 1)).map D.int) := by
 rw [List.drop_eq_getElem_cons h, List.map_cons]
 have : r.getD k 0 = r[k] := by simp [List.getD, h]
 rw [this]
 rfl
theorem Hb {r : List Int} {k : Int} {μ : Mu} (h0 : 0 <= k) (h1 : k < r.length) : oSl (aH r) none (some k) μ = some (aH (r.take k.toNat), μ) /\ oSl (aH r) (some (k + 1)) none μ = some (aH (r.drop (k.toNat + 1)), μ) := by
 have e1 := Jj (ds := r.map D.int) (i := k) (μ := μ) h0 (by simpa using h1)
 have e2 := Am (ds := r.map D.int) (i := k + 1) (μ := μ) (by omega) (by simp; omega)
 rw [show (k + 1).toNat = k.toNat + 1 by omega] at e2
 rw [<- List.map_take] at e1
 rw [<- List.map_drop] at e2
 exact ⟨e1, e2⟩
theorem De {n : Nat} {φ : FF} (hn : n <= 4) (hφ : ur n φ) : ur (n + 1) (trunc (aF 5 (jD φ))) := λ rs μ hl hr => by
 suffices h : Ok (aF 5 (jD φ) [.lst (rs.map aH)] μ) (λ q => ∃ v, q = (.int v, μ) /\ Sm (20 * (n + 1) + 2) v) by
  obtain ⟨q, e, v, h1, h2⟩ := h
  have h1 : q = (.int v, μ) := h1
  rw [h1] at e
  exact ⟨v, gF e, h2⟩
 apply fY
 cases rs with
 | nil => simp at hl
 | cons r0 rest =>
  have hrl : rest.length = n := by simpa using hl
  obtain ⟨h0l, h0s⟩ := hr r0 (by simp)
  obtain ⟨pu, pd⟩ := uE (r0 :: rest)
  have e0 := vG (μ := μ) pu (by omega)
  have e0' : oEq (.lst ((r0 :: rest).map aH)) (.lst []) μ = some (.bl false, μ) := e0
  have a0 : atI ((r0 :: rest).map aH) 0 = some (aH r0) := by unfold atI ixN; simp
  have s1 := Dk (ds := (r0 :: rest).map aH) (i := 1) (μ := μ) (by decide)
  have s1' : oSl (.lst ((r0 :: rest).map aH)) (some 1) none μ = some (.lst (rest.map aH), μ) := s1
  have efz : bV (aH r0) = some (r0.map .int) := rfl
  generalize (r0 :: rest).map aH = RS at *
  unfold jD
  simp [e0', a0, efz]
  refine eG (λ its δ μ' => ∃ (k : Nat) (f : Int) (o2 o3 o4 : Option D), its = fO k ((r0.drop k).map D.int) /\ μ' = μ /\ k <= r0.length /\ f.natAbs <= k * 2 ^ (20 * n + 17) /\ δ = [some (.lst RS), some (.int f), o2, o3, o4]) ?_ ?_ _ _ _ ⟨0, 0, none, none, none, rfl, rfl, by omega, by simp, rfl⟩
  .rintro it its δ μ' ⟨k, f, o2, o3, o4, hi, rfl, hkl, hf, rfl⟩
   have hk : k < r0.length := by
    by_cases h : k < r0.length
    .exact h
    .rw [List.drop_of_length_le (by omega)] at hi; cases hi
   rw [ug hk] at hi
   cases hi
   have hx : Sm 14 (r0.getD k 0) := by
    have : r0.getD k 0 = r0[k] := by simp [List.getD, hk]
    rw [this]; exact h0s _ (List.getElem_mem hk)
   obtain ⟨j0, j1⟩ := aU (x := (k : Int)) (m := 2) (by decide)
   obtain ⟨sg, hsg, esg⟩ := lY (ds := [D.int 1, .int (-1)]) j0 j1
   have hsg : ∃ z : Int, sg = .int z /\ z.natAbs <= 1 := by
    simp only [List.mem_cons, List.not_mem_nil, or_false] at hsg
    rcases hsg with rfl | rfl <;> exact ⟨_, rfl, by decide⟩
   obtain ⟨sg, rfl, sg1⟩ := hsg
   have el := eO (all := rest.map aH) (h := hName 0) (fe := M2 (mSl (ak 0) (fNo) (fAt (ak 1))) (mSl (ak 0) (fAt (M2 (ak 1) (mC (.int 1)) bf)) (fNo)) bf) (δb := [none, some (.int (k : Int))]) (F := aH) (f := λ r => aH (r.take k ++ r.drop (k + 1))) (μ := μ') rest λ r hrm => by
    have hrl' := (hr r (by simp [hrm])).1
    obtain ⟨c1, c2⟩ := Hb (r := r) (k := (k : Int)) (μ := μ') (by omega) (by omega)
    rw [show ((k : Int)).toNat = k by omega] at c1 c2
    refine ⟨_, rfl, ?_⟩
    have ea : bf (aH (r.take k)) (aH (r.drop (k + 1))) μ' = some (aH (r.take k ++ r.drop (k + 1)), μ') := by
     show (if ((r.take k).map D.int).length + ((r.drop (k + 1)).map D.int).length <= sizeLine then some (D.tup ((r.take k).map D.int ++ (r.drop (k + 1)).map D.int), μ') else none) = _
     rw [if_pos (Nat.le_trans (by simp; omega : _ <= 1000) (by decide)), <- List.map_append]
     rfl
    generalize aH (r.take k) = A at *
    generalize aH (r.drop (k + 1)) = B at *
    generalize (k : Int) = kk at *
    simp [c1, c2, ea]
   have el' : rest.map (λ r => aH (r.take k ++ r.drop (k + 1))) = (rest.map λ r => r.take k ++ r.drop (k + 1)).map aH := by simp
   rw [el'] at el
   obtain ⟨v, ev, hv⟩ := hφ (rest.map λ r => r.take k ++ r.drop (k + 1)) μ' (by simp [hrl]) λ r hr' => by
    obtain ⟨q, hq, rfl⟩ := List.mem_map.mp hr'
    obtain ⟨ql, qs⟩ := hr q (by simp [hq])
    refine ⟨by simp; omega, λ x hx' => ?_⟩
    rcases List.mem_append.mp hx' with z | z
    .exact qs x (List.mem_of_mem_take z)
    .exact qs x (List.mem_of_mem_drop z)
   generalize (rest.map λ r => r.take k ++ r.drop (k + 1)).map aH = QS at *
   have hrz : (rest.map aH).length <= 1000 := by simp; omega
   generalize rest.map aH = RT at *
   generalize r0.getD k 0 = x at *
   have m1 := bz (x := sg) (y := x) μ' (show Sm 1 sg by unfold Sm; omega) hx (by decide)
   have m2 := bz (x := sg * x) (y := v) μ' (gO (show Sm 1 sg by unfold Sm; omega) hx) hv (by omega)
   have hb : (sg * x * v).natAbs <= 2 ^ (20 * n + 17) := by
    have := gO (gO (show Sm 1 sg by unfold Sm; omega) hx) hv
    unfold Sm at this
    rw [show 1 + 14 + (20 * n + 2) = 20 * n + 17 by omega] at this
    omega
   have hfin : (f + sg * x * v).natAbs <= (k + 1) * 2 ^ (20 * n + 17) := by
    rw [Nat.succ_mul]
    have := Int.natAbs_add_le f (sg * x * v)
    omega
   generalize hkk : (k : Int) = kk at *
   simp [s1', hrz, cz, el, esg, m1, ev, m2]
   exact ⟨k + 1, rfl, by omega, by simpa using hfin⟩
  .rintro δ μ' ⟨k, f, o2, o3, o4, hi, rfl, hkl, hf, rfl⟩
   have hk : ¬ k < r0.length := λ h => by rw [ug h] at hi; cases hi
   simp
   have hb : f.natAbs < 2 ^ (20 * (n + 1) + 2) := by
    have h1 : k * 2 ^ (20 * n + 17) <= 5 * 2 ^ (20 * n + 17) := Nat.mul_le_mul_right _ (by omega)
    have h2 : 5 * 2 ^ (20 * n + 17) < 2 ^ 5 * 2 ^ (20 * n + 17) := Nat.mul_lt_mul_of_pos_right (by decide) (Nat.two_pow_pos _)
    rw [<- Nat.pow_add, show 5 + (20 * n + 17) = 20 * (n + 1) + 2 by omega] at h2
    omega
   exact hb
theorem Ac : ∀ (k n : Nat), n < k -> n <= 5 -> ur n (Kw k λ φ => trunc (aF 5 (jD φ)))
 | 0, n, h, _ => by omega
 | k + 1, 0, _, _ => det0 _
 | k + 1, n + 1, h, h5 => De (by omega) (Ac k n (by omega) (by omega))
def Ln : D -> D
 | .tup [_, x] => x
 | _ => .non
def yJ : D -> Int
 | .tup [.int j, _] => j
 | _ => 0
theorem wU (k : Nat) : ∀ (ps : List (List Int)) (s : Nat), ∃ qs : List (List Int), ((fO s (ps.map aH)).filter (λ d => yJ d != (k : Int))).map Ln = qs.map aH /\ (∀ q ∈ qs, q ∈ ps) /\ qs.length = ps.length - (if s <= k /\ k < s + ps.length then 1 else 0)
 | [], s => ⟨[], rfl, by simp, by simp⟩
 | p :: ps, s => by
  obtain ⟨qs, e, hq, hl⟩ := wU k ps (s + 1)
  have e1 : fO s ((p :: ps).map aH) = .tup [.int (s : Int), aH p] :: fO (s + 1) (ps.map aH) := rfl
  rw [e1, List.filter_cons]
  by_cases h : s = k
  .have hb : (yJ (.tup [.int (s : Int), aH p]) != (k : Int)) = false := by simp [yJ, h]
   rw [hb]
   refine ⟨qs, by simpa using e, λ q hq' => List.mem_cons_of_mem _ (hq q hq'), ?_⟩
   rw [hl, if_neg (by omega), if_pos (by simp; omega)]
   simp
  .have hb : (yJ (.tup [.int (s : Int), aH p]) != (k : Int)) = true := by simp [yJ]; omega
   rw [hb]
   refine ⟨p :: qs, ?_, λ q hq' => ?_, ?_⟩
   .simp only [if_true, List.map_cons, e]
    rfl
   .rcases List.mem_cons.mp hq' with z | z
    .rw [z]; simp
    .exact List.mem_cons_of_mem _ (hq q z)
   .simp only [List.length_cons, hl]
    by_cases c : s + 1 <= k /\ k < s + 1 + ps.length
    .rw [if_pos c, if_pos (by omega)]; omega
    .rw [if_neg c, if_neg (by omega)]; omega
theorem qQ {ps : List (List Int)} {k : Nat} (h : k < ps.length) : fO k ((ps.drop k).map aH) = .tup [.int (k : Int), aH (ps.getD k [])] :: fO (k + 1) ((ps.drop (k + 1)).map aH) := by
 rw [List.drop_eq_getElem_cons h, List.map_cons]
 have : ps.getD k [] = ps[k] := by simp [List.getD, h]
 rw [this]
 rfl
theorem Bd {φ : FF} (hdet : ∀ n, n <= 4 -> ur n φ) (d : Nat) (ps : List (List Int)) (μ : Mu) (hm : gY μ) (d1 : 1 <= d) (d3 : d <= 3) (hl : ps.length = d + 2) (hp : ∀ p ∈ ps, gm (d + 1) p) : ∃ ns : List Int, trunc (aF 5 (iw φ)) [.lst (ps.map aH)] μ = some (aH ns, μ) /\ ns.length = d + 2 /\ ∀ n ∈ ns, Sm 200 n := by
 have key : ∃ t, trunc (aF 5 (iw φ)) [.lst (ps.map aH)] μ = some (t, μ) /\ ∃ ns : List Int, t = aH ns /\ ns.length = d + 2 /\ ∀ n ∈ ns, Sm 200 n := by
  apply vM hm
  apply fY
  unfold iw
  simp
  refine eG (λ its δ μ' => ∃ (k : Nat) (acc : List Int) (o2 o3 o4 : Option D), its = fO k ((ps.drop k).map aH) /\ μ' = μ ++ [some (acc.map .int)] /\ k <= ps.length /\ acc.length = k /\ (∀ n ∈ acc, Sm 200 n) /\ δ = [some (.lst (ps.map aH)), some (.cell μ.length), o2, o3, o4]) ?_ ?_ _ _ _ ⟨0, [], none, none, none, rfl, rfl, by omega, rfl, by simp, rfl⟩
  .rintro it its δ μ' ⟨k, acc, o2, o3, o4, hi, rfl, hkl, hal, hac, rfl⟩
   have hk : k < ps.length := by
    by_cases h : k < ps.length
    .exact h
    .rw [List.drop_of_length_le (by omega)] at hi; cases hi
   rw [qQ hk] at hi
   cases hi
   have hr : gm (d + 1) (ps.getD k []) := by
    have : ps.getD k [] = ps[k] := by simp [List.getD, hk]
    rw [this]; exact hp _ (List.getElem_mem hk)
   have hlast := kZ hr (by omega)
   have b1 := hr.b1
   have b2 := hr.b2
   obtain ⟨qs, eq, hqm, hql⟩ := wU k ps 0
   rw [if_pos (by omega)] at hql
   have ef := jj (all := fO 0 (ps.map aH)) (h := kW 2 (cB (hName 0) (cB (hName 1) kY))) (tt := toB (M2 (ak 0) (ak 2) oNe)) (fe := ak 1) (δb := [none, none, some (.int (k : Int))]) (p := λ d => yJ d != (k : Int)) (f := Ln) (μ := μ ++ [some (acc.map .int)]) (fO 0 (ps.map aH)) λ x hx => by
    obtain ⟨i, hi', e⟩ := List.getElem_of_mem hx
    obtain ⟨y, ey, _⟩ := pO (List.getElem?_eq_some_iff.mpr ⟨hi', e⟩)
    subst ey
    generalize (k : Int) = kk
    refine ⟨[some (.int ((0 + i : Nat) : Int)), some y, some (.int kk)], by simp, ?_, λ _ => by simp [Ln]⟩
    simp [yJ, bne]
   rw [eq] at ef
   obtain ⟨v, ev, hv⟩ := hdet (d + 1) (by omega) qs (μ ++ [some (acc.map .int)]) (by omega) λ r hr' => by
    have := hp r (hqm r hr')
    exact ⟨this.len, λ x hx => jc 10001 (by have := this.sm x hx; omega) (by decide)⟩
   obtain ⟨j0, j1⟩ := aU (x := (k : Int)) (m := 2) (by decide)
   obtain ⟨sg, hsg, esg⟩ := lY (ds := [D.int 1, .int (-1)]) j0 j1
   have hsg : ∃ z : Int, sg = .int z /\ z.natAbs <= 1 := by
    simp only [List.mem_cons, List.not_mem_nil, or_false] at hsg
    rcases hsg with rfl | rfl <;> exact ⟨_, rfl, by decide⟩
   obtain ⟨sg, rfl, sg1⟩ := hsg
   have m1 := bz (x := sg) (y := v) (μ ++ [some (acc.map .int)]) (show Sm 1 sg by unfold Sm; omega) hv (by omega)
   have m2 := bz (x := sg * v) (y := bL (ps.getD k [])) (μ ++ [some (acc.map .int)]) (gO (show Sm 1 sg by unfold Sm; omega) hv) (jc (b := 6) 64 (by omega) (by decide)) (by omega)
   have hb : Sm 200 (sg * v * bL (ps.getD k [])) := cW (gO (gO (show Sm 1 sg by unfold Sm; omega) hv) (jc (b := 6) 64 (by omega) (by decide))) (by omega)
   have hz : acc.length < sizeLine := Nat.lt_of_lt_of_le (by omega : acc.length < 1000) (by decide)
   have hez : (fO 0 (ps.map aH)).length <= 1000 := by rw [pI]; simp; omega
   generalize qs.map aH = QD at *
   generalize bL (ps.getD k []) = lb at *
   generalize hkk : (k : Int) = kk at *
   generalize ps.getD k [] = pk at *
   simp [hez, cz, ef, esg, ev, m1, hlast, m2, fZ, fu, hz]
   refine ⟨k + 1, rfl, acc ++ [sg * v * lb], by simp, by omega, by simp [hal], λ n hn => ?_⟩
   rcases List.mem_append.mp hn with z | z
   .exact hac n z
   .rw [List.mem_singleton.mp z]; exact hb
  .rintro δ μ' ⟨k, acc, o2, o3, o4, hi, rfl, hkl, hal, hac, rfl⟩
   have hk : ¬ k < ps.length := λ h => by rw [qQ h] at hi; cases hi
   simp
   exact ⟨mV.mpr jy, acc, rfl, by omega, hac⟩
 obtain ⟨t, e, ns, rfl, h⟩ := key
 exact ⟨ns, e, h⟩
def xV (d : Nat) (φ : FF) : Prop := ∀ (ps : List (List Int)) (μ : Mu), gY μ -> ps.length = d + 2 -> (∀ p ∈ ps, gm (d + 1) p) -> ∃ ns : List Int, φ [.lst (ps.map aH)] μ = some (aH ns, μ) /\ ns.length = d + 2 /\ ∀ n ∈ ns, Sm 200 n
theorem JP {μ : Mu} {ds : List D} (h : gY μ) (hd : ∀ d ∈ ds, nc d) : gY (μ ++ [some ds]) := λ es he => by
 rcases List.mem_append.mp he with z | z
 .exact h es z
 .rw [List.mem_singleton] at z
  cases z
  exact hd
theorem Dt {F G : EF} {δ : En} {μ : Mu} {k : Int} (e3 : G δ μ = some (.lst [.int 0], μ)) (e2 : F δ μ = some (.int k, μ)) (h0 : 0 <= k) (h1 : k <= 1000) : Ay G F δ μ = some ((List.replicate k.toNat (0 : Int)).map D.int, μ) := by
 have hrep : (if -(2 ^ 63) <= k /\ k < 2 ^ 63 /\ [D.int 0].length * k.toNat <= sizeLine then some ((List.replicate k.toNat [D.int 0]).flatten, μ) else none) = some ((List.replicate k.toNat (0 : Int)).map D.int, μ) := by
  rw [if_pos ⟨by omega, by omega, Nat.le_trans (by simp only [List.length_cons, List.length_nil]; omega : _ <= 1000) (by decide)⟩, Jz]
  unfold fnL
  simp [List.map_const']
 unfold Ay
 rw [e3]
 simp only [Option.bind_some]
 rw [e2]
 exact hrep
theorem uJ {φ : FF} {d : Nat} (hφ : xV d φ) (ps : List (List Int)) (js : List Int) (μ : Mu) (hm : gY μ) (hl : ps.length <= 40) (hp : ∀ p ∈ ps, gm (d + 1) p) (hjl : js.length = d + 2) (hd : d <= 3) (hj : ∀ j ∈ js, 0 <= j /\ j < ps.length) :
  ∃ ns : List Int, trunc (aF 5 (il φ)) [.lst (ps.map aH), .lst (js.map .int)] μ = some (aH ns, μ) /\ ns.length = ps.length /\ ∀ n ∈ ns, Sm 200 n := by
 have key : ∃ t, trunc (aF 5 (il φ)) [.lst (ps.map aH), .lst (js.map .int)] μ = some (t, μ) /\ ∃ ns : List Int, t = aH ns /\ ns.length = ps.length /\ ∀ n ∈ ns, Sm 200 n := by
  apply vM hm
  apply fY
  unfold il
  obtain ⟨many, hmany⟩ : ∃ z : Int, z = ps.length := ⟨_, rfl⟩
  have e2 : MC (aa (ak 0) (aq)) (aR bx) [some (.lst (ps.map aH)), some (.lst (js.map .int)), none, none, none] μ = some (.int many, μ) := by
   rw [Lw, vh]
   simp only [Mt, Option.bind_some, zV, Jd, jV, List.length_map, hmany]
  have e3 : MC (aa (mC (.int 0)) (aq)) oLst [some (.lst (ps.map aH)), some (.lst (js.map .int)), none, none, none] μ = some (.lst [.int 0], μ) := by simp
  have eL := Dt e3 e2 (by omega) (by omega)
  rw [show many.toNat = ps.length by omega] at eL
  clear e2 e3
  generalize Ay (MC (aa (mC (.int 0)) (aq)) oLst) (MC (aa (ak 0) (aq)) (aR bx)) = LR at eL ⊢
  have e1 := eO (all := js.map D.int) (h := hName 0) (fe := M2 (ak 1) (ak 0) oIx) (δb := [none, some (.lst (ps.map aH))]) (F := D.int) (f := λ j => aH (ps.getD j.toNat [])) (μ := μ ++ [some ((List.replicate ps.length (0 : Int)).map D.int)]) js λ j hjm => by
   obtain ⟨j0, j1⟩ := hj j hjm
   refine ⟨[some (.int j), some (.lst (ps.map aH))], by simp, ?_⟩
   have := (nQ (F := aH) (l := ps) (k := j) (z := []) j0 j1).1
   generalize ps.getD j.toNat [] = r at *
   simp [this]
  have e1' : js.map (λ j => aH (ps.getD j.toNat [])) = (js.map λ j => ps.getD j.toNat []).map aH := by simp
  rw [e1'] at e1
  obtain ⟨ms, e2, hml, hms⟩ := hφ (js.map λ j => ps.getD j.toNat []) (μ ++ [some ((List.replicate ps.length (0 : Int)).map D.int)]) (JP hm jy) (by simpa using hjl) λ p hpm => by
   obtain ⟨j, hjm, rfl⟩ := List.mem_map.mp hpm
   obtain ⟨j0, j1⟩ := hj j hjm
   exact hp _ (nQ (F := aH) (l := ps) (k := j) (z := []) j0 j1).2
  have hz : js.length <= 1000 := by omega
  have hjl' : (js.map D.int).length <= 1000 := by simpa using hz
  have ez := jJ (F := D.int) (G := D.int) js ms
  have hzl : ∀ p ∈ js.zip ms, (0 <= p.1 /\ p.1 < ps.length) /\ Sm 200 p.2 := λ p hpm => ⟨hj _ (List.of_mem_zip (a := p.1) (b := p.2) hpm).1, hms _ (List.of_mem_zip (a := p.1) (b := p.2) hpm).2⟩
  generalize (js.map λ j => ps.getD j.toNat []).map aH = QD at *
  generalize js.zip ms = zs at *
  have fzm : bV (aH ms) = some (ms.map .int) := rfl
  have fzj : bV (.lst (js.map D.int)) = some (js.map .int) := rfl
  generalize aH ms = MD at *
  generalize hZ : (List.replicate ps.length (0 : Int)).map D.int = Z0 at *
  simp [eL, hz, cz, e1, e2, fzm, ez]
  refine eG (λ its δ μ' => ∃ (xs : List (Int × Int)) (vs : List Int) (o3 o4 : Option D), its = xs.map (λ p => D.tup [.int p.1, .int p.2]) /\ (∀ p ∈ xs, (0 <= p.1 /\ p.1 < ps.length) /\ Sm 200 p.2) /\ vs.length = ps.length /\ (∀ v ∈ vs, Sm 200 v) /\ μ' = μ ++ [some (vs.map .int)] /\ δ = [some (.lst (ps.map aH)), some (.lst (js.map .int)), some (.cell μ.length), o3, o4]) ?_ ?_ _ _ _ ⟨zs, List.replicate ps.length 0, none, none, rfl, hzl, by simp, λ v hv => by rw [List.eq_of_mem_replicate hv]; exact cW (show Sm 1 0 by unfold Sm; decide) (by decide), by rw [hZ], rfl⟩
  .rintro it rest δ μ' ⟨xs, vs, o3, o4, hi, hx, hvl, hvs, rfl, rfl⟩
   cases xs with
   | nil => cases hi
   | cons x xs =>
    obtain ⟨k, s⟩ := x
    cases hi
    obtain ⟨⟨k0, k1⟩, hs⟩ := hx (k, s) (List.mem_cons_self ..)
    simp only at k0 k1 hs
    have hix : ixN vs.length k = some k.toNat := by unfold ixN; rw [if_pos k0, if_pos (by omega)]
    have hset : (vs.map D.int).set k.toNat (.int s) = (vs.set k.toNat s).map D.int := by rw [List.map_set]
    have hput : L3.wy (.int s) (.cell μ.length) (.int k) (μ ++ [some (vs.map .int)]) = some (μ ++ [some ((vs.set k.toNat s).map .int)]) := by
     have hix' : ixN (vs.map D.int).length k = some k.toNat := by rw [List.length_map]; exact hix
     generalize (vs.set k.toNat s).map D.int = VD at *
     generalize vs.map D.int = VL at *
     unfold L3.wy
     simp [hix', hset]
    clear hset
    generalize hVD : (vs.set k.toNat s).map D.int = VD at hput ⊢
    simp [hput]
    refine ⟨xs, rfl, λ a b h => hx (a, b) (List.mem_cons_of_mem _ h), vs.set k.toNat s, by simp [hvl], λ v hv => ?_, hVD.symm⟩
    rcases List.mem_or_eq_of_mem_set hv with z | z
    .exact hvs v z
    .rw [z]; exact hs
  .rintro δ μ' ⟨xs, vs, o3, o4, hi, hx, hvl, hvs, rfl, rfl⟩
   simp
   exact ⟨mV.mpr jy, vs, rfl, hvl, hvs⟩
 obtain ⟨t, e, ns, rfl, h⟩ := key
 exact ⟨ns, e, h⟩
theorem rJ {d : Nat} : ∀ (ps0 : List D), (∀ p ∈ ps0, mD d p) -> ∃ ps : List (List Int), ps0 = ps.map aH /\ ∀ p ∈ ps, gm (d + 1) p
 | [], _ => ⟨[], rfl, by simp⟩
 | p :: ps0, h => by
  obtain ⟨ps, e, hp⟩ := rJ ps0 λ q hq => h q (by simp [hq])
  obtain ⟨ns, b, rfl, h1, h2⟩ := h p (by simp)
  refine ⟨(ns ++ [b]) :: ps, by rw [e]; rfl, λ q hq => ?_⟩
  rcases List.mem_cons.mp hq with z | z
  .rw [z]; exact PtL.row h1
  .exact hp q z
def pA (φ : FF) : Prop := ∀ (d most : Int), 1 <= d -> d <= 3 -> 0 <= most -> most <= 40 -> ∀ (L : List Int), DlD L -> ∃ (ps : List (List Int)) (L' : List Int), φ [.cell 0, .int d, .int most] [some (L.map .int)] = some (.lst (ps.map aH), [some (L'.map .int)]) /\ DlD L' /\ ps ≠ [] /\ ps.length <= 40 /\ ∀ p ∈ ps, gm (d.toNat + 1) p
theorem Cd {φ1 φ2 φ3 : FF} (h1 : nM φ1) (h2 : iD φ2) (h3 : nH φ3) {g : SF}
  (k1 : ∀ (a b c p : D) (μ μ1 μ2 μ3 : Mu), φ1 [a, b, c] μ = some (.lst [], μ1) -> oEq (.lst []) (.lst []) μ1 = some (.bl true, μ1) -> ∀ x : Int, φ2 [a] μ1 = some (.int x, μ2) -> φ3 [.int x, b, .int 2, .int 0] μ2 = some (p, μ2) -> Ok (aF 4 g [a, b, c] μ) (λ r => r = (.lst [p], μ2)))
  (k2 : ∀ (a b c p : D) (ps : List D) (μ μ1 : Mu), φ1 [a, b, c] μ = some (.lst (p :: ps), μ1) -> oEq (.lst (p :: ps)) (.lst []) μ1 = some (.bl false, μ1) -> Ok (aF 4 g [a, b, c] μ) (λ r => r = (.lst (p :: ps), μ1))) : pA (trunc (aF 4 g)) := λ d most d1 d3 m0 m40 L hL => by
 obtain ⟨ps0, L1, e0, hL1, hl, hp⟩ := h1 L [] d most hL gY.nil d1 d3 m0 m40
 obtain ⟨p1, p2⟩ := vz hp
 have en := vG (ps := ps0) (μ := [some (L1.map .int)]) p1 (by omega)
 cases ps0 with
 | nil =>
  obtain ⟨x, L2, e1, hx, hL2⟩ := dW h2 hL1 []
  obtain ⟨p, e2, hpt⟩ := h3 x d 2 0 [some (L2.map .int)] gY.nil.dr hx d1 d3 (by decide) (by decide) (by decide) (by decide)
  obtain ⟨ps, e, hq⟩ := rJ [p] λ q hq => by rw [List.mem_singleton.mp hq]; exact hpt
  have hps : ps.length = 1 := by
   have := congrArg List.length e
   simpa using this.symm
  refine ⟨ps, L2, ?_, hL2, λ z => by rw [z] at hps; simp at hps, by omega, hq⟩
  rw [<- e]
  exact jd (xX (k1 _ _ _ p _ _ _ [] e0 en x e1 e2)) rfl
 | cons p ps0 =>
  obtain ⟨ps, e, hq⟩ := rJ (p :: ps0) hp
  have hps : ps.length = (p :: ps0).length := by rw [e]; simp
  refine ⟨ps, L1, ?_, hL1, λ z => by rw [z] at hps; simp at hps, by omega, hq⟩
  rw [<- e]
  exact jd (xX (k2 _ _ _ p ps0 _ _ e0 en)) rfl
theorem HJ {φ1 φ2 φ3 : FF} (h1 : nM φ1) (h2 : iD φ2) (h3 : nH φ3) : pA (trunc (aF 4 (dG φ1 φ2 φ3))) := by
 refine Cd h1 h2 h3 (λ a b c p μ μ1 μ2 μ3 e0 en x e1 e2 => ?_) λ a b c p ps μ μ1 e0 en => ?_
 .apply fY
  unfold dG
  simp [e0, en, e1, e2]
 .apply fY
  unfold dG
  simp [e0, en]
def wB (φ : FF) : Prop := ∀ (ns : List Int) (μ : Mu), ns.length <= 60 -> (∀ n ∈ ns, Sm 300 n) -> (∃ n ∈ ns, n ≠ 0) -> ∃ ms : List Int, φ [aH ns] μ = some (aH ms, μ) /\ ms.length = ns.length /\ ∀ m ∈ ms, Sm 300 m
theorem um (ns : List Int) (μ : Mu) (all : List D) : lcL ⟨all, none⟩ (hName 0) (toB (M2 (ak 0) (mC (.int 0)) oNe)) (ak 0) [none] (ns.map D.int) μ = some ((ns.filter (λ n => n != 0)).map D.int, μ) := by
 rw [jj (p := λ d => intOf d != 0) (f := λ d => d) (ns.map D.int) λ d hd => by
  obtain ⟨n, _, rfl⟩ := List.mem_map.mp hd
  exact ⟨[some (.int n)], by simp, by simp [intOf, bne], λ _ => by simp⟩]
 rw [List.filter_map, List.map_map]
 rfl
theorem Ae {φ : FF} (hφ : mQ φ) (x : D) (all : List D) : ∀ (ns : List Int) (g : Nat) (o : Option D) (μ : Mu), ∃ o',
  forL ⟨all, none⟩ (hName 2) (aY 1 (MC (aa (ak 1) (aa (ak 2) (aq))) φ)) (ns.map D.int) [some x, some (.int g), o] μ = some (.nx, [some x, some (.int (bN g ns : Nat)), o'], μ)
 | [], g, o, μ => ⟨o, by unfold forL; simp [bK, bN]⟩
 | n :: ns, g, o, μ => by
  obtain ⟨o', e⟩ := Ae hφ x all ns (Int.gcd g n) (some (.int n)) μ
  refine ⟨o', ?_⟩
  rw [List.map_cons]
  unfold forL
  have h2 : bN g (n :: ns) = bN (Int.gcd g n) ns := rfl
  simp [bK, hφ g n, e, h2]
theorem yG {φ : FF} (hφ : mQ φ) : wB (trunc (aF 3 (dI φ))) := λ ns μ hl hs hz => by
 obtain ⟨z, hz1, hz2⟩ := hz
 have hg : bN 0 ns ≠ 0 := oh (.inr ⟨z, hz1, hz2⟩)
 have hgs : Sm 300 (bN 0 ns : Nat) := by
  have := Hh (g := 0) hz1 hz2
  have h2 := hs z hz1
  unfold Sm at *
  omega
 have ef := um ns μ (ns.map D.int)
 obtain ⟨f0, fr, hf⟩ : ∃ f0 fr, ns.filter (λ n => n != 0) = f0 :: fr := by
  cases e : ns.filter (λ n => n != 0) with
  | nil =>
   have : z ∈ ns.filter (λ n => n != 0) := List.mem_filter.mpr ⟨hz1, by simpa using hz2⟩
   rw [e] at this
   cases this
  | cons a b => exact ⟨a, b, rfl⟩
 rw [hf] at ef
 suffices h : ∃ ms : List Int, Ok (aF 3 (dI φ) [aH ns] μ) (λ r => r = (aH ms, μ)) /\ ms.length = ns.length /\ ∀ m ∈ ms, Sm 300 m by
  obtain ⟨ms, h1, h2⟩ := h
  exact ⟨ms, gF (xX h1), h2⟩
 have hgd : ∀ c : Int, (c = (bN 0 ns : Nat) ∨ c = -((bN 0 ns : Nat) : Int)) -> c ≠ 0 /\ Sm 300 c := λ c hc => by
  unfold Sm at *
  rcases hc with rfl | rfl <;> exact ⟨by omega, by omega⟩
 have hq : ∀ c : Int, c ≠ 0 -> Sm 300 c -> lcL ⟨ns.map D.int, none⟩ (hName 0) bG (M2 (ak 0) (ak 1) oDiv) [none, some (.int c)] (ns.map D.int) μ = some ((ns.map λ n => n.fdiv c).map D.int, μ) := λ c c0 cs => by
  rw [List.map_map]
  exact eO (F := D.int) ns λ n hn => ⟨[some (.int n), some (.int c)], by simp, by simp [gP μ c0 cs (by decide)]⟩
 have hql : ∀ c : Int, (c = (bN 0 ns : Nat) ∨ c = -((bN 0 ns : Nat) : Int)) -> ∀ m ∈ ns.map (λ n => n.fdiv c), Sm 300 m := λ c hc m hm => by
  obtain ⟨n, hn, rfl⟩ := List.mem_map.mp hm
  have h1 := hs n hn
  have c0 := (hgd c hc).1
  have hd : c ∣ n := by
   have := (jP ns 0).1 n hn
   rcases hc with rfl | rfl
   .exact this
   .simpa using this
  obtain ⟨k, rfl⟩ := hd
  rw [Int.mul_fdiv_cancel_left _ c0]
  unfold Sm at *
  rw [Int.natAbs_mul] at h1
  have : 1 <= c.natAbs := by omega
  exact Nat.lt_of_le_of_lt (Nat.le_trans (Nat.le_of_eq (Nat.one_mul _).symm) (Nat.mul_le_mul_right _ this)) h1
 refine ⟨ns.map λ n => n.fdiv (if f0 < 0 then -((bN 0 ns : Nat) : Int) else (bN 0 ns : Nat)), ?_, by simp, hql _ (by split <;> simp)⟩
 apply fY
 unfold dI
 have src : ∀ μ, srcOf (aH ns) μ = some ⟨ns.map .int, none⟩ := λ _ => rfl
 have zl : (ns.map D.int).length <= 1000 := by simp; omega
 obtain ⟨o', eg⟩ := Ae hφ (aH ns) (ns.map D.int) ns 0 none μ
 rw [show ((0 : Nat) : Int) = 0 from rfl] at eg
 have h1 := hq _ (hgd _ (.inl rfl)).1 (hgd _ (.inl rfl)).2
 have h2 := hq _ (hgd _ (.inr rfl)).1 (hgd _ (.inr rfl)).2
 have rt : ∀ ms : List Int, D.tup (ms.map .int) = aH ms := λ _ => rfl
 generalize (bN 0 ns : Nat) = G at *
 have at0 : atI ((f0 :: fr).map D.int) 0 = some (.int f0) := (iY (ys := f0 :: fr) (k := 0) (by decide) (by simp)).1
 generalize (f0 :: fr).map D.int = FD at *
 generalize hM1 : ns.map (λ n => n.fdiv (G : Int)) = M1 at *
 generalize hM2 : ns.map (λ n => n.fdiv (-(G : Int))) = M2 at *
 generalize ns.map D.int = ND at *
 generalize aH ns = R at *
 by_cases hf0 : f0 < 0
 .rw [if_pos hf0, hM2]
  simp [src, eg, zl, cz, ef, at0, hf0, h2, rt]
 .rw [if_neg hf0, hM1]
  simp [src, eg, zl, cz, ef, at0, hf0, h1, rt]
end LG
namespace Lk07
open PySem PySem.Spec PyProof.Rows L2 L3 LG
theorem Ma : mQ bU := λ a b μ => gF (GZ a b μ)
theorem gcd2 : mQ bA := λ a b μ => gF (FT a b μ)
theorem Kp : ou bh := λ x k μ h0 h1 => by
 obtain ⟨r, e, h⟩ := JL x k μ h0 h1
 exact ⟨r, gF e, h⟩
theorem oA : iD aG := DP
theorem Lj : ul aZ := λ ns b μ h1 h2 h3 h4 => gF (KQ Ma ns b μ h1 h2 h3 h4)
theorem Mv : uK gJ := Er Kp
theorem num' : zY dC := DW
theorem Lk : zY eQ := DK
theorem Pz : Do cO := yV num'
theorem Pr (k l : Bool) (μ : Mu) : iM [.bl k, .bl l] μ = some (.bl (k == l), μ) := Hw k l μ
theorem Ah : nH cg := Ey Kp CT Lj
theorem Hq : nM fJ := Bk oA (yX oA Lj) (Gs oA Lj) Ah
theorem own' : pA cj := HJ Hq oA Ah
theorem put' : Ja di := KY
theorem tie' : Ao dm := JQ Pz (CW (Hz gcd2)) (yp Kl)
theorem Ou : Ao fD := zb Lk Ma
theorem det' (n : Nat) (hn : n <= 5) : ur n fW := Ac 6 n (by omega) hn
theorem Ak (d : Nat) (d1 : 1 <= d) (d3 : d <= 3) : xV d fP := λ ps μ hm hl hp => Bd (λ n hn => det' n (by omega)) d ps μ hm d1 d3 hl hp
theorem some' : xW gf := some_of oA Kp
theorem Ny : wB bQ := yG Ma
def pG (n : Nat) (t : D) : Prop := ∃ ns : List Int, t = aH ns /\ ns.length = n /\ ∀ x ∈ ns, Sm 300 x
theorem sm0 {n : Nat} : Sm n 0 := by unfold Sm; exact Nat.pos_of_ne_zero (by simp)
theorem Kc (r : List Int) : nc (aH r) := mV.mpr jy
theorem Fo {F : EF} {δ : En} {μ : Mu} {k : Int} (e : F δ μ = some (.int k, μ)) (h0 : 0 <= k) (h1 : k <= 400) : M2 (MC (aa (mC (.int 0)) (aq)) oLst) F bJ δ μ = some (.lst ((List.replicate k.toNat (0 : Int)).map .int), μ) := by
 have e3 : MC (aa (mC (.int 0)) (aq)) oLst δ μ = some (.lst [.int 0], μ) := by simp
 rw [Mz, e3]
 simp only [Option.bind_some]
 rw [e]
 simp only [Option.bind_some]
 rw [mulL h0 (by omega) (by simp only [List.length_cons, List.length_nil]; omega)]
 congr 2
 simp
theorem pG.nc {n : Nat} {t : D} (h : pG n t) : nc t := by
 obtain ⟨ns, rfl, _⟩ := h
 exact Kc ns
theorem Dq {n : Nat} {ns : List Int} (h1 : ns.length = n) (h2 : ∀ x ∈ ns, Sm 300 x) : pG n (aH ns) := ⟨ns, rfl, h1, h2⟩
theorem Gf (x : Int) (hx : x.natAbs <= 9) (μ : Mu) (all : List D) (zs : List (Int × Int)) (h : ∀ p ∈ zs, Sm 200 p.1 /\ Sm 200 p.2) : lcL ⟨all, none⟩ (kW 2 (cB (hName 0) (cB (hName 1) (kY)))) bG (M2 (ak 0) (M2 (ak 2) (ak 1) bJ) bf) [none, none, some (.int x)] (zs.map λ p => D.tup [.int p.1, .int p.2]) μ = some ((zs.map λ p => p.1 + x * p.2).map D.int, μ) := by
 rw [List.map_map]
 refine eO (F := λ p : Int × Int => D.tup [.int p.1, .int p.2]) zs λ p hp => ?_
 have hs := h p hp
 obtain ⟨a, b⟩ := p
 have em := bz (x := x) (y := b) (a := 4) (b := 200) μ (jc 10 (by omega) (by decide)) hs.2 (by decide)
 exact ⟨[some (.int a), some (.int b), some (.int x)], by simp, by simp [em]⟩
theorem Ek (μ : Mu) (all : List D) (ns : List Int) (h : ∀ p ∈ ns, Sm 200 p) : lcL ⟨all, none⟩ (hName 0) bG (M2 (mC (.int 7)) (ak 0) bJ) [none] (ns.map D.int) μ = some ((ns.map λ n => 7 * n).map D.int, μ) := by
 rw [List.map_map]
 refine eO (F := D.int) ns λ n hn => ?_
 have em := bz (x := 7) (y := n) (a := 3) (b := 200) μ (jc 8 (by decide) (by decide)) (h n hn) (by decide)
 exact ⟨[some (.int n)], by simp, by simp [em]⟩
theorem DG {d : Int} (d1 : 1 <= d) (d3 : d <= 3) (ps : List (List Int)) (hne : ps ≠ []) (hl : ps.length <= 40) (hp : ∀ p ∈ ps, gm (d.toNat + 1) p) (L : List Int) (hL : DlD L) (hc : (ps.length : Int) < d + 1 + 1) : ∃ (ts : List D) (L' : List Int), gb [.cell 0, .lst (ps.map aH)] [some (L.map .int)] = some (.lst ts, [some (L'.map .int)]) /\ (DlD L' /\ ∀ t ∈ ts, pG ps.length t) := by
 apply sr (rest := []) rfl gY.nil
 apply fY
 obtain ⟨many, hmany⟩ : ∃ z : Int, z = ps.length := ⟨_, rfl⟩
 have hm1 : 1 <= many := by
  have := List.length_pos_iff.mpr hne
  omega
 have elen : ∀ μ, bx (.lst (ps.map aH)) μ = some (.int many, μ) := λ μ => by rw [jV, List.length_map, hmany]
 obtain ⟨a0, r0⟩ := CQ hp (k := 0) (by decide) (by omega)
 generalize ps.getD (0 : Int).toNat [] = p0 at *
 have el0 : ∀ μ, bx (aH p0) μ = some (.int (d + 1), μ) := λ μ => by
  show bx (.tup _) μ = _
  rw [Dd, List.length_map, r0.len]
  congr
  omega
 rw [<- hmany] at hc
 have z1 : ∀ δ : En, δ[1]? = some (some (.lst (ps.map aH))) -> ∀ μ, M2 (MC (aa (mC (.int 0)) (aq)) oLst) (MC (aa (ak 1) (aq)) (aR bx)) bJ δ μ = some (.lst ((List.replicate many.toNat (0 : Int)).map .int), μ) := λ δ hδ μ => by
  refine Fo (k := many) ?_ (by omega) (by omega)
  simp [ak, hδ, elen, -jV]
 have z2 : ∀ δ : En, δ[1]? = some (some (.lst (ps.map aH))) -> ∀ μ, M2 (MC (aa (mC (.int 0)) (aq)) oLst) (M2 (MC (aa (ak 1) (aq)) (aR bx)) (mC (.int 1)) dF) bJ δ μ = some (.lst ((List.replicate (many - 1).toNat (0 : Int)).map .int), μ) := λ δ hδ μ => by
  refine Fo (k := many - 1) ?_ (by omega) (by omega)
  simp [ak, hδ, elen, -jV]
 have r1 : pG ps.length (.tup ((List.replicate many.toNat (0 : Int)).map .int)) := Dq (by simp; omega) λ x hx => by
  rw [List.eq_of_mem_replicate hx]; exact sm0
 have r2 : pG ps.length (.tup (D.int 1 :: (List.replicate (many - 1).toNat (0 : Int)).map .int)) := ⟨1 :: List.replicate (many - 1).toNat 0, rfl, by simp; omega, λ x hx => by
  rcases List.mem_cons.mp hx with z | z
  .rw [z]; unfold Sm; decide
  .rw [List.eq_of_mem_replicate z]; exact sm0⟩
 have l2 : ((List.replicate (many - 1).toNat (0 : Int)).map D.int).length <= 40 := by simp; omega
 generalize (List.replicate (many - 1).toNat (0 : Int)).map D.int = Z2 at *
 generalize (List.replicate many.toNat (0 : Int)).map D.int = Z1 at *
 have zz : Z2.length + 1 <= sizeLine := szl (by omega)
 have zz' : 1 + Z2.length <= sizeLine := szl (by omega)
 generalize ps.map aH = PD at *
 generalize aH p0 = P0 at *
 unfold kh
 generalize M2 (MC (aa (mC (.int 0)) (aq)) oLst) (MC (aa (ak 1) (aq)) (aR bx)) bJ = E1 at *
 generalize M2 (MC (aa (mC (.int 0)) (aq)) oLst) (M2 (MC (aa (ak 1) (aq)) (aR bx)) (mC (.int 1)) dF) bJ = E2 at *
 simp [a0, el0, elen, hc, z1, z2, zz, zz', -jV]
 refine ⟨_, L, ⟨rfl, rfl⟩, λ p hp => ?_, hL, λ p hp => ?_⟩
 .simp only [List.mem_cons, List.not_mem_nil, or_false] at hp
  rcases hp with rfl | rfl
  .exact r1.nc
  .exact r2.nc
 .simp only [List.mem_cons, List.not_mem_nil, or_false] at hp
  rcases hp with rfl | rfl
  .exact r1
  .exact r2
theorem tA {Fs Fp : FF} {PD T1 : List D} {many size : Int} {R1 : D} {L L1 : List D} {o3 o4 o5 o6 o7 : Option D} (elen : ∀ μ, bx (.lst PD) μ = some (.int many, μ))
 (e1 : Fs [.cell 0, .int many, .int size] [some L] = some (.lst T1, [some L1])) (f1 : Fp [.lst PD, .lst T1] [some L1] = some (R1, [some L1])) :
 (MC (aa (ak 1) (aa (MC (aa (ak 0) (aa (MC (aa (ak 1) (aq)) (aR bx)) (aa (ak 2) (aq)))) Fs) (aq))) Fp) [some (.cell 0), some (.lst PD), some (.int size), o3, o4, o5, o6, o7] [some L] = some (R1, [some L1]) := by
 simp [elen, e1, f1, -jV]
theorem BR {d : Int} (d1 : 1 <= d) (d3 : d <= 3) (ps : List (List Int)) (hne : ps ≠ []) (hl : ps.length <= 40) (hp : ∀ p ∈ ps, gm (d.toNat + 1) p) (L : List Int) (hL : DlD L) (hc : ¬ (ps.length : Int) < d + 1 + 1) : ∃ (ts : List D) (L' : List Int), gb [.cell 0, .lst (ps.map aH)] [some (L.map .int)] = some (.lst ts, [some (L'.map .int)]) /\ (DlD L' /\ ∀ t ∈ ts, pG ps.length t) := by
 apply sr (rest := []) rfl gY.nil
 apply fY
 obtain ⟨many, hmany⟩ : ∃ z : Int, z = ps.length := ⟨_, rfl⟩
 have hm1 : 1 <= many := by
  have := List.length_pos_iff.mpr hne
  omega
 have elen : ∀ μ, bx (.lst (ps.map aH)) μ = some (.int many, μ) := λ μ => by rw [jV, List.length_map, hmany]
 obtain ⟨a0, r0⟩ := CQ hp (k := 0) (by decide) (by omega)
 generalize ps.getD (0 : Int).toNat [] = p0 at *
 obtain ⟨cc, hcc⟩ : ∃ z : Int, z = d + 1 := ⟨_, rfl⟩
 obtain ⟨size, hsz⟩ : ∃ z : Int, cc + 1 = z := ⟨_, rfl⟩
 have el0 : ∀ μ, bx (aH p0) μ = some (.int cc, μ) := λ μ => by
  show bx (.tup _) μ = _
  rw [Dd, List.length_map, r0.len]
  congr
  omega
 rw [<- hmany, <- hcc, hsz] at hc
 obtain ⟨t1, L1, e1, hL1, l1, b1⟩ := some' L many size hL hm1 (by omega) (by omega) (by omega)
 obtain ⟨n1, f1, k1, s1⟩ := uJ (Ak d.toNat (by omega) (by omega)) ps t1 [some (L1.map .int)] gY.nil.dr hl hp (by omega) (by omega) (λ j hj => by have := b1 j hj; omega)
 obtain ⟨t2, L2, e2, hL2, l2, b2⟩ := some' L1 many size hL1 hm1 (by omega) (by omega) (by omega)
 obtain ⟨n2, f2, k2, s2⟩ := uJ (Ak d.toNat (by omega) (by omega)) ps t2 [some (L2.map .int)] gY.nil.dr hl hp (by omega) (by omega) (λ j hj => by have := b2 j hj; omega)
 obtain ⟨x, L3, e3, hx, hL3⟩ := dW oA hL2 []
 obtain ⟨m0, m1⟩ := aU (x := x) (m := 19) (by decide)
 obtain ⟨y, hy⟩ : ∃ y : Int, x.fmod 19 - 9 = y := ⟨_, rfl⟩
 have hy9 : y.natAbs <= 9 := by omega
 have f1 : cV [.lst (ps.map aH), .lst (t1.map .int)] [some (L1.map .int)] = some (aH n1, [some (L1.map .int)]) := f1
 have f2 : cV [.lst (ps.map aH), .lst (t2.map .int)] [some (L2.map .int)] = some (aH n2, [some (L2.map .int)]) := f2
 have ez := jJ (F := D.int) (G := D.int) n1 n2
 have hzz : ∀ p ∈ n1.zip n2, Sm 200 p.1 /\ Sm 200 p.2 := λ p hpm => ⟨s1 _ (List.of_mem_zip (a := p.1) (b := p.2) hpm).1, s2 _ (List.of_mem_zip (a := p.1) (b := p.2) hpm).2⟩
 have lb := Gf y hy9 [some (L3.map .int)] (jR (n1.map D.int) (n2.map D.int)) (n1.zip n2) hzz
 rw [<- ez] at lb
 have ls := Ek [some (L3.map .int)] (n1.map D.int) n1 s1
 have zl : (jR (n1.map D.int) (n2.map D.int)).length <= 1000 := by rw [ez]; simp; omega
 have nl : (n1.map D.int).length <= 1000 := by simp; omega
 have r1 : pG ps.length (aH n1) := Dq k1 λ x hx => cW (s1 x hx) (by decide)
 have r2 : pG ps.length (.tup ((n1.zip n2).map (λ p => p.1 + y * p.2) |>.map D.int)) := Dq (by simp; omega) λ z hz => by
  obtain ⟨p, hpm, rfl⟩ := List.mem_map.mp hz
  have := hzz p hpm
  have h2 : Sm (4 + 200) (y * p.2) := gO (jc 10 (by omega) (by decide)) this.2
  have h3 := this.1
  exact cW (uX (cW h3 (by decide : 200 <= 4 + 200)) h2) (by decide)
 have r3 : pG ps.length (.tup ((n1.map λ n => 7 * n).map D.int)) := Dq (by simpa using k1) λ z hz => by
  obtain ⟨n, hn, rfl⟩ := List.mem_map.mp hz
  exact cW (gO (a := 3) (b := 200) (jc 8 (by decide) (by decide)) (s1 n hn)) (by decide)
 have fzn : bV (aH n1) = some (n1.map .int) := rfl
 have fzm : bV (aH n2) = some (n2.map .int) := rfl
 have srn : ∀ μ, srcOf (aH n1) μ = some ⟨n1.map .int, none⟩ := λ _ => rfl
 have ef := λ μ => um n1 μ (n1.map D.int)
 have hlow := Ny n1
 have hemp : (((n1.filter (λ n => n != 0)).map D.int).isEmpty = false) -> ∃ n ∈ n1, n ≠ 0 := λ h => by
  cases e : n1.filter (λ n => n != 0) with
  | nil => rw [e] at h; simp at h
  | cons a b =>
   have : a ∈ n1.filter (λ n => n != 0) := by rw [e]; simp
   obtain ⟨q1, q2⟩ := List.mem_filter.mp this
   exact ⟨a, q1, by simpa using q2⟩
 generalize (n1.filter (λ n => n != 0)).map D.int = FD at *
 generalize ((n1.zip n2).map (λ p => p.1 + y * p.2)).map D.int = BD at *
 generalize (n1.map λ n => 7 * n).map D.int = SD at *
 generalize n1.map D.int = N1 at *
 generalize n2.map D.int = N2 at *
 generalize ps.map aH = PD at *
 generalize aH p0 = P0 at *
 generalize hR1 : aH n1 = R1 at *
 generalize aH n2 = R2 at *
 generalize gf = Fs at *
 generalize cV = Fp at *
 generalize aG = Fn at *
 generalize bQ = Fl at *
 have h3 := tA (o3 := none) (o4 := none) (o5 := none) (o6 := none) (o7 := none) elen e1 f1
 have h4 := tA (o3 := some R1) (o4 := none) (o5 := none) (o6 := none) (o7 := none) elen e2 f2
 cases hE : FD.isEmpty with
 | true =>
  unfold kh
  generalize MC (aa (ak 1) (aa (MC (aa (ak 0) (aa (MC (aa (ak 1) (aq)) (aR bx)) (aa (ak 2) (aq)))) Fs) (aq))) Fp = E3 at *
  generalize M2 (MC (aa (mC (.int 0)) (aq)) oLst) (MC (aa (ak 1) (aq)) (aR bx)) bJ = E1
  generalize M2 (MC (aa (mC (.int 0)) (aq)) oLst) (M2 (MC (aa (ak 1) (aq)) (aR bx)) (mC (.int 1)) dF) bJ = E2
  simp [a0, el0, hsz, elen, hc, h3, h4, e3, hy, fzn, fzm, zl, cz, lb, nl, ls, srn, ef, hE, -jV]
  refine ⟨_, L3, ⟨rfl, rfl⟩, λ p hp => ?_, hL3, λ p hp => ?_⟩
  .simp only [List.mem_cons, List.not_mem_nil, or_false] at hp
   rcases hp with rfl | rfl | rfl
   .exact r1.nc
   .exact r2.nc
   .exact r3.nc
  .simp only [List.mem_cons, List.not_mem_nil, or_false] at hp
   rcases hp with rfl | rfl | rfl
   .exact r1
   .exact r2
   .exact r3
 | false =>
  obtain ⟨ms, q1, q2, q3⟩ := hlow [some (L3.map .int), some [R1, .tup BD, .tup SD]] (by omega) (λ n hn => cW (s1 n hn) (by decide)) (hemp hE)
  have h3z : 3 < sizeLine := by decide
  have r4 : pG ps.length (aH ms) := Dq (by omega) q3
  generalize aH ms = MS at *
  unfold kh
  generalize MC (aa (ak 1) (aa (MC (aa (ak 0) (aa (MC (aa (ak 1) (aq)) (aR bx)) (aa (ak 2) (aq)))) Fs) (aq))) Fp = E3 at *
  generalize M2 (MC (aa (mC (.int 0)) (aq)) oLst) (MC (aa (ak 1) (aq)) (aR bx)) bJ = E1
  generalize M2 (MC (aa (mC (.int 0)) (aq)) oLst) (M2 (MC (aa (ak 1) (aq)) (aR bx)) (mC (.int 1)) dF) bJ = E2
  simp [a0, el0, hsz, elen, hc, h3, h4, e3, hy, fzn, fzm, zl, cz, lb, nl, ls, srn, ef, hE, q1, fZ, fu, h3z, -jV]
  refine ⟨_, L3, ⟨rfl, rfl⟩, λ p hp => ?_, hL3, λ p hp => ?_⟩
  .simp only [List.mem_cons, List.not_mem_nil, or_false] at hp
   rcases hp with rfl | rfl | rfl | rfl
   .exact r1.nc
   .exact r2.nc
   .exact r3.nc
   .exact r4.nc
  .simp only [List.mem_cons, List.not_mem_nil, or_false] at hp
   rcases hp with rfl | rfl | rfl | rfl
   .exact r1
   .exact r2
   .exact r3
   .exact r4
theorem Pb {d : Int} (d1 : 1 <= d) (d3 : d <= 3) (ps : List (List Int)) (hne : ps ≠ []) (hl : ps.length <= 40) (hp : ∀ p ∈ ps, gm (d.toNat + 1) p) (L : List Int) (hL : DlD L) : ∃ (ts : List D) (L' : List Int), gb [.cell 0, .lst (ps.map aH)] [some (L.map .int)] = some (.lst ts, [some (L'.map .int)]) /\ (DlD L' /\ ∀ t ∈ ts, pG ps.length t) := by
 by_cases hc : (ps.length : Int) < d + 1 + 1
 .exact DG d1 d3 ps hne hl hp L hL hc
 .exact BR d1 d3 ps hne hl hp L hL hc
def Tq (t : D) : Prop := nc t /\ smT t
theorem Kv {ds : List D} (h1 : ∀ d ∈ ds, nc d) (h2 : ∀ i, D.int i ∈ ds -> Sm 2000 i) : Tq (.tup ds) := ⟨mV.mpr h1, h2⟩
theorem Fv {r : List Int} (h : ∀ i ∈ r, Sm 2000 i) : Tq (.tup (r.map .int)) := Kv jy λ i hi => by
 obtain ⟨j, hj, e⟩ := List.mem_map.mp hi
 cases e
 exact h i hj
theorem JC {F : EF} {δ : En} {μ : Mu} {k : Int} (e : F δ μ = some (.int k, μ)) (h0 : 0 <= k) (h1 : k <= 400) : M2 (MC (aa (mC (.int 0)) (aq)) oTup) F bJ δ μ = some (.tup ((List.replicate k.toNat (0 : Int)).map .int), μ) := by
 have e3 : MC (aa (mC (.int 0)) (aq)) oTup δ μ = some (.tup [.int 0], μ) := by simp
 rw [Mz, e3]
 simp only [Option.bind_some]
 rw [e]
 simp only [Option.bind_some]
 have : bJ (.tup [.int 0]) (.int k) μ = some (.tup (List.replicate k.toNat [D.int 0]).flatten, μ) := if_pos ⟨by omega, by omega, szl (by simp; omega)⟩
 rw [this]
 congr 2
 simp
theorem Hm (ns : List Int) (i v : Int) (μ : Mu) (h0 : 0 <= i) (h1 : i < ns.length) (hl : ns.length <= 40) : di [.tup (ns.map .int), .int i, .int v] μ = some (.tup ((ns.take i.toNat ++ v :: ns.drop (i.toNat + 1)).map .int), μ) := by
 rw [put' (ns.map .int) i (.int v) μ h0 (by simpa using h1) (by simp; omega)]
 simp
theorem oK {ns : List Int} {i v : Int} {P : Int -> Prop} (h : ∀ n ∈ ns, P n) (hv : P v) : ∀ n ∈ ns.take i.toNat ++ v :: ns.drop (i.toNat + 1), P n := λ n hn => by
 rcases List.mem_append.mp hn with z | z
 .exact h n (List.mem_of_mem_take z)
 .rcases List.mem_cons.mp z with z | z
  .rw [z]; exact hv
  .exact h n (List.mem_of_mem_drop z)
theorem Iu {ns : List Int} {i v : Int} (h0 : 0 <= i) (h1 : i < ns.length) : (ns.take i.toNat ++ v :: ns.drop (i.toNat + 1)).length = ns.length := by
 simp
 omega
theorem Lr (μ : Mu) (all : List D) (ns : List Int) : lcL ⟨all, none⟩ (hName 0) bG (M2 (mC (.int 0)) (ak 0) dF) [none] (ns.map D.int) μ = some ((ns.map λ n => -n).map D.int, μ) := by
 rw [List.map_map]
 exact eO (F := D.int) ns λ n hn => ⟨[some (.int n)], by simp, by simp⟩
theorem four {Y1 Y2 Y3 Y4 : EF} {δ : En} {μ : Mu} {d1 d2 d3 d4 : D} (b1 : Y1 δ μ = some (d1, μ)) (b2 : Y2 δ μ = some (d2, μ)) (b3 : Y3 δ μ = some (d3, μ)) (b4 : Y4 δ μ = some (d4, μ)) :
 MC (aa Y1 (aa Y2 (aa Y3 (aa Y4 aq)))) oLst δ μ = some (.lst [d1, d2, d3, d4], μ) := by
 simp only [Lw, vh, zV, b1, b2, b3, b4, Option.bind_some]
 exact if_pos (szl (by simp))
theorem Oj (ns : List Int) (x : Int) (μ : Mu) (h1 : 1 <= ns.length) (h2 : ns.length <= 40) (hs : ∀ n ∈ ns, Sm 300 n) : ∃ t, gk [aH ns, .int x] μ = some (t, μ) /\ Tq t := by
 suffices h : Ok (gk [.tup (ns.map .int), .int x] μ) (λ r => r.2 = μ /\ Tq r.1) by
  obtain ⟨⟨t, μ'⟩, e, h1, h2⟩ := h
  have h1 : μ' = μ := h1
  subst h1
  exact ⟨t, e, h2⟩
 apply FQ
 apply fY
 obtain ⟨n, hn⟩ : ∃ z : Int, z = ns.length := ⟨_, rfl⟩
 have v10 := oG (i := x) (j := 10) (μ := μ) (by decide) (by decide)
 have v500 := oG (i := x) (j := 500) (μ := μ) (by decide) (by decide)
 obtain ⟨a0, a1⟩ := aU (x := x.fdiv 10) (m := n) (by omega)
 have wa := fM (x := x.fdiv 10) (y := n) μ (by omega)
 have wb := fM (x := x.fdiv 500) (y := n) μ (by omega)
 generalize x.fdiv 10 = x10 at *
 generalize x.fdiv 500 = x500 at *
 generalize x10.fmod n = a at *
 generalize x500.fmod n = b at *
 obtain ⟨o0, o1⟩ := aU (x := a + 1 + b) (m := n) (by omega)
 have wo := fM (x := a + 1 + b) (y := n) μ (by omega)
 generalize hab : a + 1 + b = ab at *
 generalize ab.fmod n = o at *
 obtain ⟨c0, c1⟩ := aU (x := x) (m := 10) (by decide)
 have wc := fM (x := x) (y := 10) μ (by decide)
 generalize hcc : x.fmod 10 = c at *
 obtain ⟨xa, ma⟩ := iY (ys := ns) (k := a) a0 (by omega)
 obtain ⟨xo, mo⟩ := iY (ys := ns) (k := o) o0 (by omega)
 have sa := hs _ ma
 have so := hs _ mo
 generalize ns.getD a.toNat 0 = v at *
 generalize ns.getD o.toNat 0 = w at *
 have s1 : Sm 301 (1 : Int) := jc 2 (by decide) (by decide)
 have s301 : ∀ m ∈ ns, Sm 302 m := λ m hm => cW (hs m hm) (by decide)
 have sv1 : Sm 302 (v + 1) := uX (cW sa (by decide)) s1
 have svm : Sm 302 (v - 1) := uX (cW sa (by decide)) (show Sm 301 (-1 : Int) from jc 2 (by decide) (by decide))
 have swm : Sm 302 (w - 1) := uX (cW so (by decide)) (show Sm 301 (-1 : Int) from jc 2 (by decide) (by decide))
 have up : ∀ r : List Int, (∀ m ∈ r, Sm 302 m) -> Tq (.tup (r.map .int)) := λ r h => Fv λ i hi => cW (h i hi) (by decide)
 generalize hv1 : v + 1 = v1 at *
 generalize hvm : v - 1 = vm at *
 generalize hwm : w - 1 = wm at *
 have p1 := Hm ns a v1 μ a0 (by omega) h2
 have p2 := Hm ns a vm μ a0 (by omega) h2
 have p3 := Hm ns a 0 μ a0 (by omega) h2
 have q1 := up _ (oK (i := a) s301 sv1)
 have q2 := up _ (oK (i := a) s301 svm)
 have q3 := up _ (oK (i := a) s301 (jc 1 (by decide) (by decide) : Sm 302 (0 : Int)))
 have l1 := Iu (ns := ns) (i := a) (v := v1) a0 (by omega)
 have m1 := oK (ns := ns) (i := a) (v := v1) (P := Sm 302) s301 sv1
 generalize ns.take a.toNat ++ v1 :: ns.drop (a.toNat + 1) = r1 at *
 have p5 := Hm r1 o wm μ o0 (by omega) (by omega)
 have q5 := up _ (oK (i := o) m1 swm)
 generalize (r1.take o.toNat ++ wm :: r1.drop (o.toNat + 1)).map D.int = R5 at *
 generalize r1.map D.int = R1 at *
 generalize (ns.take a.toNat ++ vm :: ns.drop (a.toNat + 1)).map D.int = R2 at *
 generalize (ns.take a.toNat ++ 0 :: ns.drop (a.toNat + 1)).map D.int = R3 at *
 have qr : Tq (.tup (ns.map D.int).reverse) := by
  rw [<- List.map_reverse]
  exact up _ λ m hm => s301 m (by simpa using hm)
 have en := Lr μ (ns.map D.int) ns
 have qn : Tq (.tup ((ns.map λ n => -n).map .int)) := up _ λ m hm => by
  obtain ⟨k, hk, rfl⟩ := List.mem_map.mp hm
  have := s301 k hk
  unfold Sm at *
  rw [Int.natAbs_neg]
  exact this
 generalize (ns.map λ n => -n).map D.int = RN at *
 have ez : ∀ δ : En, δ[0]? = some (some (.tup (ns.map .int))) -> M2 (MC (aa (mC (.int 0)) (aq)) oTup) (MC (aa (ak 0) (aq)) (aR bx)) bJ δ μ = some (.tup ((List.replicate n.toNat (0 : Int)).map .int), μ) := λ δ hδ => by
  refine JC (k := n) ?_ (by omega) (by omega)
  simp [ak, hδ, hn]
 have qz : Tq (.tup ((List.replicate n.toNat (0 : Int)).map .int)) := up _ λ m hm => by
  rw [List.eq_of_mem_replicate hm]
  exact jc 1 (by decide) (by decide)
 generalize (List.replicate n.toNat (0 : Int)).map D.int = RZ at *
 have ql : Tq (.lst (ns.map .int)) := ⟨Fx.mpr jy, trivial⟩
 have q0 : Tq (.tup (ns.map .int ++ [.int 0])) := by
  have := up (ns ++ [0]) λ m hm => by
   rcases List.mem_append.mp hm with z | z
   .exact s301 m z
   .rw [List.mem_singleton.mp z]; exact jc 1 (by decide) (by decide)
  simpa using this
 have qi : Tq (.tup (ns.map D.int).dropLast) := by
  rw [<- List.map_dropLast]
  exact up _ λ m hm => s301 m ((List.dropLast_sublist _).mem hm)
 have ei := Hx (ds := ns.map D.int) (μ := μ) (λ z => by
  have z : ns = [] := by simpa using z
  rw [z] at h1
  simp at h1)
 have hRk : ((ns.map D.int).length : Int) = n := by simp [hn]
 have hRl : (ns.map D.int).length <= 40 := by simpa using h2
 have z1 : (ns.map D.int).length + 1 <= sizeLine := szl (by omega)
 have zR : (ns.map D.int).length <= 1000 := by omega
 generalize ns.map D.int = R at *
 obtain ⟨t, ht, et⟩ := lY (ds := [D.tup R1, .tup R2, .tup R3, .tup R.reverse, .tup RN, .tup RZ, .lst R, .tup (R ++ [.int 0]), .tup R.dropLast, .tup R5]) c0 c1
 have hq : Tq t := by
  simp only [List.mem_cons, List.not_mem_nil, or_false] at ht
  rcases ht with rfl | rfl | rfl | rfl | rfl | rfl | rfl | rfl | rfl | rfl <;> assumption
 unfold lg
 generalize M2 (MC (aa (mC (.int 0)) (aq)) oTup) (MC (aa (ak 0) (aq)) (aR bx)) bJ = EZ at *
 generalize di = Fp at *
 have gA : ∀ o4 o5, (MC (aa (MC (aa (ak 0) (aa (ak 2) (aa (M2 (M2 (ak 0) (ak 2) oIx) (mC (.int 1)) bf) (aq)))) Fp) (aa (MC (aa (ak 0) (aa (ak 2) (aa (M2 (M2 (ak 0) (ak 2) oIx) (mC (.int 1)) dF) (aq)))) Fp) (aa (MC (aa (ak 0) (aa (ak 2) (aa (mC (.int 0)) (aq)))) Fp) (aq)))) oLst) [some (.tup R), some (.int x), some (.int a), some (.int o), o4, o5] μ = some (.lst [.tup R1, .tup R2, .tup R3], μ) := λ o4 o5 => by
  simp [xa, hv1, hvm, p1, p2, p3]
 have b1 : ∀ o4 o5, (xJ (ak 0)) [some (.tup R), some (.int x), some (.int a), some (.int o), o4, o5] μ = some (.tup R.reverse, μ) := λ o4 o5 => by simp
 have b2 : ∀ o4 o5, (MC (aa (mFz (lLC ["_law_one"] [] (eZ (ak 0)) (hName 0) (bG) (M2 (mC (.int 0)) (ak 0) dF))) (aq)) dh) [some (.tup R), some (.int x), some (.int a), some (.int o), o4, o5] μ = some (.tup RN, μ) := λ o4 o5 => by
  simp [zR, cz, en]
 have b3 : ∀ o4 o5, EZ [some (.tup R), some (.int x), some (.int a), some (.int o), o4, o5] μ = some (.tup RZ, μ) := λ o4 o5 => ez _ rfl
 have b4 : ∀ o4 o5, (mFz (lOf (aa (ak 0) (aq)))) [some (.tup R), some (.int x), some (.int a), some (.int o), o4, o5] μ = some (.lst R, μ) := λ o4 o5 => by
  simp [zR]
 clear ez
 have gB : ∀ o4 o5, (MC (aa (xJ (ak 0)) (aa (MC (aa (mFz (lLC ["_law_one"] [] (eZ (ak 0)) (hName 0) (bG) (M2 (mC (.int 0)) (ak 0) dF))) (aq)) dh) (aa (EZ) (aa (mFz (lOf (aa (ak 0) (aq)))) (aq))))) oLst) [some (.tup R), some (.int x), some (.int a), some (.int o), o4, o5] μ = some (.lst [.tup R.reverse, .tup RN, .tup RZ, .lst R], μ) := λ o4 o5 => by
  exact four (b1 o4 o5) (b2 o4 o5) (b3 o4 o5) (b4 o4 o5)
 have gC : ∀ o4 o5, (MC (aa (M2 (ak 0) (MC (aa (mC (.int 0)) (aq)) oTup) bf) (aa (mSl (ak 0) (fNo) (fAt (M1 (mC (.int 1)) ir))) (aq))) oLst) [some (.tup R), some (.int x), some (.int a), some (.int o), o4, o5] μ = some (.lst [.tup (R ++ [.int 0]), .tup R.dropLast], μ) := λ o4 o5 => by
  simp [z1, ei]
 have g5 : ∀ o4 o5, (MC (aa (MC (aa (ak 0) (aa (ak 2) (aa (M2 (M2 (ak 0) (ak 2) oIx) (mC (.int 1)) bf) (aq)))) Fp) (aa (ak 3) (aa (M2 (M2 (ak 0) (ak 3) oIx) (mC (.int 1)) dF) (aq)))) Fp) [some (.tup R), some (.int x), some (.int a), some (.int o), o4, o5] μ = some (.tup R5, μ) := λ o4 o5 => by
  simp [xa, xo, hv1, hwm, p1, p5]
 generalize MC (aa (MC (aa (ak 0) (aa (ak 2) (aa (M2 (M2 (ak 0) (ak 2) oIx) (mC (.int 1)) bf) (aq)))) Fp) (aa (MC (aa (ak 0) (aa (ak 2) (aa (M2 (M2 (ak 0) (ak 2) oIx) (mC (.int 1)) dF) (aq)))) Fp) (aa (MC (aa (ak 0) (aa (ak 2) (aa (mC (.int 0)) (aq)))) Fp) (aq)))) oLst = XA at *
 generalize MC (aa (xJ (ak 0)) (aa (MC (aa (mFz (lLC ["_law_one"] [] (eZ (ak 0)) (hName 0) (bG) (M2 (mC (.int 0)) (ak 0) dF))) (aq)) dh) (aa (EZ) (aa (mFz (lOf (aa (ak 0) (aq)))) (aq))))) oLst = XB at *
 generalize MC (aa (M2 (ak 0) (MC (aa (mC (.int 0)) (aq)) oTup) bf) (aa (mSl (ak 0) (fNo) (fAt (M1 (mC (.int 1)) ir))) (aq))) oLst = XC at *
 generalize MC (aa (MC (aa (ak 0) (aa (ak 2) (aa (M2 (M2 (ak 0) (ak 2) oIx) (mC (.int 1)) bf) (aq)))) Fp) (aa (ak 3) (aa (M2 (M2 (ak 0) (ak 3) oIx) (mC (.int 1)) dF) (aq)))) Fp = X5 at *
 simp [v10, v500, hRk, wa, wb, hab, wo, gA, gB, gC, g5, hcc, et]
 exact hq
theorem zL (ns : List Int) (h1 : 1 <= ns.length) (h2 : ns.length <= 40) (hs : ∀ n ∈ ns, Sm 300 n) (all : List D) : ∀ (its : List D) (L : List Int), DlD L -> ∃ (ts : List D) (L' : List Int),
  lcL ⟨all, none⟩ (hName 0) bG (MC (aa (ak 1) (aa (MC (aa (ak 2) (aq)) aG) (aq))) gk) [none, some (aH ns), some (.cell 0)] its [some (L.map .int)] = some (ts, [some (L'.map .int)]) /\ DlD L' /\ ts.length = its.length /\ ∀ t ∈ ts, Tq t
 | [], L, hL => ⟨[], L, by unfold lcL; simp [bK], hL, rfl, λ r h => by cases h⟩
 | i :: its, L, hL => by
  obtain ⟨x, L1, e1, hx, hL1⟩ := dW oA hL []
  obtain ⟨t, e2, ht⟩ := Oj ns x [some (L1.map .int)] h1 h2 hs
  obtain ⟨ts, L', e, hL', hl', hq⟩ := zL ns h1 h2 hs all its L1 hL1
  refine ⟨t :: ts, L', ?_, hL', by simp [hl'], λ q hq' => ?_⟩
  .generalize aH ns = SH at *
   unfold lcL
   simp [bK, bG, e1, e2, e]
  .rcases List.mem_cons.mp hq' with z | z
   .rw [z]; exact ht
   .exact hq q z
theorem Ga (ns : List Int) (h : ns.length <= 63) : ∃ μ', yH [.ro (ns.map .int)] [] = some (.bl true, μ') := by
 apply HX
 obtain ⟨L, eD, hL⟩ := EY Mv ns h
 apply fY
 unfold pQ
 have hk : ∃ k : Int, (2 + min 8 (ns.length : Int)) = k /\ 0 <= k /\ k < 20 := ⟨_, rfl, by omega, by omega⟩
 obtain ⟨k, ek, k0, k1⟩ := hk
 simp [eD, ek, vp (j := k) (by omega) (by omega)]
 refine eG (λ its δ μ => ∃ L o2 o3 o4 o5 o6 o7, DlD L /\ μ = [some (L.map .int)] /\ δ = [some (.ro (ns.map .int)), some (.cell 0), o2, o3, o4, o5, o6, o7]) ?_ ?_ _ _ _ ⟨L, none, none, none, none, none, none, hL, rfl, rfl⟩
 .rintro d rest δ μ ⟨L, o2, o3, o4, o5, o6, o7, hL, rfl, rfl⟩
  obtain ⟨x, L1, e1, hx, hL1⟩ := dW oA hL []
  obtain ⟨m0, m1⟩ := aU (x := x) (m := 3) (by decide)
  generalize hdd : 1 + x.fmod 3 = dd
  obtain ⟨y, L2, e2, hy, hL2⟩ := dW oA hL1 []
  obtain ⟨i0, i1⟩ := aU (x := y) (m := 3) (by decide)
  obtain ⟨mo, hmo, emo⟩ := lY (ds := [D.int 12, .int 6, .int 5]) i0 i1
  have hmo : ∃ z : Int, mo = .int z /\ 0 <= z /\ z <= 40 := by
   simp only [List.mem_cons, List.not_mem_nil, or_false] at hmo
   rcases hmo with rfl | rfl | rfl <;> exact ⟨_, rfl, by decide, by decide⟩
  obtain ⟨mst, rfl, s0, s1⟩ := hmo
  obtain ⟨ps, L3, e3, hL3, hne, hl, hp⟩ := own' dd mst (by omega) (by omega) s0 s1 L2 hL2
  have hpos : 1 <= ps.length := List.length_pos_iff.mpr hne
  have G : Geo dd.toNat ps := ⟨by omega, by omega, hp, by omega, hne⟩
  obtain ⟨ts, L4, e4, hL4, hts⟩ := Pb (d := dd) (by omega) (by omega) ps hne hl hp L3 hL3
  have ptq : D.lst (ps.map aH) = mz ps := rfl
  rw [ptq] at e3 e4
  have q1 := λ t μ (h : Tq t) => tie' dd.toNat ps t μ G h.1 h.2
  have q2 := λ t μ (h : Tq t) => Ou dd.toNat ps t μ G h.1 h.2
  generalize mz ps = P at *
  simp [e1, hdd, e2, emo, e3, e4]
  refine eG (λ its δ μ => ∃ L o5 o6 o7, (∀ t ∈ its, pG ps.length t) /\ DlD L /\ μ = [some (L.map .int)] /\ δ = [some (.ro (ns.map .int)), some (.cell 0), some d, some (.int dd), some P, o5, o6, o7]) ?_ ?_ _ _ _ ⟨L4, _, _, _, hts, hL4, rfl, rfl⟩
  .rintro d5 rest5 δ μ ⟨L, o5, o6, o7, ht, hL, rfl, rfl⟩
   obtain ⟨rs, rfl, hrl, hrs⟩ := ht d5 (by simp)
   obtain ⟨bs, L5, e5, hL5, hbl, hbs⟩ := zL rs (by omega) (by omega) hrs (cU 0 (4 : Int).toNat) (cU 0 (4 : Int).toNat) L hL
   have r4 := vp (j := 4) (μ := [some (L.map .int)]) (by decide) (by decide)
   have z4 : (cU 0 (4 : Int).toNat).length <= 1000 := by rw [gn]; decide
   rw [gn] at hbl
   have z5 : 1 + bs.length <= sizeLine := szl (by rw [hbl]; decide)
   have z5' : bs.length + 1 <= sizeLine := szl (by rw [hbl]; decide)
   have hq0 : Tq (aH rs) := Fv λ i hi => cW (hrs i hi) (by decide)
   generalize cU 0 (4 : Int).toNat = R4 at *
   generalize aH rs = R at *
   simp [r4, z4, cz, e5, z5, z5']
   refine eG (λ its δ μ => ∃ o7, (∀ t ∈ its, Tq t) /\ μ = [some (L5.map .int)] /\ δ = [some (.ro (ns.map .int)), some (.cell 0), some d, some (.int dd), some P, some R, some (.lst (R :: bs)), o7]) ?_ ?_ _ _ _ ⟨_, ?_, rfl, rfl⟩
   .rintro d7 rest7 δ μ ⟨o7, ht7, rfl, rfl⟩
    have h7 := ht7 d7 (by simp)
    have p1 := q1 d7 [some (L5.map .int)] h7
    have p2 := q2 d7 [some (L5.map .int)] h7
    simp [p1, p2, Pr]
    exact λ t h => ht7 t (by simp [h])
   .rintro δ μ ⟨o7, _, rfl, rfl⟩
    simp
    exact ⟨λ t h => ht t (by simp [h]), L5, hL5, rfl⟩
   .intro t htm
    rcases List.mem_cons.mp htm with z | z
    .rw [z]; exact hq0
    .exact hbs t z
  .rintro δ μ ⟨L, o5, o6, o7, _, hL, rfl, rfl⟩
   simp
   exact ⟨L, hL, rfl⟩
 .rintro δ μ ⟨L, o2, o3, o4, o5, o6, o7, hL, rfl, rfl⟩
  simp
end Lk07
def PySem.W.Fast.tw10251880913660522715 := 0
def PySem.W.Fast.tw10997351332789794685 := 0
def PySem.W.Fast.tw11650706171022147010 := 0
def PySem.W.Fast.tw11675192432440384309 := 0
def PySem.W.Fast.tw11862225631675432578 := 0
def PySem.W.Fast.tw11911973372136742162 := 0
def PySem.W.Fast.tw12120101596950725183 := 0
def PySem.W.Fast.tw1212161778226572269 := 0
def PySem.W.Fast.tw12160517467894244248 := 0
def PySem.W.Fast.tw12367831883775137002 := 0
def PySem.W.Fast.tw12378177262244152546 := 0
def PySem.W.Fast.tw12384914972331477561 := 0
def PySem.W.Fast.tw12491926095290893761 := 0
def PySem.W.Fast.tw12498109111626365566 := 0
def PySem.W.Fast.tw12941141440520549465 := 0
def PySem.W.Fast.tw13456492304087433605 := 0
def PySem.W.Fast.tw14219954924980376503 := 0
def PySem.W.Fast.tw16233819303389079922 := 0
def PySem.W.Fast.tw16520237004003475202 := 0
def PySem.W.Fast.tw16711119554495967103 := 0
def PySem.W.Fast.tw17568130890944739437 := 0
def PySem.W.Fast.tw18158799707001343312 := 0
def PySem.W.Fast.tw3082751014176483820 := 0
def PySem.W.Fast.tw3313071936241396984 := 0
def PySem.W.Fast.tw3901675407182792593 := 0
def PySem.W.Fast.tw4455303424927038149 := 0
def PySem.W.Fast.tw5009697529914262636 := 0
def PySem.W.Fast.tw5181229127201671504 := 0
def PySem.W.Fast.tw6479620273011885239 := 0
def PySem.W.Fast.tw662256037695856400 := 0
def PySem.W.Fast.tw6631080644217280067 := 0
def PySem.W.Fast.tw6968645101611042499 := 0
def PySem.W.Fast.tw7005436137430271515 := 0
def PySem.W.Fast.tw754141351405209975 := 0
def PySem.W.Fast.tw8500716848372196851 := 0
def PySem.W.Fast.tw8656126849789722356 := 0
def PySem.W.Fast.tw8656447108743980359 := 0
def PySem.W.Fast.tw927691171412083953 := 0
def PySem.W.Fast.tw9635621029522547813 := 0
open PySem PySem.W PyProof.Rows
set_option maxRecDepth 100000 in
set_option maxHeartbeats 0 in
theorem PySem.Challenge.cw_heapsmeet_k07_ties_right_and_bent_holds : PySem.Challenge.rw_heapsmeet_k07_ties_right_and_bent.Holds := by
 w_on; o_law; k_head; (case hw => w_witness2)
 k_fill
 refine L3.Ex (l := PySem.Challenge.rw_heapsmeet_k07_ties_right_and_bent) (n := 63) (k := 10) (x := "_law_script") (φ := Lk07.yH) rfl (by decide) rfl ⟨rfl, by decide, by decide⟩ (λ w h Y => by first | exact PySem.W.kIn_of Y | exact PySem.W.km_in_of Y) ?F ?S
 case F =>
  intro w mg mb mean lo fa h KX G hmg
  apply Lk07.Mj KX G hmg <;> first | (apply L3.Kr <;> first | k_is | rfl) | k_is | rfl
 case S => exact λ ns hl => Lk07.Ga ns hl
