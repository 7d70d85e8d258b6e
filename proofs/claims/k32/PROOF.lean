import PyProof.Rows.All
import Wide.All
import OpenK.AllK
import Wide.FinOn
import Lean
import PyProof.EqAt
import PyProof.EqKinds
import PyProof.TupleCall
import PySem.Challenge.RW_heapsmeet_k32_shared_by_clauses
set_option Elab.async false
set_option linter.all false
set_option maxRecDepth 100000
namespace L2
open PySem PySem.Spec PyProof.Rows
abbrev Key := Sum Int Str
def JF : Key -> Value -> Bool
 | .inl k, v => Value.isInt k v
 | .inr x, v => Value.isStrOf x v
def keyH (w : World) : Key -> Int
 | .inl k => hashInt k
 | .inr x => hashStr w x
theorem dU : ∀ {k : Key} {v : Value}, JF k v = true -> (∃ i t, k = Sum.inl i /\ v = Value.int i t) ∨ (∃ x t, k = Sum.inr x /\ v = Value.str x t)
 | .inl i, v, h => by
  obtain ⟨t, e⟩ := Value.isInt_shape (k := i) (v := v) h
  exact .inl ⟨i, t, rfl, e⟩
 | .inr x, v, h => by
  obtain ⟨t, e⟩ := Value.isStrOf_shape (x := x) (v := v) h
  exact .inr ⟨x, t, rfl, e⟩
theorem Lj (a b : Int) : decide ((Sum.inl a : Key) = Sum.inl b) = (a == b) := by
 by_cases e : a = b
 .subst e; simp
 .have h : ¬ (Sum.inl a : Key) = Sum.inl b := λ q => e (Sum.inl.inj q)
  rw [decide_eq_false h]
  exact (beq_eq_false_iff_ne.mpr e).symm
theorem Od (a b : Str) : decide ((Sum.inr a : Key) = Sum.inr b) = decide (a = b) := by
 by_cases e : a = b
 .subst e; simp
 .have h : ¬ (Sum.inr a : Key) = Sum.inr b := λ q => e (Sum.inr.inj q)
  rw [decide_eq_false h, decide_eq_false e]
theorem Nk (a : Int) (b : Str) : decide ((Sum.inl a : Key) = Sum.inr b) = false := decide_eq_false (λ q => nomatch q)
theorem Kr (a : Str) (b : Int) : decide ((Sum.inr a : Key) = Sum.inl b) = false := decide_eq_false (λ q => nomatch q)
def vR (prog : Program) (w : World) : PySem.KeyKind prog w Key where
 is := JF
 hash := keyH w
 inj := λ v a b ha hb => by
  rcases dU ha with ⟨i, t, rfl, rfl⟩ | ⟨x, t, rfl, rfl⟩
  .rcases dU hb with ⟨j, u, rfl, e⟩ | ⟨y, u, rfl, e⟩
   .injection e with e1 _; rw [e1]
   .exact nomatch e
  .rcases dU hb with ⟨j, u, rfl, e⟩ | ⟨y, u, rfl, e⟩
   .exact nomatch e
   .injection e with e1 _; rw [e1]
 byValue := λ k v h => by
  rcases dU h with ⟨i, t, rfl, rfl⟩ | ⟨x, t, rfl, rfl⟩ <;> rfl
 pyHash := λ hv h => by
  rcases dU hv with ⟨i, t, rfl, rfl⟩ | ⟨x, t, rfl, rfl⟩
  .exact wpAny_pyHash_int h
  .exact wpAny_pyHash_str h
 eqBool := λ hu hv h => by
  rcases dU hu with ⟨i, t, rfl, rfl⟩ | ⟨x, t, rfl, rfl⟩
  .rcases dU hv with ⟨j, u, rfl, rfl⟩ | ⟨y, u, rfl, rfl⟩
   .rw [Lj] at h; exact wpAny_eqBool_int h
   .rw [Nk] at h; exact SeqAt.EqAt.int_str i t y u _ _ _ _ h
  .rcases dU hv with ⟨j, u, rfl, rfl⟩ | ⟨y, u, rfl, rfl⟩
   .rw [Kr] at h; exact SeqAt.EqAt.str_int x t j u _ _ _ _ h
   .rw [Od] at h; exact wpAny_eqBool_str h
 «strs» := λ k x t v h => by
  rcases dU h with ⟨i, u, rfl, e⟩ | ⟨y, u, rfl, e⟩
  .exact nomatch e
  .injection e with e1 _
   subst e1
   cases v <;> rfl
inductive V where
 | non | bl (b : Bool) | int (i : Int) | str (x : Str) | byt (b : Array UInt8) | flt (b : UInt64) | ref (a : Addr) | ty (n : String)
 deriving DecidableEq
def RelV : V -> Value -> Prop
 | .non, u => u = Value.none
 | .bl b, u => u = Value.bool b
 | .int i, u => ∃ t, u = Value.int i t
 | .str x, u => ∃ t, u = Value.str x t
 | .byt b, u => ∃ t, u = Value.bytes b t
 | .flt b, u => ∃ t, u = Value.float b t
 | .ref a, u => u = Value.ref a
 | .ty n, u => u = Value.type n
abbrev Vals : List V -> List Value -> Prop := Paired RelV
theorem Vals.length {xs : List V} {us : List Value} (r : Vals xs us) : xs.length = us.length := Paired.length r
theorem Vals.get : ∀ {xs : List V} {us : List Value} {i : Nat} {x : V}, Vals xs us -> xs[i]? = some x -> ∃ u, us[i]? = some u /\ RelV x u
 | _, _, _, _, .nil, e => by simp at e
 | _, _, 0, _, .cons r _, e => by simp at e; subst e; exact ⟨_, rfl, r⟩
 | _, _, i + 1, x, .cons _ t, e => by
  obtain ⟨u, h1, h2⟩ := Vals.get (i := i) (x := x) t (by simpa using e)
  exact ⟨u, by simpa using h1, h2⟩
theorem Vals.set {x : V} {u : Value} (r : RelV x u) : ∀ {xs : List V} {us : List Value} (i : Nat), Vals xs us -> Vals (xs.set i x) (us.set i u)
 | _, _, _, .nil => .nil
 | _, _, 0, .cons _ t => .cons r t
 | _, _, i + 1, .cons q t => .cons q (Vals.set r i t)
theorem Vals.append : ∀ {xs ys : List V} {us ws : List Value}, Vals xs us -> Vals ys ws -> Vals (xs ++ ys) (us ++ ws)
 | _, _, _, _, .nil, s => s
 | _, _, _, _, .cons r t, s => .cons r (Vals.append t s)
theorem Vals.take : ∀ {xs : List V} {us : List Value} (n : Nat), Vals xs us -> Vals (xs.take n) (us.take n)
 | _, _, 0, _ => .nil
 | _, _, _ + 1, .nil => .nil
 | _, _, n + 1, .cons r t => .cons r (Vals.take n t)
theorem Vals.drop : ∀ {xs : List V} {us : List Value} (n : Nat), Vals xs us -> Vals (xs.drop n) (us.drop n)
 | _, _, 0, r => r
 | _, _, _ + 1, .nil => .nil
 | _, _, n + 1, .cons _ t => Vals.drop n t
def QH : Option V -> Option Value -> Prop
 | some v, some u => RelV v u
 | none, none => True
 | _, _ => False
def KV {κ : Type} : List (κ × V) -> List (κ × Value) -> Prop := Paired λ (p : κ × V) (q : κ × Value) => p.1 = q.1 /\ RelV p.2 q.2
def kV : Key -> V
 | .inl i => .int i
 | .inr x => .str x
inductive HO where
 | lst (xs : List V)
 | tup (xs : List V)
 | dK (kvs : List (Key × V)) | dT (kvs : List (List Key × V))
 | set (S : Int -> Bool) (n : Nat)
 | ins (C dx : Addr) (fs : List (Str × V))
 | own (x : Addr)
 | xd (fs : List (Str × V))
 | met (f x : Addr)
 | rng (lo hi : Int)
 | frz (o : Obj) (u : HO)
 | tbl (ps : Array Value)
 | ext (φ : Heap -> Prop)
abbrev Hp := Addr -> Option HO
def upd (H : Hp) (a : Addr) (o : HO) : Hp := λ b => if b = a then some o else H b
theorem gq {H : Hp} {a : Addr} {o : HO} : upd H a o a = some o := by unfold upd; rw [if_pos rfl]
theorem aV {H : Hp} {a b : Addr} {o : HO} (h : b ≠ a) : upd H a o b = H b := by unfold upd; rw [if_neg h]
theorem Al {H : Hp} {a b : Addr} {o u : HO} (h : H a = some o) (h' : H b = some u) (d : o ≠ u) : a ≠ b := by
 intro e; subst e; rw [h] at h'; exact d (Option.some.inj h')
theorem cL {H : Hp} {a b : Addr} {o : HO} (h : H a = some o) (h' : H b = none) : a ≠ b := by
 intro e; subst e; rw [h] at h'; cases h'
section
variable (P : Program) (w : World)
def jJ (H : Hp) (h : Heap) (a : Addr) : HO -> Prop
 | .lst xs => xs.length <= sizeLine /\ ∃ (its : List Value) (n : Nat), Vals xs its /\ h.get? a = some { cls := .type "list", data := .seq its.toArray n }
 | .tup xs => xs.length <= sizeLine /\ ∃ its : List Value, Vals xs its /\ IsTup h a its.toArray
 | .dK kvs => kvs.length <= sizeLine /\ (a == sysModules) = false /\ ∃ vs, KV kvs vs /\ h.DictOf (vR P w) a vs
 | .dT kvs => kvs.length <= sizeLine /\ (a == sysModules) = false /\ ∃ xs : List (List Key × Addr × Value),
   Paired (λ (p : List Key × V) (q : List Key × Addr × Value) => p.1 = q.1 /\ H q.2.1 = some (.tup (p.1.map kV)) /\ RelV p.2 q.2.2) kvs xs /\
   ∃ o es ep, h.get? a = some o /\ o.ExactDict /\ o.data = .dict es ep /\ es.toList = xs.map (entryOfKey (tupleKind (vR P w))) /\ (xs.map (·.1)).Nodup
 | .set S n => h.SetOf (intKind P w) a S n
 | .ins C dx fs => H dx = some (.own a) /\ fs.length <= 1000 /\ dx ≠ a /\ h.get? a = some (PySem.W.instObj C dx) /\
   ∃ mA, h.Ns1 dx mA /\ (∀ f, QH (fs.lookup f) (mA f)) /\ PySem.Within mA (fs.map (·.1))
 | .own _ => ∃ o, h.get? a = some o
 | .xd fs => ∃ mA, h.Ns1 a mA /\ ∀ f, QH (fs.lookup f) (mA f)
 | .rng lo hi => ∃ t u v, h.get? a = some { cls := .type "range", data := .fields #[.int lo t, .int hi u, .int 1 v] }
 | .frz o u => h.get? a = some o /\ jJ H h a u
 | .tbl ps => h.get? a = some { cls := .none, data := .fields ps }
 | .met f x => h.get? a = some (PySem.W.methodObj (.ref f) (.ref x))
 | .ext φ => φ h /\ (∃ o, h.get? a = some o) /\ ∀ h1 h2 : Heap, φ h1 -> (∀ o, h1.get? a = some o -> h2.get? a = some o) -> φ h2
def HOk (H : Hp) (h : Heap) : Prop := ∀ a o, H a = some o -> jJ P w H h a o
end
section
variable {P : Program} {w : World} {H H' : Hp} {h h' : Heap} {a : Addr} {o : HO}
theorem jJ.lt (x : jJ P w H h a o) : a < h.objs.size := by
 cases o with
 | lst xs => obtain ⟨_, _, _, _, e⟩ := x; exact Heap.lt_size e
 | tup xs => obtain ⟨_, _, _, p⟩ := x; exact p.lt
 | dK kvs => obtain ⟨_, _, _, _, o, _, _, e, _⟩ := x; exact Heap.lt_size e
 | dT kvs => obtain ⟨_, _, _, _, o, _, _, e, _⟩ := x; exact Heap.lt_size e
 | set S n => obtain ⟨o, _, _, _, e, _⟩ := x; exact Heap.lt_size e
 | ins C dx fs => obtain ⟨_, _, _, e, _⟩ := x; exact Heap.lt_size e
 | own y => obtain ⟨_, e⟩ := x; exact Heap.lt_size e
 | xd fs => obtain ⟨_, ⟨_, _, _, e, _⟩, _⟩ := x; exact Heap.lt_size e
 | rng lo hi => obtain ⟨_, _, _, e⟩ := x; exact Heap.lt_size e
 | frz ob u => obtain ⟨e, _⟩ := x; exact Heap.lt_size e
 | tbl ps => exact Heap.lt_size (show h.get? a = some _ from x)
 | met f y => exact Heap.lt_size (show h.get? a = some _ from x)
 | ext φ => obtain ⟨_, ⟨_, e⟩, _⟩ := x; exact Heap.lt_size e
theorem Paired.mapP {α β : Type} {F G : α -> β -> Prop} : ∀ {l₁ : List α} {l₂ : List β}, Paired F l₁ l₂ -> (∀ a b, F a b -> G a b) -> Paired G l₁ l₂
 | _, _, .nil, _ => .nil
 | _, _, .cons r t, f => .cons (f _ _ r) (Paired.mapP t f)
theorem jJ.stay (x : jJ P w H h a o) (k : ∀ b u, (b = a ∨ H b = some (.own a)) -> h.get? b = some u -> h'.get? b = some u)
  (ho : ∀ b, H b = some (.own a) -> H' b = some (.own a)) (ht : ∀ b xs, H b = some (.tup xs) -> H' b = some (.tup xs)) : jJ P w H' h' a o := by
 induction o with
 | lst xs => obtain ⟨z, its, n, r, e⟩ := x; exact ⟨z, its, n, r, k _ _ (.inl rfl) e⟩
 | tup xs => obtain ⟨z, its, r, ob, e, c⟩ := x; exact ⟨z, its, r, ob, k _ _ (.inl rfl) e, c⟩
 | dK kvs => obtain ⟨z, y, vs, r, ob, es, ep, e, c⟩ := x; exact ⟨z, y, vs, r, ob, es, ep, k _ _ (.inl rfl) e, c⟩
 | dT kvs =>
  obtain ⟨z, y, xs, r, ob, es, ep, e, c⟩ := x
  exact ⟨z, y, xs, Paired.mapP r λ p q z => ⟨z.1, ht _ _ z.2.1, z.2.2⟩, ob, es, ep, k _ _ (.inl rfl) e, c⟩
 | set S n => obtain ⟨ob, es, ep, t, e, c⟩ := x; exact ⟨ob, es, ep, t, k _ _ (.inl rfl) e, c⟩
 | ins C dx fs =>
  obtain ⟨d, z, ne, e, mA, ⟨od, es, ep, e2, c⟩, r⟩ := x
  exact ⟨ho _ d, z, ne, k _ _ (.inl rfl) e, mA, ⟨od, es, ep, k _ _ (.inr d) e2, c⟩, r⟩
 | own y => obtain ⟨ob, e⟩ := x; exact ⟨ob, k _ _ (.inl rfl) e⟩
 | xd fs => obtain ⟨mA, ⟨od, es, ep, e, c⟩, r⟩ := x; exact ⟨mA, ⟨od, es, ep, k _ _ (.inl rfl) e, c⟩, r⟩
 | rng lo hi => obtain ⟨t, u, v, e⟩ := x; exact ⟨t, u, v, k _ _ (.inl rfl) e⟩
 | frz ob u ih => obtain ⟨e, q⟩ := x; exact ⟨k _ _ (.inl rfl) e, ih q⟩
 | tbl ps =>
  have e : h.get? a = some { cls := .none, data := .fields ps } := x
  show h'.get? a = some { cls := .none, data := .fields ps }
  exact k a _ (.inl rfl) e
 | met f y =>
  have e : h.get? a = some (PySem.W.methodObj (.ref f) (.ref y)) := x
  show h'.get? a = some (PySem.W.methodObj (.ref f) (.ref y))
  exact k a _ (.inl rfl) e
 | ext φ => obtain ⟨p, ⟨o, e⟩, st⟩ := x; exact ⟨st _ _ p λ o q => k _ _ (.inl rfl) q, ⟨o, k _ _ (.inl rfl) e⟩, st⟩
theorem HOk.lt (x : HOk P w H h) (e : H a = some o) : a < h.objs.size := (x a o e).lt
theorem HOk.fresh (x : HOk P w H h) (e : h.objs.size <= a) : H a = none := by
 cases q : H a with
 | none => rfl
 | some u => exact absurd (Nat.lt_of_lt_of_le (x.lt q) e) (Nat.lt_irrefl _)
theorem HOk.kept (x : HOk P w H h) (k : ∀ b u, h.get? b = some u -> h'.get? b = some u) : HOk P w H h' := λ a o e =>
 (x a o e).stay (λ b u _ q => k b u q) (λ _ q => q) λ _ _ q => q
theorem HOk.laid (x : HOk P w H h) (k : ∀ b u, h.get? b = some u -> h'.get? b = some u) (hp : h.objs.size <= a) (new : jJ P w (upd H a o) h' a o) : HOk P w (upd H a o) h' := λ b u e => by
 have hn := x.fresh hp
 by_cases hb : b = a
 .subst hb; rw [gq] at e; cases e; exact new
 .rw [aV hb] at e
  exact (x b u e).stay (λ c v _ q => k c v q) (λ c q => by rw [aV (cL q hn)]; exact q) λ c xs q => by rw [aV (cL q hn)]; exact q
end
def Rd (H : Hp) (a : Addr) (u : HO) : Prop := H a = some u ∨ ∃ o, H a = some (.frz o u)
theorem Rd.ok {P : Program} {w : World} {H : Hp} {h : Heap} {a : Addr} {u : HO} (r : Rd H a u) (x : HOk P w H h) : jJ P w H h a u := by
 rcases r with r | ⟨o, r⟩
 .exact x a u r
 .obtain ⟨_, q⟩ := x a _ r
  exact q
def Mut : Option HO -> Prop
 | some (.lst _) => True
 | some (.dK _) => True
 | some (.dT _) => True
 | some (.set _ _) => True
 | some (.ins _ _ _) => True
 | some (.ext _) => True
 | _ => False
section
variable {P : Program} {w : World} {H : Hp} {h h' : Heap} {x e : Addr} {o' : HO}
theorem HOk.write (ok : HOk P w H h) (mu : Mut (H x)) (he : e = x ∨ H e = some (.own x)) (k : ∀ b u, b ≠ e -> h.get? b = some u -> h'.get? b = some u) (heo : ∃ u, h'.get? e = some u)
  (new : jJ P w (upd H x o') h' x o') : HOk P w (upd H x o') h' := λ b u q => by
 have nown : ∀ c y, H c = some (.own y) -> c ≠ x := λ c y r z => by subst z; rw [r] at mu; exact mu
 have ntup : ∀ c xs, H c = some (.tup xs) -> c ≠ x := λ c xs r z => by subst z; rw [r] at mu; exact mu
 by_cases hb : b = x
 .subst hb; rw [gq] at q; cases q; exact new
 .rw [aV hb] at q
  by_cases hbe : b = e
  .have q' : H b = some (.own x) := by
    rcases he with z | z
    .exact absurd (hbe.trans z) hb
    .rw [hbe]; exact z
   rw [q] at q'; cases q'
   obtain ⟨v, hv⟩ := heo
   exact ⟨v, by rw [hbe]; exact hv⟩
  .refine (ok b u q).stay (λ c v hc r => k c v ?_ r) (λ c r => by rw [aV (nown c b r)]; exact r) λ c xs r => by rw [aV (ntup c xs r)]; exact r
   rcases hc with rfl | hc
   .exact hbe
   .rintro rfl
    rcases he with z | z
    .exact nown c b hc z
    .rw [hc] at z; cases z; exact hb rfl
end
structure Un (fs ex : List Addr) (H H' : Hp) (h h' : Heap) : Prop where
 keep : ∀ b o, h.get? b = some o -> H b = none -> b ∉ fs -> b ∉ ex -> h'.get? b = some o
 slot : ∀ b o, h.get? b = some o -> H b = none -> b ∈ fs -> b ∉ ex -> ∃ sl, h'.get? b = some { o with slots := sl }
 free : ∀ b o, h.get? b = some o -> H b = none -> b ∉ ex -> H' b = none
 there : ∀ b o, h.get? b = some o -> b ∉ ex -> ∃ o', h'.get? b = some o'
 tups : ∀ b xs, H b = some (.tup xs) -> H' b = some (.tup xs)
 frzs : ∀ b o u, H b = some (.frz o u) -> H' b = some (.frz o u)
 tbls : ∀ b ps, H b = some (.tbl ps) -> ∃ more, H' b = some (.tbl (ps ++ more))
section
variable {fs fs' ex ex' : List Addr} {H H1 H2 : Hp} {h h1 h2 h' : Heap} {a x e : Addr} {o : HO}
theorem Un.any (u : Un fs ex H H1 h h1) {b : Addr} {ob : Obj} (q : h.get? b = some ob) (n : H b = none) (hx : b ∉ ex) : ∃ sl, h1.get? b = some { ob with slots := sl } := by
 by_cases hb : b ∈ fs
 .exact u.slot b ob q n hb hx
 .exact ⟨ob.slots, u.keep b ob q n hb hx⟩
theorem Un.kept (k : ∀ b u, h.get? b = some u -> h'.get? b = some u) : Un fs ex H H h h' :=
 ⟨λ b ob q _ _ _ => k b ob q, λ b ob q _ _ _ => ⟨ob.slots, k b ob q⟩, λ _ _ _ n _ => n, λ b ob q _ => ⟨ob, k b ob q⟩, λ _ _ q => q, λ _ _ _ q => q, λ _ ps q => ⟨#[], by rw [q]; simp⟩⟩
theorem Un.refl : Un fs ex H H h h := Un.kept λ _ _ q => q
theorem Un.laid (k : ∀ b u, h.get? b = some u -> h'.get? b = some u) (hp : h.objs.size <= a) (hn : H a = none) : Un fs ex H (upd H a o) h h' where
 keep := λ b u q _ _ _ => k b u q
 slot := λ b u q _ _ _ => ⟨u.slots, k b u q⟩
 free := λ b u q n _ => by rw [aV (Nat.ne_of_lt (Nat.lt_of_lt_of_le (Heap.lt_size q) hp))]; exact n
 there := λ b u q _ => ⟨u, k b u q⟩
 tups := λ b xs q => by rw [aV (cL q hn)]; exact q
 frzs := λ b u xs q => by rw [aV (cL q hn)]; exact q
 tbls := λ b ps q => ⟨#[], by rw [aV (cL q hn), q]; simp⟩
theorem Un.write (mu : Mut (H x)) (he : e = x ∨ H e = some (.own x)) (k : ∀ b u, b ≠ e -> h.get? b = some u -> h'.get? b = some u) (heo : ∃ u, h'.get? e = some u) : Un fs ex H (upd H x o) h h' := by
 have hx : ∀ b, H b = none -> b ≠ x := λ b n z => by subst z; rw [n] at mu; exact mu
 have hb : ∀ b, H b = none -> b ≠ e := λ b n z => by
  subst z
  rcases he with r | r
  .exact hx b n r
  .rw [n] at r; cases r
 have hm : ∀ b u, H b = some u -> ¬ Mut (some u) -> b ≠ x := λ b u q nm z => by subst z; rw [q] at mu; exact nm mu
 refine ⟨λ b u q n _ _ => k b u (hb b n) q, λ b u q n _ _ => ⟨u.slots, k b u (hb b n) q⟩, λ b u q n _ => by rw [aV (hx b n)]; exact n, λ b u q _ => ?_,
  λ b xs q => by rw [aV (hm b _ q λ z => z)]; exact q, λ b u xs q => by rw [aV (hm b _ q λ z => z)]; exact q, λ b ps q => ⟨#[], by rw [aV (hm b _ q λ z => z), q]; simp⟩⟩
 by_cases hbe : b = e
 .subst hbe; exact heo
 .exact ⟨u, k b u hbe q⟩
end
def trk (h : Heap) (H : Hp) : List Addr := (List.range h.objs.size).filter λ a => (H a).isSome
def wR (h : Heap) (H : Hp) : Heap := PySem.W.hideAll h (trk h H)
theorem Cu (h : Heap) (H : Hp) : (wR h H).objs.size = h.objs.size := PySem.W.hideAll_size _ _
theorem Ez {h : Heap} {H : Hp} {b : Addr} {o : Obj} (e : h.get? b = some o) (n : H b = none) : (wR h H).get? b = some o :=
 PySem.W.hideAll_get _ e λ hm => by
  have q : (H b).isSome = true := (List.mem_filter.mp hm).2
  rw [n] at q; simp at q
theorem Ht {h : Heap} {H : Hp} {b : Addr} {o : Obj} (e : (wR h H).get? b = some o) : h.get? b = some o /\ H b = none := by
 have e' : h.get? b = some o := PySem.W.of_hideAll (trk h H) e
 refine ⟨e', ?_⟩
 cases q : H b with
 | none => rfl
 | some x =>
  have hm : b ∈ trk h H := List.mem_filter.mpr ⟨List.mem_range.mpr (Heap.lt_size e'), by simp [q]⟩
  have z : (wR h H).get? b = none := PySem.W.hideAll_none (trk h H) hm
  rw [z] at e; cases e
def HX (g h : Heap) (L : Addr) : List (Addr × Obj) := (List.range h.objs.size).filterMap λ a => if a = L ∨ (g.get? a).isSome = true then none else (h.get? a).map λ o => (a, o)
def rest (g h : Heap) (L d : Addr) : List (Addr × Obj) := (HX g h L).filter λ p => decide (p.1 ≠ d)
structure Mod (K : PySem.W.Frag) (mg : Str -> Option Value) (base : Heap) : Prop where
 kin : K.In base
 glob : base.Ns mainGlobals mg
 blt : ∃ mb, base.Ns builtinsNs mb /\ ∀ x : Str, x ≠ "__name__" -> mb x = bootBuiltins x
 nolimit : base.NoLimit
 bmain : ∃ bm ob, mg "__builtins__" = some (.ref bm) /\ bm ≠ builtinsNs /\ base.get? bm = some ob /\ ob.cls = .type "module" /\ ob.dict = some builtinsNs /\ ob.data = .plain
structure Cx where
 prog : Program
 w : World
 K : PySem.W.Frag
 mg : Str -> Option Value
 base : Heap
 A : Around
 N : List Str
 s₀ : Shared
 H₀ : Hp
 env : Env
 outer : List Env
 stack : List Env
 ex : List Addr
 fn : Str -> Bool
 calm : Bool
 pn : List (Addr × Obj)
 xe : Value -> Shared -> Prop
def frs (l : List Env) : List Addr := l.filterMap (·.frame)
abbrev Cx.fs (X : Cx) : List Addr := frs X.outer
def Vis (sc : Scope) (x : Str) : Prop := sc.names.lookup x = some .local ∨ sc.names.lookup x = some .cell ∨ sc.names.lookup x = some .free
def Loc (sc : Scope) (x : Str) : Prop := sc.names.lookup x = some .local ∨ sc.names.lookup x = some .cell
def Look (env : Env) (h : Heap) (m : Str -> Option Value) (x : Str) (u : Value) : Prop :=
 (env.kindOf x = some .local /\ m x = some u) ∨ ((env.kindOf x = some .cell ∨ env.kindOf x = some .free) /\ ∃ c, env.cells.lookup x = some c /\ h.IsCell c (some u))
structure Cx.Ok (X : Cx) : Prop where
 mod : Mod X.K X.mg X.base
 kind : X.env.scope.kind = .function
 glob : X.env.globals = mainGlobals
 blt : X.env.builtins = builtinsNs
 above : X.s₀.heap.objs.size <= X.env.locals
 inj : ∀ x y c, X.env.cells.lookup x = some c -> X.env.cells.lookup y = some c -> x = y
 has : ∀ x, (X.env.kindOf x = some .cell ∨ X.env.kindOf x = some .free) -> ∃ c, X.env.cells.lookup x = some c
 cab : ∀ x c, X.fn x = true -> X.env.cells.lookup x = some c -> X.s₀.heap.objs.size <= c
 hd : X.calm = true -> X.A.handled = none
 frames : X.A.frames = some X.stack
 stk : X.stack = X.outer ∨ (X.stack = X.env :: X.outer /\ X.env.frame = some X.env.locals)
 exf : ∀ b ∈ X.ex, b ≠ X.env.locals /\ ∀ x c, X.env.cells.lookup x = some c -> c ≠ b
 bs : ∀ b o, X.base.get? b = some o -> X.s₀.heap.get? b = some o /\ X.H₀ b = none
 bsz : X.base.objs.size <= X.s₀.heap.objs.size
 noex : ∀ b o, X.base.get? b = some o -> b ∉ X.ex
 exfs : ∀ b ∈ X.ex, b ∉ X.fs
 funs : X.s₀.heap.FunFrames X.base X.outer
 frf : ∀ b ∈ X.fs, X.H₀ b = none
structure GK (a b : Array GenState) : Prop where
 bare : AllBare b
 kept : ∀ (k : Nat) (g : GenState), a[k]? = some g -> b[k]? = some g
theorem GK.refl {a : Array GenState} (h : AllBare a) : GK a a := ⟨h, λ _ _ e => e⟩
theorem GK.trans {a b c : Array GenState} (x : GK a b) (y : GK b c) : GK a c := ⟨y.bare, λ k g e => y.kept k g (x.kept k g e)⟩
theorem GK.again {a b : Array GenState} (x : GK a b) : GK b b := GK.refl x.bare
structure Inv (X : Cx) (pins : List (Addr × Obj)) (σ : List (Option V)) (H : Hp) (s : Shared) : Prop where
 ok : X.Ok
 os : s.os = X.s₀.os
 bare : GK X.s₀.gens s.gens
 base : Un X.fs X.ex X.H₀ H X.s₀.heap s.heap
 loc : ∃ m, s.heap.Ns X.env.locals m /\ ∀ (i : Nat) (x : Str) (v : V), X.N[i]? = some x -> σ[i]? = some (some v) -> Vis X.env.scope x -> ∃ u, RelV v u /\ Look X.env s.heap m x u
 cell : ∀ x c, X.env.cells.lookup x = some c -> ∃ v, s.heap.IsCell c v
 free : H X.env.locals = none
 freeC : ∀ x c, X.env.cells.lookup x = some c -> H c = none
 pin : ∀ p ∈ X.pn ++ pins, s.heap.get? p.1 = some p.2 /\ H p.1 = none /\ p.1 ≠ X.env.locals /\ p.1 ∉ X.fs /\ ∀ v, p.2.data ≠ .cell v
 hok : HOk X.prog X.w H s.heap
 len : σ.length = X.N.length
section
variable {X : Cx} {pins : List (Addr × Obj)} {σ : List (Option V)} {H H' : Hp} {s : Shared} {h' : Heap}
theorem Cx.Ok.nofr (ok : X.Ok) {b : Addr} {o : Obj} (e : X.base.get? b = some o) : b ∉ X.fs := λ hb => by
 have := (ok.funs.mem hb).1
 rw [e] at this; cases this
theorem Inv.bs (I : Inv X pins σ H s) : ∀ b o, X.base.get? b = some o -> s.heap.get? b = some o /\ H b = none := λ b o e =>
 ⟨I.base.keep b o (I.ok.bs b o e).1 (I.ok.bs b o e).2 (I.ok.nofr e) (I.ok.noex b o e), I.base.free b o (I.ok.bs b o e).1 (I.ok.bs b o e).2 (I.ok.noex b o e)⟩
theorem Inv.bk (I : Inv X pins σ H s) : ∀ b o, X.base.get? b = some o -> s.heap.get? b = some o := λ b o e => (I.bs b o e).1
theorem Inv.mod (I : Inv X pins σ H s) : Mod X.K X.mg X.base := I.ok.mod
theorem Inv.kIn (I : Inv X pins σ H s) : X.K.In s.heap := I.ok.mod.kin.keeps I.bk
theorem Inv.nolimit (I : Inv X pins σ H s) : s.heap.NoLimit := I.ok.mod.nolimit.keeps I.bk
theorem Inv.fr (I : Inv X pins σ H s) : ∃ m, Fr X.base X.env.locals s.heap m :=
 let ⟨m, hn, _⟩ := I.loc
 ⟨m, hn, I.bk, Nat.le_trans I.ok.bsz I.ok.above⟩
theorem Inv.lt (I : Inv X pins σ H s) : X.env.locals < s.heap.objs.size := let ⟨_, hn, _⟩ := I.loc; hn.lt
theorem Inv.sz (I : Inv X pins σ H s) : X.s₀.heap.objs.size <= s.heap.objs.size := Nat.le_trans I.ok.above (Nat.le_of_lt I.lt)
theorem Inv.nofs (I : Inv X pins σ H s) {a : Addr} (h : s.heap.objs.size <= a) : a ∉ X.fs := λ hb => by
 obtain ⟨_, o, ho, _⟩ := I.ok.funs.mem hb
 exact absurd (Nat.lt_of_lt_of_le (Heap.lt_size ho) (Nat.le_trans I.sz h)) (Nat.lt_irrefl _)
theorem Inv.cne (I : Inv X pins σ H s) : ∀ x c, X.env.cells.lookup x = some c -> c ≠ X.env.locals := λ x c e z => by
 obtain ⟨v, o, ho, hd⟩ := I.cell x c e
 obtain ⟨m, ⟨o', es, ep, ho', hd', _⟩, _⟩ := I.loc
 rw [z, ho'] at ho; cases ho; rw [hd'] at hd; cases hd
theorem Inv.funs (I : Inv X pins σ H s) : s.heap.FunFrames X.base X.outer := by
 have all : ∀ (l : List Env), (∀ b ∈ frs l, b ∈ X.fs) -> X.s₀.heap.FunFrames X.base l -> s.heap.FunFrames X.base l := by
  intro l
  induction l with
  | nil => intro _ _; trivial
  | cons env r ih =>
   intro hs hl
   obtain ⟨hk, ⟨L, o, hf, hn, ho, hd⟩, hr⟩ := hl
   have hL : L ∈ X.fs := hs L (by unfold frs; rw [List.filterMap_cons, hf]; exact List.mem_cons_self)
   obtain ⟨sl, e⟩ := I.base.slot L o ho (I.ok.frf L hL) hL λ z => I.ok.exfs L z hL
   exact ⟨hk, ⟨L, _, hf, hn, e, hd⟩, ih (λ b hb => hs b (by unfold frs; rw [List.filterMap_cons, hf]; exact List.mem_cons_of_mem _ hb)) hr⟩
 exact all X.outer (λ _ hb => hb) I.ok.funs
theorem Inv.stack (I : Inv X pins σ H s) : s.heap.FunFrames X.base X.stack := by
 rcases I.ok.stk with e | ⟨e, hf⟩
 .rw [e]; exact I.funs
 .rw [e]
  obtain ⟨m, hn, _⟩ := I.loc
  refine .cons (by rw [I.ok.kind]; decide) hf hn ?_ I.funs
  exact Heap.get?_none_of_le (Nat.le_trans I.ok.bsz I.ok.above)
theorem Inv.stkSub (I : Inv X pins σ H s) : ∀ b ∈ frs X.stack, b ∈ X.env.locals :: X.fs := λ b hb => by
 rcases I.ok.stk with e | ⟨e, hf⟩
 .rw [e] at hb; exact List.mem_cons_of_mem _ hb
 .rw [e] at hb
  unfold frs at hb
  rw [List.filterMap_cons, hf] at hb
  exact hb
theorem Inv.stkFree (I : Inv X pins σ H s) : ∀ b ∈ frs X.stack, H b = none := λ b hb => by
 rcases List.mem_cons.mp (I.stkSub b hb) with e | hb
 .rw [e]; exact I.free
 .obtain ⟨_, o, ho, _⟩ := I.ok.funs.mem hb
  exact I.base.free b o ho (I.ok.frf b hb) λ z => I.ok.exfs b z hb
theorem Inv.step {g' : Array GenState} {t' : Nat} {d' : Drawn} {ch : List Addr} (I : Inv X pins σ H s)
  (hch : ∀ b ∈ ch, (b ∈ X.ex ∨ X.s₀.heap.objs.size <= b) /\ b ≠ X.env.locals /\ (∀ x c, X.env.cells.lookup x = some c -> c ≠ b) /\ ∀ p ∈ X.pn ++ pins, p.1 ≠ b)
  (keep : ∀ b o, b ≠ X.env.locals -> b ∉ X.fs -> b ∉ ch -> s.heap.get? b = some o -> H b = none -> h'.get? b = some o)
  (slot : ∀ b o, b ≠ X.env.locals -> b ∈ X.fs -> b ∉ ch -> s.heap.get? b = some o -> H b = none -> ∃ sl, h'.get? b = some { o with slots := sl }) (free : ∀ b o, b ∉ ch -> s.heap.get? b = some o -> H b = none -> H' b = none)
  (there : ∀ b o, b ∉ ch -> s.heap.get? b = some o -> ∃ o', h'.get? b = some o')
  (tups : ∀ b xs, H b = some (.tup xs) -> H' b = some (.tup xs)) (frzs : ∀ b o u, H b = some (.frz o u) -> H' b = some (.frz o u)) (tbls : ∀ b ps, H b = some (.tbl ps) -> ∃ more, H' b = some (.tbl (ps ++ more)))
  (ns : ∀ m, s.heap.Ns X.env.locals m -> h'.Ns X.env.locals m) (hok : HOk X.prog X.w H' h') (hg : GK s.gens g') :
  Inv X pins σ H' { s with heap := h', gens := g', drawn := d', toks := t' } := by
 have neL : ∀ b o, X.s₀.heap.get? b = some o -> b ≠ X.env.locals := λ b o e => Nat.ne_of_lt (Nat.lt_of_lt_of_le (Heap.lt_size e) I.ok.above)
 have neC : ∀ b o, X.s₀.heap.get? b = some o -> b ∉ X.ex -> b ∉ ch := λ b o e hx hb => by
  rcases (hch b hb).1 with z | z
  .exact hx z
  .exact absurd (Nat.lt_of_lt_of_le (Heap.lt_size e) z) (Nat.lt_irrefl _)
 have cellK : ∀ x c, X.env.cells.lookup x = some c -> ∀ v, s.heap.IsCell c v -> h'.IsCell c v := λ x c e v zq1 => by
  obtain ⟨o, ho, hd⟩ := zq1
  have nch : c ∉ ch := λ z => (hch c z).2.2.1 x c e rfl
  by_cases hc : c ∈ X.fs
  .obtain ⟨sl, q⟩ := slot c o (I.cne x c e) hc nch ho (I.freeC x c e)
   exact ⟨_, q, hd⟩
  .exact ⟨o, keep c o (I.cne x c e) hc nch ho (I.freeC x c e), hd⟩
 refine ⟨I.ok, I.os, I.bare.trans hg, ⟨λ b o e n hb hx => ?_, λ b o e n hb hx => ?_, λ b o e n hx => ?_, λ b o e hx => ?_, λ b xs e => tups b xs (I.base.tups b xs e), λ b o xs e => frzs b o xs (I.base.frzs b o xs e), λ b ps e => ?_⟩, ?_, λ x c e => ?_, ?_, λ x c e => ?_, λ p hp => ?_, hok, I.len⟩
 .exact keep b o (neL b o e) hb (neC b o e hx) (I.base.keep b o e n hb hx) (I.base.free b o e n hx)
 .obtain ⟨sl, e1⟩ := I.base.slot b o e n hb hx
  obtain ⟨sl', e2⟩ := slot b _ (neL b o e) hb (neC b o e hx) e1 (I.base.free b o e n hx)
  exact ⟨sl', e2⟩
 .obtain ⟨o', e1⟩ := I.base.there b o e hx
  exact free b o' (neC b o e hx) e1 (I.base.free b o e n hx)
 .obtain ⟨o', e1⟩ := I.base.there b o e hx
  exact there b o' (neC b o e hx) e1
 .obtain ⟨m1, e1⟩ := I.base.tbls b ps e
  obtain ⟨m2, e2⟩ := tbls b _ e1
  exact ⟨m1 ++ m2, by rw [e2, Array.append_assoc]⟩
 .obtain ⟨m, hn, hl⟩ := I.loc
  refine ⟨m, ns m hn, λ i x v e1 e2 e3 => ?_⟩
  obtain ⟨u, r, l⟩ := hl i x v e1 e2 e3
  refine ⟨u, r, ?_⟩
  rcases l with l | ⟨k, c, e, z⟩
  .exact .inl l
  .exact .inr ⟨k, c, e, cellK x c e _ z⟩
 .obtain ⟨v, z⟩ := I.cell x c e
  exact ⟨v, cellK x c e v z⟩
 .obtain ⟨m, ⟨o, _, _, ho, _⟩, _⟩ := I.loc
  exact free _ o (λ z => (hch _ z).2.1 rfl) ho I.free
 .obtain ⟨v, o, ho, hd⟩ := I.cell x c e
  exact free c o (λ z => (hch c z).2.2.1 x c e rfl) ho (I.freeC x c e)
 .obtain ⟨e, n, ne, nf, d⟩ := I.pin p hp
  have nch : p.1 ∉ ch := λ z => (hch p.1 z).2.2.2 p hp rfl
  exact ⟨keep p.1 p.2 ne nf nch e n, free p.1 p.2 nch e n, ne, nf, d⟩
theorem Inv.un {t' : Nat} (I : Inv X pins σ H s) (u : Un X.fs [] H H' s.heap h') (hok : HOk X.prog X.w H' h') : Inv X pins σ H' { s with heap := h', toks := t' } := by
 obtain ⟨m, ⟨o, es, ep, ho, r⟩, _⟩ := id I.loc
 obtain ⟨sl, hL⟩ := u.any ho I.free (by simp)
 exact I.step (g' := s.gens) (d' := s.drawn) (ch := []) (λ _ z => nomatch z) (λ b o _ hb _ e n => u.keep b o e n hb (by simp)) (λ b o _ hb _ e n => u.slot b o e n hb (by simp)) (λ b o _ e n => u.free b o e n (by simp)) (λ b o _ e => u.there b o e (by simp)) u.tups u.frzs u.tbls (λ m' hm => by
  obtain ⟨o', es', ep', ho', r'⟩ := hm
  rw [ho] at ho'; cases ho'
  exact ⟨_, es', ep', hL, r'⟩) hok I.bare.again
theorem Inv.call {g' : Array GenState} {t' : Nat} {d' : Drawn} {ch : List Addr} (I : Inv X pins σ H s) (u : Un (frs X.stack) ch H H' s.heap h') (hok : HOk X.prog X.w H' h') (hg : GK s.gens g')
  (hch : ∀ b ∈ ch, (b ∈ X.ex ∨ X.s₀.heap.objs.size <= b) /\ b ≠ X.env.locals /\ (∀ x c, X.env.cells.lookup x = some c -> c ≠ b) /\ ∀ p ∈ X.pn ++ pins, p.1 ≠ b) :
  Inv X pins σ H' { s with heap := h', gens := g', drawn := d', toks := t' } := by
 obtain ⟨m, ⟨o, es, ep, ho, r⟩, _⟩ := id I.loc
 obtain ⟨sl, hL⟩ := u.any ho I.free λ z => (hch _ z).2.1 rfl
 exact I.step (ch := ch) hch (λ b o hL hb hc e n => u.keep b o e n (λ z => (List.mem_cons.mp (I.stkSub b z)).elim hL hb) hc) (λ b o _ _ hc e n => u.any e n hc) (λ b o hc e n => u.free b o e n hc) (λ b o hc e => u.there b o e hc) u.tups u.frzs u.tbls (λ m' hm => by
  obtain ⟨o', es', ep', ho', r'⟩ := hm
  rw [ho] at ho'; cases ho'
  exact ⟨_, es', ep', hL, r'⟩) hok hg
theorem Inv.turned {t' : Nat} {it : Addr} (I : Inv X pins σ H s) (k : ∀ b o, b ≠ it -> s.heap.get? b = some o -> h'.get? b = some o) (hn : H it = none) (hL : it ≠ X.env.locals)
  (h1 : it ∈ X.ex ∨ X.s₀.heap.objs.size <= it) (h2 : ∀ x c, X.env.cells.lookup x = some c -> c ≠ it) (h3 : ∀ p ∈ X.pn ++ pins, p.1 ≠ it) : Inv X pins σ H { s with heap := h', toks := t' } := by
 have nit : ∀ b u, H b = some u -> b ≠ it := λ b u e z => by rw [z, hn] at e; cases e
 refine I.step (g' := s.gens) (d' := s.drawn) (ch := [it]) (λ b hb => ?_) (λ b o _ _ hc e _ => k b o (λ z => hc (by simp [z])) e) (λ b o _ _ hc e _ => ⟨o.slots, k b o (λ z => hc (by simp [z])) e⟩) (λ _ _ _ _ n => n)
  (λ b o hc e => ⟨o, k b o (λ z => hc (by simp [z])) e⟩) (λ _ _ e => e) (λ _ _ _ e => e) (λ b ps e => ⟨#[], by rw [e]; simp⟩) (λ m hm => ?_) (λ b u e => ?_) I.bare.again
 .have e : b = it := by simpa using hb
  subst e
  exact ⟨h1, hL, h2, h3⟩
 .obtain ⟨o, es, ep, ho, r⟩ := hm
  exact ⟨o, es, ep, k _ o (Ne.symm hL) ho, r⟩
 .refine (I.hok b u e).stay (λ c v hc q => k c v ?_ q) (λ _ q => q) λ _ _ q => q
  rcases hc with z | z
  .rw [z]; exact nit b u e
  .exact nit c _ z
theorem Inv.tok (I : Inv X pins σ H s) (t : Nat) : Inv X pins σ H { s with toks := t } := I.un (h' := s.heap) (t' := t) Un.refl I.hok
theorem Inv.kept {t' : Nat} (I : Inv X pins σ H s) (k : ∀ b u, s.heap.get? b = some u -> h'.get? b = some u) : Inv X pins σ H { s with heap := h', toks := t' } := I.un (Un.kept k) (I.hok.kept k)
theorem Inv.laid {a : Addr} {o : HO} {t' : Nat} (I : Inv X pins σ H s) (k : ∀ b u, s.heap.get? b = some u -> h'.get? b = some u) (hp : s.heap.objs.size <= a) (new : jJ X.prog X.w (upd H a o) h' a o) :
  Inv X pins σ (upd H a o) { s with heap := h', toks := t' } := I.un (Un.laid k hp (I.hok.fresh hp)) (I.hok.laid k hp new)
theorem Inv.write {x e : Addr} {o : HO} {t' : Nat} (I : Inv X pins σ H s) (mu : Mut (H x)) (he : e = x ∨ H e = some (.own x)) (k : ∀ b u, b ≠ e -> s.heap.get? b = some u -> h'.get? b = some u) (heo : ∃ u, h'.get? e = some u)
  (new : jJ X.prog X.w (upd H x o) h' x o) : Inv X pins σ (upd H x o) { s with heap := h', toks := t' } := I.un (Un.write mu he k heo) (I.hok.write mu he k heo new)
theorem Inv.weak {σ' : List (Option V)} (I : Inv X pins σ H s) (hl : σ'.length = σ.length) (w : ∀ (i : Nat) v, σ'[i]? = some (some v) -> σ[i]? = some (some v)) : Inv X pins σ' H s :=
 ⟨I.ok, I.os, I.bare, I.base, let ⟨m, hn, hl'⟩ := I.loc; ⟨m, hn, λ i x v e1 e2 e3 => hl' i x v e1 (w i v e2) e3⟩, I.cell, I.free, I.freeC, I.pin, I.hok, hl.trans I.len⟩
theorem Inv.pins_of {pins' : List (Addr × Obj)} (I : Inv X pins σ H s) (h : ∀ p ∈ pins', s.heap.get? p.1 = some p.2 /\ H p.1 = none /\ p.1 ≠ X.env.locals /\ p.1 ∉ X.fs /\ ∀ v, p.2.data ≠ .cell v) : Inv X pins' σ H s :=
 ⟨I.ok, I.os, I.bare, I.base, I.loc, I.cell, I.free, I.freeC, λ p hp => (List.mem_append.mp hp).elim (λ z => I.pin p (List.mem_append_left _ z)) (h p), I.hok, I.len⟩
theorem yN {N : List Str} (hN : N.Nodup) {i j : Nat} {x : Str} (a : N[i]? = some x) (b : N[j]? = some x) : i = j := by
 obtain ⟨h1, e1⟩ := List.getElem?_eq_some_iff.mp a
 obtain ⟨h2, e2⟩ := List.getElem?_eq_some_iff.mp b
 exact (List.getElem_inj hN).mp (e1.trans e2.symm)
theorem uG {M : Model} {A : Around} {E : Value -> Shared -> Prop} {i : Nat} {x : Str} {v : V} {u : Value} {Q : Unit -> Shared -> Prop} (I : Inv X pins σ H s) (hN : X.N.Nodup) (hi : X.N[i]? = some x) (hx : Loc X.env.scope x) (r : RelV v u)
  (h : ∀ s', Inv X pins (σ.set i (some v)) H s' -> (∃ a, Heap.SameBut a s.heap s'.heap /\ (a = X.env.locals ∨ X.env.cells.lookup x = some a)) -> Q () s') (hf : X.fn x = true ∨ X.env.scope.names.lookup x = some .local := by first | exact .inl rfl | exact .inr rfl | assumption) : wpAny M A (storeName X.env x u) Q E s := by
 obtain ⟨m, hn, hl⟩ := id I.loc
 have hcls : (X.env.scope.kind == .class || (X.env.scope.kind == .module && X.env.locals != X.env.globals)) = false := by rw [I.ok.kind]; rfl
 have hiσ : i < σ.length := by rw [I.len]; exact (List.getElem?_eq_some_iff.mp hi).1
 have cne := I.cne
 have tracked : ∀ {a : Addr} {h' : Heap}, (∃ o, s.heap.get? a = some o /\ H a = none) -> Heap.SameBut a s.heap h' -> HOk X.prog X.w H h' := λ {a h'} ha hs b ob e => by
  obtain ⟨_, _, hfree⟩ := ha
  refine (I.hok b ob e).stay (λ c w' hc q => (hs.2 c ?_).trans q) (λ _ q => q) λ _ _ q => q
  rintro rfl
  rcases hc with rfl | hc
  .rw [hfree] at e; cases e
  .rw [hfree] at hc; cases hc
 rcases hx with hk | hk
 .refine wpAny_storeName_local hk hn (λ h' hn' hs => ?_) hcls
  obtain ⟨oL, _, _, hoL, _⟩ := id hn
  refine h _ ⟨I.ok, I.os, I.bare, ⟨λ b o e n hb hx => ?_, λ b o e n hb hx => ?_, I.base.free, λ b o e hx => ?_, I.base.tups, I.base.frzs, I.base.tbls⟩, ⟨_, hn', λ j y v' e1 e2 e3 => ?_⟩, λ y c e => ?_, I.free, I.freeC, λ p hp => ?_, tracked ⟨oL, hoL, I.free⟩ hs, by simpa using I.len⟩ ⟨_, hs, .inl rfl⟩
  .exact (hs.2 b (Nat.ne_of_lt (Nat.lt_of_lt_of_le (Heap.lt_size e) I.ok.above))).trans (I.base.keep b o e n hb hx)
  .obtain ⟨sl, e1⟩ := I.base.slot b o e n hb hx
   exact ⟨sl, (hs.2 b (Nat.ne_of_lt (Nat.lt_of_lt_of_le (Heap.lt_size e) I.ok.above))).trans e1⟩
  .obtain ⟨o', e1⟩ := I.base.there b o e hx
   exact ⟨o', (hs.2 b (Nat.ne_of_lt (Nat.lt_of_lt_of_le (Heap.lt_size e) I.ok.above))).trans e1⟩
  .by_cases hj : j = i
   .subst hj
    rw [hi] at e1; cases e1
    rw [List.getElem?_set_self hiσ] at e2
    cases e2
    exact ⟨u, r, .inl ⟨hk, by simp⟩⟩
   .rw [List.getElem?_set_ne (Ne.symm hj)] at e2
    obtain ⟨u', r', q⟩ := hl j y v' e1 e2 e3
    refine ⟨u', r', ?_⟩
    rcases q with ⟨k, e⟩ | ⟨k, c, e, z⟩
    .refine .inl ⟨k, ?_⟩
     have : y ≠ x := λ e => hj (yN hN e1 (e ▸ hi))
     simp [this, e]
    .exact .inr ⟨k, c, e, z.sameBut hs (cne y c e)⟩
  .obtain ⟨w', z⟩ := I.cell y c e
   exact ⟨w', z.sameBut hs (cne y c e)⟩
  .obtain ⟨e, n, ne, nf, d⟩ := I.pin p hp
   exact ⟨(hs.2 p.1 ne).trans e, n, ne, nf, d⟩
 .have hfn : X.fn x = true := by
   rcases hf with z | z
   .exact z
   .rw [z] at hk; cases hk
  obtain ⟨c, hc⟩ := I.ok.has x (.inl hk)
  obtain ⟨w', z⟩ := I.cell x c hc
  refine wpAny_storeName_cell I.ok.kind hk hc z (λ h' hc' hs => ?_)
  obtain ⟨oc, hoc, hocd⟩ := id z
  refine h { s with heap := h' } ⟨I.ok, I.os, I.bare, ⟨λ b o e n hb hx => ?_, λ b o e n hb hx => ?_, I.base.free, λ b o e hx => ?_, I.base.tups, I.base.frzs, I.base.tbls⟩, ⟨m, hn.sameBut hs (Ne.symm (cne x c hc)), λ j y v' e1 e2 e3 => ?_⟩, λ y c' e => ?_, I.free, I.freeC, λ p hp => ?_, tracked ⟨oc, hoc, I.freeC x c hc⟩ hs, by simpa using I.len⟩ ⟨c, hs, .inr hc⟩
  .exact (hs.2 b (Nat.ne_of_lt (Nat.lt_of_lt_of_le (Heap.lt_size e) (I.ok.cab x c hfn hc)))).trans (I.base.keep b o e n hb hx)
  .obtain ⟨sl, e1⟩ := I.base.slot b o e n hb hx
   exact ⟨sl, (hs.2 b (Nat.ne_of_lt (Nat.lt_of_lt_of_le (Heap.lt_size e) (I.ok.cab x c hfn hc)))).trans e1⟩
  .obtain ⟨o', e1⟩ := I.base.there b o e hx
   exact ⟨o', (hs.2 b (Nat.ne_of_lt (Nat.lt_of_lt_of_le (Heap.lt_size e) (I.ok.cab x c hfn hc)))).trans e1⟩
  .by_cases hj : j = i
   .subst hj
    rw [hi] at e1; cases e1
    rw [List.getElem?_set_self hiσ] at e2
    cases e2
    exact ⟨u, r, .inr ⟨.inl hk, c, hc, hc'⟩⟩
   .rw [List.getElem?_set_ne (Ne.symm hj)] at e2
    obtain ⟨u', r', q⟩ := hl j y v' e1 e2 e3
    refine ⟨u', r', ?_⟩
    rcases q with q | ⟨k, c', e, z'⟩
    .exact .inl q
    .refine .inr ⟨k, c', e, z'.sameBut hs ?_⟩
     rintro rfl
     exact hj (yN hN e1 (I.ok.inj _ _ _ e hc ▸ hi))
  .by_cases hcc : c' = c
   .subst hcc; exact ⟨_, hc'⟩
   .obtain ⟨w2, z2⟩ := I.cell y c' e
    exact ⟨w2, z2.sameBut hs hcc⟩
  .obtain ⟨e, n, ne, nf, d⟩ := I.pin p hp
   refine ⟨(hs.2 p.1 ?_).trans e, n, ne, nf, d⟩
   intro q
   rw [q, hoc] at e
   have q' : oc = p.2 := Option.some.inj e
   exact d w' (by rw [<- q']; exact hocd)
theorem jn {M : Model} {A : Around} {E : Value -> Shared -> Prop} {i : Nat} {x : Str} {v : V} {u : Value} {Q : Unit -> Shared -> Prop} (I : Inv X pins σ H s) (hN : X.N.Nodup) (hi : X.N[i]? = some x) (hx : Loc X.env.scope x) (r : RelV v u)
  (h : ∀ s', Inv X pins (σ.set i (some v)) H s' -> Q () s') (hf : X.fn x = true ∨ X.env.scope.names.lookup x = some .local := by first | exact .inl rfl | exact .inr rfl | assumption) : wpAny M A (storeName X.env x u) Q E s :=
 uG I hN hi hx r (λ s' I' _ => h s' I') hf
theorem Inv.call' {s' : Shared} {ch : List Addr} (I : Inv X pins σ H s) (ho : s'.os = s.os) (u : Un (frs X.stack) ch H H' s.heap s'.heap) (hok : HOk X.prog X.w H' s'.heap) (hg : GK s.gens s'.gens)
  (hch : ∀ b ∈ ch, (b ∈ X.ex ∨ X.s₀.heap.objs.size <= b) /\ b ≠ X.env.locals /\ (∀ x c, X.env.cells.lookup x = some c -> c ≠ b) /\ ∀ p ∈ X.pn ++ pins, p.1 ≠ b) : Inv X pins σ H' s' := by
 obtain ⟨h', g', d', t', o'⟩ := s'
 have e : o' = s.os := ho
 subst e
 exact I.call (g' := g') (t' := t') (d' := d') u hok hg hch
end
abbrev XK := Value -> Option Addr -> Hp -> Prop
abbrev St := List (Option V)
abbrev VK := V -> Hp -> Prop
abbrev TE := St -> Hp -> VK -> Prop
abbrev TT := St -> Hp -> (Bool -> Hp -> Prop) -> Prop
abbrev TA := St -> Hp -> (List V -> Hp -> Prop) -> Prop
structure Ends where
 nx : St -> Hp -> Prop
 rt : VK
 bk : St -> Hp -> Prop := λ _ _ => False
 ct : St -> Hp -> Prop := λ _ _ => False
abbrev TS := Ends -> St -> Hp -> Prop
def EP (X : Cx) (pins : List (Addr × Obj)) (σ : St) (Q : VK) (u : Value) (s' : Shared) : Prop := ∃ v H', Inv X pins σ H' s' /\ RelV v u /\ Q v H'
def TP (X : Cx) (pins : List (Addr × Obj)) (σ : St) (Q : Bool -> Hp -> Prop) (b : Bool) (s' : Shared) : Prop := ∃ H', Inv X pins σ H' s' /\ Q b H'
def AP (X : Cx) (pins : List (Addr × Obj)) (σ : St) (Q : List V -> Hp -> Prop) (us : List Value) (s' : Shared) : Prop := ∃ vs H', Inv X pins σ H' s' /\ Vals vs us /\ Q vs H'
def SP (X : Cx) (pins : List (Addr × Obj)) (D : Ends) (f : Flow) (s' : Shared) : Prop :=
 match f with
 | .next => ∃ σ' H', Inv X pins σ' H' s' /\ D.nx σ' H'
 | .brk => ∃ σ' H', Inv X pins σ' H' s' /\ D.bk σ' H'
 | .cont => ∃ σ' H', Inv X pins σ' H' s' /\ D.ct σ' H'
 | .ret u => ∃ v σ' H', Inv X pins σ' H' s' /\ RelV v u /\ D.rt v H'
def PE (X : Cx) (e : Expr) (t : TE) : Prop :=
 ∀ (pins : List (Addr × Obj)) (s : Shared) (σ : St) (H : Hp) (Q : VK), Inv X pins σ H s -> t σ H Q -> wpAny (model X.prog X.w) X.A (eval e X.env) (EP X pins σ Q) X.xe s
def PT (X : Cx) (e : Expr) (t : TT) : Prop :=
 ∀ (pins : List (Addr × Obj)) (s : Shared) (σ : St) (H : Hp) (Q : Bool -> Hp -> Prop), Inv X pins σ H s -> t σ H Q -> wpAny (model X.prog X.w) X.A (isTrue e X.env (eval e X.env)) (TP X pins σ Q) X.xe s
def PW (X : Cx) (e : Expr) (t : TT) : Prop :=
 ∀ (whole : Sem Value) (pins : List (Addr × Obj)) (s : Shared) (σ : St) (H : Hp) (Q : Bool -> Hp -> Prop), Inv X pins σ H s -> t σ H Q -> wpAny (model X.prog X.w) X.A (isTrue e X.env whole) (TP X pins σ Q) X.xe s
theorem PW.pt {X : Cx} {e : Expr} {t : TT} (h : PW X e t) : PT X e t := h _
def PA (X : Cx) (es : List Expr) (t : TA) : Prop :=
 ∀ (pos : Pos) (pins : List (Addr × Obj)) (s : Shared) (σ : St) (H : Hp) (Q : List V -> Hp -> Prop), Inv X pins σ H s -> t σ H Q -> wpAny (model X.prog X.w) X.A (spliced (backTo pos (starEach es X.env))) (AP X pins σ Q) X.xe s
def PS (X : Cx) (st : Stmt) (t : TS) : Prop :=
 ∀ (pins : List (Addr × Obj)) (s : Shared) (σ : St) (H : Hp) (D : Ends), Inv X pins σ H s -> t D σ H -> wpAny (model X.prog X.w) X.A (exec st X.env) (SP X pins D) X.xe s
def PSs (X : Cx) (st : List Stmt) (t : TS) : Prop :=
 ∀ (pins : List (Addr × Obj)) (s : Shared) (σ : St) (H : Hp) (D : Ends), Inv X pins σ H s -> t D σ H -> wpAny (model X.prog X.w) X.A (execs st X.env) (SP X pins D) X.xe s
theorem thn {α : Type} {t : Sem α} {Q Q' : α -> Shared -> Prop} {M : Model} {A : Around} {E : Value -> Shared -> Prop} {s : Shared} (h : wpAny M A t Q E s) (hQ : ∀ a s, Q a s -> Q' a s) : wpAny M A t Q' E s := wpAny_mono h hQ λ _ _ x => x
section
variable {X : Cx}
def tVar (i : Nat) : TE := λ σ H Q => ∃ v, σ[i]? = some (some v) /\ Q v H
def tC (v : V) : TE := λ _ H Q => Q v H
theorem MP {i : Nat} {x : Str} {pos : Pos} (hN : X.N[i]? = some x) (hv : Vis X.env.scope x) (hd : (x == ("__debug__" : Str)) = false := by decide) (hcd : (x == ("__classdict__" : Str)) = false := by decide) : PE X (.Name x pos) (tVar i) := by
 intro pins s σ H Q I h
 obtain ⟨v, e, h⟩ := h
 obtain ⟨m, hn, hl⟩ := I.loc
 obtain ⟨u, r, l⟩ := hl i x v hN e hv
 have fin : EP X pins σ Q u s := ⟨v, H, I, r, h⟩
 rcases l with ⟨hk, hm⟩ | ⟨hk, c, hc, hcell⟩
 .exact wpAny_Name (wpAny_loadName_local I.ok.kind hk hn hm fin) hd
 .rcases hk with hk | hk
  .exact wpAny_Name (wpAny_loadName_cell I.ok.kind hk hc hcell fin) hd
  .exact wpAny_Name (wpAny_loadName_free I.ok.kind hk hc hcell fin hcd) hd
theorem zc {i j pos} : PE X (.Constant (.int i) j pos) (tC (.int i)) := λ _ _ _ H _ I h => wpAny_Constant_int ⟨.int i, H, I.tok _, ⟨_, rfl⟩, h⟩
theorem Qz {b j pos} : PE X (.Constant (.bool b) j pos) (tC (.bl b)) := λ _ _ _ H _ I h => Constant_bool ⟨.bl b, H, I, rfl, h⟩
def Gl (X : Cx) (x : Str) : Prop := X.env.kindOf x = some .globalImplicit
theorem Aw {E : Value -> Shared -> Prop} {pins : List (Addr × Obj)} {s : Shared} {σ : St} {H : Hp} {x : Str} {u : Value} {pos : Pos} {Q : Value -> Shared -> Prop} (I : Inv X pins σ H s) (hg : Gl X x) (hm : X.mg x = some u) (h : Q u s)
  (hd : (x == ("__debug__" : Str)) = false := by decide) : wpAny (model X.prog X.w) X.A (eval (.Name x pos) X.env) Q E s :=
 Calls.Name_function_global I.ok.kind hg (Calls.loadGlobal_global (by rw [I.ok.glob]; exact I.mod.glob.keeps I.bk) hm h) hd
theorem nF {E : Value -> Shared -> Prop} {pins : List (Addr × Obj)} {s : Shared} {σ : St} {H : Hp} {x : Str} {u : Value} {pos : Pos} {Q : Value -> Shared -> Prop} (I : Inv X pins σ H s) (hg : Gl X x) (hm : X.mg x = none) (hv : bootBuiltins x = some u) (h : Q u s)
  (hn : x ≠ "__name__" := by decide) (hd : (x == ("__debug__" : Str)) = false := by decide) : wpAny (model X.prog X.w) X.A (eval (.Name x pos) X.env) Q E s := by
 obtain ⟨mb, h1, h2⟩ := I.mod.blt
 exact Calls.Name_function_global I.ok.kind hg (Calls.loadGlobal_builtin (by rw [I.ok.glob]; exact I.mod.glob.keeps I.bk) hm (by rw [I.ok.blt]; exact h1.keeps I.bk) ((h2 x hn).trans hv) h) hd
theorem Gx {x : Str} {v : V} {u : Value} {pos : Pos} (hg : Gl X x) (hm : X.mg x = some u) (r : RelV v u) (hd : (x == ("__debug__" : Str)) = false := by decide) : PE X (.Name x pos) (tC v) :=
 λ _ _ _ H _ I h => Aw I hg hm ⟨v, H, I, r, h⟩ hd
theorem Hc {x : Str} {v : V} {u : Value} {pos : Pos} (hg : Gl X x) (hm : X.mg x = none) (hv : bootBuiltins x = some u) (r : RelV v u) (hn : x ≠ "__name__" := by decide) (hd : (x == ("__debug__" : Str)) = false := by decide) : PE X (.Name x pos) (tC v) :=
 λ _ _ _ H _ I h => nF I hg hm hv ⟨v, H, I, r, h⟩ hn hd
variable {a b : Expr} {ta tb : TE} {pos : Pos}
theorem xn (b : Expr) {op : CmpOp} (h : op ≠ .In) (h2 : op ≠ .NotIn) : behindInMarks op b = false := by
 have e1 : (op == CmpOp.In) = false := by cases op <;> first | rfl | exact absurd rfl h
 have e2 : (op == CmpOp.NotIn) = false := by cases op <;> first | rfl | exact absurd rfl h2
 cases b <;> simp [behindInMarks, e1, e2]
variable {tA tB' : TT} {rest : List Expr}
def tAnd (t u : TT) : TT := λ σ H Q => t σ H λ c H1 => if c = true then u σ H1 Q else Q false H1
def tOr (t u : TT) : TT := λ σ H Q => t σ H λ c H1 => if c = true then Q true H1 else u σ H1 Q
def tNot (t : TT) : TT := λ σ H Q => t σ H λ c H1 => Q (!c) H1
theorem Jq (ha : PT X a tA) : PW X (.BoolOp .And [a] pos) tA := by
 intro wh pins s σ H Q I h
 refine isTrue_and (thn (ha pins s σ H Q I h) λ c s1 e => ?_)
 cases c with
 | true => exact isTrue_and_nil e
 | false => exact e
theorem Kq (ha : PT X a tA) : PW X (.BoolOp .Or [a] pos) tA := by
 intro wh pins s σ H Q I h
 refine isTrue_or (thn (ha pins s σ H Q I h) λ c s1 e => ?_)
 cases c with
 | false => exact isTrue_or_nil e
 | true => exact e
theorem MN (ha : PT X a tA) (hb : PW X (.BoolOp .And (b :: rest) pos) tB') : PW X (.BoolOp .And (a :: b :: rest) pos) (tAnd tA tB') := by
 intro wh pins s σ H Q I h
 refine isTrue_and (thn (ha pins s σ H _ I h) λ c s1 zq7 => ?_)
 obtain ⟨H1, I1, q1⟩ := zq7
 cases c with
 | true => exact hb wh pins s1 σ H1 Q I1 q1
 | false => exact ⟨H1, I1, q1⟩
theorem Pj (ha : PT X a tA) (hb : PW X (.BoolOp .Or (b :: rest) pos) tB') : PW X (.BoolOp .Or (a :: b :: rest) pos) (tOr tA tB') := by
 intro wh pins s σ H Q I h
 refine isTrue_or (thn (ha pins s σ H _ I h) λ c s1 zq8 => ?_)
 obtain ⟨H1, I1, q1⟩ := zq8
 cases c with
 | true => exact ⟨H1, I1, q1⟩
 | false => exact hb wh pins s1 σ H1 Q I1 q1
theorem MJ (ha : PT X a tA) : PT X (.UnaryOp .Not a pos) (tNot tA) := by
 intro pins s σ H Q I h
 exact isTrue_not (ha pins s σ H (λ c H1 => Q (!c) H1) I h)
def Qg (ta tb : TE) : TE := λ σ H Q => ta σ H λ x H1 => ∃ c, x = .bl c /\ if c = true then tb σ H1 Q else Q (.bl false) H1
def QJ (ta : TE) : TE := λ σ H Q => ta σ H λ x H1 => ∃ c, x = .bl c /\ Q (.bl (!c)) H1
theorem Kv {op} {t : TE} (h : PE X a t) : PE X (.BoolOp op [a] pos) t := λ pins s σ H Q I hw => BoolOp_one (h pins s σ H Q I hw)
theorem Nv (ha : PE X a ta) (hb : PE X (.BoolOp .And (b :: rest) pos) tb) : PE X (.BoolOp .And (a :: b :: rest) pos) (Qg ta tb) := by
 intro pins s σ H Q I h
 refine BoolOp_and (thn (ha pins s σ H _ I h) λ v s1 zq9 => ?_)
 obtain ⟨x, H1, I1, r1, q1⟩ := zq9
 obtain ⟨c, rfl, q1⟩ := q1
 cases r1
 refine wpAny_truthy_bool ?_
 cases c with
 | true => exact hb pins s1 σ H1 Q I1 q1
 | false => exact ⟨.bl false, H1, I1, rfl, q1⟩
theorem Nu (ha : PE X a ta) : PE X (.UnaryOp .Not a pos) (QJ ta) := by
 intro pins s σ H Q I h
 refine UnaryOp_ (thn (ha pins s σ H _ I h) λ v s1 zq11 => ?_)
 obtain ⟨x, H1, I1, r1, q1⟩ := zq11
 obtain ⟨c, rfl, q1⟩ := q1
 cases r1
 exact not_of (wpAny_truthy_bool ⟨.bl (!c), H1, I1, rfl, q1⟩)
end
def SqL (K : PySem.W.Frag) (H : Hp) (a : Addr) (xs : List V) : Prop :=
 Rd H a (.lst xs) ∨
  ∃ (o : Obj) (its : Array Value) (n : Nat), K.lookup a = some o /\ o.cls = .type "list" /\ o.dict = none /\ o.data = .seq its n /\ its.size <= sizeLine /\ Vals xs its.toList
def SqT (K : PySem.W.Frag) (H : Hp) (a : Addr) (xs : List V) : Prop :=
 Rd H a (.tup xs) ∨
  ∃ (o : Obj) (its : Array Value) (n : Nat), K.lookup a = some o /\ o.cls = .type "tuple" /\ o.data = .seq its n /\ its.size <= sizeLine /\ Vals xs its.toList
def absV : Value -> Option V
 | .none => some .non
 | .bool b => some (.bl b)
 | .int i _ => some (.int i)
 | .str x _ => some (.str x)
 | .bytes b _ => some (.byt b)
 | .float b _ => some (.flt b)
 | .ref a => some (.ref a)
 | .type n => some (.ty n)
 | _ => none
theorem RelV.abs {x : V} {u : Value} (r : RelV x u) : absV u = some x := by
 cases x with
 | non => cases r; rfl
 | bl _ => cases r; rfl
 | int _ => obtain ⟨t, rfl⟩ := r; rfl
 | str _ => obtain ⟨t, rfl⟩ := r; rfl
 | byt _ => obtain ⟨t, rfl⟩ := r; rfl
 | flt _ => obtain ⟨t, rfl⟩ := r; rfl
 | ref _ => cases r; rfl
 | ty _ => cases r; rfl
theorem RelV.inj {x y : V} {u : Value} (r : RelV x u) (q : RelV y u) : x = y := Option.some.inj (r.abs.symm.trans q.abs)
theorem Vals.inj : ∀ {xs ys : List V} {us : List Value}, Vals xs us -> Vals ys us -> xs = ys
 | _, _, _, .nil, .nil => rfl
 | _, _, _, .cons r t, .cons r' t' => by rw [r.inj r', Vals.inj t t']
section
variable {X : Cx} {pins : List (Addr × Obj)} {σ : St} {H : Hp} {s : Shared} {a : Addr} {xs ys : List V}
theorem SqL.of {K : PySem.W.Frag} (h : H a = some (.lst xs)) : SqL K H a xs := .inl (.inl h)
theorem Inv.list (I : Inv X pins σ H s) (h : SqL X.K H a xs) : ∃ its : List Value, Vals xs its /\ PlainL s.heap a its.toArray /\ xs.length <= sizeLine := by
 rcases h with h | ⟨o, its, n, hk, hc, hd, hs, hz, r⟩
 .obtain ⟨z, its, n, r, e⟩ := h.ok I.hok
  exact ⟨its, r, ⟨_, n, e, rfl, rfl, rfl⟩, z⟩
 .refine ⟨its.toList, r, ⟨o, n, I.kIn a o hk, hc, hd, by simpa using hs⟩, ?_⟩
  have e := r.length
  simp only [Array.length_toList] at e
  omega
theorem Inv.tuple (I : Inv X pins σ H s) (h : SqT X.K H a xs) : ∃ its : List Value, Vals xs its /\ IsTup s.heap a its.toArray /\ xs.length <= sizeLine := by
 rcases h with h | ⟨o, its, n, hk, hc, hs, hz, r⟩
 .obtain ⟨z, its, r, p⟩ := h.ok I.hok
  exact ⟨its, r, p, z⟩
 .refine ⟨its.toList, r, ⟨o, I.kIn a o hk, hc, n, by simpa using hs⟩, ?_⟩
  have e := r.length
  simp only [Array.length_toList] at e
  omega
theorem Inv.list_inj (I : Inv X pins σ H s) (h : SqL X.K H a xs) (h' : SqL X.K H a ys) : xs = ys := by
 obtain ⟨its, r, ⟨o, n, e, _, _, d⟩, _⟩ := I.list h
 obtain ⟨its', r', ⟨o', n', e', _, _, d'⟩, _⟩ := I.list h'
 rw [e] at e'; cases e'
 rw [d] at d'
 injection d' with d1 _
 have : its = its' := by simpa using congrArg Array.toList d1
 subst this
 exact r.inj r'
theorem Inv.tuple_inj (I : Inv X pins σ H s) (h : SqT X.K H a xs) (h' : SqT X.K H a ys) : xs = ys := by
 obtain ⟨its, r, ⟨o, e, _, n, d⟩, _⟩ := I.tuple h
 obtain ⟨its', r', ⟨o', e', _, n', d'⟩, _⟩ := I.tuple h'
 rw [e] at e'; cases e'
 rw [d] at d'
 injection d' with d1 _
 have : its = its' := by simpa using congrArg Array.toList d1
 subst this
 exact r.inj r'
end
abbrev Cx.wish (X : Cx) (E : Value -> Shared -> Prop) : Cx := { X with xe := E }
abbrev Cx.nox (X : Cx) : Cx := X.wish λ _ _ => False
theorem Cx.Ok.wish {X : Cx} (ok : X.Ok) (E : Value -> Shared -> Prop) : (X.wish E).Ok :=
 ⟨ok.mod, ok.kind, ok.glob, ok.blt, ok.above, ok.inj, ok.has, ok.cab, ok.hd, ok.frames, ok.stk, ok.exf, ok.bs, ok.bsz, ok.noex, ok.exfs, ok.funs, ok.frf⟩
theorem Cx.Ok.unwish {X : Cx} {E : Value -> Shared -> Prop} (ok : (X.wish E).Ok) : X.Ok :=
 ⟨ok.mod, ok.kind, ok.glob, ok.blt, ok.above, ok.inj, ok.has, ok.cab, ok.hd, ok.frames, ok.stk, ok.exf, ok.bs, ok.bsz, ok.noex, ok.exfs, ok.funs, ok.frf⟩
section
variable {X : Cx} {pins : List (Addr × Obj)} {σ : St} {H : Hp} {s : Shared} {E : Value -> Shared -> Prop}
theorem Inv.wish (I : Inv X pins σ H s) (E : Value -> Shared -> Prop) : Inv (X.wish E) pins σ H s := ⟨I.ok.wish E, I.os, I.bare, I.base, I.loc, I.cell, I.free, I.freeC, I.pin, I.hok, I.len⟩
theorem Inv.unwish (I : Inv (X.wish E) pins σ H s) : Inv X pins σ H s := ⟨I.ok.unwish, I.os, I.bare, I.base, I.loc, I.cell, I.free, I.freeC, I.pin, I.hok, I.len⟩
theorem SP.unwish {D : Ends} {f : Flow} {s' : Shared} (h : SP (X.wish E) pins D f s') : SP X pins D f s' := by
 cases f with
 | next => obtain ⟨σ', H', I, q⟩ := h; exact ⟨σ', H', I.unwish, q⟩
 | brk => obtain ⟨σ', H', I, q⟩ := h; exact ⟨σ', H', I.unwish, q⟩
 | cont => obtain ⟨σ', H', I, q⟩ := h; exact ⟨σ', H', I.unwish, q⟩
 | ret u => obtain ⟨v, σ', H', I, r, q⟩ := h; exact ⟨v, σ', H', I.unwish, r, q⟩
theorem PSs.nox {st : List Stmt} {t : TS} (h : PSs X.nox st t) : PSs X st t := λ pins s σ H D I hw =>
 wpAny_mono (h pins s σ H D (I.wish _) hw) (λ _ _ q => q.unwish) λ _ _ z => False.elim z
end
section
variable {X : Cx} {st : Stmt} {rest : List Stmt} {t u : TS} {e : Expr} {te : TE} {pos : Pos}
def Qt : TS := λ D σ H => D.nx σ H
def tSeq (t u : TS) : TS := λ D σ H => t { D with nx := u D } σ H
theorem Hs : PSs X [] Qt := λ _ _ σ H _ I h => wpAny_execs_nil ⟨σ, H, I, h⟩
theorem Fd (h1 : PS X st t) (h2 : PSs X rest u) : PSs X (st :: rest) (tSeq t u) := by
 intro pins s σ H D I h
 refine wpAny_execs_cons (thn (h1 pins s σ H { D with nx := u D } I h) λ f s1 q => ?_)
 cases f with
 | next =>
  obtain ⟨σ', H', I', q⟩ := q
  exact h2 pins s1 σ' H' D I' q
 | ret v => exact q
 | brk => exact q
 | cont => exact q
theorem HJ (h1 : PS X st t) : PSs X [st] t := by
 intro pins s σ H D I h
 refine wpAny_execs_cons (thn (h1 pins s σ H D I h) λ f s1 q => ?_)
 cases f with
 | next => exact wpAny_execs_nil q
 | ret v => exact q
 | brk => exact q
 | cont => exact q
def Kw : TS := λ D σ H => D.bk σ H
theorem Fw : PS X (.Break pos) Kw := λ _ _ σ H _ I h => wpAny_Break ⟨σ, H, I, h⟩
theorem Inv.quiet {pins : List (Addr × Obj)} {σ : St} {H : Hp} {s : Shared} (I : Inv X pins σ H s) : interactive X.env = false := by simp [interactive, I.ok.kind]
def Ou (te : TE) : TS := λ D σ H => te σ H λ _ H1 => D.nx σ H1
theorem Ip (he : PE X e te) (hs : swapsWith e none pos.line X.env = pure false := by rfl) : PS X (.Expr e pos) (Ou te) := by
 intro pins s σ H D I h
 exact wpAny_Expr_any (thn (he pins s σ H _ I h) λ v s1 ⟨x, H1, I1, r1, q1⟩ => ⟨σ, H1, I1, q1⟩) I.quiet hs
def tRet (te : TE) : TS := λ D σ H => te σ H D.rt
theorem KR (he : PE X e te) : PS X (.Return (some e) pos) (tRet te) := by
 intro pins s σ H D I h
 exact wpAny_Return_some (thn (he pins s σ H _ I h) λ v s1 ⟨x, H1, I1, r1, q1⟩ => ⟨x, σ, H1, I1, r1, q1⟩)
def tIfS (c : TT) (t u : TS) : TS := λ D σ H => c σ H λ b H1 => if b = true then t D σ H1 else u D σ H1
theorem Qv {c : Expr} {a b : List Stmt} {tc : TT} (hc : PT X c tc) (ha : PSs X a t) (hb : PSs X b u) : PS X (.If c a b pos) (tIfS tc t u) := by
 intro pins s σ H D I h
 refine wpAny_If (thn (hc pins s σ H _ I h) λ d s1 zq13 => ?_)
 obtain ⟨H1, I1, q1⟩ := zq13
 cases d with
 | true => exact ha pins s1 σ H1 D I1 q1
 | false => exact hb pins s1 σ H1 D I1 q1
end
abbrev TG := V -> St -> Hp -> (St -> Hp -> Prop) -> Prop
abbrev TGs := List V -> St -> Hp -> (St -> Hp -> Prop) -> Prop
def PG (X : Cx) (target : Expr) (t : TG) : Prop :=
 ∀ (pins : List (Addr × Obj)) (s : Shared) (σ : St) (H : Hp) (v : V) (u : Value) (Q : St -> Hp -> Prop), Inv X pins σ H s -> RelV v u -> t v σ H Q ->
  wpAny (model X.prog X.w) X.A (assign target X.env u) (λ _ s' => ∃ σ' H', Inv X pins σ' H' s' /\ Q σ' H') X.xe s
def PGs (X : Cx) (ts : List Expr) (t : TGs) : Prop :=
 ∀ (pins : List (Addr × Obj)) (s : Shared) (σ : St) (H : Hp) (vs : List V) (us : List Value) (Q : St -> Hp -> Prop), Inv X pins σ H s -> Vals vs us -> t vs σ H Q ->
  wpAny (model X.prog X.w) X.A (assignInOrder ((assignEach ts X.env).map (·.2)) us) (λ _ s' => ∃ σ' H', Inv X pins σ' H' s' /\ Q σ' H') X.xe s
abbrev Mg := V -> V -> V -> Hp -> (Hp -> Prop) -> Prop
def Qk (X : Cx) (t : Mg) : Prop :=
 ∀ (pins : List (Addr × Obj)) (s : Shared) (σ : St) (H : Hp) (o i v : V) (ov iv u : Value) (Q : Hp -> Prop), Inv X pins σ H s -> RelV o ov -> RelV i iv -> RelV v u -> t o i v H Q ->
  wpAny (model X.prog X.w) X.A (setItem ov iv u) (λ _ s' => ∃ H', Inv X pins σ H' s' /\ Q H') X.xe s
abbrev TIp := V -> V -> Hp -> VK -> Prop
def PIp (X : Cx) (op : Operator) (t : TIp) : Prop :=
 ∀ (pins : List (Addr × Obj)) (s : Shared) (σ : St) (H : Hp) (x y : V) (v u : Value) (Q : VK), Inv X pins σ H s -> RelV x v -> RelV y u -> t x y H Q ->
  wpAny (model X.prog X.w) X.A (inplaceOp op v u) (EP X pins σ Q) X.xe s
section
variable {X : Cx} {pos : Pos}
def Ff (i : Nat) : TG := λ v σ H Q => Q (σ.set i (some v)) H
theorem Js {i : Nat} {x : Str} (hN : X.N.Nodup) (hi : X.N[i]? = some x) (hx : Loc X.env.scope x) (hf : X.fn x = true ∨ X.env.scope.names.lookup x = some .local := by first | exact .inl rfl | exact .inr rfl | assumption) : PG X (.Name x pos) (Ff i) := by
 intro pins s σ H v u Q I r h
 exact wpAny_assign_Name (jn I hN hi hx r (λ s' I' => ⟨_, H, I', h⟩) hf)
def gNil : TGs := λ vs σ H Q => vs = [] /\ Q σ H
def Qn (t : TG) (u : TGs) : TGs := λ vs σ H Q => ∃ v r, vs = v :: r /\ t v σ H λ σ' H' => u r σ' H' Q
theorem GZ : PGs X [] gNil := by
 intro pins s σ H vs us Q I r h
 obtain ⟨e, h⟩ := h
 subst e
 cases r
 exact assignInOrder_nil ⟨σ, H, I, h⟩
theorem Ew {e : Expr} {es : List Expr} {t : TG} {u : TGs} (h1 : PG X e t) (h2 : PGs X es u)
  (hs : (assignEach (e :: es) X.env).map (·.2) = assign e X.env :: (assignEach es X.env).map (·.2) := by rfl) : PGs X (e :: es) (Qn t u) := by
 intro pins s σ H vs us Q I r h
 obtain ⟨v, vr, e1, h⟩ := h
 subst e1
 cases r with
 | cons r rr =>
  rw [hs]
  refine assignInOrder_cons (thn (h1 pins s σ H _ _ _ I r h) λ _ s1 zq14 => ?_)
  obtain ⟨σ1, H1, I1, q1⟩ := zq14
  exact h2 pins s1 σ1 H1 _ _ Q I1 rr q1
def gTup (K : PySem.W.Frag) (n : Nat) (t : TGs) : TG := λ v σ H Q => ∃ a xs, v = .ref a /\ SqT K H a xs /\ xs.length = n /\ t xs σ H Q
theorem Ma {es : List Expr} {k : Nat} {t : TGs} {n : Nat} (hc : X.calm = true) (h : PGs X es t)
  (hn : (assignEach es X.env).length = n := by rfl) (hst : (assignEach es X.env).findIdx? (·.1) = none := by rfl) : PG X (.Tuple es k pos) (gTup X.K n t) := by
 intro pins s σ H v u Q I r hw
 obtain ⟨a, xs, e1, hq, hl, hw⟩ := hw
 subst e1
 cases r
 obtain ⟨its, rv, ht, hz⟩ := I.tuple hq
 refine assign_Tuple_tuple (I.ok.hd hc) ht (by simp [hn, <- hl, rv.length]) hst λ h' hx => ?_
 have I1 : Inv X pins σ H { s with heap := h' } := I.kept (t' := s.toks) λ b o e => hx b o (Nat.ne_of_lt (Heap.lt_size e)) e
 exact h pins _ σ H xs _ Q I1 (by simpa using rv) hw
def gSub (to ti : TE) (t : Mg) : TG := λ v σ H Q => to σ H λ o H1 => ti σ H1 λ i H2 => t o i v H2 λ H3 => Q σ H3
theorem Kp {o i : Expr} {to ti : TE} {t : Mg} (ho : PE X o to) (hi : PE X i ti) (hs : Qk X t)
  (ha : ∀ v, assign (.Subscript o i pos) X.env v = (do
   let ov <- holding [v] (eval o X.env)
   let iv <- holding [v, ov] (eval i X.env)
   standAt pos
   holding [v, ov, iv] (setItem ov iv v)
   release [v, ov, iv] []) := by intro _; rfl) : PG X (.Subscript o i pos) (gSub to ti t) := by
 intro pins s σ H v u Q I r h
 rw [ha]
 refine wpAny_bind (wpAny_holding (thn (ho pins s σ H _ I h) λ ov s1 zq15 => ?_))
 obtain ⟨x, H1, I1, r1, q1⟩ := zq15
 refine wpAny_bind (wpAny_holding (thn (hi pins s1 σ H1 _ I1 q1) λ iv s2 zq16 => ?_))
 obtain ⟨y, H2, I2, r2, q2⟩ := zq16
 refine wpAny_bind (wpAny_standAt (wpAny_bind (wpAny_holding (thn (hs pins s2 σ H2 x y v ov iv u _ I2 r1 r2 r q2) λ _ s3 zq17 => ?_))))
 obtain ⟨H3, I3, q3⟩ := zq17
 exact wpAny_release ⟨σ, H3, I3, q3⟩
def Nq (te : TE) (g : TG) : TS := λ D σ H => te σ H λ x H1 => g x σ H1 D.nx
theorem Du {tg e : Expr} {te : TE} {g : TG} (he : PE X e te) (hg : PG X tg g) (hs : swapsWithSole [tg] e pos.line X.env = pure false := by rfl) (hw : swappedStores [tg] e X.env = pure none := by rfl)
  (h1 : (assignEach [tg] X.env).map (·.2) = [assign tg X.env] := by rfl) : PS X (.Assign [tg] e pos) (Nq te g) := by
 intro pins s σ H D I h
 refine wpAny_Assign_stores (thn (he pins s σ H _ I h) λ v s1 ⟨x, H1, I1, r1, q1⟩ => ?_) hs hw
 rw [h1]
 exact thn (hg pins s1 σ H1 x v _ I1 r1 q1) λ _ s2 q => q
theorem Ni {i : Nat} {x : Str} {e : Expr} {te : TE} {pos' : Pos} (hN : X.N.Nodup) (hi : X.N[i]? = some x) (hx : Loc X.env.scope x) (he : PE X e te) (hs : swapsWith e (some (.Name x pos')) pos.line X.env = pure false := by rfl) (hf : X.fn x = true ∨ X.env.scope.names.lookup x = some .local := by first | exact .inl rfl | exact .inr rfl | assumption) :
  PS X (.Assign [.Name x pos'] e pos) (Nq te (Ff i)) := by
 intro pins s σ H D I h
 refine wpAny_Assign_Name (thn (he pins s σ H _ I h) λ v s1 zq18 => ?_) hs
 obtain ⟨y, H1, I1, r1, q1⟩ := zq18
 exact jn I1 hN hi hx r1 (λ s2 I2 => ⟨_, H1, I2, q1⟩) hf
def tPar (i j : Nat) (ta : TA) : TS := λ D σ H => ta σ H λ vs H1 => ∃ v w, vs = [v, w] /\ D.nx ((σ.set i (some v)).set j (some w)) H1
theorem Oa {i j : Nat} {x y : Str} {a b : Expr} {ta : TA} {px py pt : Pos} {kt k2 pt2} (hc : X.calm = true) (hN : X.N.Nodup) (hi : X.N[i]? = some x) (hj : X.N[j]? = some y) (hij : i ≠ j)
  (hx : X.env.scope.names.lookup x = some .local) (hy : X.env.scope.names.lookup y = some .local) (ha : PA X [a, b] ta)
  (hw : swappedStores [.Tuple [.Name x px, .Name y py] kt pt] (.Tuple [a, b] k2 pt2) X.env = pure (some [x, y]))
  (hs : swapsWithSole [.Tuple [.Name x px, .Name y py] kt pt] (.Tuple [a, b] k2 pt2) pos.line X.env = pure false := by rfl) :
  PS X (.Assign [.Tuple [.Name x px, .Name y py] kt pt] (.Tuple [a, b] k2 pt2) pos) (tPar i j ta) := by
 intro pins s σ H D I h
 rw [exec_Assign_arm]
 refine wpAny_bind (wpAny_standAt ?_)
 rw [hs]
 refine wpAny_bind (wpAny_pure ?_)
 rw [if_neg (by decide)]
 refine wpAny_bind (Tuple_ (thn (ha _ pins s σ H _ I h) λ us s1 zq19 => ?_))
 obtain ⟨vs, H1, I1, r1, q1⟩ := zq19
 obtain ⟨v, w, e1, q1⟩ := q1
 subst e1
 obtain ⟨u1, u2, rfl, rv, rw'⟩ : ∃ u1 u2, us = [u1, u2] /\ RelV v u1 /\ RelV w u2 := by
  cases r1 with
  | cons p q =>
   cases q with
   | cons p' q' =>
    cases q'
    exact ⟨_, _, rfl, p, p'⟩
 refine wpAny_newObj_type ?_ (by show 2 <= sizeLine; decide)
 have I2 : Inv X pins σ H1 { s1 with heap := s1.heap.push { cls := .type "tuple", data := .seq [u1, u2].toArray } } := I1.kept (t' := s1.toks) λ b o e => Heap.get?_push_of_some _ e
 rw [hw]
 refine wpAny_bind (wpAny_pure ?_)
 show wpAny (model X.prog X.w) X.A (do rule "assign.swapped-stores"; let items <- unpackItems (.ref s1.heap.objs.size) 2 none; assignInOrder [λ v => bindName X.env y v, λ v => bindName X.env x v] items.reverse; pure Flow.next) _ _ _
 refine wpAny_bind (wpAny_rule (wpAny_bind (unpackItems_tuple (items := #[u1, u2]) (I.ok.hd hc) (IsTup.new s1.heap _) λ h' hx' => ?_)))
 have I3 := I2.kept (h' := h') (t' := s1.toks) λ b o e => hx' b o (Nat.ne_of_lt (Heap.lt_size e)) e
 show wpAny _ _ (assignInOrder [λ v => bindName X.env y v, λ v => bindName X.env x v] [u2, u1] >>= λ _ => pure Flow.next) _ _ _
 refine wpAny_bind (assignInOrder_cons (wpAny_bindName (jn I3 hN hj (.inl hy) rw' (λ s2 I4 => ?_) (.inr hy))))
 refine assignInOrder_cons (wpAny_bindName (jn I4 hN hi (.inl hx) rv (λ s3 I5 => assignInOrder_nil (wpAny_pure ?_)) (.inr hx)))
 rw [List.set_comm _ _ (Ne.symm hij)] at I5
 exact ⟨_, H1, I5, q1⟩
def tAug (i : Nat) (te : TE) (ti : TIp) : TS := λ D σ H => ∃ x, σ[i]? = some (some x) /\ te σ H λ y H1 => ti x y H1 λ z H2 => D.nx (σ.set i (some z)) H2
theorem My {i : Nat} {x : Str} {e : Expr} {te : TE} {op : Operator} {ti : TIp} {pos' : Pos} (hN : X.N.Nodup) (hi : X.N[i]? = some x) (hx : Loc X.env.scope x) (he : PE X e te) (ho : PIp X op ti) (hf : X.fn x = true ∨ X.env.scope.names.lookup x = some .local := by first | exact .inl rfl | exact .inr rfl | assumption) :
  PS X (.AugAssign (.Name x pos') op e pos) (tAug i te ti) := by
 intro pins s σ H D I h
 obtain ⟨v, e1, h⟩ := h
 obtain ⟨m, hn, hl⟩ := I.loc
 have vis : Vis X.env.scope x := by rcases hx with k | k; exact .inl k; exact .inr (.inl k)
 obtain ⟨u, r, l⟩ := hl i x v hi e1 vis
 refine wpAny_AugAssign_Name ?_
 have go : wpAny (model X.prog X.w) X.A (eval e X.env) (λ w s₂ => wpAny (model X.prog X.w) X.A (inplaceOp op u w) (λ r s₃ => wpAny (model X.prog X.w) X.A (storeName X.env x r) (λ _ => SP X pins D .next) X.xe s₃) X.xe s₂) X.xe s := by
  refine thn (he pins s σ H _ I h) λ w s1 zq20 => ?_
  obtain ⟨y, H1, I1, r1, q1⟩ := zq20
  refine thn (ho pins s1 σ H1 v y u w _ I1 r r1 q1) λ z s2 zq21 => ?_
  obtain ⟨zv, H2, I2, r2, q2⟩ := zq21
  exact jn I2 hN hi hx r2 (λ s3 I3 => ⟨_, H2, I3, q2⟩) hf
 rcases l with ⟨hk, hm⟩ | ⟨hk, c, hc, hcell⟩
 .exact wpAny_loadName_local I.ok.kind hk hn hm go
 .rcases hk with hk | hk
  .exact wpAny_loadName_cell I.ok.kind hk hc hcell go
  .rcases hx with k | k
   .have : X.env.scope.names.lookup x = some .free := hk
    rw [k] at this; cases this
   .have : X.env.scope.names.lookup x = some .free := hk
    rw [k] at this; cases this
end
section
variable {X : Cx} {pos : Pos}
def Kz (c : TT) (tb : TS) : TS := λ D σ H => ∃ W : Nat -> St -> Hp -> Prop, (∃ m, W m σ H) /\ ∀ m σ H, W m σ H ->
 c σ H λ b H1 => if b = true then ∃ N : St -> Hp -> Prop, (∀ σ' H', N σ' H' -> ∃ m', m' < m /\ W m' σ' H') /\ tb { D with nx := N, ct := N, bk := D.nx } σ H1 else D.nx σ H1
theorem Fo {c : Expr} {body : List Stmt} {tc : TT} {tb : TS} (hp : PassesOwn (model X.prog X.w) X.A X.env X.xe) (hc : PT X c tc) (hb : PSs X body tb) : PS X (.While c body [] pos) (Kz tc tb) := by
 intro pins s σ H D I h
 obtain ⟨W, ⟨m0, w0⟩, turn⟩ := h
 refine wpAny_While (codeAny_whileLoop (λ n s' => ∃ σ' H', Inv X pins σ' H' s' /\ W n σ' H') ?_ m0 ⟨σ, H, I, w0⟩)
 rintro n s1 ⟨σ1, H1, I1, w1⟩
 refine wpAny_passesOwn hp (thn (hc pins s1 σ1 H1 _ I1 (turn n σ1 H1 w1)) λ b s2 zq27 => ?_)
 obtain ⟨H2, I2, q2⟩ := zq27
 cases b with
 | true =>
  obtain ⟨N, hN, q2⟩ := q2
  rw [if_pos rfl]
  refine wpAny_passesOwn hp (thn (hb pins s2 σ1 H2 _ I2 q2) λ f s3 q3 => ?_)
  cases f with
  | next =>
   obtain ⟨σ3, H3, I3, n3⟩ := q3
   obtain ⟨m', hm, w3⟩ := hN σ3 H3 n3
   exact ⟨m', hm, σ3, H3, I3, w3⟩
  | cont =>
   obtain ⟨σ3, H3, I3, n3⟩ := q3
   obtain ⟨m', hm, w3⟩ := hN σ3 H3 n3
   exact ⟨m', hm, σ3, H3, I3, w3⟩
  | brk => exact q3
  | ret v => exact q3
 | false =>
  rw [if_neg Bool.false_ne_true]
  exact wpAny_execs_nil ⟨σ1, H2, I2, q2⟩
end
structure It where
 go : Nat -> Hp -> Prop
 yld : Nat -> Hp -> V -> Hp -> Prop
 stop : Nat -> Hp -> Prop
def mz (X : Cx) (pins : List (Addr × Obj)) (H : Hp) (b : Addr) : Prop :=
 H b = none /\ b ≠ X.env.locals /\ b ∉ X.fs /\ (b ∈ X.ex ∨ X.s₀.heap.objs.size <= b) /\ (∀ x c, X.env.cells.lookup x = some c -> c ≠ b) /\ ∀ p ∈ X.pn ++ pins, p.1 ≠ b
theorem Inv.fpOk {X : Cx} {pins : List (Addr × Obj)} {σ : St} {H H' : Hp} {s : Shared} {b : Addr} (I : Inv X pins σ H s) (hb : s.heap.objs.size <= b) (hn : H' b = none) : mz X pins H' b := by
 refine ⟨hn, Nat.ne_of_gt (Nat.lt_of_lt_of_le I.lt hb), I.nofs hb, .inr (Nat.le_trans I.sz hb), λ x c e z => ?_, λ p hp z => ?_⟩
 .obtain ⟨v, q⟩ := I.cell x c e
  exact absurd (Nat.lt_of_lt_of_le q.lt (by rw [z]; exact hb)) (Nat.lt_irrefl _)
 .exact absurd (Nat.lt_of_lt_of_le (Heap.lt_size (I.pin p hp).1) (by rw [z]; exact hb)) (Nat.lt_irrefl _)
structure Turn (P : Program) (w : World) (K : PySem.W.Frag) (tg : Expr) (J : It) (fp : List Addr) (it : Addr) (tn : Nat -> Heap -> Prop) : Prop where
 mem : it ∈ fp
 obj : ∀ i h, tn i h -> ∀ b ∈ fp, ∃ o, h.get? b = some o /\ ∀ v, o.data ≠ .cell v
 keep : ∀ i h h', tn i h -> (∀ b ∈ fp, ∀ o, h.get? b = some o -> h'.get? b = some o) -> tn i h'
 item : ∀ (X : Cx), X.prog = P -> X.w = w -> X.K = K -> X.calm = true -> ∀ (i : Nat) (pins : List (Addr × Obj)) (s : Shared) (σ : St) (H : Hp) (E : Value -> Shared -> Prop), Inv X pins σ H s -> (∀ b ∈ fp, mz X pins H b) -> tn i s.heap -> J.go i H ->
  wpAny (model P w) X.A (pyNext (.ref it)) (λ r s1 => ∃ u, r = some u /\
   wpAny (model P w) X.A (letOwnedTupleGo tg (.ref it) u) (λ _ s2 => ∃ x H', Inv X pins σ H' s2 /\ RelV x u /\ J.yld i H x H' /\ tn (i + 1) s2.heap /\ ∀ b ∈ fp, H' b = none) E s1) E s
 done : ∀ (X : Cx), X.prog = P -> X.w = w -> X.K = K -> X.calm = true -> ∀ (i : Nat) (pins : List (Addr × Obj)) (s : Shared) (σ : St) (H : Hp) (E : Value -> Shared -> Prop), Inv X pins σ H s -> (∀ b ∈ fp, mz X pins H b) -> tn i s.heap -> J.stop i H ->
  wpAny (model P w) X.A (pyNext (.ref it)) (λ r s1 => r = none /\ Inv X pins σ H s1) E s
 self : ∀ (A : Around) (i : Nat) (s : Shared) (Q : Value -> Shared -> Prop) (E : Value -> Shared -> Prop), tn i s.heap -> Q (.ref it) s -> wpAny (model P w) A (pyIter (.ref it)) Q E s
abbrev TI := St -> Hp -> (It -> Hp -> Prop) -> Prop
def PIE (X : Cx) (pins : List (Addr × Obj)) (σ : St) (tg : Expr) (R : It -> Hp -> Prop) (itv : Value) (s2 : Shared) : Prop :=
 ∃ (it : Addr) (fp : List Addr) (tn : Nat -> Heap -> Prop) (J : It) (H' : Hp), itv = .ref it /\ Inv X pins σ H' s2 /\ Turn X.prog X.w X.K tg J fp it tn /\ tn 0 s2.heap /\ (∀ b ∈ fp, mz X pins H' b) /\ R J H'
def PI (X : Cx) (tg iter : Expr) (wi : TI) : Prop :=
 ∀ (pins : List (Addr × Obj)) (s : Shared) (σ : St) (H : Hp) (R : It -> Hp -> Prop), Inv X pins σ H s -> wi σ H R ->
  wpAny (model X.prog X.w) X.A (eval iter X.env) (λ v s1 => wpAny (model X.prog X.w) X.A (pyIter v) (PIE X pins σ tg R) X.xe s1) X.xe s
theorem Dp {M : Model} {A : Around} {E : Value -> Shared -> Prop} {s : Shared} {tg : Expr} {it : Addr} {u : Value} {o : Obj} {n : String} {vs : Array Value} {Q : Unit -> Shared -> Prop} (ho : s.heap.get? it = some o) (hc : o.cls = .type n) (hd : o.data = .fields vs)
  (hn : ["enumerate", "zip", "dict_itemiterator", "dict_reverseitemiterator", "odict_iterator", "itertools.zip_longest", "itertools.pairwise"].contains n = false) (hQ : Q () s) : wpAny M A (letOwnedTupleGo tg (.ref it) u) Q E s := by
 unfold letOwnedTupleGo
 cases tg <;> first
  | exact wpAny_pure hQ
  | (cases u <;> first
    | exact wpAny_pure hQ
    | (refine wpAny_bind (wpAny_load ho ?_)
       rw [hc, hd]
       show wpAny M A (if (["enumerate", "zip", "dict_itemiterator", "dict_reverseitemiterator", "odict_iterator", "itertools.zip_longest", "itertools.pairwise"].contains n && vs[0]? == some (rawInt _)) = true then _ else _) Q E s
       rw [if_neg (by intro h; rw [hn, Bool.false_and] at h; cases h)]
       exact wpAny_pure hQ))
def Itl (K : PySem.W.Frag) (a : Addr) : It :=
 ⟨λ i H => ∃ xs x, SqL K H a xs /\ xs[i]? = some x, λ i H x H' => H' = H /\ ∀ xs, SqL K H a xs -> xs[i]? = some x, λ i H => ∃ xs, SqL K H a xs /\ xs.length <= i⟩
def Itt (K : PySem.W.Frag) (a : Addr) : It :=
 ⟨λ i H => ∃ xs x, SqT K H a xs /\ xs[i]? = some x, λ i H x H' => H' = H /\ ∀ xs, SqT K H a xs -> xs[i]? = some x, λ i H => ∃ xs, SqT K H a xs /\ xs.length <= i⟩
def Itr (lo : Int) (n : Nat) : It := ⟨λ i _ => i < n, λ i H x H' => H' = H /\ x = .int (lo + i), λ i _ => n <= i⟩
theorem vG {P : Program} {w : World} {K : PySem.W.Frag} {tg : Expr} (a it : Addr) : Turn P w K tg (Itl K a) [it] it (λ i h => h.IsListIter it a i) where
 mem := by simp
 obj := λ i h st b hb => by
  have e : b = it := by simpa using hb
  subst e
  obtain ⟨o, e, c, d⟩ := st
  exact ⟨o, e, λ v z => by rw [d] at z; cases z⟩
 keep := λ i h h' st k => st.at λ o e => k it (by simp) o e
 item := by
  intro X hP hw hK hc i pins s σ H E I hf st hg
  subst hP hw hK
  obtain ⟨xs, x, hq, hx⟩ := hg
  obtain ⟨its, rv, p, hz⟩ := I.list hq
  obtain ⟨u, hu, ru⟩ := rv.get hx
  obtain ⟨f0, f1, f2, f3, f4, f5⟩ := hf it (by simp)
  refine wpAny_pyNext_list_item st p.isList (x := u) (by simpa using hu) λ h' st' sb => ?_
  have I1 : Inv X pins σ H { s with heap := h' } := I.turned (t' := s.toks) (λ b o hb e => (sb.2 b hb).trans e) f0 f1 f3 f4 f5
  obtain ⟨o, e, c, d⟩ := id st'
  exact ⟨u, rfl, Dp (s := { s with heap := h' }) e c d (by decide) ⟨x, H, I1, ru, ⟨rfl, λ ys hy => by rw [I.list_inj hy hq]; exact hx⟩, st', λ b hb => (hf b hb).1⟩⟩
 done := by
  intro X hP hw hK hc i pins s σ H E I hf st hg
  subst hP hw hK
  obtain ⟨xs, hq, hx⟩ := hg
  obtain ⟨its, rv, p, hz⟩ := I.list hq
  obtain ⟨f0, f1, f2, f3, f4, f5⟩ := hf it (by simp)
  have hl := rv.length
  exact wpAny_pyNext_list_end (I.ok.hd hc) st p.isList (by simp; omega) λ h' eb => ⟨rfl, I.turned (t' := s.toks) (λ b o hb e => eb b o hb e) f0 f1 f3 f4 f5⟩
 self := λ _ _ _ _ _ st h => wpAny_pyIter_listiter st h
theorem um {P : Program} {w : World} {K : PySem.W.Frag} {tg : Expr} (a it : Addr) : Turn P w K tg (Itt K a) [it] it (λ i h => h.IsTupleIter it a i) where
 mem := by simp
 obj := λ i h st b hb => by
  have e : b = it := by simpa using hb
  subst e
  obtain ⟨o, e, c, d⟩ := st
  exact ⟨o, e, λ v z => by rw [d] at z; cases z⟩
 keep := λ i h h' st k => st.at λ o e => k it (by simp) o e
 item := by
  intro X hP hw hK hc i pins s σ H E I hf st hg
  subst hP hw hK
  obtain ⟨xs, x, hq, hx⟩ := hg
  obtain ⟨its, rv, p, hz⟩ := I.tuple hq
  obtain ⟨u, hu, ru⟩ := rv.get hx
  obtain ⟨f0, f1, f2, f3, f4, f5⟩ := hf it (by simp)
  refine wpAny_pyNext_tuple_item st (show s.heap.IsTuple a its.toArray from p) (x := u) (by simpa using hu) λ h' st' sb => ?_
  have I1 : Inv X pins σ H { s with heap := h' } := I.turned (t' := s.toks) (λ b o hb e => (sb.2 b hb).trans e) f0 f1 f3 f4 f5
  obtain ⟨o, e, c, d⟩ := id st'
  exact ⟨u, rfl, Dp (s := { s with heap := h' }) e c d (by decide) ⟨x, H, I1, ru, ⟨rfl, λ ys hy => by rw [I.tuple_inj hy hq]; exact hx⟩, st', λ b hb => (hf b hb).1⟩⟩
 done := by
  intro X hP hw hK hc i pins s σ H E I hf st hg
  subst hP hw hK
  obtain ⟨xs, hq, hx⟩ := hg
  obtain ⟨its, rv, p, hz⟩ := I.tuple hq
  obtain ⟨f0, f1, f2, f3, f4, f5⟩ := hf it (by simp)
  have hl := rv.length
  exact wpAny_pyNext_tuple_end (I.ok.hd hc) st (show s.heap.IsTuple a its.toArray from p) (by simp; omega) λ h' eb => ⟨rfl, I.turned (t' := s.toks) (λ b o hb e => eb b o hb e) f0 f1 f3 f4 f5⟩
 self := λ _ _ _ _ _ st h => wpAny_pyIter_tupleiter st h
theorem yV {P : Program} {w : World} {K : PySem.W.Frag} {tg : Expr} (it : Addr) (lo : Int) (n : Nat) : Turn P w K tg (Itr lo n) [it] it (λ i h => IsRangeIter h it (lo + (i : Nat) * 1) ((n : Int) - (i : Nat)) 1) where
 mem := by simp
 obj := λ i h st b hb => by
  have e : b = it := by simpa using hb
  subst e
  exact ⟨_, st, λ v z => by
   have z' : Data.fields _ = Data.cell v := z
   cases z'⟩
 keep := λ i h h' st k => k it (by simp) _ st
 item := by
  intro X hP hw hK hc i pins s σ H E I hf st hg
  subst hP hw hK
  obtain ⟨f0, f1, f2, f3, f4, f5⟩ := hf it (by simp)
  have W := Walks.range (prog := X.prog) (w := X.w) (I.ok.hd hc) it lo 1 n
  refine W.item i s _ _ hg st λ v h' tk hv st' kk => ?_
  obtain ⟨t, rfl⟩ := hv
  have I1 : Inv X pins σ H { s with heap := h', toks := tk } := I.turned (λ b o hb e => kk b o (by simpa using hb) e) f0 f1 f3 f4 f5
  refine ⟨_, rfl, Dp (s := { s with heap := h', toks := tk }) (n := "range_iterator") st' rfl rfl (by decide) ⟨.int (lo + i), H, I1, ⟨t, ?_⟩, ⟨rfl, rfl⟩, st', λ b hb => (hf b hb).1⟩⟩
  rw [Int.mul_one]
 done := by
  intro X hP hw hK hc i pins s σ H E I hf st hg
  subst hP hw hK
  obtain ⟨f0, f1, f2, f3, f4, f5⟩ := hf it (by simp)
  exact wpAny_pyNext_range_end (I.ok.hd hc) st (by have : n <= i := hg; omega) λ h' eb => ⟨rfl, I.turned (t' := s.toks) (λ b o hb e => eb b o hb e) f0 f1 f3 f4 f5⟩
 self := λ _ _ _ _ _ st h => wpAny_pyIter_rangeiter st h
section
variable {X : Cx} {tg : Expr}
theorem Gf {pins : List (Addr × Obj)} {σ : St} {H : Hp} {s : Shared} {R : It -> Hp -> Prop} {E : Value -> Shared -> Prop} {lo hi : Int} {t u v : Tok} {tk : Nat} (I : Inv X pins σ H s) (h1 : -(2 ^ 62) <= lo) (h2 : lo < 2 ^ 62) (h3 : -(2 ^ 62) <= hi) (h4 : hi < 2 ^ 62)
  (q : R (Itr lo (hi - lo).toNat) H) : wpAny (model X.prog X.w) X.A (pyIter (.ref s.heap.objs.size)) (PIE X pins σ tg R) E { s with heap := s.heap.push { cls := .type "range", data := .fields #[.int lo t, .int hi u, .int 1 v] }, toks := tk } := by
 refine wpAny_pyIter_range (IsRange.new ..) (small_one h1 h2 h3 h4) ?_
 have I1 : Inv X pins σ H { s with heap := s.heap.push { cls := .type "range", data := .fields #[.int lo t, .int hi u, .int 1 v] }, toks := tk } := I.kept λ b o e => Heap.get?_push_of_some _ e
 refine ⟨(s.heap.push { cls := .type "range", data := .fields #[.int lo t, .int hi u, .int 1 v] }).objs.size, [(s.heap.push { cls := .type "range", data := .fields #[.int lo t, .int hi u, .int 1 v] }).objs.size], _, _, H, rfl,
  I1.kept (t' := tk) λ b o e => Heap.get?_push_of_some _ e, yV _ lo (hi - lo).toNat, ?_, λ b hb => ?_, q⟩
 .have e1 : lo + ((0 : Nat) : Int) * 1 = lo := by simp
  have e2 : (((hi - lo).toNat : Nat) : Int) - ((0 : Nat) : Int) = Builtin.Range.rangeSize lo hi 1 := by rw [rangeSize_one]; split <;> omega
  show IsRangeIter _ _ (lo + ((0 : Nat) : Int) * 1) ((((hi - lo).toNat : Nat) : Int) - ((0 : Nat) : Int)) 1
  rw [e1, e2]
  exact Heap.get?_push_size _ rfl
 .have e : b = (s.heap.push { cls := .type "range", data := .fields #[.int lo t, .int hi u, .int 1 v] }).objs.size := by simpa using hb
  subst e
  exact I1.fpOk (Nat.le_refl _) (I1.hok.fresh (Nat.le_refl _))
def QF (ta : TA) : TI := λ σ H R => ta σ H λ vs H1 => ∃ j : Int, vs = [.int j] /\ -(2 ^ 62) <= j /\ j < 2 ^ 62 /\ R (Itr 0 j.toNat) H1
theorem BL {a : Expr} {ta : TA} {p pos : Pos} (hg : Gl X "range") (hm : X.mg "range" = none) (ha : PA X [a] ta) (hs : starEach [a] X.env = [(false, eval a X.env)] := by rfl) : PI X tg (.Call (.Name "range" p) [a] [] pos) (QF ta) := by
 intro pins s σ H R I h
 refine Call_ (nF I hg hm boot_range (PyProof.Rows.callWith_type1 (thn (ha pos pins s σ H _ I h) λ us s1 ⟨vs, H1, I1, r1, q1⟩ => ?_) hs rfl))
 obtain ⟨j, e, q1, q2, q⟩ := q1
 subst e
 cases r1 with
 | cons r rr =>
  cases rr
  obtain ⟨t, rfl⟩ := r
  exact call_range_1 (Gf I1 (by omega) (by omega) q1 q2 (by simpa using q))
def tFor (wi : TI) (g : TG) (tb : TS) : TS := λ D σ H => wi σ H λ J H1 => ∃ W : Nat -> Nat -> St -> Hp -> Prop, (∃ m, W 0 m σ H1) /\ ∀ i m σ H, W i m σ H ->
 (J.stop i H /\ D.nx σ H) ∨ (J.go i H /\ ∃ N : St -> Hp -> Prop, (∀ σ' H', N σ' H' -> ∃ m', m' < m /\ W (i + 1) m' σ' H') /\ ∀ x H', J.yld i H x H' -> g x σ H' λ σ2 H2 => tb { D with nx := N, ct := N, bk := D.nx } σ2 H2)
def qM (fp : List Addr) (h : Heap) : List (Addr × Obj) := fp.filterMap λ b => (h.get? b).map λ o => (b, o)
theorem fZ {fp : List Addr} {h : Heap} {b : Addr} {o : Obj} (hb : b ∈ fp) (e : h.get? b = some o) : (b, o) ∈ qM fp h := List.mem_filterMap.mpr ⟨b, hb, by rw [e]; rfl⟩
theorem BP {fp : List Addr} {h : Heap} {p : Addr × Obj} (hp : p ∈ qM fp h) : p.1 ∈ fp /\ h.get? p.1 = some p.2 := by
 obtain ⟨b, hb, e⟩ := List.mem_filterMap.mp hp
 cases q : h.get? b with
 | none => rw [q] at e; cases e
 | some o =>
  rw [q] at e
  have e' : (b, o) = p := Option.some.inj e
  subst e'
  exact ⟨hb, q⟩
theorem Inv.pinned {pins : List (Addr × Obj)} {σ : St} {H : Hp} {s : Shared} {fp : List Addr} (I : Inv X pins σ H s) (hf : ∀ b ∈ fp, mz X pins H b) (ho : ∀ b ∈ fp, ∃ o, s.heap.get? b = some o /\ ∀ v, o.data ≠ .cell v) : Inv X (pins ++ qM fp s.heap) σ H s :=
 I.pins_of λ p hp => (List.mem_append.mp hp).elim (λ z => I.pin p (List.mem_append_right _ z)) λ z => by
  obtain ⟨hb, e⟩ := BP z
  obtain ⟨f0, f1, f2, _⟩ := hf p.1 hb
  obtain ⟨o, e', d⟩ := ho p.1 hb
  rw [e] at e'; cases e'
  exact ⟨e, f0, f1, f2, d⟩
theorem Inv.unpinned {pins pl : List (Addr × Obj)} {σ : St} {H : Hp} {s : Shared} (I : Inv X (pins ++ pl) σ H s) : Inv X pins σ H s := I.pins_of λ p hp => I.pin p (List.mem_append_right _ (List.mem_append_left _ hp))
theorem Lg {iter : Expr} {body : List Stmt} {wi : TI} {g : TG} {tb : TS} {pos : Pos} (hp : PassesOwn (model X.prog X.w) X.A X.env X.xe) (hc : X.calm = true) (hi : PI X tg iter wi) (hg : PG X tg g) (hb : PSs X body tb)
  (hs : ∀ x, foldedSetIterable iter X.env x = pure x := by intro _; rfl) : PS X (.For tg iter body [] pos) (tFor wi g tb) := by
 intro pins s σ H D I h
 refine wpAny_For (thn (hi pins s σ H _ I h) λ v s1 h1 => thn h1 λ itv s2 h2 => ?_) hs
 obtain ⟨it, fp, tn, J, H2, e, I2, T, st2, f2, W, ⟨m0, w0⟩, turn⟩ := h2
 subst e
 have stat : ∀ {H' : Hp}, (∀ b ∈ fp, H' b = none) -> ∀ b ∈ fp, mz X pins H' b := λ hn b hb => ⟨hn b hb, (f2 b hb).2⟩
 refine codeAny_forLoop_any (λ n s' => ∃ i σ' H', Inv X pins σ' H' s' /\ tn i s'.heap /\ (∀ b ∈ fp, H' b = none) /\ W i n σ' H') ?_ m0 ⟨0, σ, H2, I2, st2, λ b hb => (f2 b hb).1, w0⟩
 rintro n s3 ⟨i, σ3, H3, I3, st3, fr3, w3⟩
 rcases turn i n σ3 H3 w3 with ⟨stop, qn⟩ | ⟨go, N, hN, step⟩
 .refine wpAny_passesOwn hp (thn (T.done X rfl rfl rfl hc i pins s3 σ3 H3 X.xe I3 (stat fr3) st3 stop) λ r s4 zq30 => ?_)
  obtain ⟨hr, I4⟩ := zq30
  subst hr
  exact wpAny_execs_nil ⟨σ3, H3, I4, qn⟩
 .refine wpAny_passesOwn hp (thn (T.item X rfl rfl rfl hc i pins s3 σ3 H3 X.xe I3 (stat fr3) st3 go) λ r s4 zq31 => ?_)
  obtain ⟨u, hr, h4⟩ := zq31
  subst hr
  refine wpAny_passesOwn hp (thn h4 λ _ s5 zq32 => ?_)
  obtain ⟨x, H5, I5, r5, y5, st5, fr5⟩ := zq32
  have I5' := I5.pinned (stat fr5) (T.obj _ _ st5)
  refine wpAny_passesOwn hp (thn (hg _ s5 σ3 H5 x u _ I5' r5 (step x H5 y5)) λ _ s6 zq33 => ?_)
  obtain ⟨σ6, H6, I6, q6⟩ := zq33
  refine wpAny_passesOwn hp (thn (hb _ s6 σ6 H6 _ I6 q6) λ f s7 q7 => ?_)
  have again : ∀ {σ7 : St} {H7 : Hp}, Inv X (pins ++ qM fp s5.heap) σ7 H7 s7 -> N σ7 H7 -> ∃ m, m < n /\ ∃ i σ' H', Inv X pins σ' H' s7 /\ tn i s7.heap /\ (∀ b ∈ fp, H' b = none) /\ W i m σ' H' := λ {σ7 H7} I7 n7 => by
   obtain ⟨m', hm, w7⟩ := hN σ7 H7 n7
   refine ⟨m', hm, i + 1, σ7, H7, I7.unpinned, T.keep _ _ _ st5 λ b hb o e => (I7.pin (b, o) (List.mem_append_right _ (List.mem_append_right _ (fZ hb e)))).1, λ b hb => ?_, w7⟩
   obtain ⟨o, e, d⟩ := T.obj _ _ st5 b hb
   exact (I7.pin (b, o) (List.mem_append_right _ (List.mem_append_right _ (fZ hb e)))).2.1
  cases f with
  | next => obtain ⟨σ7, H7, I7, n7⟩ := q7; exact again I7 n7
  | cont => obtain ⟨σ7, H7, I7, n7⟩ := q7; exact again I7 n7
  | brk => obtain ⟨σ7, H7, I7, q7⟩ := q7; exact ⟨σ7, H7, I7.unpinned, q7⟩
  | ret v => obtain ⟨x7, σ7, H7, I7, r7, q7⟩ := q7; exact ⟨x7, σ7, H7, I7.unpinned, r7, q7⟩
end
abbrev R2 := V -> V -> Hp -> VK -> Prop
def OpR (X : Cx) (f : Value -> Value -> Sem Value) (r : R2) : Prop :=
 ∀ (pins : List (Addr × Obj)) (s : Shared) (σ : St) (H : Hp) (x y : V) (v u : Value) (Q : VK), Inv X pins σ H s -> RelV x v -> RelV y u -> r x y H Q ->
  wpAny (model X.prog X.w) X.A (f v u) (EP X pins σ Q) X.xe s
def UnR (X : Cx) (f : Value -> Sem Value) (r : V -> Hp -> VK -> Prop) : Prop :=
 ∀ (pins : List (Addr × Obj)) (s : Shared) (σ : St) (H : Hp) (x : V) (v : Value) (Q : VK), Inv X pins σ H s -> RelV x v -> r x H Q ->
  wpAny (model X.prog X.w) X.A (f v) (EP X pins σ Q) X.xe s
def lC (X : Cx) (f : Value) (r : List V -> Hp -> VK -> Prop) : Prop :=
 ∀ (pins : List (Addr × Obj)) (s : Shared) (σ : St) (H : Hp) (xs : List V) (us : List Value) (Q : VK), Inv X pins σ H s -> Vals xs us -> r xs H Q ->
  wpAny (model X.prog X.w) X.A (call f us) (EP X pins σ Q) X.xe s
def TruR (X : Cx) (r : V -> Hp -> (Bool -> Hp -> Prop) -> Prop) : Prop :=
 ∀ (pins : List (Addr × Obj)) (s : Shared) (σ : St) (H : Hp) (x : V) (v : Value) (Q : Bool -> Hp -> Prop), Inv X pins σ H s -> RelV x v -> r x H Q ->
  wpAny (model X.prog X.w) X.A (truthy v) (TP X pins σ Q) X.xe s
def tOp (r : R2) (ta tb : TE) : TE := λ σ H Q => ta σ H λ x H1 => tb σ H1 λ y H2 => r x y H2 Q
def tUn (r : V -> Hp -> VK -> Prop) (ta : TE) : TE := λ σ H Q => ta σ H λ x H1 => r x H1 Q
def rI (C : Int -> Int -> Prop) (g : Int -> Int -> V) : R2 := λ x y H Q => ∃ i j, x = .int i /\ y = .int j /\ C i j /\ Q (g i j) H
def rI0 (g : Int -> Int -> V) : R2 := λ x y H Q => ∃ i j, x = .int i /\ y = .int j /\ Q (g i j) H
def rU (g : Int -> V) : V -> Hp -> VK -> Prop := λ x H Q => ∃ i, x = .int i /\ Q (g i) H
section
variable {X : Cx} {a b c : Expr} {ta tb tc : TE} {pos : Pos}
theorem Kl (ha : PE X a ta) (hb : PE X b tb) {pins : List (Addr × Obj)} {s : Shared} {σ : St} {H : Hp} {R : V -> V -> Hp -> Prop} (I : Inv X pins σ H s)
  (h : ta σ H λ x H1 => tb σ H1 λ y H2 => R x y H2) {Q : Value -> Shared -> Prop} {f : Value -> Value -> Sem Value}
  (hf : ∀ v u s2 x y H2, Inv X pins σ H2 s2 -> RelV x v -> RelV y u -> R x y H2 -> wpAny (model X.prog X.w) X.A (f v u) Q X.xe s2) :
  wpAny (model X.prog X.w) X.A (eval a X.env) (λ v s₁ => wpAny (model X.prog X.w) X.A (eval b X.env) (λ u s₂ => wpAny (model X.prog X.w) X.A (f v u) Q X.xe s₂) X.xe s₁) X.xe s := by
 refine thn (ha pins s σ H _ I h) λ v s1 zq34 => ?_
 obtain ⟨x, H1, I1, r1, q1⟩ := zq34
 refine thn (hb pins s1 σ H1 _ I1 q1) λ u s2 zq35 => ?_
 obtain ⟨y, H2, I2, r2, q2⟩ := zq35
 exact hf v u s2 x y H2 I2 r1 r2 q2
theorem JH {op : Operator} {r : R2} (ho : OpR X (binaryOp op) r) (ha : PE X a ta) (hb : PE X b tb) : PE X (.BinOp a op b pos) (tOp r ta tb) := by
 intro pins s σ H Q I h
 exact wpAny_BinOp (Kl ha hb I h λ v u s2 x y H2 I2 rx ry q => ho pins s2 σ H2 x y v u Q I2 rx ry q)
theorem JG {op : UnaryOp} {r : V -> Hp -> VK -> Prop} (ho : UnR X (unaryOp op) r) (ha : PE X a ta) : PE X (.UnaryOp op a pos) (tUn r ta) := by
 intro pins s σ H Q I h
 exact UnaryOp_ (thn (ha pins s σ H _ I h) λ v s1 ⟨x, H1, I1, r1, q1⟩ => ho pins s1 σ H1 x v Q I1 r1 q1)
theorem opI {f : Value -> Value -> Sem Value} {C : Int -> Int -> Prop} {g : Int -> Int -> Int}
  (rule : ∀ (i j : Int) (t u : Tok) (s : Shared) (Q : Value -> Shared -> Prop) (E : Value -> Shared -> Prop), C i j -> Q (.int (g i j) s.toks) { s with toks := s.toks + 1 } -> wpAny (model X.prog X.w) X.A (f (.int i t) (.int j u)) Q E s) :
  OpR X f (rI C λ i j => .int (g i j)) := by
 intro pins s σ H x y v u Q I rx ry h
 obtain ⟨i, j, rfl, rfl, hc, q⟩ := h
 obtain ⟨t, rfl⟩ := rx
 obtain ⟨t', rfl⟩ := ry
 exact rule i j t t' s _ _ hc ⟨.int (g i j), H, I.tok _, ⟨_, rfl⟩, q⟩
theorem Pb {f : Value -> Value -> Sem Value} {g : Int -> Int -> Int}
  (rule : ∀ (i j : Int) (t u : Tok) (s : Shared) (Q : Value -> Shared -> Prop) (E : Value -> Shared -> Prop), Q (.int (g i j) s.toks) { s with toks := s.toks + 1 } -> wpAny (model X.prog X.w) X.A (f (.int i t) (.int j u)) Q E s) :
  OpR X f (rI0 λ i j => .int (g i j)) := by
 intro pins s σ H x y v u Q I rx ry h
 obtain ⟨i, j, rfl, rfl, q⟩ := h
 obtain ⟨t, rfl⟩ := rx
 obtain ⟨t', rfl⟩ := ry
 exact rule i j t t' s _ _ ⟨.int (g i j), H, I.tok _, ⟨_, rfl⟩, q⟩
theorem Li {f : Value -> Value -> Sem Value} {g : Int -> Int -> Bool}
  (rule : ∀ (i j : Int) (t u : Tok) (s : Shared) (Q : Value -> Shared -> Prop) (E : Value -> Shared -> Prop), Q (.bool (g i j)) s -> wpAny (model X.prog X.w) X.A (f (.int i t) (.int j u)) Q E s) :
  OpR X f (rI0 λ i j => .bl (g i j)) := by
 intro pins s σ H x y v u Q I rx ry h
 obtain ⟨i, j, rfl, rfl, q⟩ := h
 obtain ⟨t, rfl⟩ := rx
 obtain ⟨t', rfl⟩ := ry
 exact rule i j t t' s _ _ ⟨.bl (g i j), H, I, rfl, q⟩
theorem KY : OpR X (binaryOp .Add) (rI0 λ i j => .int (i + j)) := Pb λ _ _ _ _ _ _ _ q => add_int q
theorem Lq : OpR X (binaryOp .Sub) (rI0 λ i j => .int (i - j)) := Pb λ _ _ _ _ _ _ _ q => sub_int q
theorem Hv : OpR X (binaryOp .Mod) (rI (λ _ j => j ≠ 0) λ i j => .int (i.fmod j)) := opI λ _ _ _ _ _ _ _ hc q => mod_int' hc q
theorem unI {f : Value -> Sem Value} {g : Int -> Int}
  (rule : ∀ (i : Int) (t : Tok) (s : Shared) (Q : Value -> Shared -> Prop) (E : Value -> Shared -> Prop), Q (.int (g i) s.toks) { s with toks := s.toks + 1 } -> wpAny (model X.prog X.w) X.A (f (.int i t)) Q E s) :
  UnR X f (rU λ i => .int (g i)) := by
 intro pins s σ H x v Q I rx h
 obtain ⟨i, rfl, q⟩ := h
 obtain ⟨t, rfl⟩ := rx
 exact rule i t s _ _ ⟨.int (g i), H, I.tok _, ⟨_, rfl⟩, q⟩
theorem Gk : UnR X (unaryOp .USub) (rU λ i => .int (-i)) := unI λ _ _ _ _ _ q => neg_int q
end
section
variable {X : Cx} {a b c : Expr} {ta tb tc : TE} {pos : Pos}
theorem Pk : OpR X (compareOp .Lt) (rI0 λ i j => .bl (decide (i < j))) := Li λ _ _ _ _ _ _ _ q => lt_int q
theorem OD : OpR X (compareOp .LtE) (rI0 λ i j => .bl (decide (i <= j))) := Li λ _ _ _ _ _ _ _ q => le_int q
theorem Qq : OpR X (compareOp .GtE) (rI0 λ i j => .bl (decide (j <= i))) := Li λ _ _ _ _ _ _ _ q => ge_int q
theorem OpR.or {f : Value -> Value -> Sem Value} {r r' : R2} (h : OpR X f r) (h' : OpR X f r') : OpR X f (λ x y H Q => r x y H Q ∨ r' x y H Q) := by
 intro pins s σ H x y v u Q I rx ry q
 rcases q with q | q
 .exact h pins s σ H x y v u Q I rx ry q
 .exact h' pins s σ H x y v u Q I rx ry q
theorem Hz {op : CmpOp} {r : R2} (ho : OpR X (compareOp op) r) (ha : PE X a ta) (hb : PE X b tb) (hm : behindInMarks op b = false) : PE X (.Compare a [op] [b] pos) (tOp r ta tb) := by
 intro pins s σ H Q I h
 exact wpAny_Compare1 (Kl ha hb I h λ v u s2 x y H2 I2 rx ry q => ho pins s2 σ H2 x y v u Q I2 rx ry q) hm
def Jz (t : TE) : TT := λ σ H Q => t σ H λ x H' => ∃ k, x = .bl k /\ Q k H'
theorem Jf {op : CmpOp} {r : R2} (ho : OpR X (compareOp op) r) (ha : PE X a ta) (hb : PE X b tb) (hm : behindInMarks op b = false) : PT X (.Compare a [op] [b] pos) (Jz (tOp r ta tb)) := by
 intro pins s σ H Q I h
 refine wpAny_isTrue_Compare1 (thn (ha pins s σ H _ I h) λ v s1 ⟨x, H1, I1, r1, q1⟩ => thn (hb pins s1 σ H1 _ I1 q1) λ u s2 ⟨y, H2, I2, r2, q2⟩ =>
  thn (ho pins s2 σ H2 x y v u _ I2 r1 r2 q2) λ c s3 ⟨z, H3, I3, r3, k, e, q3⟩ => ?_) hm
 subst e
 cases r3
 exact wpAny_truthy_bool ⟨H3, I3, q3⟩
def zg (r r' : R2) (ta tb tc : TE) : TE := λ σ H Q => ta σ H λ x H1 => tb σ H1 λ y H2 => r x y H2 λ z H3 => ∃ k, z = .bl k /\
 (if k = true then tc σ H3 λ w' H4 => r' y w' H4 Q else Q (.bl false) H3)
theorem Ga {op op' : CmpOp} {r r' : R2} (ho : OpR X (compareOp op) r) (ho' : OpR X (compareOp op') r') (ha : PE X a ta) (hb : PE X b tb) (hc : PE X c tc)
  (hm : lastMarks [op, op'] [b, c] = false := by with_unfolding_all rfl) : PE X (.Compare a [op, op'] [b, c] pos) (zg r r' ta tb tc) := by
 intro pins s σ H Q I h
 refine Compare_chain (thn (ha pins s σ H _ I h) λ v s1 ⟨x, H1, I1, r1, q1⟩ => chain_link (thn (hb pins s1 σ H1 _ I1 q1) λ u s2 ⟨y, H2, I2, r2, q2⟩ =>
  thn (ho pins s2 σ H2 x y v u _ I2 r1 r2 q2) λ d s3 ⟨z, H3, I3, r3, k, e, q3⟩ => ?_)) hm
 subst e
 cases r3
 refine wpAny_truthy_bool ?_
 cases k with
 | false => exact ite_ff ⟨.bl false, H3, I3, rfl, q3⟩
 | true => exact ite_tt (chain_last (thn (hc pins s3 σ H3 _ I3 q3) λ w' s4 ⟨z', H4, I4, r4, q4⟩ => ho' pins s4 σ H4 y z' u w' Q I4 r2 r4 q4))
theorem Eu {op op' : CmpOp} {r r' : R2} (ho : OpR X (compareOp op) r) (ho' : OpR X (compareOp op') r') (ha : PE X a ta) (hb : PE X b tb) (hc : PE X c tc)
  (hm : lastMarks [op, op'] [b, c] = false := by with_unfolding_all rfl) : PT X (.Compare a [op, op'] [b, c] pos) (Jz (zg r r' ta tb tc)) := by
 intro pins s σ H Q I h
 refine isTrue_chain (thn (ha pins s σ H _ I h) λ v s1 ⟨x, H1, I1, r1, q1⟩ => test_link (thn (hb pins s1 σ H1 _ I1 q1) λ u s2 ⟨y, H2, I2, r2, q2⟩ =>
  thn (ho pins s2 σ H2 x y v u _ I2 r1 r2 q2) λ d s3 ⟨z, H3, I3, r3, k, e, q3⟩ => ?_)) hm
 subst e
 cases r3
 refine wpAny_truthy_bool ?_
 cases k with
 | false =>
  obtain ⟨k', e', q'⟩ := q3
  cases e'
  exact ite_ff ⟨H3, I3, q'⟩
 | true =>
  refine ite_tt (test_last (thn (hc pins s3 σ H3 _ I3 q3) λ w' s4 ⟨z', H4, I4, r4, q4⟩ => thn (ho' pins s4 σ H4 y z' u w' _ I4 r2 r4 q4) λ d' s5 zq39 => ?_))
  obtain ⟨z2, H5, I5, r5, k2, e2, q5⟩ := zq39
  subst e2
  cases r5
  exact wpAny_truthy_bool ⟨H5, I5, q5⟩
def Nh (K : PySem.W.Frag) (x : V) (H : Hp) (k : Bool) : Prop :=
 match x with
 | .non => k = false
 | .bl b => k = b
 | .int i => k = (i != 0)
 | .str y => y.length <= sizeLine /\ k = ((y.length : Int) != 0)
 | .byt y => y.size <= sizeLine /\ k = ((y.size : Int) != 0)
 | .ref p => (∃ xs, SqL K H p xs /\ k = !xs.isEmpty) ∨ (∃ xs, SqT K H p xs /\ k = !xs.isEmpty) ∨ ∃ kvs, H p = some (.dK kvs) /\ k = !kvs.isEmpty
 | _ => False
theorem zA {κ : Type} {kvs : List (κ × V)} {vs : List (κ × Value)} (r : KV kvs vs) : (!vs.isEmpty) = !kvs.isEmpty := by
 cases r <;> rfl
theorem tY {xs : List V} {its : List Value} (r : Vals xs its) : (!its.toArray.isEmpty) = !xs.isEmpty := by
 cases r <;> simp
theorem pg : (sizeLine : Nat) < 2 ^ 63 := by rw [sizeLine_eq]; decide
theorem Ls : TruR X (λ x H Q => ∃ k, Nh X.K x H k /\ Q k H) := by
 intro pins s σ H x v Q I rx h
 obtain ⟨k, e, q⟩ := h
 have hl := pg
 have hs : sizeLine = 16777216 := sizeLine_eq
 cases x with
 | non =>
  cases rx
  have e' : k = false := e
  subst e'
  exact truthy_none ⟨H, I, q⟩
 | bl b =>
  cases rx
  have e' : k = b := e
  subst e'
  exact wpAny_truthy_bool ⟨H, I, q⟩
 | int i =>
  obtain ⟨t, rfl⟩ := rx
  have e' : k = (i != 0) := e
  subst e'
  exact PySem.P.truthy_int ⟨H, I, q⟩
 | str y =>
  obtain ⟨t, rfl⟩ := rx
  obtain ⟨hy, e'⟩ : y.length <= sizeLine /\ k = ((y.length : Int) != 0) := e
  subst e'
  exact PySem.P.truthy_str (by omega) ⟨H, I.tok _, q⟩
 | byt y =>
  obtain ⟨t, rfl⟩ := rx
  obtain ⟨hy, e'⟩ : y.size <= sizeLine /\ k = ((y.size : Int) != 0) := e
  subst e'
  exact PySem.W.truthy_bytes (by omega) ⟨H, I.tok _, q⟩
 | ref p =>
  cases rx
  have e' : (∃ xs, SqL X.K H p xs /\ k = !xs.isEmpty) ∨ (∃ xs, SqT X.K H p xs /\ k = !xs.isEmpty) ∨ ∃ kvs, H p = some (.dK kvs) /\ k = !kvs.isEmpty := e
  rcases e' with ⟨xs, hx, e'⟩ | ⟨xs, hx, e'⟩ | ⟨kvs, hx, e'⟩
  .subst e'
   obtain ⟨its, r, pl, hz⟩ := I.list hx
   have hlen := r.length
   exact wpAny_truthy_list pl.isList (by simp only [List.size_toArray]; omega) ⟨H, I.tok _, by rw [tY r]; exact q⟩
  .subst e'
   obtain ⟨its, r, pl, hz⟩ := I.tuple hx
   have hlen := r.length
   exact truthy_tuple pl (by simp only [List.size_toArray]; omega) ⟨H, I.tok _, by rw [tY r]; exact q⟩
  .subst e'
   obtain ⟨hz, hS, vs, r, m⟩ : kvs.length <= sizeLine /\ (p == sysModules) = false /\ ∃ vs, KV kvs vs /\ s.heap.DictOf (vR X.prog X.w) p vs := I.hok p _ hx
   have hlen : kvs.length = vs.length := Paired.length r
   exact wpAny_truthy_dict hS m (by omega) ⟨H, I.tok _, by rw [zA r]; exact q⟩
 | _ => exact (show False from e).elim
theorem Fp (ha : PE X a ta) (he : ∀ whole, isTrue a X.env whole = (do let v <- whole; standAt a.pos; holding [v] (truthy v))) :
  PT X a (λ σ H Q => ta σ H λ x H' => ∃ k, Nh X.K x H' k /\ Q k H') := by
 intro pins s σ H Q I h
 exact isTrue_plain (thn (ha pins s σ H _ I h) λ v s1 ⟨x, H1, I1, r1, q1⟩ => Ls pins s1 σ H1 x v Q I1 r1 q1) (he _)
theorem zW : OpR X (binaryOp .Add) (λ x y H Q => ∃ i j, x = .str i /\ y = .str j /\ i.length + j.length <= sizeLine /\ Q (.str (i ++ j)) H) := by
 intro pins s σ H x y v u Q I rx ry h
 obtain ⟨i, j, rfl, rfl, hz, q⟩ := h
 obtain ⟨t, rfl⟩ := rx
 obtain ⟨t', rfl⟩ := ry
 exact add_str (λ t' tk => ⟨.str (i ++ j), H, I.tok _, ⟨_, rfl⟩, q⟩) hz
theorem vals1 {x : V} {us : List Value} (r : Vals [x] us) : ∃ u, us = [u] /\ RelV x u := by
 cases r with
 | cons r1 r2 => cases r2; exact ⟨_, rfl, r1⟩
theorem vals2 {x y : V} {us : List Value} (r : Vals [x, y] us) : ∃ u w', us = [u, w'] /\ RelV x u /\ RelV y w' := by
 cases r with
 | cons r1 r2 =>
  cases r2 with
  | cons r3 r4 => cases r4; exact ⟨_, _, rfl, r1, r3⟩
theorem Ej : lC X (.builtin "abs") (λ xs H Q => ∃ i, xs = [.int i] /\ Q (.int (if i < 0 then -i else i)) H) := by
 intro pins s σ H xs us Q I r h
 obtain ⟨i, rfl, q⟩ := h
 obtain ⟨u, rfl, t, rfl⟩ := vals1 r
 exact call_abs_int λ u tk => ⟨.int (if i < 0 then -i else i), H, I.tok _, ⟨_, rfl⟩, q⟩
theorem Bw (hc : X.calm = true) : lC X (.builtin "min") (λ xs H Q => ∃ i j, xs = [.int i, .int j] /\ Q (.int (if j < i then j else i)) H) := by
 intro pins s σ H xs us Q I r h
 obtain ⟨i, j, rfl, q⟩ := h
 obtain ⟨u, w', rfl, ⟨t, rfl⟩, ⟨t', rfl⟩⟩ := vals2 r
 refine min_two_ints (I.ok.hd hc) λ h' tk k => ⟨_, H, I.kept k, ?_, q⟩
 by_cases hj : j < i
 .rw [if_pos hj, if_pos hj]; exact ⟨_, rfl⟩
 .rw [if_neg hj, if_neg hj]; exact ⟨_, rfl⟩
end
def Cg (f : Str) (v : V) : List (Str × V) -> List (Str × V)
 | [] => [(f, v)]
 | (g, x) :: r => if g = f then (g, v) :: r else (g, x) :: Cg f v r
structure gQ (k : Nat) (A : Around) : Prop where
 hd : A.handled = none
 dp : A.depth + 3 * k + 5 < recursionLimit
 un : A.units + 16 * k + 200 < cLine
theorem gQ.mono {j k : Nat} {A : Around} (r : gQ k A) (h : j <= k) : gQ j A := ⟨r.hd, by have := r.dp; omega, by have := r.un; omega⟩
theorem gQ.deeper {k : Nat} {A : Around} (r : gQ (k + 1) A) (env : Env) : gQ k (A.deeper env) :=
 ⟨r.hd, by have := r.dp; show A.depth + 1 + 3 * k + 5 < _; omega, by have := r.un; show A.units + 3 + 16 * k + 200 < _; omega⟩
theorem gQ.depth {k : Nat} {A : Around} (r : gQ k A) : A.depth < recursionLimit := by have := r.dp; omega
def tNil : TA := λ _ H Q => Q [] H
def Oz (ta : TE) (tr : TA) : TA := λ σ H Q => ta σ H λ x H1 => tr σ H1 λ xs H2 => Q (x :: xs) H2
section
variable {X : Cx} {e : Expr} {es : List Expr} {te : TE} {t : TA} {pos : Pos}
theorem zT : PA X [] tNil := λ _ _ _ _ H Q I h => Calls.spliced_nil ⟨[], H, I, .nil, h⟩
theorem rK (ha : PE X e te) (hr : PA X es t) (hs : starEach (e :: es) X.env = (false, eval e X.env) :: starEach es X.env := by rfl) : PA X (e :: es) (Oz te t) := by
 intro pos pins s σ H Q I h
 rw [hs]
 show wpAny _ _ (spliced ((false, eval e X.env) :: backTo pos (starEach es X.env))) _ _ s
 refine Calls.spliced_cons (thn (ha pins s σ H _ I h) λ u s1 zq46 => ?_)
 obtain ⟨x, H1, I1, r1, q1⟩ := zq46
 exact thn (hr pos pins s1 σ H1 _ I1 q1) λ us s2 ⟨xs, H2, I2, r2, q2⟩ => ⟨x :: xs, H2, I2, .cons r1 r2, q2⟩
def tTup (t : TA) : TE := λ σ H Q => t σ H λ xs H1 => xs.length <= sizeLine /\ ∀ p, H1 p = none -> Q (.ref p) (upd H1 p (.tup xs))
def tLst (t : TA) : TE := λ σ H Q => t σ H λ xs H1 => xs.length <= sizeLine /\ ∀ p, H1 p = none -> Q (.ref p) (upd H1 p (.lst xs))
theorem Lb {x1} (h : PA X es t) : PE X (.Tuple es x1 pos) (tTup t) := by
 intro pins s σ H Q I hq
 refine wpAny_Tuple_spliced (thn (h pos pins s σ H _ I hq) λ us s1 ⟨xs, H1, I1, r, z, q⟩ => ⟨by rw [<- r.length]; exact z, ?_⟩)
 have hf : H1 s1.heap.objs.size = none := I1.hok.fresh (Nat.le_refl _)
 refine ⟨.ref s1.heap.objs.size, upd H1 s1.heap.objs.size (.tup xs), I1.laid (t' := s1.toks) (λ b u e => Heap.get?_push_of_some _ e) (Nat.le_refl _) ?_, rfl, q _ hf⟩
 exact ⟨z, us, r, ⟨_, Heap.get?_push_size _ rfl, rfl, _, rfl⟩⟩
theorem Es (h : PA X es t) : PE X (.List es pos) (tLst t) := by
 intro pins s σ H Q I hq
 refine wpAny_List_spliced (thn (h pos pins s σ H _ I hq) λ us s1 ⟨xs, H1, I1, r, z, q⟩ => ⟨by rw [<- r.length]; exact z, ?_⟩)
 have hf : H1 s1.heap.objs.size = none := I1.hok.fresh (Nat.le_refl _)
 refine ⟨.ref s1.heap.objs.size, upd H1 s1.heap.objs.size (.lst xs), I1.laid (t' := s1.toks) (λ b u e => Heap.get?_push_of_some _ e) (Nat.le_refl _) ?_, rfl, q _ hf⟩
 exact ⟨z, us, 0, r, Heap.get?_push_size _ rfl⟩
end
abbrev Sp := List V -> Hp -> VK -> XK -> Prop
abbrev CXT := List Env -> Hp -> Shared -> XK -> Value -> Shared -> Prop
structure Gw (P : Program) (w : World) (K : PySem.W.Frag) (mg : Str -> Option Value) (base : Heap) (A : Around) (outer : List Env) (s : Shared) (H : Hp) : Prop where
 frames : A.frames = some outer
 mod : Mod K mg base
 bs : ∀ b o, base.get? b = some o -> s.heap.get? b = some o /\ H b = none
 bsz : base.objs.size <= s.heap.objs.size
 funs : s.heap.FunFrames base outer
 frf : ∀ b ∈ frs outer, H b = none
 hok : HOk P w H s.heap
 bare : AllBare s.gens
def CE (outer : List Env) (P : Program) (w : World) (H : Hp) (s : Shared) (Q : VK) (u : Value) (s' : Shared) : Prop :=
 ∃ v H', s'.os = s.os /\ GK s.gens s'.gens /\ Un (frs outer) [] H H' s.heap s'.heap /\ HOk P w H' s'.heap /\ RelV v u /\ Q v H'
def CR (CX : CXT) (outer : List Env) (P : Program) (w : World) (H : Hp) (s : Shared) (Q : VK) (E : XK) (r : Result) (s' : Shared) : Prop :=
 match r with
 | .ok (.ret u) => CE outer P w H s Q u s'
 | .ok _ => False
 | .error e => CX outer H s E e s'
structure rD (P : Program) (w : World) (K : PySem.W.Frag) (mg : Str -> Option Value) (base : Heap) (CX : CXT) (k : Nat) (f : Addr) (fd : FuncData) (ps : List Str) (sp : Sp) : Prop where
 len : ∀ vs H Q E, sp vs H Q E -> vs.length = ps.length
 run : ∀ (A : Around) (outer : List Env) (s : Shared) (H : Hp) (args : Args) (us : List Value) (vs : List V) (Q : VK) (E : XK), gQ k A -> Gw P w K mg base A outer s H -> BindsTo s fd args (ps.zip us) -> Vals vs us -> sp vs H Q E ->
  codeAny (model P w) A (.call (.ref f) args) (CR CX outer P w H s Q E) s
theorem rD.imp {P : Program} {w : World} {K : PySem.W.Frag} {mg : Str -> Option Value} {base : Heap} {CX : CXT} {k : Nat} {f : Addr} {fd : FuncData} {ps : List Str} {sp sp' : Sp} (F : rD P w K mg base CX k f fd ps sp)
  (h : ∀ vs H Q E, sp' vs H Q E -> sp vs H Q E) : rD P w K mg base CX k f fd ps sp' :=
 ⟨λ vs H Q E q => F.len vs H Q E (h _ _ _ _ q), λ A outer s H args us vs Q E hr he hb hv hs => F.run A outer s H args us vs Q E hr he hb hv (h _ _ _ _ hs)⟩
section
variable {X : Cx} {pins : List (Addr × Obj)} {σ : St} {H : Hp} {s s' : Shared}
theorem Inv.env0 (I : Inv X pins σ H s) : Gw X.prog X.w X.K X.mg X.base X.A X.stack s H :=
 ⟨I.ok.frames, I.ok.mod, I.bs, Nat.le_trans I.ok.bsz I.sz, I.stack, I.stkFree, I.hok, I.bare.bare⟩
theorem Inv.after {Q : VK} {u : Value} (I : Inv X pins σ H s) (h : CE X.stack X.prog X.w H s Q u s') : EP X pins σ Q u s' := by
 obtain ⟨v, H', os, bare, un, hok, r, q⟩ := h
 obtain ⟨hh, g, d, t, os'⟩ := s'
 obtain rfl : os' = s.os := os
 exact ⟨v, H', I.call (h' := hh) (g' := g) (d' := d) (t' := t) (ch := []) un hok bare (λ b z => absurd z (by simp)), r, q⟩
end
def Pz (sp : Sp) (dvs : List V) (E : XK) (t : TA) : TE := λ σ H Q => t σ H λ vs H1 => sp (vs ++ dvs) H1 Q E
def Binds (K : PySem.W.Frag) (fd : FuncData) (ps : List Str) (ds : List Value) : Prop :=
 ∀ (s : Shared) (us : List Value), K.In s.heap -> (us ++ ds).length = ps.length -> BindsTo s fd ⟨us, []⟩ (ps.zip (us ++ ds))
theorem Binds.all {K : PySem.W.Frag} {fd : FuncData} {ps : List Str} (h : ∀ us : List Value, us.length = ps.length -> bindArgs fd ⟨us, []⟩ = pure (ps.zip us)) : Binds K fd ps [] := λ s us _ hl => by
 rw [List.append_nil] at hl ⊢
 exact .of_eq (h us hl)
def zM (CX : CXT) (X : Cx) (E : XK) : Prop := ∀ (pins : List (Addr × Obj)) (σ : St) (H : Hp) (s : Shared) (e : Value) (s' : Shared), Inv X pins σ H s -> CX X.stack H s E e s' -> X.xe e s'
section
variable {X : Cx} {CX : CXT} {k : Nat} {f C : Addr} {fd : FuncData} {ps : List Str} {sp : Sp} {dvs : List V} {ds : List Value} {E : XK} {x m : Str} {p pos apos : Pos} {e o : Expr} {es : List Expr} {ta : TE} {t : TA}
theorem Mr {pins : List (Addr × Obj)} {σ : St} {H : Hp} {s : Shared} {Q : VK} {us : List Value} {vs : List V} (F : rD X.prog X.w X.K X.mg X.base CX k f fd ps sp) (hr : gQ k X.A) (hb : Binds X.K fd ps ds) (hd : Vals dvs ds) (hx : zM CX X E)
  (I : Inv X pins σ H s) (r : Vals vs us) (h : sp (vs ++ dvs) H Q E) : wpAny (model X.prog X.w) X.A (call (.ref f) us) (EP X pins σ Q) X.xe s := by
 have r2 : Vals (vs ++ dvs) (us ++ ds) := r.append hd
 have hl : (us ++ ds).length = ps.length := by rw [<- r2.length]; exact F.len _ _ _ _ h
 refine wpAny_call (codeAny_mono (F.run X.A X.stack s H ⟨us, []⟩ (us ++ ds) (vs ++ dvs) Q E hr I.env0 (hb s us I.kIn hl) r2 h) λ r s' hq => ?_)
 cases r with
 | error e => exact hx pins σ H s e s' I hq
 | ok fl =>
  cases fl with
  | ret u => exact I.after hq
  | next => exact False.elim hq
  | brk => exact False.elim hq
  | cont => exact False.elim hq
theorem Hy (F : rD X.prog X.w X.K X.mg X.base CX k f fd ps sp) (hr : gQ k X.A) (hg : Gl X x) (hm : X.mg x = some (.ref f)) (hk : PySem.W.keepIn X.K (.ref f) = true) (hb : Binds X.K fd ps ds) (hd : Vals dvs ds) (hx : zM CX X E)
  (ha : PA X (e :: es) t) (hdb : (x == ("__debug__" : Str)) = false := by decide) (he : starEach (e :: es) X.env = (false, eval e X.env) :: starEach es X.env := by rfl) (hpl : (backTo pos (starEach es X.env)).any (·.1) = false := by rfl) :
  PE X (.Call (.Name x p) (e :: es) [] pos) (Pz sp dvs E t) := by
 intro pins s σ H Q I h
 refine wpAny_Call_Name_kw (Aw I hg hm ?_ hdb)
 refine PySem.W.callWith_K (h₀ := X.base) I.ok.mod.kin hk (thn (ha pos pins s σ H _ I h) λ us s1 ⟨vs, H1, I1, r, q⟩ => ⟨I1.kIn, ?_⟩) he hpl
 exact Mr F hr hb hd hx I1 r q
end
structure bh (N P : List Str) (sc : Scope) : Prop where
 kind : sc.kind = .function
 co : sc.isCoroutine = false
 gen : sc.isGenerator = false
 nd : N.Nodup
 pre : N.take P.length = P
 par : ∀ x ∈ P, sc.names.lookup x = some .local ∨ sc.names.lookup x = some .cell
 nofree : ∀ y ∈ sc.names, y.2 ≠ .free
theorem uK {kindOf : Str -> Option NameKind} {x : Str} : ∀ {binds : List (Str × Value)} {m : Str -> Option Value}, (∀ v, (x, v) ∉ binds) -> bindL kindOf binds m x = m x
 | [], _, _ => rfl
 | (n, v) :: r, m, h => by
  unfold bindL
  rw [uK λ w hw => h w (List.mem_cons_of_mem _ hw)]
  split
  .have : x ≠ n := by rintro rfl; exact h v List.mem_cons_self
   simp [this]
  .rfl
theorem vp {kindOf : Str -> Option NameKind} {x : Str} : ∀ {binds : List (Str × Value)} {m : Str -> Option Value}, (∀ v, (x, v) ∉ binds) -> bindC kindOf binds m x = m x
 | [], _, _ => rfl
 | (n, v) :: r, m, h => by
  unfold bindC
  rw [vp λ w hw => h w (List.mem_cons_of_mem _ hw)]
  split
  .rfl
  .have : x ≠ n := by rintro rfl; exact h v List.mem_cons_self
   simp [this]
theorem vB {kindOf : Str -> Option NameKind} {x : Str} {v : Value} : ∀ {P : List Str} {vs : List Value} {i : Nat} {m : Str -> Option Value}, P.Nodup -> P[i]? = some x -> vs[i]? = some v -> kindOf x = some .local ->
  bindL kindOf (P.zip vs) m x = some v
 | [], _, _, _, _, h, _, _ => by simp at h
 | _ :: _, [], _, _, _, _, h, _ => by simp at h
 | p :: P, w :: vs, 0, m, nd, h1, h2, hk => by
  simp at h1 h2; subst h1; subst h2
  show bindL kindOf ((p, w) :: P.zip vs) m p = _
  unfold bindL
  rw [uK λ v hv => (List.nodup_cons.mp nd).1 (List.of_mem_zip hv).1, if_pos hk]
  simp
 | p :: P, w :: vs, i + 1, m, nd, h1, h2, hk => by
  show bindL kindOf ((p, w) :: P.zip vs) m x = _
  unfold bindL
  exact vB (i := i) (List.nodup_cons.mp nd).2 (by simpa using h1) (by simpa using h2) hk
theorem uL {kindOf : Str -> Option NameKind} {x : Str} {v : Value} : ∀ {P : List Str} {vs : List Value} {i : Nat} {m : Str -> Option Value}, P.Nodup -> P[i]? = some x -> vs[i]? = some v -> kindOf x ≠ some .local ->
  bindC kindOf (P.zip vs) m x = some v
 | [], _, _, _, _, h, _, _ => by simp at h
 | _ :: _, [], _, _, _, _, h, _ => by simp at h
 | p :: P, w :: vs, 0, m, nd, h1, h2, hk => by
  simp at h1 h2; subst h1; subst h2
  show bindC kindOf ((p, w) :: P.zip vs) m p = _
  unfold bindC
  rw [vp λ v hv => (List.nodup_cons.mp nd).1 (List.of_mem_zip hv).1, if_neg hk]
  simp
 | p :: P, w :: vs, i + 1, m, nd, h1, h2, hk => by
  show bindC kindOf ((p, w) :: P.zip vs) m x = _
  unfold bindC
  exact uL (i := i) (List.nodup_cons.mp nd).2 (by simpa using h1) (by simpa using h2) hk
def start (N : List Str) (vs : List V) : St := vs.map some ++ List.replicate (N.length - vs.length) none
def zP (CX : CXT) (P : Program) (w : World) (K : PySem.W.Frag) (mg : Str -> Option Value) (base : Heap) (N : List Str) (qual : Str) (scope : Scope) (f : Addr) (cd : Value) (A : Around) (outer : List Env) (s : Shared) (H : Hp) (E : XK) : Cx where
 prog := P
 w := w
 K := K
 mg := mg
 base := base
 A := A.deeper (envOfC qual scope s.heap.objs.size f cd)
 N := N
 s₀ := s
 H₀ := H
 env := envOfC qual scope s.heap.objs.size f cd
 outer := outer
 stack := envOfC qual scope s.heap.objs.size f cd :: outer
 ex := []
 calm := true
 fn := λ _ => true
 pn := []
 xe := λ e s' => wpAny (model P w) (A.deeper (envOfC qual scope s.heap.objs.size f cd)) (leaving (envOfC qual scope s.heap.objs.size f cd) e) (λ _ s'' => CX outer H s E e s'') (λ e' s'' => CX outer H s E e' s'') s'
theorem xW {sc : Scope} {n : Nat} {x : Str} (h : sc.names.lookup x = some .cell) : ∃ c, (cellsFrom n sc.names []).lookup x = some c := by
 have q := PySem.W.cellsFrom_some sc.names n [] (.inl h)
 exact Option.isSome_iff_exists.mp q
theorem Cm {CX : CXT} {P : Program} {w : World} {K : PySem.W.Frag} {mg : Str -> Option Value} {base : Heap} {N ps : List Str} {qual : Str} {scope : Scope} {f : Addr} {cd : Value} {A : Around} {outer : List Env} {s s1 : Shared} {H : Hp} {E : XK} {us : List Value} {vs : List V}
  (S : bh N ps scope) (hd : A.handled = none) (e0 : Gw P w K mg base A outer s H) (hl : vs.length = ps.length) (r : Vals vs us)
  (x : InCallC s s.heap.objs.size (bindL (envOfC qual scope s.heap.objs.size f cd).kindOf (ps.zip us) λ _ => none) (cellsFrom (s.heap.objs.size + 1) scope.names []) (bindC (envOfC qual scope s.heap.objs.size f cd).kindOf (ps.zip us) λ _ => none) s1) :
  Inv (zP CX P w K mg base N qual scope f cd A outer s H E) [] (start N vs) H s1 := by
 have hpl : ps.length <= N.length := by have := congrArg List.length S.pre; rw [List.length_take] at this; omega
 obtain ⟨h1, tk, rfl, hk⟩ := x.done
 have noA : ∀ b : Addr, b ∉ (zP CX P w K mg base N qual scope f cd A outer s H E).ex := λ b z => absurd (show b ∈ ([] : List Addr) from z) (by simp)
 refine ⟨⟨e0.mod, S.kind, rfl, rfl, Nat.le_refl _, λ y z c h1 h2 => ?_, λ y hy => ?_, λ y c _ h => ?_, λ _ => hd, Around.frames_deeper e0.frames, .inr ⟨rfl, rfl⟩, λ b z => absurd z (noA b), e0.bs, e0.bsz, λ b _ _ => noA b, λ b z => absurd z (noA b), e0.funs, e0.frf⟩,
  rfl, GK.refl e0.bare, Un.kept hk, ⟨_, x.toInCall.ns, λ i y v h1 h2 h3 => ?_⟩, λ y c h => ⟨_, x.cell y c h⟩, e0.hok.fresh (Nat.le_refl _), λ y c h => ?_, λ p hp => absurd (show p ∈ ([] : List (Addr × Obj)) from hp) (by simp), e0.hok.kept hk, ?_⟩
 .exact name_of_addr x.apart (PySem.mem_of_lookup h1) (PySem.mem_of_lookup h2)
 .have hy : scope.names.lookup y = some .cell ∨ scope.names.lookup y = some .free := hy
  rcases hy with hy | hy
  .exact xW hy
  .exact absurd rfl (S.nofree _ (PySem.mem_of_lookup hy))
 .exact Nat.le_of_lt (x.above y c (PySem.mem_of_lookup h))
 .have hi : i < vs.length := by
   unfold start at h2
   by_cases hi : i < vs.length
   .exact hi
   .rw [List.getElem?_append_right (by simpa using hi)] at h2
    rw [List.getElem?_replicate] at h2
    split at h2 <;> cases h2
  have ha : vs[i]? = some v := by
   unfold start at h2
   rw [List.getElem?_append_left (by simpa using hi), List.getElem?_map] at h2
   cases e : vs[i]? with
   | none => rw [e] at h2; cases h2
   | some a => rw [e] at h2; cases h2; rfl
  obtain ⟨u, hu, rv⟩ := r.get ha
  have hp : ps[i]? = some y := by
   rw [<- S.pre, List.getElem?_take_of_lt (by omega)]; exact h1
  have ndP : ps.Nodup := by rw [<- S.pre]; exact S.nd.sublist (List.take_sublist _ _)
  refine ⟨u, rv, ?_⟩
  rcases S.par y (List.mem_of_getElem? hp) with k | k
  .exact .inl ⟨k, vB ndP hp hu k⟩
  .obtain ⟨c, e⟩ := xW (n := s.heap.objs.size + 1) k
   refine .inr ⟨.inl k, c, e, ?_⟩
   have q := x.cell y c e
   rw [uL ndP hp hu (by show scope.names.lookup y ≠ _; rw [k]; decide)] at q
   exact q
 .exact e0.hok.fresh (Nat.le_of_lt (x.above y c (PySem.mem_of_lookup h)))
 .unfold start
  show _ = N.length
  rw [List.length_append, List.length_map, List.length_replicate]
  omega
theorem JZ {CX : CXT} {P : Program} {w : World} {K : PySem.W.Frag} {mg : Str -> Option Value} {base : Heap} {k : Nat} {f : Addr} {name qual : Str} {params : Arguments} {body : List Stmt} {scope : Scope} {dV kV doc pm cdv ct oc : Value} {an od : Option Addr}
  {osl : Array (Option Value)} {N ps : List Str} {sp : Sp} (lk : K.lookup f = some ⟨oc, od, .func (PySem.W.fnOf name qual params body scope dV kV doc pm an cdv ct), osl⟩) (hcd : PySem.W.codeIn K cdv qual = true) (S : bh N ps scope)
  (len : ∀ vs H Q E, sp vs H Q E -> vs.length = ps.length)
  (hbody : ∀ (A : Around) (outer : List Env) (s : Shared) (H : Hp) (vs : List V) (Q : VK) (E : XK), gQ k (A.deeper (envOfC qual scope s.heap.objs.size f cdv)) -> sp vs H Q E ->
   ∃ t, PSs (zP CX P w K mg base N qual scope f cdv A outer s H E) body t /\ t { nx := λ _ H' => Q .non H', rt := Q } (start N vs) H) :
  rD P w K mg base CX (k + 1) f (PySem.W.fnOf name qual params body scope dV kV doc pm an cdv ct) ps sp := by
 refine ⟨len, λ A outer s H args us vs Q E hr e0 hb r hsp => ?_⟩
 have hl := len _ _ _ _ hsp
 have KX : K.In s.heap := e0.mod.kin.keeps λ b o e => (e0.bs b o e).1
 have lim : s.heap.NoLimit := e0.mod.nolimit.keeps λ b o e => (e0.bs b o e).1
 have hkind : ∀ y ∈ ps.zip us, scope.names.lookup y.1 = some .local ∨ (scope.names.lookup y.1 = some .cell /\ ((cellsFrom (s.heap.objs.size + 1) scope.names []).lookup y.1).isSome = true) := λ zq49 hy => by
  obtain ⟨n, v⟩ := zq49
  rcases S.par n (List.of_mem_zip hy).1 with q | q
  .exact .inl q
  .exact .inr ⟨q, PySem.W.cellsFrom_some _ _ _ (.inl q)⟩
 refine codeAny_call_function hr.depth (KX _ _ lk) rfl S.co S.gen rfl (PySem.W.codeRec_of KX hcd) (hb _ _ _ _ ?_)
 refine wpAny_newFunctionEnv_cells S.kind hkind λ env he s1 x => ?_
 subst he
 refine ⟨lim.keeps x.toInCall.keep, codeAny_func ?_⟩
 obtain ⟨t, ht, hq⟩ := hbody A outer s H vs Q E (hr.deeper _) hsp
 have I : Inv (zP CX P w K mg base N qual scope f cdv A outer s H E) [] (start N vs) H s1 := Cm S hr.hd e0 hl r x
 refine wpAny_mono (ht [] s1 (start N vs) H _ I hq) (λ fl s' hs => ?_) λ e s' hs => hs
 have fin : ∀ {σ' : St} {H' : Hp} {v : V} {u : Value}, Inv (zP CX P w K mg base N qual scope f cdv A outer s H E) [] σ' H' s' -> RelV v u -> Q v H' -> CE outer P w H s Q u s' :=
  λ {σ' H' v u} J rv q => ⟨v, H', J.os, J.bare, J.base, J.hok, rv, q⟩
 cases fl with
 | ret u =>
  obtain ⟨v, σ', H', J, rv, q⟩ := hs
  exact fin J rv q
 | next =>
  obtain ⟨σ', H', J, q⟩ := hs
  exact fin (v := V.non) (u := Value.none) J rfl q
 | brk =>
  obtain ⟨_, _, _, q⟩ := hs
  exact False.elim q
 | cont =>
  obtain ⟨_, _, _, q⟩ := hs
  exact False.elim q
section
variable {X : Cx} {x : Str} {p pos : Pos} {e : Expr} {es : List Expr} {t : TA} {id T : String} {r : List V -> Hp -> VK -> Prop}
def tCB (r : List V -> Hp -> VK -> Prop) (t : TA) : TE := λ σ H Q => t σ H λ vs H1 => r vs H1 Q
theorem pI (hc : lC X (.builtin id) r) (hg : Gl X x) (hm : X.mg x = none) (hv : bootBuiltins x = some (.builtin id)) (ha : PA X (e :: es) t) (hn : x ≠ "__name__" := by decide) (hdb : (x == ("__debug__" : Str)) = false := by decide)
  (he : starEach (e :: es) X.env = (false, eval e X.env) :: starEach es X.env := by rfl) (hpl : (backTo pos (starEach es X.env)).any (·.1) = false := by rfl) : PE X (.Call (.Name x p) (e :: es) [] pos) (tCB r t) := by
 intro pins s σ H Q I h
 refine wpAny_Call_Name_kw (nF I hg hm hv ?_ hn hdb)
 exact PyProof.Rows.callWith_builtin1 (thn (ha pos pins s σ H _ I h) λ us s1 ⟨vs, H1, I1, r1, q1⟩ => hc pins s1 σ H1 vs us Q I1 r1 q1) he hpl
theorem uZ (hc : lC X (.type T) r) (hg : Gl X x) (hm : X.mg x = none) (hv : bootBuiltins x = some (.type T)) (ha : PA X (e :: es) t) (hn : x ≠ "__name__" := by decide) (hdb : (x == ("__debug__" : Str)) = false := by decide)
  (he : starEach (e :: es) X.env = (false, eval e X.env) :: starEach es X.env := by rfl) (hpl : (backTo pos (starEach es X.env)).any (·.1) = false := by rfl) : PE X (.Call (.Name x p) (e :: es) [] pos) (tCB r t) := by
 intro pins s σ H Q I h
 refine wpAny_Call_Name_kw (nF I hg hm hv ?_ hn hdb)
 exact PyProof.Rows.callWith_type1 (thn (ha pos pins s σ H _ I h) λ us s1 ⟨vs, H1, I1, r1, q1⟩ => hc pins s1 σ H1 vs us Q I1 r1 q1) he hpl
end
end L2
namespace HT
open PySem PyProof.Rows
section
variable {prog : Program} {w : World} {A : Around} {E : Value -> Shared -> Prop} {s : Shared}
theorem cat_tup {t b : Addr} {vs ws : List Value} {Q : Value -> Shared -> Prop} (ht : IsTup s.heap t vs.toArray) (hb : IsTup s.heap b ws.toArray) (hv : vs ≠ [])
  (h1 : ws = [] -> Q (.ref t) s) (h2 : ws ≠ [] -> Q (.ref s.heap.objs.size) { s with heap := s.heap.push { cls := .type "tuple", data := .seq (vs ++ ws).toArray } })
  (hsz : vs.length + ws.length <= sizeLine) : wpAny (model prog w) A (binaryOp .Add (.ref t) (.ref b)) Q E s := by
 obtain ⟨⟨cls, dd, data, sl⟩, ho, hc, n, hd⟩ := id ht
 obtain ⟨⟨cls2, dd2, data2, sl2⟩, ho2, hc2, n2, hd2⟩ := id hb
 simp only at hc hd hc2 hd2
 subst hc hd hc2 hd2
 have e : vs.toArray ++ ws.toArray = (vs ++ ws).toArray := by simp
 by_cases hw : ws = []
 .exact concat_meets ⟨_, ho, rfl⟩ ⟨_, ho2, rfl⟩ noFill_tuple_add seq_tuple_add PySem.F.slot_tuple_add PySem.F.entry_tuple_add (PySem.F.args_tuple_add_2 _ _)
   (tuple_addW1 t b vs.toArray ws.toArray n n2 dd dd2 sl sl2 (by simpa using hv) (by simp [hw])) ⟨ho, ho2, h1 hw⟩
 .refine concat_meets ⟨_, ho, rfl⟩ ⟨_, ho2, rfl⟩ noFill_tuple_add seq_tuple_add PySem.F.slot_tuple_add PySem.F.entry_tuple_add (PySem.F.args_tuple_add_2 _ _)
   (tuple_addW2 t b vs.toArray ws.toArray n n2 dd dd2 sl sl2 (by simpa using hv) (by simpa using hw) (by rw [List.size_toArray, List.size_toArray]; exact hsz)) ⟨ho, ho2, ?_⟩
  rw [e]
  exact h2 hw
def sIx (n d : Nat) : Option Int -> Nat
 | none => d
 | some v => if v < 0 then (v + (n : Int)).toNat else min v.toNat n
theorem Mh (n d : Nat) (hd : d <= n) (o : Option Int) : sIx n d o <= n := by
 cases o with
 | none => exact hd
 | some v =>
  show (if v < 0 then (v + (n : Int)).toNat else min v.toNat n) <= n
  by_cases hv : v < 0
  .rw [if_pos hv]; omega
  .rw [if_neg hv]; exact Nat.min_le_right _ _
theorem Ae (v : Int) (n d : Nat) : (if v < 0 then max (v + (n : Int)) 0 else min v (n : Int)) = ((sIx n d (some v) : Nat) : Int) := by
 show (if v < 0 then max (v + (n : Int)) 0 else min v (n : Int)) = (((if v < 0 then (v + (n : Int)).toNat else min v.toNat n) : Nat) : Int)
 by_cases hv : v < 0
 .simp only [if_pos hv]; omega
 .simp only [if_neg hv]; omega
theorem Ab (lo hi : Option Int) (n : Nat) : Builtin.Slice.sliceAdjust lo hi 1 (n : Int) = (((sIx n 0 lo : Nat) : Int), ((sIx n n hi : Nat) : Int)) := by
 have h1 : ¬ ((1 : Int) < 0) := by omega
 unfold Builtin.Slice.sliceAdjust
 simp only [h1, if_false]
 refine Prod.ext ?_ ?_
 .cases lo with
  | none => rfl
  | some v => exact Ae v n 0
 .cases hi with
  | none => rfl
  | some v => exact Ae v n n
theorem zb (i j : Nat) : Builtin.Slice.slicePlaces (i : Int) (j : Int) 1 = j - i := by
 unfold Builtin.Slice.slicePlaces
 have h1 : (1 : Int) > 0 := by omega
 simp only [h1, if_true, Int.ediv_one]
 split <;> omega
theorem sE {v : Value} {o : Option Int} {Q : Option Int -> Shared -> Prop} (p : IsPart v o) (h : Q o s) : wpAny (model prog w) A (Builtin.Slice.slicePartIndex v) Q E s := by
 cases p with
 | none => exact slicePart_none h
 | int i t => exact slicePart_int h
theorem lB {sl : Addr} {vl vu : Value} {lo hi : Option Int} {n : Nat} {Q : Int × Int × Nat -> Shared -> Prop} (hs : s.heap.IsSliceOf sl vl vu .none) (pl : IsPart vl lo) (pu : IsPart vu hi)
  (h : Q (((sIx n 0 lo : Nat) : Int), 1, sIx n n hi - sIx n 0 lo) s) : wpAny (model prog w) A (Builtin.Slice.sliceApplied (.ref sl) (pure (n : Int))) Q E s := by
 obtain ⟨os, hos, hcs, hds⟩ := id hs
 unfold Builtin.Slice.sliceApplied Builtin.Slice.sliceFields
 refine wpAny_bind (wpAny_bind (wpAny_field hos hds (x := vl) rfl (wpAny_bind (wpAny_field hos hds (x := vu) rfl (wpAny_bind (wpAny_field hos hds (x := .none) rfl (wpAny_pure ?_)))))))
 refine wpAny_bind (slicePart_none ?_)
 show wpAny _ _ (if ((1 : Int) == 0) = true then _ else _) _ _ s
 rw [if_neg (by decide)]
 refine wpAny_bind (sE pl (wpAny_bind (sE pu (wpAny_bind (wpAny_pure ?_)))))
 show wpAny _ _ (match Builtin.Slice.sliceAdjust lo hi 1 (n : Int) with | (lo, hi) => pure (lo, (1 : Int), Builtin.Slice.slicePlaces lo hi 1)) _ _ s
 rw [Ab lo hi n]
 show wpAny _ _ (pure (((sIx n 0 lo : Nat) : Int), (1 : Int), Builtin.Slice.slicePlaces ((sIx n 0 lo : Nat) : Int) ((sIx n n hi : Nat) : Int) 1)) _ _ s
 rw [zb]
 exact wpAny_pure h
theorem Dm (xs : Array Value) (i k : Nat) : ((List.range k).filterMap λ (m : Nat) => xs[((i : Int) + (m : Int) * 1).toNat]?).toArray = ((xs.toList.drop i).take k).toArray := by
 have e : (λ (m : Nat) => xs[((i : Int) + (m : Int) * 1).toNat]?) = λ m => xs[i + m]? := by
  funext m
  have : ((i : Int) + (m : Int) * 1).toNat = i + m := by omega
  rw [this]
 rw [e]
 have := pick_run xs i k
 rw [List.filterMap_map] at this
 have e2 : ((λ x => xs[x]?) ∘ λ x => i + x) = λ m => xs[i + m]? := rfl
 rw [e2] at this
 rw [this]
theorem getItem_tuple_cut {t sl : Addr} {items : Array Value} {vl vu : Value} {lo hi : Option Int} {Q : Value -> Shared -> Prop} (ht : IsTup s.heap t items) (hs : s.heap.IsSliceOf sl vl vu .none) (pl : IsPart vl lo) (pu : IsPart vu hi)
  (hw : ¬ (sIx items.size 0 lo = 0 /\ sIx items.size items.size hi = items.size))
  (h : Q (.ref s.heap.objs.size) { s with heap := s.heap.push { cls := .type "tuple", data := .seq ((items.toList.drop (sIx items.size 0 lo)).take (sIx items.size items.size hi - sIx items.size 0 lo)).toArray } })
  (hsz : items.size <= sizeLine) : wpAny (model prog w) A (getItem (.ref t) (.ref sl)) Q E s := by
 have htake : sizeOk (.seq ((items.toList.drop (sIx items.size 0 lo)).take (sIx items.size items.size hi - sIx items.size 0 lo)).toArray) := by
  show ((items.toList.drop (sIx items.size 0 lo)).take (sIx items.size items.size hi - sIx items.size 0 lo)).toArray.size <= sizeLine
  rw [List.size_toArray, List.length_take, List.length_drop, Array.length_toList]
  omega
 have hj : sIx items.size items.size hi <= items.size := Mh _ _ (Nat.le_refl _) hi
 obtain ⟨os, hos, hcs, hds⟩ := id hs
 have hTs : s.TypeIs (.ref sl) "slice" := ⟨os, hos, hcs⟩
 unfold getItem
 try with_reducible refine wpAny_holding ?_
 first | refine wpAny_bind (wpAny_pure ?_) | skip
 refine wpAny_bind (wpAny_sequenceKey ht.typeIs (by decide) ?_)
 refine wpAny_bind (wpAny_callSpecial?_slot (name := Str.ofString "__getitem__") ht.typeIs PyProof.Rows.slot_tuple_getitem
  (wpAny_call_entry PyProof.Rows.slot_tuple_getitem ht.typeIs entry_tuple_getitem ?_ (args_tuple_getitem _ _)))
 show wpAny _ _ (Builtin.Tuple.tupleItemsOf (.ref t) >>= _) _ _ s
 refine wpAny_bind (tupleItemsOf_ ht ?_)
 refine wpAny_bind (wpAny_typeOf hTs ?_)
 rw [if_pos (by decide)]
 refine wpAny_bind (lB hs pl pu ?_)
 have hno : ¬ ((((sIx items.size 0 lo : Nat) : Int) == 0 && (1 : Int) == 1 && (sIx items.size items.size hi - sIx items.size 0 lo) == items.size) = true) := by
  intro q
  rw [Bool.and_eq_true, Bool.and_eq_true] at q
  have q1 : ((sIx items.size 0 lo : Nat) : Int) = 0 := eq_of_beq q.1.1
  have q2 : sIx items.size items.size hi - sIx items.size 0 lo = items.size := eq_of_beq q.2
  exact hw ⟨by omega, by omega⟩
 show wpAny _ _ (if (((sIx items.size 0 lo : Nat) : Int) == 0 && (1 : Int) == 1 && (sIx items.size items.size hi - sIx items.size 0 lo) == items.size) = true then _ else _) _ _ s
 rw [if_neg hno, Dm]
 first
  | exact wpAny_bind (m := Builtin.Tuple.tupleExact _) (wpAny_newObj_type (wpAny_pure ⟨_, rfl, wpAny_pure h⟩) htake)
  | exact wpAny_bind (m := Builtin.Tuple.tupleExact _) (wpAny_newObj_type (wpAny_bind (wpAny_pure (wpAny_pure ⟨_, rfl, wpAny_pure h⟩))) htake)
  | exact wpAny_bind (wpAny_bind (m := Builtin.Tuple.tupleExact _) (wpAny_newObj_type (wpAny_pure (wpAny_pure ⟨_, rfl, wpAny_pure h⟩)) htake))
  | exact wpAny_bind (wpAny_bind (m := Builtin.Tuple.tupleExact _) (wpAny_newObj_type (wpAny_pure ⟨_, rfl, wpAny_pure h⟩) htake))
end
end HT
namespace L2
open PySem PySem.Spec PyProof.Rows
abbrev TO := St -> Hp -> (Option Int -> Hp -> Prop) -> Prop
def PO (X : Cx) (e : Option Expr) (t : TO) : Prop :=
 ∀ (pins : List (Addr × Obj)) (s : Shared) (σ : St) (H : Hp) (Q : Option Int -> Hp -> Prop), Inv X pins σ H s -> t σ H Q ->
  wpAny (model X.prog X.w) X.A (evalPart e X.env) (λ u s' => ∃ o H', Inv X pins σ H' s' /\ IsPart u o /\ Q o H') X.xe s
def Jh : TO := λ _ H Q => Q none H
def QC (t : TE) : TO := λ σ H Q => t σ H λ x H1 => ∃ i, x = .int i /\ Q (some i) H1
section
variable {X : Cx} {e : Expr} {te : TE} {lo hi : Option Expr} {tl th : TO} {pos p2 : Pos}
theorem Hb : PO X none Jh := by
 intro pins s σ H Q I h
 rw [evalPart_none]
 exact wpAny_pure ⟨none, H, I, .none, h⟩
theorem Im (h : PE X e te) : PO X (some e) (QC te) := by
 intro pins s σ H Q I hw
 rw [evalPart_some]
 refine thn (h pins s σ H _ I hw) λ u s1 zq50 => ?_
 obtain ⟨x, H1, I1, r1, q1⟩ := zq50
 obtain ⟨i, rfl, q⟩ := q1
 obtain ⟨t, rfl⟩ := r1
 exact ⟨some i, H1, I1, .int i t, q⟩
def SlR (X : Cx) (r : V -> Option Int -> Option Int -> Hp -> VK -> Prop) : Prop :=
 ∀ (pins : List (Addr × Obj)) (s : Shared) (σ : St) (H : Hp) (x : V) (v vl vu : Value) (lo hi : Option Int) (sl : Addr) (Q : VK), Inv X pins σ H s -> RelV x v -> s.heap.IsSliceOf sl vl vu .none -> IsPart vl lo -> IsPart vu hi -> r x lo hi H Q ->
  ∃ T id, typeLookup (.type T) "__getitem__" = pure (some (.builtin id)) /\ s.TypeIs v T /\ wpAny (model X.prog X.w) X.A (getItem v (.ref sl)) (EP X pins σ Q) X.xe s
theorem SlR.or {r r' : V -> Option Int -> Option Int -> Hp -> VK -> Prop} (h : SlR X r) (h' : SlR X r') : SlR X (λ x lo hi H Q => r x lo hi H Q ∨ r' x lo hi H Q) := by
 intro pins s σ H x v vl vu lo hi sl Q I rx hs pl pu q
 rcases q with q | q
 .exact h pins s σ H x v vl vu lo hi sl Q I rx hs pl pu q
 .exact h' pins s σ H x v vl vu lo hi sl Q I rx hs pl pu q
def tSl (r : V -> Option Int -> Option Int -> Hp -> VK -> Prop) (te : TE) (tl th : TO) : TE := λ σ H Q => te σ H λ x H1 => tl σ H1 λ l H2 => th σ H2 λ u H3 => r x l u H3 Q
theorem Ec {r : V -> Option Int -> Option Int -> Hp -> VK -> Prop} (hr : SlR X r) (he : PE X e te) (hl : PO X lo tl) (hu : PO X hi th) : PE X (.Subscript e (.Slice lo hi none p2) pos) (tSl r te tl th) := by
 intro pins s σ H Q I h
 refine Subscript_ (thn (he pins s σ H _ I h) λ v s1 zq51 => ?_)
 obtain ⟨x, H1, I1, r1, q1⟩ := zq51
 refine wpAny_Slice (thn (hl pins s1 σ H1 _ I1 q1) λ vl s2 ⟨l, H2, I2, pl, q2⟩ => thn (hu pins s2 σ H2 _ I2 q2) λ vu s3 zq52 => ?_)
 obtain ⟨u, H3, I3, pu, q3⟩ := zq52
 rw [evalPart_none]
 refine wpAny_pure ?_
 have I4 : Inv X pins σ H3 { s3 with heap := s3.heap.push { cls := .type "slice", data := .fields #[vl, vu, .none] } } := I3.kept (t' := s3.toks) λ b ob q => Heap.get?_push_of_some _ q
 obtain ⟨T, id, hT, ht, hg⟩ := hr pins { s3 with heap := s3.heap.push { cls := .type "slice", data := .fields #[vl, vu, .none] } } σ H3 x v vl vu l u s3.heap.objs.size Q I4 r1 (Heap.IsSliceOf.new ..) pl pu q3
 show wpAny (model X.prog X.w) X.A (subscriptTail e (.Slice lo hi none p2) v (.ref s3.heap.objs.size)) (EP X pins σ Q) X.xe { s3 with heap := s3.heap.push { cls := .type "slice", data := .fields #[vl, vu, .none] } }
 exact tail_any (ops := [.ref s3.heap.objs.size, v]) ht hT hg (by with_unfolding_all rfl)
def yj (xs : List V) (lo hi : Option Int) : List V := (xs.drop (HT.sIx xs.length 0 lo)).take (HT.sIx xs.length xs.length hi - HT.sIx xs.length 0 lo)
theorem qW (xs : List V) (lo hi : Option Int) : (yj xs lo hi).length <= xs.length := by
 unfold yj
 rw [List.length_take, List.length_drop]
 omega
def rSlT (K : PySem.W.Frag) : V -> Option Int -> Option Int -> Hp -> VK -> Prop := λ x lo hi H Q => ∃ a xs, x = .ref a /\ SqT K H a xs /\
 ¬ (HT.sIx xs.length 0 lo = 0 /\ HT.sIx xs.length xs.length hi = xs.length) /\ ∀ p, H p = none -> Q (.ref p) (upd H p (.tup (yj xs lo hi)))
theorem KD : SlR X (rSlT X.K) := by
 intro pins s σ H x v vl vu lo hi sl Q I rx hs pl pu h
 obtain ⟨a, xs, rfl, hx, hw, q⟩ := h
 cases rx
 obtain ⟨its, r, ht, hz⟩ := I.tuple hx
 have hlen : its.toArray.size = xs.length := by rw [List.size_toArray]; exact r.length.symm
 refine ⟨"tuple", _, PyProof.Rows.slot_tuple_getitem.lookup, ht.typeIs, ?_⟩
 refine HT.getItem_tuple_cut ht hs pl pu (by rw [hlen]; exact hw) ?_ (by rw [hlen]; exact hz)
 rw [hlen]
 refine ⟨.ref s.heap.objs.size, _, I.laid (t' := s.toks) (o := .tup (yj xs lo hi)) (λ b ob q => Heap.get?_push_of_some _ q) (Nat.le_refl _) ?_, rfl, q _ (I.hok.fresh (Nat.le_refl _))⟩
 exact ⟨Nat.le_trans (qW xs lo hi) hz, _, (r.drop (HT.sIx xs.length 0 lo)).take (HT.sIx xs.length xs.length hi - HT.sIx xs.length 0 lo), IsTup.new _ _⟩
def Ph (K : PySem.W.Frag) : R2 := λ x y H Q => ∃ a b xs ys, x = .ref a /\ y = .ref b /\ SqT K H a xs /\ SqT K H b ys /\ xs ≠ [] /\ xs.length + ys.length <= sizeLine /\
 (ys = [] -> Q (.ref a) H) /\ (ys ≠ [] -> ∀ p, H p = none -> Q (.ref p) (upd H p (.tup (xs ++ ys))))
theorem Vals.mj {xs : List V} {us : List Value} (r : Vals xs us) : us = [] ↔ xs = [] := by
 cases r with
 | nil => simp
 | cons _ _ => simp
theorem Jp : OpR X (binaryOp .Add) (Ph X.K) := by
 intro pins s σ H x y v u Q I rx ry h
 obtain ⟨a, b, xs, ys, rfl, rfl, ha, hb, hx, hz, q1, q2⟩ := h
 cases rx
 cases ry
 obtain ⟨its, r1, p1, _⟩ := I.tuple ha
 obtain ⟨its2, r2, p2, _⟩ := I.tuple hb
 refine HT.cat_tup p1 p2 (λ z => hx (r1.mj.mp z)) (λ z => ⟨.ref a, H, I, rfl, q1 (r2.mj.mp z)⟩) (λ z => ?_) (by rw [<- r1.length, <- r2.length]; exact hz)
 refine ⟨.ref s.heap.objs.size, _, I.laid (t' := s.toks) (o := .tup (xs ++ ys)) (λ b ob q => Heap.get?_push_of_some _ q) (Nat.le_refl _) ?_, rfl, q2 (λ w => z (r2.mj.mpr w)) _ (I.hok.fresh (Nat.le_refl _))⟩
 exact ⟨by rw [List.length_append]; exact hz, _, r1.append r2, IsTup.new _ _⟩
end
def ixN (n : Nat) (i : Int) : Option Nat := if 0 <= i then (if i < n then some i.toNat else none) else if -(n : Int) <= i then some (i + n).toNat else none
def atI {α : Type} (xs : List α) (i : Int) : Option α := (ixN xs.length i).bind λ j => xs[j]?
theorem Ai {n : Nat} {i : Int} {j : Nat} (h : ixN n i = some j) : seqIndex? i n = some j /\ j < n /\ -(n : Int) <= i /\ i < n := by
 unfold ixN at h
 by_cases h0 : 0 <= i
 .rw [if_pos h0] at h
  by_cases h1 : i < n
  .rw [if_pos h1] at h
   have e : i.toNat = j := Option.some.inj h
   exact ⟨by rw [seqIndex_of h0 h1, e], by omega, by omega, h1⟩
  .rw [if_neg h1] at h; cases h
 .rw [if_neg h0] at h
  by_cases h1 : -(n : Int) <= i
  .rw [if_pos h1] at h
   have e : (i + n).toNat = j := Option.some.inj h
   exact ⟨by rw [seqIndex_neg (by omega) h1, e], by omega, h1, by omega⟩
  .rw [if_neg h1] at h; cases h
theorem xg {α : Type} {xs : List α} {i : Int} {v : α} (h : atI xs i = some v) : ∃ j, seqIndex? i xs.length = some j /\ xs[j]? = some v /\ j < xs.length /\ -(xs.length : Int) <= i /\ i < xs.length := by
 unfold atI at h
 cases e : ixN xs.length i with
 | none => rw [e] at h; cases h
 | some j =>
  rw [e] at h
  obtain ⟨h1, h2, h3, h4⟩ := Ai e
  exact ⟨j, h1, h, h2, h3, h4⟩
theorem Ir {α : Type} {xs : List α} {j : Nat} {v : α} (h : xs[j]? = some v) : atI xs (j : Int) = some v := by
 have hj : j < xs.length := (List.getElem?_eq_some_iff.mp h).1
 have e : ixN xs.length (j : Int) = some j := by
  unfold ixN
  rw [if_pos (by omega), if_pos (by omega)]; simp
 unfold atI; rw [e]; exact h
theorem ug {α : Type} (xs : List α) (v : α) : atI (xs ++ [v]) (-1) = some v := by
 have hl : (xs ++ [v]).length = xs.length + 1 := by simp
 have e : ixN (xs ++ [v]).length (-1) = some xs.length := by
  unfold ixN
  rw [hl, if_neg (by decide), if_pos (by omega)]
  congr 1
  omega
 unfold atI
 rw [e]
 show (xs ++ [v])[xs.length]? = some v
 simp
def Am (b : Expr) : Prop := ∀ o i, subscripted b false o i = operate [o, i] (getItem o i)
def IxR (X : Cx) (r : R2) : Prop :=
 ∀ (value slice : Expr) (pins : List (Addr × Obj)) (s : Shared) (σ : St) (H : Hp) (x y : V) (v u : Value) (Q : VK), Inv X pins σ H s -> RelV x v -> RelV y u -> r x y H Q ->
  subscripted slice false v u = operate [v, u] (getItem v u) -> wpAny (model X.prog X.w) X.A (subscriptTail value slice v u) (EP X pins σ Q) X.xe s
def MtR (X : Cx) (id : String) (r : V -> List V -> Hp -> VK -> Prop) : Prop :=
 ∀ (pins : List (Addr × Obj)) (s : Shared) (σ : St) (H : Hp) (x : V) (xs : List V) (v : Value) (us : List Value) (Q : VK), Inv X pins σ H s -> RelV x v -> Vals xs us -> r x xs H Q ->
  wpAny (model X.prog X.w) X.A (call (.builtin id) (v :: us)) (EP X pins σ Q) X.xe s
section
variable {X : Cx} {a b : Expr} {ta tb : TE} {pos : Pos}
theorem IxR.or {r r' : R2} (h : IxR X r) (h' : IxR X r') : IxR X (λ x y H Q => r x y H Q ∨ r' x y H Q) := by
 intro value slice pins s σ H x y v u Q I rx ry q hs
 rcases q with q | q
 .exact h value slice pins s σ H x y v u Q I rx ry q hs
 .exact h' value slice pins s σ H x y v u Q I rx ry q hs
theorem QB {r : R2} (hr : IxR X r) (ha : PE X a ta) (hb : PE X b tb) (hs : Am b) : PE X (.Subscript a b pos) (tOp r ta tb) := by
 intro pins s σ H Q I h
 exact Subscript_ (Kl ha hb I h λ v u s2 x y H2 I2 rx ry q => hr a b pins s2 σ H2 x y v u Q I2 rx ry q (hs _ _))
def PL (K : PySem.W.Frag) : R2 := λ x y H Q => ∃ p xs i v, x = .ref p /\ y = .int i /\ SqL K H p xs /\ atI xs i = some v /\ Q v H
def Px (K : PySem.W.Frag) : R2 := λ x y H Q => ∃ p xs i v, x = .ref p /\ y = .int i /\ SqT K H p xs /\ atI xs i = some v /\ Q v H
def Pq : R2 := λ x y H Q => ∃ z i c, x = .str z /\ y = .int i /\ z.length <= sizeLine /\ atI z.cps.toList i = some c /\ Q (.str ⟨#[c]⟩) H
theorem Ie : IxR X (PL X.K) := by
 intro value slice pins s σ H x y v u Q I rx ry h hs
 obtain ⟨p, xs, i, z, rfl, rfl, hq, he, q⟩ := h
 cases rx
 obtain ⟨t, rfl⟩ := ry
 obtain ⟨its, r, pl, hz⟩ := I.list hq
 obtain ⟨j, h1, h2, h3, h4, h5⟩ := xg he
 obtain ⟨w, ew, rw'⟩ := r.get h2
 have hl := r.length
 have hn := pg
 have fin : EP X pins σ Q w s := ⟨z, H, I, rw', q⟩
 by_cases h0 : 0 <= i
 .have hj : i.toNat = j := by
   rw [seqIndex_of h0 h5] at h1
   exact Option.some.inj h1
  exact item_listR pl.isList h0 (by omega) (by rw [hj]; simpa using ew) fin hs
 .have hj : (i + (its.toArray.size : Int)).toNat = j := by
   rw [seqIndex_neg (by omega) h4] at h1
   rw [List.size_toArray, <- hl]
   exact Option.some.inj h1
  exact subscriptTail_builtinR (x := w) pl.isList.typeIs slot_list_getitem.lookup
   (wpAny_getItem_list_neg (Q := λ r s' => r = w /\ EP X pins σ Q r s') pl.isList (by omega) (by rw [List.size_toArray] <;> omega) (by omega) (by rw [hj]; simpa using ew) ⟨rfl, fin⟩) hs
theorem LC : IxR X (Px X.K) := by
 intro value slice pins s σ H x y v u Q I rx ry h hs
 obtain ⟨p, xs, i, z, rfl, rfl, hq, he, q⟩ := h
 cases rx
 obtain ⟨t, rfl⟩ := ry
 obtain ⟨its, r, pl, hz⟩ := I.tuple hq
 obtain ⟨j, h1, h2, h3, h4, h5⟩ := xg he
 obtain ⟨w, ew, rw'⟩ := r.get h2
 have hl := r.length
 have hn := pg
 have fin : EP X pins σ Q w s := ⟨z, H, I, rw', q⟩
 exact subscriptTail_builtinR (x := w) pl.typeIs slot_tuple_getitem.lookup
  (getItem_tuple (j := j) (Q := λ r s' => r = w /\ EP X pins σ Q r s') pl (by omega) (by omega) (by rw [List.size_toArray, <- hl]; exact h1) (by simpa using ew) ⟨rfl, fin⟩) hs
theorem Lf : IxR X Pq := by
 intro value slice pins s σ H x y v u Q I rx ry h hs
 obtain ⟨z, i, c, rfl, rfl, hz, he, q⟩ := h
 obtain ⟨t, rfl⟩ := rx
 obtain ⟨t', rfl⟩ := ry
 obtain ⟨j, h1, h2, h3, h4, h5⟩ := xg he
 have hl : z.cps.toList.length = z.length := by simp [Str.length]
 rw [hl] at h1 h4 h5
 have hn := pg
 exact tail_any (typeIs_str s z t) slot_str_getitem.lookup (getItem_str (c := c) (by
  have e1 : decide (i < -(2 ^ 63 : Int)) = false := decide_eq_false (by omega)
  have e2 : decide (i >= 2 ^ 63) = false := decide_eq_false (by omega)
  rw [e1, e2, Bool.or_false]) (by rw [h1]; simpa using h2) ⟨.str ⟨#[c]⟩, H, I.tok _, ⟨_, rfl⟩, q⟩) hs
def rIx (K : PySem.W.Frag) : R2 := λ x y H Q => PL K x y H Q ∨ Px K x y H Q ∨ Pq x y H Q
theorem KN : IxR X (rIx X.K) := Ie.or (LC.or Lf)
theorem zu (its : List Value) (n j : Nat) (u : Value) : Obj.mapSeq (·.setIfInBounds j u) { cls := .type "list", data := .seq its.toArray n } = { cls := .type "list", data := .seq (its.set j u).toArray n } := by
 simp [Obj.mapSeq]
theorem Inv.lst {pins : List (Addr × Obj)} {σ : St} {H : Hp} {s : Shared} {p : Addr} {xs : List V} (I : Inv X pins σ H s) (h : H p = some (.lst xs)) :
  ∃ (its : List Value) (n : Nat), Vals xs its /\ s.heap.get? p = some { cls := .type "list", data := .seq its.toArray n } /\ xs.length <= sizeLine := by
 obtain ⟨z, its, n, r, e⟩ := I.hok p _ h
 exact ⟨its, n, r, e, z⟩
theorem Inv.lstUpd {pins : List (Addr × Obj)} {σ : St} {H : Hp} {s : Shared} {p : Addr} {xs ys : List V} {its its' : List Value} {n n' : Nat} {f : Obj -> Obj} (I : Inv X pins σ H s) (h : H p = some (.lst xs))
  (ho : s.heap.get? p = some { cls := .type "list", data := .seq its.toArray n }) (hf : f { cls := .type "list", data := .seq its.toArray n } = { cls := .type "list", data := .seq its'.toArray n' }) (r : Vals ys its') (hz : ys.length <= sizeLine) (t : Nat) :
  Inv X pins σ (upd H p (.lst ys)) { s with heap := s.heap.update p f, toks := t } := by
 have e : (s.heap.update p f).get? p = some { cls := .type "list", data := .seq its'.toArray n' } := by
  rw [Heap.get?_update_self f ho (by rw [hf] <;> rfl), hf]
 refine I.write (x := p) (e := p) (by rw [h]; trivial) (.inl rfl) (λ b u hb q => (Heap.get?_update_other _ _ (Ne.symm hb)).trans q) ⟨_, e⟩ ?_
 exact ⟨hz, its', n', r, e⟩
def Qo : V -> V -> V -> Hp -> (Hp -> Prop) -> Prop := λ o i v H Q => ∃ p xs k j, o = .ref p /\ i = .int k /\ H p = some (.lst xs) /\ ixN xs.length k = some j /\ Q (upd H p (.lst (xs.set j v)))
theorem set_list : Qk X Qo := by
 intro pins s σ H o i v ov iv u Q I ro ri rv h
 obtain ⟨p, xs, k, j, rfl, rfl, hp, hj, q⟩ := h
 cases ro
 obtain ⟨t, rfl⟩ := ri
 obtain ⟨its, n, r, ho, hz⟩ := I.lst hp
 obtain ⟨h1, h2, h3, h4⟩ := Ai hj
 have hl := r.length
 have hn := pg
 have I' : Inv X pins σ (upd H p (.lst (xs.set j v))) { s with heap := s.heap.update p (Obj.mapSeq (·.setIfInBounds j u)) } :=
  I.lstUpd hp ho (zu its n j u) (r.set rv j) (by rw [List.length_set]; exact hz) s.toks
 by_cases h0 : 0 <= k
 .have hk : k.toNat = j := by
   rw [seqIndex_of h0 h4] at h1
   exact Option.some.inj h1
  exact PySem.W.ki_setAt ho h0 (by omega) (by rw [List.size_toArray, <- hl]; exact h4) (by rw [hk]; exact ⟨_, I', q⟩)
 .have hk : (k + (its.toArray.size : Int)).toNat = j := by
   rw [seqIndex_neg (by omega) h3] at h1
   rw [List.size_toArray, <- hl]
   exact Option.some.inj h1
  exact PySem.W.ki_setBack ho (by omega) (by rw [List.size_toArray, <- hl]; exact h3) (by omega) (by rw [hk]; exact ⟨_, I', q⟩)
theorem wQ (lo hi : Option Int) (n : Nat) : (sliceBounds lo hi none n).1 = ((HT.sIx n 0 lo : Nat) : Int) /\ (sliceBounds lo hi none n).2.1 = ((HT.sIx n n hi : Nat) : Int) /\ (sliceBounds lo hi none n).2.2 = 1 := by
 refine ⟨?_, ?_, rfl⟩
 .cases lo with
  | none => simp [sliceBounds, HT.sIx]
  | some i =>
   simp only [sliceBounds, HT.sIx, Option.getD_none, show (1 : Int) > 0 by decide, if_true]
   by_cases h : i < 0
   .simp only [h, if_true] <;> omega
   .simp only [h, if_false] <;> omega
 .cases hi with
  | none => simp [sliceBounds, HT.sIx]
  | some i =>
   simp only [sliceBounds, HT.sIx, Option.getD_none, show (1 : Int) > 0 by decide, if_true]
   by_cases h : i < 0
   .simp only [h, if_true] <;> omega
   .simp only [h, if_false] <;> omega
theorem uq (its : List Value) (lo hi : Option Int) : slicePick its.toArray lo hi none = ((its.drop (HT.sIx its.length 0 lo)).take (HT.sIx its.length its.length hi - HT.sIx its.length 0 lo)).toArray := by
 obtain ⟨h1, h2, h3⟩ := wQ lo hi its.toArray.size
 unfold slicePick
 rw [h1, h2, h3]
 simp only [sliceRange_one, pick_run, List.size_toArray] <;> rfl
def rSlL (K : PySem.W.Frag) : V -> Option Int -> Option Int -> Hp -> VK -> Prop := λ x lo hi H Q => ∃ a xs, x = .ref a /\ SqL K H a xs /\ ∀ p, H p = none -> Q (.ref p) (upd H p (.lst (yj xs lo hi)))
theorem IW : SlR X (rSlL X.K) := by
 intro pins s σ H x v vl vu lo hi sl Q I rx hs pl pu h
 obtain ⟨a, xs, rfl, hx, q⟩ := h
 cases rx
 obtain ⟨its, r, ht, hz⟩ := I.list hx
 have hlen := r.length
 refine ⟨"list", _, slot_list_getitem.lookup, ht.isList.typeIs, ?_⟩
 refine wpAny_getItem_list_slice ht.isList hs pl pu .none (by simp) ?_ (by rw [List.size_toArray] <;> omega)
 rw [uq, <- hlen]
 refine ⟨.ref s.heap.objs.size, _, I.laid (t' := s.toks) (o := .lst (yj xs lo hi)) (λ b ob q => Heap.get?_push_of_some _ q) (Nat.le_refl _) ?_, rfl, q _ (I.hok.fresh (Nat.le_refl _))⟩
 exact ⟨Nat.le_trans (qW xs lo hi) hz, _, 0, (r.drop (HT.sIx xs.length 0 lo)).take (HT.sIx xs.length xs.length hi - HT.sIx xs.length 0 lo), Heap.get?_push_size _ rfl⟩
def oH : V -> Bool
 | .non => true
 | .bl _ => true
 | .int _ => true
 | .str _ => true
 | _ => false
def eqV : V -> V -> Bool
 | .non, .non => true
 | .bl a, .bl b => a == b
 | .bl a, .int b => (if a then 1 else 0) == b
 | .int a, .bl b => a == (if b then 1 else 0)
 | .int a, .int b => a == b
 | .str a, .str b => a == b
 | _, _ => false
theorem Mq {A : Around} {s : Shared} {y x : V} {u v : Value} (ry : RelV y u) (rx : RelV x v) (fy : oH y = true) (fx : oH x = true) : SeqAt.EqAt A s u v (eqV y x) := by
 cases y with
 | non =>
  cases ry
  cases x with
  | non => cases rx; exact SeqAt.EqAt.same _
  | bl b => cases rx; exact SeqAt.EqAt.none_bool b
  | int b => obtain ⟨t, rfl⟩ := rx; exact SeqAt.EqAt.none_int b t
  | str b => obtain ⟨t, rfl⟩ := rx; exact SeqAt.EqAt.none_str b t
  | _ => exact absurd (show false = true from fx) Bool.false_ne_true
 | bl a =>
  cases ry
  cases x with
  | non => cases rx; exact SeqAt.EqAt.bool_none a
  | bl b => cases rx; exact SeqAt.EqAt.bool_bool a b
  | int b => obtain ⟨t, rfl⟩ := rx; exact SeqAt.EqAt.bool_int a b t
  | str b => obtain ⟨t, rfl⟩ := rx; exact SeqAt.EqAt.bool_str a b t
  | _ => exact absurd (show false = true from fx) Bool.false_ne_true
 | int a =>
  obtain ⟨t', rfl⟩ := ry
  cases x with
  | non => cases rx; exact SeqAt.EqAt.int_none a t'
  | bl b => cases rx; exact SeqAt.EqAt.int_bool a t' b
  | int b => obtain ⟨t, rfl⟩ := rx; exact SeqAt.EqAt.int_int a t' b t
  | str b => obtain ⟨t, rfl⟩ := rx; exact SeqAt.EqAt.int_str a t' b t
  | _ => exact absurd (show false = true from fx) Bool.false_ne_true
 | str a =>
  obtain ⟨t', rfl⟩ := ry
  cases x with
  | non => cases rx; exact SeqAt.EqAt.str_none a t'
  | bl b => cases rx; exact SeqAt.EqAt.str_bool a t' b
  | int b => obtain ⟨t, rfl⟩ := rx; exact SeqAt.EqAt.str_int a t' b t
  | str b => obtain ⟨t, rfl⟩ := rx; exact SeqAt.EqAt.str_str a t' b t
  | _ => exact absurd (show false = true from fx) Bool.false_ne_true
 | _ => exact absurd (show false = true from fy) Bool.false_ne_true
def eqU (x : V) (u : Value) : Bool := match u with
 | .none => eqV .non x
 | .bool b => eqV (.bl b) x
 | .int i _ => eqV (.int i) x
 | .str z _ => eqV (.str z) x
 | _ => false
theorem CV {x y : V} {u : Value} (r : RelV y u) (f : oH y = true) : eqU x u = eqV y x := by
 cases y with
 | non => cases r; rfl
 | bl b => cases r; rfl
 | int i => obtain ⟨t, rfl⟩ := r; rfl
 | str z => obtain ⟨t, rfl⟩ := r; rfl
 | _ => exact absurd (show false = true from f) Bool.false_ne_true
theorem pU {x : V} : ∀ {xs : List V} {us : List Value}, Vals xs us -> xs.all oH = true -> us.any (eqU x) = xs.any λ y => eqV y x
 | _, _, .nil, _ => rfl
 | y :: xs, u :: us, .cons r t, f => by
  rw [List.all_cons, Bool.and_eq_true] at f
  rw [List.any_cons, List.any_cons, CV r f.1, pU t f.2]
theorem mO {A : Around} {s : Shared} {x : V} {v : Value} (rx : RelV x v) (fx : oH x = true) : ∀ {xs : List V} {us : List Value}, Vals xs us -> xs.all oH = true -> ∀ u ∈ us, SeqAt.EqAt A s u v (eqU x u)
 | _, _, .nil, _ => λ u hu => by cases hu
 | y :: xs, u :: us, .cons r t, f => λ u' hu => by
  rw [List.all_cons, Bool.and_eq_true] at f
  rcases List.mem_cons.mp hu with rfl | hu
  .rw [CV r f.1]; exact Mq r rx f.1 fx
  .exact mO rx fx t f.2 u' hu
def inV (x : V) (xs : List V) : Bool := xs.any λ y => eqV y x
def rIn (K : PySem.W.Frag) (neg : Bool) : R2 := λ x y H Q => ∃ p xs, y = .ref p /\ (SqL K H p xs ∨ SqT K H p xs) /\ oH x = true /\ xs.all oH = true /\ Q (.bl (if neg then !inV x xs else inV x xs)) H
theorem Bt : OpR X (compareOp .In) (rIn X.K false) := by
 intro pins s σ H x y v u Q I rx ry h
 obtain ⟨p, xs, rfl, hq, fx, fs, q⟩ := h
 cases ry
 rcases hq with hq | hq
 .obtain ⟨its, r, pl, hz⟩ := I.list hq
  refine SeqAt.in_listAt (eqU x) pl.isList (λ w hw => mO rx fx r fs w (by simpa using hw)) ⟨.bl _, H, I, rfl, ?_⟩
  rw [show its.toArray.any (eqU x) = its.any (eqU x) by simp, pU r fs]
  exact q
 .obtain ⟨its, r, pl, hz⟩ := I.tuple hq
  refine SeqAt.in_tupleAt (eqU x) pl (λ w hw => mO rx fx r fs w (by simpa using hw)) ⟨.bl _, H, I, rfl, ?_⟩
  rw [show its.toArray.any (eqU x) = its.any (eqU x) by simp, pU r fs]
  exact q
theorem vZ : OpR X (compareOp .NotIn) (rIn X.K true) := by
 intro pins s σ H x y v u Q I rx ry h
 obtain ⟨p, xs, rfl, hq, fx, fs, q⟩ := h
 cases ry
 rcases hq with hq | hq
 .obtain ⟨its, r, pl, hz⟩ := I.list hq
  refine SeqAt.notIn_listAt (eqU x) pl.isList (λ w hw => mO rx fx r fs w (by simpa using hw)) ⟨.bl _, H, I, rfl, ?_⟩
  rw [show its.toArray.any (eqU x) = its.any (eqU x) by simp, pU r fs]
  exact q
 .obtain ⟨its, r, pl, hz⟩ := I.tuple hq
  refine SeqAt.notIn_tupleAt (eqU x) pl (λ w hw => mO rx fx r fs w (by simpa using hw)) ⟨.bl _, H, I, rfl, ?_⟩
  rw [show its.toArray.any (eqU x) = its.any (eqU x) by simp, pU r fs]
  exact q
theorem wA : lC X (.builtin "len") (λ xs H Q => ∃ p ys, xs = [.ref p] /\ (SqL X.K H p ys ∨ SqT X.K H p ys) /\ Q (.int ys.length) H) := by
 intro pins s σ H xs us Q I r h
 obtain ⟨p, ys, rfl, hq, q⟩ := h
 obtain ⟨u, rfl, rx⟩ := vals1 r
 cases rx
 have hn := pg
 rcases hq with hq | hq
 .obtain ⟨its, r', pl, hz⟩ := I.list hq
  have hlen := r'.length
  exact Calls.call_len_list pl.isList (by simp only [List.size_toArray] <;> omega) ⟨.int ys.length, H, I.tok _, ⟨s.toks + 1, by rw [List.size_toArray, hlen]⟩, q⟩
 .obtain ⟨its, r', pl, hz⟩ := I.tuple hq
  have hlen := r'.length
  exact len_tuple pl (by simp only [List.size_toArray] <;> omega) ⟨.int ys.length, H, I.tok _, ⟨s.toks + 1, by rw [List.size_toArray, hlen]⟩, q⟩
theorem wW : lC X (.builtin "len") (λ xs H Q => ∃ z, xs = [.str z] /\ z.length <= sizeLine /\ Q (.int z.length) H) := by
 intro pins s σ H xs us Q I r h
 obtain ⟨z, rfl, hz, q⟩ := h
 obtain ⟨u, rfl, t, rfl⟩ := vals1 r
 have hn := pg
 exact len_str (by omega) ⟨.int z.length, H, I.tok _, ⟨_, rfl⟩, q⟩
theorem lC.or {f : Value} {r r' : List V -> Hp -> VK -> Prop} (h : lC X f r) (h' : lC X f r') : lC X f (λ xs H Q => r xs H Q ∨ r' xs H Q) := by
 intro pins s σ H xs us Q I rs q
 rcases q with q | q
 .exact h pins s σ H xs us Q I rs q
 .exact h' pins s σ H xs us Q I rs q
theorem wz : lC X (.type "list") (λ xs H Q => ∃ p ys, xs = [.ref p] /\ (SqL X.K H p ys ∨ SqT X.K H p ys) /\ ∀ l, H l = none -> Q (.ref l) (upd H l (.lst ys))) := by
 intro pins s σ H xs us Q I r h
 obtain ⟨p, ys, rfl, hq, q⟩ := h
 obtain ⟨u, rfl, rx⟩ := vals1 r
 cases rx
 have fin : ∀ (its : List Value), Vals ys its -> ys.length <= sizeLine -> ∀ (h' : Heap) (c' : Nat), (∀ b o', s.heap.get? b = some o' -> h'.get? b = some o') ->
   h'.get? s.heap.objs.size = some { cls := .type "list", dict := none, data := .seq its.toArray c', slots := #[] } -> EP X pins σ Q (.ref s.heap.objs.size) { s with heap := h' } := λ its r' hz h' c' kp e =>
  ⟨.ref s.heap.objs.size, _, I.laid (t' := s.toks) kp (Nat.le_refl _) (show jJ X.prog X.w _ h' _ (.lst ys) from ⟨hz, its, c', r', e⟩), rfl, q _ (I.hok.fresh (Nat.le_refl _))⟩
 rcases hq with hq | hq
 .obtain ⟨its, r', pl, hz⟩ := I.list hq
  have hlen := r'.length
  obtain ⟨o, ho, hc, n, hd⟩ := pl.isList
  exact call_list_seq p (.inl rfl) ho hc hd (λ h' c' kp e => fin its r' hz h' c' kp e) (by simp only [List.size_toArray] <;> omega)
 .obtain ⟨its, r', pl, hz⟩ := I.tuple hq
  have hlen := r'.length
  obtain ⟨o, ho, hc, n, hd⟩ := pl
  exact call_list_seq p (.inr rfl) ho hc hd (λ h' c' kp e => fin its r' hz h' c' kp e) (by simp only [List.size_toArray] <;> omega)
theorem uv : lC X (.type "tuple") (λ xs H Q => ∃ p ys, xs = [.ref p] /\ ((SqL X.K H p ys /\ ∀ l, H l = none -> Q (.ref l) (upd H l (.tup ys))) ∨ (SqT X.K H p ys /\ Q (.ref p) H))) := by
 intro pins s σ H xs us Q I r h
 obtain ⟨p, ys, rfl, h⟩ := h
 obtain ⟨u, rfl, rx⟩ := vals1 r
 cases rx
 rcases h with ⟨hq, q⟩ | ⟨hq, q⟩
 .obtain ⟨its, r', pl, hz⟩ := I.list hq
  have hlen := r'.length
  refine call_tuple_list pl.isList (λ h' kp => ?_) (by simp only [List.size_toArray] <;> omega)
  have I1 : Inv X pins σ H { s with heap := h' } := I.kept (t' := s.toks) kp
  have I2 : Inv X pins σ (upd H h'.objs.size (.tup ys)) { s with heap := h'.push { cls := .type "tuple", data := .seq its.toArray } } :=
   I1.laid (t' := s.toks) (λ b o e => Heap.get?_push_of_some _ e) (Nat.le_refl _) (show jJ X.prog X.w _ _ _ (.tup ys) from ⟨hz, its, r', IsTup.new _ _⟩)
  exact ⟨.ref h'.objs.size, _, I2, rfl, q _ (I1.hok.fresh (Nat.le_refl _))⟩
 .obtain ⟨its, r', pl, hz⟩ := I.tuple hq
  exact call_tuple_same pl ⟨.ref p, H, I, rfl, q⟩
def tyV (K : PySem.W.Frag) (T : String) (x : V) (H : Hp) : Prop := match x with
 | .str _ => T = "str"
 | .int _ => T = "int"
 | .ref p => (T = "list" /\ ∃ xs, SqL K H p xs) ∨ (T = "tuple" /\ ∃ o, K.lookup p = some o /\ o.cls = .type "tuple" /\ o.dict = none) ∨
   (T = "dict" /\ ((∃ kvs, H p = some (.dK kvs)) ∨ ∃ kvs, H p = some (.dT kvs))) ∨ (T = "set" /\ ∃ S n, H p = some (.set S n))
 | _ => False
theorem Mi {pins : List (Addr × Obj)} {σ : St} {H : Hp} {s : Shared} {T : String} {x : V} {v : Value} (I : Inv X pins σ H s) (r : RelV x v) (ty : tyV X.K T x H) :
  s.TypeIs v T /\ ∀ a, v = .ref a -> ∃ ob, s.heap.get? a = some ob /\ ob.dict = none := by
 cases x with
 | str z =>
  obtain ⟨t, rfl⟩ := r
  cases (show T = "str" from ty)
  exact ⟨typeIs_str s z t, λ _ e => nomatch e⟩
 | int i =>
  obtain ⟨t, rfl⟩ := r
  cases (show T = "int" from ty)
  exact ⟨typeIs_int s i t, λ _ e => nomatch e⟩
 | ref p =>
  cases r
  rcases ty with ⟨rfl, xs, hq⟩ | ⟨rfl, o, hk, hc, hd⟩ | ⟨rfl, hk⟩ | ⟨rfl, S, n, hk⟩
  .obtain ⟨its, _, pl, _⟩ := I.list hq
   refine ⟨pl.isList.typeIs, λ a e => ?_⟩
   cases e
   obtain ⟨o, n, e, c, hd, _⟩ := pl
   exact ⟨o, e, hd⟩
  .refine ⟨⟨o, I.kIn p o hk, hc⟩, λ a e => ?_⟩
   cases e
   exact ⟨o, I.kIn _ o hk, hd⟩
  .have z : ∃ o, s.heap.get? p = some o /\ o.ExactDict := by
    rcases hk with ⟨kvs, hk⟩ | ⟨kvs, hk⟩
    .obtain ⟨_, _, _, _, o, _, _, e, ex, _⟩ := I.hok p _ hk
     exact ⟨o, e, ex⟩
    .obtain ⟨_, _, _, _, o, _, _, e, ex, _⟩ := I.hok p _ hk
     exact ⟨o, e, ex⟩
   obtain ⟨o, e, ex⟩ := z
   refine ⟨⟨o, e, ex.1⟩, λ a e2 => ?_⟩
   cases e2
   exact ⟨o, e, ex.2.1⟩
  .obtain ⟨o, _, _, _, e, ex, _⟩ := I.hok p _ hk
   refine ⟨⟨o, e, ex.1⟩, λ a e2 => ?_⟩
   cases e2
   exact ⟨o, e, ex.2.1⟩
 | _ => exact False.elim ty
def tBM (K : PySem.W.Frag) (T : String) (r : V -> List V -> Hp -> VK -> Prop) (to : TE) (t : TA) : TE := λ σ H Q => to σ H λ x H1 => tyV K T x H1 /\ t σ H1 λ xs H2 => r x xs H2 Q
variable {o e : Expr} {es : List Expr} {to : TE} {t : TA} {name : Str} {apos cpos : Pos} {T id : String} {r : V -> List V -> Hp -> VK -> Prop}
theorem JD (pa : PlainAttrs T) (slot : Slot T name id) (hty : typeOf (.builtin id) = pure (.type "method_descriptor")) (hm : MtR X id r) (ho : PE X o to) (ha : PA X (e :: es) t)
  (hbase : attributeBase o name X.env (eval o X.env) = eval o X.env := by rfl)
  (hfew : ((backTo cpos (starEach (e :: es) X.env)).all (λ x => !x.1) && (backToKw cpos (keywordEach [] X.env)).all (λ x => x.1.isSome)
   && decide ((e :: es).length + ([] : List Keyword).length + (if ([] : List Keyword).isEmpty then 0 else 1) < 30)) = true := by rfl)
  (hline : (apos.endLine == cpos.line) = true := by rfl) (hs : starEach (e :: es) X.env = (false, eval e X.env) :: starEach es X.env := by rfl) (hplain : (backTo cpos (starEach es X.env)).any (·.1) = false := by rfl) :
  PE X (.Call (.Attribute o name apos) (e :: es) [] cpos) (tBM X.K T r to t) := by
 intro pins s σ H Q I h
 refine wpAny_Call_method_late hbase hfew hline rfl (thn (ho pins s σ H _ I h) λ v s1 zq54 => ?_)
 obtain ⟨x, H1, I1, r1, ty, q1⟩ := zq54
 obtain ⟨h1, h2⟩ := Mi I1 r1 ty
 refine ⟨T, id, pa, slot, hty, h1, h2, ?_⟩
 have hA := ha cpos pins s1 σ H1 _ I1 q1
 rw [hs] at hA ⊢
 refine Calls.callWith_builtin (by show (false || (backTo cpos (starEach es X.env)).any (·.1)) = false; rw [hplain] <;> rfl) (Calls.evalArgs_plain ?_)
 exact thn hA λ us s2 ⟨vs, H2, I2, r2, q2⟩ => hm pins s2 σ H2 x vs v us Q I2 r1 r2 q2
end
def MtM (X : Cx) (id : String) (r : V -> List V -> Hp -> VK -> Prop) : Prop :=
 ∀ (pins : List (Addr × Obj)) (s : Shared) (σ : St) (H : Hp) (x : V) (xs : List V) (v : Value) (us : List Value) (Q : VK), Inv X pins σ H s -> RelV x v -> Vals xs us -> r x xs H Q ->
  wpAny (model X.prog X.w) X.A (call (.builtin id) (v :: us)) (EP X pins σ Q) X.xe s
theorem Vals.one : ∀ {x : V} {us : List Value}, Vals [x] us -> ∃ u, us = [u] /\ RelV x u
 | _, _, .cons r .nil => ⟨_, rfl, r⟩
theorem Vals.eraseIdx : ∀ {xs : List V} {us : List Value} (i : Nat), Vals xs us -> Vals (xs.eraseIdx i) (us.eraseIdx i)
 | _, _, _, .nil => .nil
 | _, _, 0, .cons _ t => t
 | _, _, i + 1, .cons r t => .cons r (Vals.eraseIdx i t)
theorem Vals.reverse {xs : List V} {us : List Value} (h : Vals xs us) : Vals xs.reverse us.reverse := by
 induction h with
 | nil => exact .nil
 | cons r t ih => rw [List.reverse_cons, List.reverse_cons]; exact Vals.append ih (.cons r .nil)
theorem Vals.rep {xs : List V} {us : List Value} (h : Vals xs us) : ∀ k : Nat, Vals (List.replicate k xs).flatten (List.replicate k us).flatten
 | 0 => .nil
 | k + 1 => by
  rw [List.replicate_succ, List.replicate_succ, List.flatten_cons, List.flatten_cons]
  exact Vals.append h (Vals.rep h k)
theorem uX {α : Type} : ∀ (l : List α) (i : Nat), (l.eraseIdx i).length <= l.length
 | [], _ => Nat.le_refl _
 | _ :: _, 0 => Nat.le_succ _
 | _ :: r, i + 1 => Nat.succ_le_succ (uX r i)
theorem foldl_rep (its : List Value) : ∀ (k : Nat) (acc : List Value),
  List.foldl (λ x1 x2 => x1 ++ x2) acc.toArray (List.replicate k its.toArray) = (acc ++ (List.replicate k its).flatten).toArray
 | 0, acc => by simp
 | k + 1, acc => by
  have e : acc.toArray ++ its.toArray = (acc ++ its).toArray := by simp
  have e2 : (acc ++ its) ++ (List.replicate k its).flatten = acc ++ (List.replicate (k + 1) its).flatten := by
   rw [List.replicate_succ, List.flatten_cons, List.append_assoc]
  rw [<- e2, <- foldl_rep its k (acc ++ its), <- e, List.replicate_succ, List.foldl_cons]
section
variable {X : Cx} {pins : List (Addr × Obj)} {σ : St} {H : Hp} {s : Shared} {l b : Addr} {xs ys zs : List V}
theorem Inv.lset {its its' : List Value} {n : Nat} {f : Array Value -> Array Value} {t' : Nat} (I : Inv X pins σ H s) (hH : H l = some (.lst xs))
  (e : s.heap.get? l = some { cls := .type "list", data := .seq its.toArray n }) (hf : f its.toArray = its'.toArray) (hv : Vals ys its') (hz : ys.length <= sizeLine) :
  Inv X pins σ (upd H l (.lst ys)) { s with heap := s.heap.update l (Obj.mapSeq f), toks := t' } := by
 have q := PySem.IsL.update e f
 rw [hf] at q
 refine I.write (x := l) (e := l) (by rw [hH]; exact trivial) (.inl rfl) (λ b' u hb hu => (Heap.get?_update_other s.heap (Obj.mapSeq f) (Ne.symm hb)).trans hu) ⟨_, q⟩ ?_
 exact ⟨hz, its', _, hv, q⟩
theorem Inv.lnew {its : List Value} {t' : Nat} (I : Inv X pins σ H s) (hv : Vals ys its) (hz : ys.length <= sizeLine) :
  Inv X pins σ (upd H s.heap.objs.size (.lst ys)) { s with heap := s.heap.push { cls := .type "list", data := .seq its.toArray }, toks := t' } :=
 I.laid (λ _ _ q => Heap.get?_push_of_some _ q) (Nat.le_refl _) ⟨hz, its, 0, hv, Heap.get?_push_size _ rfl⟩
theorem Inv.fresh (I : Inv X pins σ H s) : H s.heap.objs.size = none := I.hok.fresh (Nat.le_refl _)
theorem Inv.lstM (I : Inv X pins σ H s) (hH : H l = some (.lst xs)) : xs.length <= sizeLine /\ ∃ (its : List Value) (n : Nat), Vals xs its /\ xs.length = its.length /\ s.heap.get? l = some { cls := .type "list", data := .seq its.toArray n } := by
 obtain ⟨z, its, n, r, e⟩ := I.hok l _ hH
 exact ⟨z, its, n, r, r.length, e⟩
theorem yG {n : Nat} (h : n <= sizeLine) : Builtin.List.listTooLong n = false := by
 unfold Builtin.List.listTooLong
 exact decide_eq_false (by omega)
end
section
variable {X : Cx}
def Hn : V -> List V -> Hp -> VK -> Prop := λ x vs H Q => ∃ l xs y, x = .ref l /\ vs = [y] /\ H l = some (.lst xs) /\ xs.length < sizeLine /\ Q .non (upd H l (.lst (xs ++ [y])))
theorem Cj : MtM X "list.append" Hn := by
 intro pins s σ H x vs v us Q I rx rv h
 obtain ⟨l, xs, y, rfl, rfl, hH, hz, q⟩ := h
 cases rx
 obtain ⟨u, rfl, ru⟩ := rv.one
 obtain ⟨z, its, n, r, hl, e⟩ := I.lstM hH
 refine call_meets F.slot_list_append ⟨_, e, rfl⟩ F.entry_list_append (F.args_list_append_2 _ _) (PySem.list_append l its.toArray n u (by rw [List.size_toArray]; omega)) ⟨e, ?_⟩
 refine ⟨.non, _, I.lset (its' := its ++ [u]) hH e (by simp) (r.append (.cons ru .nil)) ?_, rfl, q⟩
 rw [List.length_append, List.length_singleton]
 omega
def Hk : V -> List V -> Hp -> VK -> Prop := λ x vs H Q => ∃ l b xs zs, x = .ref l /\ vs = [.ref b] /\ H l = some (.lst xs) /\ H b = some (.lst zs) /\ xs.length + zs.length <= sizeLine /\ Q .non (upd H l (.lst (xs ++ zs)))
theorem Oi : MtM X "list.extend" Hk := by
 intro pins s σ H x vs v us Q I rx rv h
 obtain ⟨l, b, xs, zs, rfl, rfl, hH, hB, hz, q⟩ := h
 cases rx
 obtain ⟨u, rfl, ru⟩ := rv.one
 cases ru
 obtain ⟨z, its, n, r, hl, e⟩ := I.lstM hH
 obtain ⟨z2, its2, n2, r2, hl2, e2⟩ := I.lstM hB
 have hsz : its.toArray.size + its2.toArray.size <= sizeLine := by rw [List.size_toArray, List.size_toArray]; omega
 have hlong : ¬ (!its.toArray.isEmpty && Builtin.List.listTooLong (its.toArray.size + its2.toArray.size)) = true := by
  rw [yG hsz, Bool.and_false]
  exact Bool.false_ne_true
 refine call_meets F.slot_list_extend ⟨_, e, rfl⟩ F.entry_list_extend (F.args_list_extend_2 _ _)
  (AutoSeq1.list_extend_list_list_0 l its.toArray n b its2.toArray n2 hlong (by rw [List.size_toArray]; omega) (by omega)) ⟨e, e2, ?_⟩
 refine ⟨.non, _, I.lset (its' := its ++ its2) hH e (by simp) (r.append r2) ?_, rfl, q⟩
 rw [List.length_append]
 omega
def Lw : V -> List V -> Hp -> VK -> Prop := λ x vs H Q => ∃ l xs i k y, x = .ref l /\ vs = [.int i] /\ H l = some (.lst xs) /\ -(2 ^ 63) <= i /\ i < 2 ^ 63 /\ seqIndex? i xs.length = some k /\ xs[k]? = some y /\ Q y (upd H l (.lst (xs.eraseIdx k)))
theorem Dg : MtM X "list.pop" Lw := by
 intro pins s σ H x vs v us Q I rx rv h
 obtain ⟨l, xs, i, k, y, rfl, rfl, hH, h1, h2, hk, hy, q⟩ := h
 cases rx
 obtain ⟨u, rfl, ru⟩ := rv.one
 obtain ⟨t, rfl⟩ := ru
 obtain ⟨z, its, n, r, hl, e⟩ := I.lstM hH
 obtain ⟨w, hw, rw'⟩ := r.get hy
 refine call_meets F.slot_list_pop ⟨_, e, rfl⟩ F.entry_list_pop (F.args_list_pop_2 _ _)
  (MeetsSeq.list_pop_at l its.toArray n i t k w (fitsIndex_both h1 h2) (by rw [List.size_toArray, <- hl]; exact hk) (by rw [<- Array.getElem?_toList]; exact hw) (by rw [List.size_toArray]; omega)) ⟨e, ?_⟩
 refine ⟨y, _, I.lset (its' := its.eraseIdx k) hH e ?_ (r.eraseIdx k) ?_, rw', q⟩
 .show its.toArray.eraseIdxIfInBounds k = (its.eraseIdx k).toArray
  rw [List.eraseIdxIfInBounds_toArray]
 .have := uX xs k
  omega
def rCat : R2 := λ x y H Q => ∃ l b xs zs, x = .ref l /\ y = .ref b /\ H l = some (.lst xs) /\ H b = some (.lst zs) /\ xs.length + zs.length <= sizeLine /\ ∀ p, H p = none -> Q (.ref p) (upd H p (.lst (xs ++ zs)))
theorem Nj : OpR X (binaryOp .Add) rCat := by
 intro pins s σ H x y v u Q I rx ry h
 obtain ⟨l, b, xs, zs, rfl, rfl, hH, hB, hz, q⟩ := h
 cases rx
 cases ry
 obtain ⟨z, its, n, r, hl, e⟩ := I.lstM hH
 obtain ⟨z2, its2, n2, r2, hl2, e2⟩ := I.lstM hB
 refine PySem.P.add_list e e2 ?_ (by rw [List.size_toArray, List.size_toArray]; omega)
 have ea : its.toArray ++ its2.toArray = (its ++ its2).toArray := by simp
 rw [ea]
 exact ⟨.ref _, _, I.lnew (t' := s.toks) (r.append r2) (by rw [List.length_append]; omega), rfl, q _ I.fresh⟩
def rRep : R2 := λ x y H Q => ∃ l k xs, x = .ref l /\ y = .int k /\ H l = some (.lst xs) /\ -(2 ^ 63) <= k /\ k < 2 ^ 63 /\ xs.length * k.toNat <= sizeLine /\
 ∀ p, H p = none -> Q (.ref p) (upd H p (.lst (List.replicate k.toNat xs).flatten))
theorem len_rep {α : Type} (xs : List α) (k : Nat) : (List.replicate k xs).flatten.length = k * xs.length := by
 induction k with
 | zero => simp
 | succ k ih => rw [List.replicate_succ, List.flatten_cons, List.length_append, ih, Nat.succ_mul, Nat.add_comm]
theorem FP : OpR X (binaryOp .Mult) rRep := by
 intro pins s σ H x y v u Q I rx ry h
 obtain ⟨l, k, xs, rfl, rfl, hH, h1, h2, hz, q⟩ := h
 cases rx
 obtain ⟨t, rfl⟩ := ry
 obtain ⟨z, its, n, r, hl, e⟩ := I.lstM hH
 have hlen : its.toArray.size * k.toNat <= sizeLine := by rw [List.size_toArray, <- hl]; exact hz
 have hcap : ¬ its.toArray.size * k.toNat > (2 ^ 63 - 1) / 8 := by
  have : (sizeLine : Nat) <= (2 ^ 63 - 1) / 8 := by decide
  omega
 have hfit : ¬ (!Builtin.List.listFitsIndex k) = true := by
  rw [fitsIndex_both h1 h2]
  exact Bool.false_ne_true
 have hlong : ¬ Builtin.List.listTooLong (its.toArray.size * k.toNat) = true := by
  rw [yG hlen]
  exact Bool.false_ne_true
 have hnew : List.foldl (λ x1 x2 => x1 ++ x2) #[] (List.replicate (if its.toArray.isEmpty = true then 0 else k.toNat) its.toArray) = (List.replicate k.toNat its).flatten.toArray := by
  have f0 : ∀ m : Nat, List.foldl (λ x1 x2 => x1 ++ x2) #[] (List.replicate m its.toArray) = (List.replicate m its).flatten.toArray := λ m => by
   have := foldl_rep its m []
   rw [List.nil_append] at this
   exact this
  rw [f0]
  cases its with
  | nil => simp
  | cons a r' => rw [if_neg (by simp)]
 refine wpAny_binaryOp_repeat_ref (T := "list") (U := "int") (by decide) ⟨_, e, rfl⟩ (λ s' => typeIs_int s' k t) noFill_list_mul F.fills_int_mul F.slot_int_rmul repeat_list F.slot_int_index.lookup
  (call_meets F.slot_int_rmul (typeIs_int s k t) F.entry_int_rmul (F.args_int_rmul_2 _ _) (int___rmul___int_list k t l its.toArray n)
   ⟨e, rfl, ⟨_, e, rfl⟩, call_meets F.slot_list_mul ⟨_, e, rfl⟩ F.entry_list_mul (F.args_list_mul_2 _ _) (AutoListH.list___mul___list_int_3 l its.toArray n k t hfit hcap hlong) ⟨e, ?_⟩⟩)
 rw [hnew]
 exact ⟨.ref _, _, I.lnew (t' := s.toks) (r.rep k.toNat) (by rw [len_rep, Nat.mul_comm]; exact hz), rfl, q _ I.fresh⟩
end
end L2
namespace Att
open PySem PySem.W PySem.Calls PyProof.Rows
theorem rB {P : Params} {h : Heap} : ∀ (ns : List Int) (vs : List Value), WellAll P h vs (ns.map WData.int) -> IntsAre vs ns := by
 intro ns
 induction ns with
 | nil =>
  intro vs w
  rw [List.map_nil] at w
  cases w
  exact .nil
 | cons n ns ih =>
  intro vs w
  rw [List.map_cons] at w
  cases w with
  | cons a b =>
   cases a
   exact .cons _ _ (ih _ b)
theorem BV {l : OpenLaw} {n : Nat} (hn : l.most = some n) {P : Params} {h : Heap} {args : List WData} {vals : List Value}
  (hpre : l.row.toRowW.claim.pre args = true) (hwl : WellAll P h vals args) :
  ∃ a vs ns, vals = [Value.ref a] /\ args = [WData.list (ns.map WData.int)] /\ h.get? a = some { cls := .type "list", data := .seq vs.toArray } /\ IntsAre vs ns /\ ns.length <= n := by
 have hsh : WShape.hasAll [] args [.list .int] = true := (pre_splitW hpre).1
 have hc : l.pre.holds [] { args := args } = true := (pre_splitW hpre).2
 obtain ⟨d, r, rfl, h1, h2⟩ := hasAllW_cons hsh
 obtain rfl := hasAllW_nil h2
 obtain ⟨xs, rfl, h3⟩ := hasW_list h1
 obtain ⟨ns, rfl⟩ := items_int h3
 have hlen : ns.length <= n := by
  unfold OpenLaw.pre at hc
  have h4 : (WTm.not (.lt (.lit (.int (n : Int))) (.len (.arg 0)))).holds [] { args := [.list (ns.map .int)] } = true := by
   have h4 := (holds_andW hc).1
   rw [hn] at h4
   exact h4
  have h5 := condW_of h4 (w_not (w_lt w_lit (w_len_list (w_arg rfl))))
  rw [List.length_map] at h5
  refine Nat.le_of_not_lt λ q => ?_
  have q' : (n : Int) < ((ns.length : Nat) : Int) := by omega
  first
   | (rw [decide_eq_true q'] at h5; exact absurd h5 (by decide))
   | (simp at h5; omega)
 cases hwl with
 | cons w1 w2 =>
  cases w2
  cases w1 with
  | list ho hall => exact ⟨_, _, ns, rfl, rfl, ho, rB ns _ hall, hlen⟩
theorem BZ (l : OpenLaw) (args : List WData) : l.row.toRowW.claim.post args (.bool true) args = true :=
 postW_of (r := l.row.toRowW) (X := (true == true))
  (show WShape.has [] (.bool true) .bool = true by first | rfl | decide | simp [WShape.has, WShape.arms, WShape.armsAll])
  (show (WTm.eq .res (.lit (.bool true))).value [] { args := args, res := some (.bool true), after := args } = some (.bool (true == true)) from w_eq_bool (w_res rfl) w_lit) rfl
theorem attach_call {l : OpenLaw} {n : Nat} {q : Program} {loose : List Str} {XP : (Str -> Option Value) -> Heap -> Prop} {YP : World -> Heap -> Prop} {d : DefRec}
  (hn : l.most = some n) (hdf : d.params.defaults = [])
  (call : ∀ (w : World) (s₀ s₁ : Shared) (mg mb : Str -> Option Value) (fa : Addr) (o : Obj) (pm cd doc : Value) (a : Addr) (vs : List Value) (ns : List Int),
   Ground q loose [] XP w s₀ mg mb s₁.heap -> YP w s₁.heap ->
   s₁.heap.get? fa = some o -> o.data = .func (docDef d.name d.params d.body d.scope pm cd doc) -> s₁.heap.CodeRec cd d.name -> mg d.name = some (.ref fa) ->
   s₁.heap.get? a = some { cls := .type "list", data := .seq vs.toArray } -> IntsAre vs ns -> ns.length <= n -> s₁.gens = #[] ->
   codeAny (model l.prog w) callerA (.call (.ref fa) ⟨[.ref a], []⟩) (λ r s' => r = .ok (.ret (.bool true)) /\ OldK s₁.heap s'.heap /\ s'.os = s₁.os /\ AllBare s'.gens) s₁) :
  WalkO q loose XP YP l.row.toRowW d [] (λ f vs => PySem.call f vs) := by
 intro w s₀ s₁ mg mb G Y fa o pm cd doc dV kV ho hd hcd hD hmg hg args vals as hpre hlay hrd hwl hlo
 obtain rfl : dV = .none := Dflts.none hD hdf
 obtain rfl : kV = .none := Dflts.noKw hD
 obtain ⟨a, vs, ns, rfl, rfl, hobj, hints, hlen⟩ := BV hn hpre hwl
 refine enter_call (codeAny_mono (call w s₀ s₁ mg mb fa o pm cd doc a vs ns G Y ho (fd_plain hd) hcd hmg hobj hints hlen hg) λ r s' hq => ?_)
 obtain ⟨rfl, h2, h3, h4⟩ := hq
 exact ⟨.inl ⟨.bool true, .bool true, [], rfl, λ _ => rfl, .bool true, BZ l _, λ _ => ⟨List.Pairwise.nil, λ _ hm => (nomatch hm)⟩⟩, h2, h3, h4⟩
end Att
namespace L2
open PySem PySem.Spec PyProof.Rows
theorem uH : ∀ {vs : List Value} {ns : List Int}, IntsAre vs ns -> Vals (ns.map V.int) vs
 | _, _, .nil => .nil
 | _, _, .cons n t h => .cons ⟨t, rfl⟩ (uH h)
def lR (s : Stmt) : Arguments := match s with
 | .FunctionDef _ a _ _ _ _ _ _ _ _ => a
 | _ => { posonlyargs := [], args := [], vararg := none, kwonlyargs := [], kw_defaults := [], kwarg := none, defaults := [] }
def jE (s : Stmt) : List Stmt := match s with
 | .FunctionDef _ _ b _ _ _ _ _ _ _ => b
 | _ => []
def aP (s : Stmt) : Scope := match s with
 | .FunctionDef _ _ _ _ _ _ sc _ _ _ => sc
 | _ => { kind := .function, names := [], isGenerator := false, isCoroutine := false }
abbrev CX0 : CXT := λ _ _ _ _ _ _ => False
abbrev E0 : XK := λ _ _ _ => False
theorem Pu {X : Cx} : zM CX0 X E0 := λ _ _ _ _ _ _ _ h => h.elim
def mK (H H' : Hp) : Prop := ∀ b o, H b = some o -> H' b = some o
theorem mK.refl (H : Hp) : mK H H := λ _ _ h => h
theorem mK.trans {H H1 H2 : Hp} (a : mK H H1) (b : mK H1 H2) : mK H H2 := λ c o h => b c o (a c o h)
def xM (X : Cx) : List Nat -> List Str -> Prop
 | [], [] => True
 | i :: is, x :: xs => (X.N[i]? = some x /\ (X.env.kindOf x = some .cell ∨ X.env.kindOf x = some .free)) /\ xM X is xs
 | _, _ => False
theorem xM.length {X : Cx} : ∀ {is : List Nat} {xs : List Str}, xM X is xs -> is.length = xs.length
 | [], [], _ => rfl
 | _ :: _, _ :: _, h => by rw [List.length_cons, List.length_cons, xM.length h.2]
theorem xM.get {X : Cx} : ∀ {is : List Nat} {xs : List Str} {j i : Nat}, xM X is xs -> is[j]? = some i -> ∃ x, xs[j]? = some x /\ X.N[i]? = some x /\ (X.env.kindOf x = some .cell ∨ X.env.kindOf x = some .free)
 | [], [], _, _, _, e => by simp at e
 | i :: is, x :: xs, 0, k, h, e => by
  simp at e; subst e
  exact ⟨x, rfl, h.1⟩
 | i :: is, x :: xs, j + 1, k, h, e => by
  obtain ⟨y, e1, e2⟩ := xM.get (j := j) (i := k) h.2 (by simpa using e)
  exact ⟨y, by simpa using e1, e2⟩
def rY (σ : St) (is : List Nat) : St := is.map λ i => (σ[i]?).join
theorem uM {σ : St} {is : List Nat} {j : Nat} {v : V} (e : (rY σ is)[j]? = some (some v)) : ∃ i, is[j]? = some i /\ σ[i]? = some (some v) := by
 unfold rY at e
 rw [List.getElem?_map] at e
 cases q : is[j]? with
 | none => rw [q] at e; cases e
 | some i =>
  rw [q] at e
  have e1 : (σ[i]?).join = some v := by simpa using e
  cases q2 : σ[i]? with
  | none => rw [q2] at e1; cases e1
  | some o =>
   rw [q2] at e1
   have e2 : o = some v := e1
   subst e2
   exact ⟨i, rfl, q2⟩
def cV (env : Env) : List (Str × NameKind) -> List (Str × Addr) -> List (Str × Addr)
 | [], acc => acc
 | (n, k) :: r, acc => cV env r (if k == .free then (match env.cells.lookup n with | some c => (n, c) :: acc | none => acc) else acc)
theorem yz {env : Env} : ∀ (names : List (Str × NameKind)) (acc : List (Str × Addr)), (∀ y ∈ names, y.2 = .free -> ∃ c, env.cells.lookup y.1 = some c) ->
  (forIn names acc λ (p : Str × NameKind) (r : List (Str × Addr)) => if p.2 == .free then (do let c <- cellOf env p.1; pure (ForInStep.yield ((p.1, c) :: r))) else pure (ForInStep.yield r) : Sem (List (Str × Addr))) = pure (cV env names acc)
 | [], acc, _ => rfl
 | (n, k) :: r, acc, h => by
  have hr := yz (env := env) r
  rw [List.forIn_cons]
  unfold cV
  by_cases hk : (k == NameKind.free) = true
  .obtain ⟨c, hc⟩ := h (n, k) List.mem_cons_self (by simpa using hk)
   simp only [hk, if_true]
   unfold cellOf
   simp only at hc
   rw [hc]
   simp only [pure_bind]
   exact hr _ λ y hy => h y (List.mem_cons_of_mem _ hy)
  .simp only [hk]
   simp only [pure_bind, Bool.false_eq_true, if_false]
   exact hr _ λ y hy => h y (List.mem_cons_of_mem _ hy)
theorem kZ {scope : Scope} {env : Env} (h : ∀ y ∈ scope.names, y.2 = .free -> ∃ c, env.cells.lookup y.1 = some c) : closureFor scope env = pure (cV env scope.names []) := by
 have e := yz (env := env) scope.names [] h
 rw [<- e]
 unfold closureFor
 simp only [bind_pure]
theorem nR {env : Env} : ∀ {names : List (Str × NameKind)} {acc : List (Str × Addr)} {p : Str × Addr}, p ∈ cV env names acc -> p ∈ acc ∨ env.cells.lookup p.1 = some p.2
 | [], acc, p, h => .inl h
 | (n, k) :: r, acc, p, h => by
  unfold cV at h
  rcases nR h with h | h
  .split at h
   .split at h
    .rename_i c hc
     rcases List.mem_cons.mp h with e | h
     .subst e; exact .inr hc
     .exact .inl h
    .exact .inl h
   .exact .inl h
  .exact .inr h
theorem qN {env : Env} {x : Str} : ∀ {names : List (Str × NameKind)} {acc : List (Str × Addr)}, (∀ k, (x, k) ∈ names -> k ≠ .free) -> (cV env names acc).lookup x = acc.lookup x
 | [], acc, _ => rfl
 | (n, k) :: r, acc, h => by
  unfold cV
  rw [qN λ k hk => h k (List.mem_cons_of_mem _ hk)]
  by_cases hk : (k == NameKind.free) = true
  .rw [if_pos hk]
   have hne : x ≠ n := by
    rintro rfl
    exact h k List.mem_cons_self (by simpa using hk)
   split
   .rw [List.lookup_cons]
    have : (x == n) = false := by simpa using hne
    rw [this]
   .rfl
  .rw [if_neg hk]
theorem mL {env : Env} {x : Str} {c : Addr} (hc : env.cells.lookup x = some c) : ∀ {names : List (Str × NameKind)} {acc : List (Str × Addr)}, (x, NameKind.free) ∈ names ∨ acc.lookup x = some c -> (cV env names acc).lookup x = some c
 | [], acc, h => by
  rcases h with h | h
  .simp at h
  .exact h
 | (n, k) :: r, acc, h => by
  unfold cV
  apply mL hc
  by_cases hr : (x, NameKind.free) ∈ r
  .exact .inl hr
  .right
   by_cases hx : x = n
   .subst hx
    by_cases hk : (k == NameKind.free) = true
    .rw [if_pos hk, hc]
     simp
    .rw [if_neg hk]
     rcases h with h | h
     .rcases List.mem_cons.mp h with e | h
      .exfalso; apply hk
       cases e; rfl
      .exact absurd h hr
     .exact h
   .have h' : acc.lookup x = some c := by
     rcases h with h | h
     .rcases List.mem_cons.mp h with e | h
      .cases e; exact absurd rfl hx
      .exact absurd h hr
     .exact h
    have hxn : (x == n) = false := by simpa using hx
    split
    .split
     .rw [List.lookup_cons, hxn]; exact h'
     .exact h'
    .exact h'
structure CO (lo : Nat) (h : Heap) (acc : List (Str × Addr)) : Prop where
 lt : ∀ p ∈ acc, p.2 < h.objs.size
 em : ∀ p ∈ acc, lo <= p.2 -> h.IsCell p.2 none
 ap : ∀ p ∈ acc, ∀ q ∈ acc, p.2 = q.2 -> lo <= p.2 -> p.1 = q.1
theorem CO.go {lo : Nat} : ∀ (names : List (Str × NameKind)) (h : Heap) (acc : List (Str × Addr)), CO lo h acc -> lo <= h.objs.size -> CO lo (pushCells h names) (cellsFrom h.objs.size names acc)
 | [], h, acc, x, _ => x
 | (n, k) :: r, h, acc, x, hl => by
  unfold pushCells cellsFrom
  by_cases hk : (k == NameKind.cell) = true
  .rw [if_pos hk, if_pos hk]
   have := CO.go (lo := lo) r (h.push { cls := .type "cell", data := .cell none }) ((n, h.objs.size) :: acc) ⟨λ p hp => ?_, λ p hp hlo => ?_, λ p hp q hq e hlo => ?_⟩ (by rw [Heap.size_push]; omega)
   .rwa [Heap.size_push] at this
   .rw [Heap.size_push]
    rcases List.mem_cons.mp hp with e | hp
    .subst e; exact Nat.lt_succ_self _
    .exact Nat.lt_succ_of_lt (x.lt p hp)
   .rcases List.mem_cons.mp hp with e | hp
    .subst e; exact ⟨_, Heap.get?_push_size _ rfl, rfl⟩
    .exact (x.em p hp hlo).keeps λ b o e => Heap.get?_push_of_some _ e
   .rcases List.mem_cons.mp hp with e1 | hp <;> rcases List.mem_cons.mp hq with e2 | hq
    .subst e1; subst e2; rfl
    .subst e1
     have e' : h.objs.size = q.2 := e
     exact absurd (x.lt q hq) (by rw [<- e']; exact Nat.lt_irrefl _)
    .subst e2
     have e' : p.2 = h.objs.size := e
     exact absurd (x.lt p hp) (by rw [e']; exact Nat.lt_irrefl _)
    .exact x.ap p hp q hq e hlo
  .rw [if_neg hk, if_neg hk]
   exact CO.go r h acc x hl
theorem vK : ∀ {names : List (Str × NameKind)} {m : Nat} {acc : List (Str × Addr)} {p : Str × Addr}, p ∈ cellsFrom m names acc -> p ∈ acc ∨ m <= p.2
 | [], m, acc, p, h => .inl h
 | (n, k) :: r, m, acc, p, h => by
  unfold cellsFrom at h
  by_cases hk : (k == NameKind.cell) = true
  .rw [if_pos hk] at h
   rcases vK h with h | h
   .rcases List.mem_cons.mp h with e | h
    .subst e; exact .inr (Nat.le_refl _)
    .exact .inl h
   .exact .inr (by omega)
  .rw [if_neg hk] at h
   exact vK h
theorem zQ {x : Str} : ∀ {names : List (Str × NameKind)} {m : Nat} {acc : List (Str × Addr)}, (∀ k, (x, k) ∈ names -> k ≠ .cell) -> (cellsFrom m names acc).lookup x = acc.lookup x
 | [], m, acc, _ => rfl
 | (n, k) :: r, m, acc, h => by
  unfold cellsFrom
  by_cases hk : (k == NameKind.cell) = true
  .rw [if_pos hk, zQ λ k hk => h k (List.mem_cons_of_mem _ hk), List.lookup_cons]
   have hne : x ≠ n := by
    rintro rfl
    exact h k List.mem_cons_self (by simpa using hk)
   have : (x == n) = false := by simpa using hne
   rw [this]
  .rw [if_neg hk]
   exact zQ λ k hk => h k (List.mem_cons_of_mem _ hk)
section
variable {M : Model} {A : Around} {E : Value -> Shared -> Prop} {s : Shared}
theorem oK {scope : Scope} {globals : Addr} {closure : List (Str × Addr)} {qual : Str} {func : Option Addr} {code : Value} {around : Option Env} {builtins : Addr} {Q : Env -> Shared -> Prop}
  (h : Q (newEnv scope s.heap.objs.size globals (cellsFrom (s.heap.objs.size + 1) scope.names closure) qual func code around builtins)
   { s with heap := pushCells (s.heap.push { cls := .type (if around.isSome then "dict" else "frame"), data := .dict #[] }) scope.names }) :
  wpAny M A (newFunctionEnv scope globals closure [] qual func code around builtins) Q E s := by
 simp only [newFunctionEnv]
 refine wpAny_bind (wpAny_alloc ?_)
 refine wpAny_bind (wpAny_layCells _ (λ name kind cells => by cases hkc : kind == NameKind.cell <;> simp [hkc]) _ _ _ _ ?_)
 rw [List.forIn_nil]
 refine wpAny_bind (wpAny_pure (wpAny_pure ?_))
 have e : (s.heap.push ({ cls := .type (if around.isSome then "dict" else "frame"), data := .dict #[] } : Obj)).objs.size = s.heap.objs.size + 1 := Heap.size_push ..
 rw [<- e] at h
 cases around <;> exact h
end
structure gw (X : Cx) (own cap : List Str) (capI : List Nat) (scope : Scope) : Prop where
 kind : scope.kind = .function
 nd : (scope.names.map (·.1)).Nodup
 caps : xM X capI cap
 fre : ∀ y ∈ scope.names, y.2 = .free -> y.1 ∈ cap
 cfr : ∀ x ∈ cap, (x, NameKind.free) ∈ scope.names
theorem sV {x : Str} {k k' : NameKind} : ∀ {names : List (Str × NameKind)}, (names.map (·.1)).Nodup -> (x, k) ∈ names -> (x, k') ∈ names -> k = k'
 | [], _, h, _ => by simp at h
 | p :: r, nd, h1, h2 => by
  rw [List.map_cons, List.nodup_cons] at nd
  rcases List.mem_cons.mp h1 with e1 | h1 <;> rcases List.mem_cons.mp h2 with e2 | h2
  .rw [<- e2] at e1; exact (Prod.mk.inj e1).2
  .exact absurd (by rw [<- e1]; exact List.mem_map.mpr ⟨_, h2, rfl⟩) nd.1
  .exact absurd (by rw [<- e2]; exact List.mem_map.mpr ⟨_, h1, rfl⟩) nd.1
  .exact sV nd.2 h1 h2
theorem eG {α : Type} {x : Str} {k : α} : ∀ {names : List (Str × α)}, (names.map (·.1)).Nodup -> (x, k) ∈ names -> names.lookup x = some k
 | [], _, h => by simp at h
 | (n, k') :: r, nd, h => by
  rw [List.map_cons, List.nodup_cons] at nd
  rw [List.lookup_cons]
  rcases List.mem_cons.mp h with e | hr
  .cases e; simp
  .have hne : x ≠ n := by
    intro e
    subst e
    exact nd.1 (List.mem_map.mpr ⟨_, hr, rfl⟩)
   have : (x == n) = false := by simpa using hne
   rw [this]
   exact eG nd.2 hr
theorem qY {scope : Scope} {env : Env} {x : Str} {k : NameKind} (h : (x, k) ∈ (relabel scope env).names) : (x, k) ∈ scope.names ∨ (k = .cell /\ (x, NameKind.free) ∈ scope.names) := by
 unfold relabel at h
 obtain ⟨⟨n, k'⟩, hm, e⟩ := List.mem_map.mp h
 dsimp only at e
 split at e
 .rename_i hc
  cases e
  have hk : k' = NameKind.free := by
   simp only [Bool.and_eq_true, beq_iff_eq] at hc
   exact hc.1.1
  subst hk
  exact .inr ⟨rfl, hm⟩
 .cases e; exact .inl hm
theorem wK {scope : Scope} {env : Env} : (relabel scope env).names.map (·.1) = scope.names.map (·.1) := by
 unfold relabel
 rw [List.map_map]
 apply List.map_congr_left
 rintro ⟨n, k⟩ _
 show (if _ then (n, NameKind.cell) else (n, k)).1 = n
 split <;> rfl
theorem wB {scope : Scope} {env : Env} {x : Str} (nd : (scope.names.map (·.1)).Nodup) (h : (x, NameKind.free) ∈ scope.names) : (relabel scope env).names.lookup x = some .cell ∨ (relabel scope env).names.lookup x = some .free := by
 have nd' : ((relabel scope env).names.map (·.1)).Nodup := by rw [wK]; exact nd
 by_cases hc : (NameKind.free == NameKind.free && env.scope.kind == .function && env.kindOf x == some .cell) = true
 .left
  refine eG nd' ?_
  unfold relabel
  refine List.mem_map.mpr ⟨(x, NameKind.free), h, ?_⟩
  dsimp only
  rw [if_pos hc]
 .right
  refine eG nd' ?_
  unfold relabel
  refine List.mem_map.mpr ⟨(x, NameKind.free), h, ?_⟩
  dsimp only
  rw [if_neg hc]
def dD (X : Cx) (own cap : List Str) (scope : Scope) (cs : List (Str × Addr)) (C : Addr) (fp : List Addr) (s2 : Shared) (H2 : Hp) : Cx where
 prog := X.prog
 w := X.w
 K := X.K
 mg := X.mg
 base := X.base
 A := X.A
 N := own ++ cap
 s₀ := s2
 H₀ := H2
 env := compEnvC scope cs C X.env
 outer := X.stack
 stack := X.stack
 ex := fp
 fn := λ x => own.contains x
 calm := X.calm
 pn := []
 xe := λ _ _ => False
def cU (own : List Str) (σ : St) (capI : List Nat) : St := List.replicate own.length none ++ rY σ capI
section
variable {X : Cx} {pins : List (Addr × Obj)} {σ : St} {H : Hp} {s : Shared} {own cap : List Str} {capI : List Nat} {scope : Scope}
theorem gw.cells (B : gw X own cap capI scope) (I : Inv X pins σ H s) : ∀ y ∈ scope.names, y.2 = .free -> ∃ c, X.env.cells.lookup y.1 = some c := λ y hy e => by
 have hm := B.fre y hy e
 obtain ⟨j, hj⟩ := List.getElem?_of_mem hm
 have hlt : j < capI.length := by rw [B.caps.length]; exact (List.getElem?_eq_some_iff.mp hj).1
 obtain ⟨x, e1, _, k⟩ := B.caps.get (j := j) (i := capI[j]) (by simp [hlt])
 rw [hj] at e1
 cases e1
 exact I.ok.has _ k
theorem Inv.comp {fp : List Addr} {h0 h1 : Heap} {C : Addr} {tk : Nat} (I : Inv X pins σ H s) (B : gw X own cap capI scope) (hown : ∀ x ∈ own, (x, NameKind.free) ∉ scope.names) (hf : ∀ b ∈ fp, mz X pins H b) (ho : ∀ b ∈ fp, ∃ o, s.heap.get? b = some o)
  (hk0 : ∀ b o, s.heap.get? b = some o -> h0.get? b = some o) (hsz : s.heap.objs.size <= h0.objs.size) (hC : C = h0.objs.size) (h1e : h1 = pushCells (h0.push { cls := .type "dict", data := .dict #[] }) scope.names) :
  Inv (dD X own cap scope (cellsFrom (C + 1) scope.names (cV X.env scope.names [])) C fp s H) [] (cU own σ capI) H { s with heap := h1, toks := tk } := by
 have hCs : s.heap.objs.size <= C := by rw [hC]; exact hsz
 have hpush : (h0.push ({ cls := .type "dict", data := .dict #[] } : Obj)).objs.size = C + 1 := by rw [hC]; exact Heap.size_push ..
 have keep1 : ∀ b o, h0.get? b = some o -> h1.get? b = some o := λ b o e => by rw [h1e]; exact pushCells_keeps _ _ _ _ (Heap.get?_push_of_some _ e)
 have keep : ∀ b o, s.heap.get? b = some o -> h1.get? b = some o := λ b o e => keep1 b o (hk0 b o e)
 have hCo : h1.get? C = some { cls := .type "dict", data := .dict #[] } := by
  rw [h1e]
  refine pushCells_keeps _ _ _ _ ?_
  rw [hC]; exact Heap.get?_push_size _ rfl
 have clo_old : ∀ p ∈ cV X.env scope.names [], X.env.cells.lookup p.1 = some p.2 := λ p hp => (nR hp).elim (λ z => by simp at z) id
 have old_lt : ∀ x c, X.env.cells.lookup x = some c -> c < s.heap.objs.size := λ x c e => let ⟨v, q⟩ := I.cell x c e; q.lt
 have co0 : CO (C + 1) (h0.push { cls := .type "dict", data := .dict #[] }) (cV X.env scope.names []) := by
  refine ⟨λ p hp => ?_, λ p hp hlo => ?_, λ p hp q hq e hlo => ?_⟩
  .rw [hpush]; exact Nat.lt_succ_of_lt (Nat.lt_of_lt_of_le (old_lt _ _ (clo_old p hp)) hCs)
  .exact absurd (Nat.lt_of_lt_of_le (old_lt _ _ (clo_old p hp)) (Nat.le_trans hCs (Nat.le_trans (Nat.le_succ _) hlo))) (Nat.lt_irrefl _)
  .exact absurd (Nat.lt_of_lt_of_le (old_lt _ _ (clo_old p hp)) (Nat.le_trans hCs (Nat.le_trans (Nat.le_succ _) hlo))) (Nat.lt_irrefl _)
 have co := CO.go scope.names _ _ co0 (by rw [hpush]; exact Nat.le_refl _)
 rw [hpush, <- h1e] at co
 have csm : ∀ x c, (cellsFrom (C + 1) scope.names (cV X.env scope.names [])).lookup x = some c -> (X.env.cells.lookup x = some c /\ c < s.heap.objs.size) ∨ (C + 1 <= c /\ h1.IsCell c none) := λ x c e => by
  have hm := PySem.mem_of_lookup e
  rcases vK hm with z | z
  .have q := clo_old _ z
   exact .inl ⟨q, old_lt _ _ q⟩
  .exact .inr ⟨z, co.em _ hm z⟩
 have fresh : ∀ b, s.heap.objs.size <= b -> H b = none := λ b hb => I.hok.fresh hb
 have eout : (dD X own cap scope (cellsFrom (C + 1) scope.names (cV X.env scope.names [])) C fp s H).fs = frs X.stack := rfl
 refine ⟨⟨I.ok.mod, ?_, I.ok.glob, I.ok.blt, hCs, ?_, ?_, ?_, I.ok.hd, I.ok.frames, .inl rfl, ?_, I.bs, Nat.le_trans I.ok.bsz I.sz, ?_, ?_, I.stack, I.stkFree⟩, rfl, I.bare.again, Un.kept keep, ?_, ?_, fresh C hCs, ?_, ?_, I.hok.kept keep, ?_⟩
 .exact B.kind
 .
  intro x y c e1 e2
  have e1' : (cellsFrom (C + 1) scope.names (cV X.env scope.names [])).lookup x = some c := e1
  have e2' : (cellsFrom (C + 1) scope.names (cV X.env scope.names [])).lookup y = some c := e2
  rcases csm x c e1' with ⟨z1, l1⟩ | ⟨z1, _⟩
  .rcases csm y c e2' with ⟨z2, _⟩ | ⟨z2, _⟩
   .exact I.ok.inj x y c z1 z2
   .exact absurd (Nat.lt_of_lt_of_le l1 (Nat.le_trans hCs (Nat.le_trans (Nat.le_succ _) z2))) (Nat.lt_irrefl _)
  .exact co.ap _ (PySem.mem_of_lookup e1') _ (PySem.mem_of_lookup e2') rfl z1
 .
  intro x hx
  have hx' : (relabel scope X.env).names.lookup x = some .cell ∨ (relabel scope X.env).names.lookup x = some .free := hx
  have hm : (x, NameKind.cell) ∈ scope.names ∨ (x, NameKind.free) ∈ scope.names := by
   rcases hx' with e | e
   .rcases qY (PySem.mem_of_lookup e) with q | q
    .exact .inl q
    .exact .inr q.2
   .rcases qY (PySem.mem_of_lookup e) with q | q
    .exact .inr q
    .cases q.1
  rcases hm with q | q
  .exact Option.isSome_iff_exists.mp (PySem.W.cellsFrom_some scope.names (C + 1) _ (.inl (eG B.nd q)))
  .obtain ⟨c, hc⟩ := B.cells I _ q rfl
   exact Option.isSome_iff_exists.mp (PySem.W.cellsFrom_some scope.names (C + 1) _ (.inr (by rw [mL hc (.inl q)]; rfl)))
 .
  intro x c hx e
  have e' : (cellsFrom (C + 1) scope.names (cV X.env scope.names [])).lookup x = some c := e
  have hxo : x ∈ own := by simpa [dD] using hx
  rcases vK (PySem.mem_of_lookup e') with z | z
  .exfalso
   have nf := hown x hxo
   have : (cV X.env scope.names []).lookup x = none := by
    rw [qN λ k hk => by rintro rfl; exact nf hk]; rfl
   have hl : (cellsFrom (C + 1) scope.names (cV X.env scope.names [])).lookup x = some c := e'
   have q : ∀ (l : List (Str × Addr)), (x, c) ∈ l -> l.lookup x ≠ none := by
    intro l
    induction l with
    | nil => intro h; simp at h
    | cons p r ih =>
     intro h
     obtain ⟨n, d⟩ := p
     rw [List.lookup_cons]
     by_cases hn : (x == n) = true
     .rw [hn]; simp
     .have hn' : (x == n) = false := by simpa using hn
      rw [hn']
      rcases List.mem_cons.mp h with e | h
      .cases e; simp at hn'
      .exact ih h
   exact q _ z this
  .exact Nat.le_trans hCs (Nat.le_trans (Nat.le_succ _) z)
 .
  intro b hb
  obtain ⟨o, hbo⟩ := ho b hb
  have hlt := Heap.lt_size hbo
  refine ⟨Nat.ne_of_lt (Nat.lt_of_lt_of_le hlt hCs), λ x c e => ?_⟩
  rcases csm x c e with ⟨z, _⟩ | ⟨z, _⟩
  .exact (hf b hb).2.2.2.2.1 x c z
  .exact Nat.ne_of_gt (Nat.lt_of_lt_of_le hlt (Nat.le_trans hCs (Nat.le_trans (Nat.le_succ _) z)))
 .
  intro b o e hb
  rcases (hf b hb).2.2.2.1 with z | z
  .exact I.ok.noex b o e z
  .exact absurd (Nat.lt_of_lt_of_le (Heap.lt_size e) (Nat.le_trans I.ok.bsz z)) (Nat.lt_irrefl _)
 .
  intro b hb hz
  rcases List.mem_cons.mp (I.stkSub b hz) with z | z
  .exact (hf b hb).2.1 z
  .exact (hf b hb).2.2.1 z
 .
  obtain ⟨m, hn, hl⟩ := I.loc
  refine ⟨λ _ => none, ⟨_, #[], 0, hCo, rfl, by intro e he; simp at he, λ _ => rfl⟩, λ i x v e1 e2 hv => ?_⟩
  have e2' : (cU own σ capI)[i]? = some (some v) := e2
  have e1' : (own ++ cap)[i]? = some x := e1
  unfold cU at e2'
  by_cases hi : i < own.length
  .rw [List.getElem?_append_left (by simpa using hi), List.getElem?_replicate] at e2'
   split at e2' <;> cases e2'
  .rw [List.getElem?_append_right (by simpa using hi)] at e2'
   rw [List.getElem?_append_right (by simpa using hi)] at e1'
   rw [List.length_replicate] at e2'
   obtain ⟨i0, q1, q2⟩ := uM e2'
   obtain ⟨y, q3, q4, q5⟩ := B.caps.get q1
   rw [e1'] at q3
   cases q3
   have hxf : (x, NameKind.free) ∈ scope.names := B.cfr x (List.mem_of_getElem? e1')
   have vis : Vis X.env.scope x := by
    rcases q5 with q5 | q5
    .exact .inr (.inl q5)
    .exact .inr (.inr q5)
   obtain ⟨u, ru, lk⟩ := hl i0 x v q4 q2 vis
   refine ⟨u, ru, .inr ⟨wB B.nd hxf, ?_⟩⟩
   rcases lk with ⟨k, _⟩ | ⟨_, c, ec, hc⟩
   .rcases q5 with q5 | q5 <;> rw [k] at q5 <;> cases q5
   .refine ⟨c, ?_, hc.keeps keep⟩
    show (cellsFrom (C + 1) scope.names (cV X.env scope.names [])).lookup x = some c
    rw [zQ λ k hk => ?_]
    .exact mL ec (.inl hxf)
    .rintro rfl
     cases sV B.nd hk hxf
 .
  intro x c e
  rcases csm x c e with ⟨z, _⟩ | ⟨_, z⟩
  .obtain ⟨v, q⟩ := I.cell x c z
   exact ⟨v, q.keeps keep⟩
  .exact ⟨none, z⟩
 .
  intro x c e
  rcases csm x c e with ⟨z, _⟩ | ⟨z, _⟩
  .exact I.freeC x c z
  .exact fresh c (Nat.le_trans hCs (Nat.le_trans (Nat.le_succ _) z))
 .intro p hp
  exact absurd (show p ∈ ([] : List (Addr × Obj)) from hp) (by simp)
 .show (cU own σ capI).length = (own ++ cap).length
  unfold cU rY
  rw [List.length_append, List.length_append, List.length_replicate, List.length_map, B.caps.length]
end
section
variable {prog : Program} {w : World} {A : Around} {R : Result -> Shared -> Prop} {s : Shared}
theorem vo {elt target iter : Expr} {ifs : List Expr} {scope : Scope} {pos : Pos} {it acc : Value} {env : Env} {E' : Value -> Shared -> Prop} (I : Nat -> Shared -> Prop)
  (hE : ∀ e s', E' e s' -> notedBy (model prog w) A env (λ e s' => R (.error e) s') e s')
  (turn : ∀ n s, I n s -> wpAny (model prog w) A (pyNext it) (λ r s₁ => match r with
   | none => R (.ok .next) s₁
   | some v => wpAny (model prog w) A (letOwnedTupleGo target it v) (λ _ s₂ => wpAny (model prog w) A (assign target env v) (λ _ s₃ =>
     wpAny (model prog w) A (forIn ifs true λ c r => if r = true then do let ok <- isTrue c env (eval c env); pure (ForInStep.yield ok) else pure (ForInStep.yield r)) (λ ok s₄ =>
      if ok = true then wpAny (model prog w) A (eval elt env) (λ x s₅ =>
       wpAny (model prog w) A (call (.builtin "list.append") [acc, x]) (λ _ s₆ => ∃ m, m < n /\ I m s₆) E' s₅) E' s₄
      else ∃ m, m < n /\ I m s₄) E' s₃) E' s₂) E' s₁) E' s)
  (n : Nat) (h : I n s) :
  codeAny (model prog w) A (.compLoop (.ListComp elt [⟨target, iter, ifs, 0⟩] scope pos) 0 it acc env) R s := by
 refine codeAny_loop rfl I (λ n s hI => ?_) n h
 show wpAny _ A ((compTurn (.ListComp elt [⟨target, iter, ifs, 0⟩] scope pos) 0 it acc env).onRaise (λ x => do noteFrame x env; theTreesLotGoes x)) _ _ s
 refine wpAny_noted ?_
 rw [compTurn_list]
 refine wpAny_bind (wpAny_standAt (wpAny_bind (wpAny_mono (turn n s hI) (λ r s₁ h₁ => ?_) hE)))
 cases r with
 | none => exact wpAny_pure h₁
 | some v =>
  refine wpAny_bind (wpAny_mono h₁ (λ _ s₂ h₂ => ?_) hE)
  refine wpAny_bind (wpAny_mono h₂ (λ _ s₂ h₂ => wpAny_bind (wpAny_mono h₂ (λ ok s₃ h₃ => ?_) hE)) hE)
  cases ok with
  | false => exact wpAny_pure ⟨rfl, h₃⟩
  | true =>
   exact wpAny_bind (wpAny_bind (wpAny_mono h₃ (λ x s₄ h₄ => wpAny_bind (wpAny_mono h₄ (λ _ s₅ h₅ => wpAny_pure (wpAny_pure ⟨rfl, h₅⟩)) hE)) hE))
end
def PIf (X : Cx) (ifs : List Expr) (t : TT) : Prop :=
 ∀ (pins : List (Addr × Obj)) (s : Shared) (σ : St) (H : Hp) (Q : Bool -> Hp -> Prop), Inv X pins σ H s -> t σ H Q ->
  wpAny (model X.prog X.w) X.A (forIn ifs true λ c r => if r = true then do let ok <- isTrue c X.env (eval c X.env); pure (ForInStep.yield ok) else pure (ForInStep.yield r)) (TP X pins σ Q) X.xe s
def tYes : TT := λ _ H Q => Q true H
section
variable {X : Cx} {c : Expr} {t : TT}
theorem Jd : PIf X [] tYes := λ _ _ _ H _ I h => wpAny_tests_nil ⟨H, I, h⟩
theorem Jc (h : PT X c t) : PIf X [c] t := λ pins s σ H Q I hq => wpAny_tests_one (h pins s σ H Q I hq)
end
def Fits (a b : St) : Prop := b.length = a.length /\ ∀ (i : Nat) v, a[i]? = some (some v) -> b[i]? = some (some v)
def tLC (own : List Str) (capI : List Nat) (wi : TI) (g : TG) (tt : TT) (te : TE) : TE := λ σ H Q => wi σ H λ J H1 => ∃ W : Nat -> Nat -> List V -> Hp -> Prop, (∃ m, W 0 m [] H1) /\ ∀ i m ys H, W i m ys H ->
 (J.stop i H /\ ∀ l, H l = none -> Q (.ref l) (upd H l (.lst ys))) ∨
 (J.go i H /\ ys.length < sizeLine /\ ∀ x H', J.yld i H x H' -> g x (cU own σ capI) H' λ σ2 H2 => Fits (cU own σ capI) σ2 /\ tt σ2 H2 λ b H3 =>
  if b = true then te σ2 H3 (λ y H4 => ∃ m', m' < m /\ W (i + 1) m' (ys ++ [y]) H4) else ∃ m', m' < m /\ W (i + 1) m' ys H3)
abbrev bN (us : List Value) (k : Nat) : Obj := { cls := .type "list", data := .seq us.toArray k }
section
variable {X : Cx} {tg iter elt : Expr} {ifs : List Expr} {wi : TI} {g : TG} {tt : TT} {te : TE} {own cap : List Str} {capI : List Nat} {scope : Scope} {pos : Pos}
theorem Inv.compEnd {X' : Cx} {pins pins' : List (Addr × Obj)} {σ σ' : St} {H H2 : Hp} {s2 s1 : Shared} {fp : List Addr} {l C : Addr} {ys : List V} {us : List Value} {k : Nat} {h' : Heap}
  (I2 : Inv X pins σ H2 s2) (f2 : ∀ b ∈ fp, mz X pins H2 b) (hP : X'.prog = X.prog) (hw : X'.w = X.w) (hfs : X'.fs = frs X.stack) (hex : X'.ex = fp) (hs : X'.s₀ = s2) (hH : X'.H₀ = H2) (hC : X'.env.locals = C)
  (I : Inv X' pins' σ' H s1) (hl : s2.heap.objs.size <= l) (hlC : l ≠ C) (hCs : s2.heap.objs.size <= C) (ho : s1.heap.get? l = some (bN us k)) (hn : H l = none) (hv : Vals ys us) (hz : ys.length <= sizeLine)
  (sb : Heap.SameBut C s1.heap h') : Inv X pins σ (upd H l (.lst ys)) { s1 with heap := h' } := by
 subst hs hH hC
 have ne2 : ∀ b o, X'.s₀.heap.get? b = some o -> b ≠ X'.env.locals /\ b ≠ l := λ b o e => ⟨Nat.ne_of_lt (Nat.lt_of_lt_of_le (Heap.lt_size e) hCs), Nat.ne_of_lt (Nat.lt_of_lt_of_le (Heap.lt_size e) hl)⟩
 have ub := I.base
 rw [hfs, hex] at ub
 have nl : ∀ b u, H b = some u -> b ≠ l := λ b u e z => by rw [z, hn] at e; cases e
 have nC : ∀ b u, H b = some u -> b ≠ X'.env.locals := λ b u e z => by rw [z, I.free] at e; cases e
 refine I2.call' (ch := fp) (s' := { s1 with heap := h' }) I.os ⟨λ b o e n hb hx => ?_, λ b o e n hb hx => ?_, λ b o e n hx => ?_, λ b o e hx => ?_, λ b xs e => ?_, λ b o u e => ?_, λ b ps e => ?_⟩ ?_ I.bare λ b hb => ?_
 .exact (sb.2 b (ne2 b o e).1).trans (ub.keep b o e n hb hx)
 .obtain ⟨sl, q⟩ := ub.slot b o e n hb hx
  exact ⟨sl, (sb.2 b (ne2 b o e).1).trans q⟩
 .rw [aV (ne2 b o e).2]
  exact ub.free b o e n hx
 .obtain ⟨o', q⟩ := ub.there b o e hx
  exact ⟨o', (sb.2 b (ne2 b o e).1).trans q⟩
 .have q := ub.tups b xs e
  rw [aV (nl b _ q)]; exact q
 .have q := ub.frzs b o u e
  rw [aV (nl b _ q)]; exact q
 .obtain ⟨more, q⟩ := ub.tbls b ps e
  exact ⟨more, by rw [aV (nl b _ q)]; exact q⟩
 .intro a o e
  have hok := I.hok
  rw [hP, hw] at hok
  by_cases ha : a = l
  .subst ha
   rw [gq] at e
   cases e
   exact ⟨hz, us, k, hv, (sb.2 a hlC).trans ho⟩
  .rw [aV ha] at e
   refine (hok a o e).stay (λ b u hb q => (sb.2 b ?_).trans q) (λ b q => by rw [aV (nl b _ q)]; exact q) λ b xs q => by rw [aV (nl b _ q)]; exact q
   rcases hb with z | z
   .rw [z]; exact nC a o e
   .exact nC b _ z
 .obtain ⟨q0, q1, q2, q3, q4, q5⟩ := f2 b hb
  exact ⟨q3.imp id λ z => z, q1, q4, q5⟩
theorem PK (hc : X.calm = true) (B : gw X own cap capI scope) (hown : ∀ x ∈ own, (x, NameKind.free) ∉ scope.names) (hi : PI X tg iter wi)
  (hg : ∀ cs C fp s2 H2, PG (dD X own cap scope cs C fp s2 H2) tg g) (ht : ∀ cs C fp s2 H2, PIf (dD X own cap scope cs C fp s2 H2) ifs tt) (he : ∀ cs C fp s2 H2, PE (dD X own cap scope cs C fp s2 H2) elt te)
  (hs : ∀ x, foldedSetIterable iter X.env x = pure x := by intro _; rfl) : PE X (.ListComp elt [⟨tg, iter, ifs, 0⟩] scope pos) (tLC own capI wi g tt te) := by
 intro pins s σ H Q I h
 rw [eval_ListComp]
 refine wpAny_comprehension_free (use := none) (cl := cV X.env scope.names []) rfl hs (kZ (B.cells I)) B.kind (λ y hy e => eG B.nd (by rw [<- e]; exact hy)) ?_
 refine thn (hi pins s σ H _ I h) λ v s1 h1 => thn h1 λ itv s2 h2 => ?_
 obtain ⟨it, fp, tn, J, H2, e, I2, T, st2, f2, W, ⟨m0, w0⟩, turn⟩ := h2
 subst e
 refine wpAny_newObj_type (oK ?_)
 dsimp only
 generalize hl : s2.heap.objs.size = l
 generalize hh0 : s2.heap.push { cls := .type "list", dict := none, data := .seq ([] : List Value).toArray } = h0
 have hsz0 : h0.objs.size = l + 1 := by rw [<- hh0, Heap.size_push, hl]
 generalize hC : h0.objs.size = C
 generalize hh1 : pushCells (h0.push { cls := .type (if (some X.env).isSome = true then "dict" else "frame"), data := .dict #[] }) scope.names = h1
 have hl0 : h0.get? l = some (bN [] 0) := by rw [<- hh0, <- hl]; exact Heap.get?_push_size _ rfl
 have hk0 : ∀ b o, s2.heap.get? b = some o -> h0.get? b = some o := λ b o e => by rw [<- hh0]; exact Heap.get?_push_of_some _ e
 have hlC : l ≠ C := by rw [<- hC, hsz0]; exact Nat.ne_of_lt (Nat.lt_succ_self _)
 have hls : s2.heap.objs.size <= l := Nat.le_of_eq hl
 have hCs : s2.heap.objs.size <= C := by rw [<- hC, hsz0, hl]; exact Nat.le_succ _
 have ho2 : ∀ b ∈ fp, ∃ o, s2.heap.get? b = some o := λ b hb => let ⟨o, e, _⟩ := T.obj 0 _ st2 b hb; ⟨o, e⟩
 have hfl : ∀ b ∈ fp, b ≠ l /\ b ≠ C := λ b hb => let ⟨o, e⟩ := ho2 b hb; ⟨Nat.ne_of_lt (Nat.lt_of_lt_of_le (Heap.lt_size e) hls), Nat.ne_of_lt (Nat.lt_of_lt_of_le (Heap.lt_size e) hCs)⟩
 have hl1 : h1.get? l = some (bN [] 0) := by rw [<- hh1]; exact pushCells_keeps _ _ _ _ (Heap.get?_push_of_some _ hl0)
 have keep1 : ∀ b o, s2.heap.get? b = some o -> h1.get? b = some o := λ b o e => by rw [<- hh1]; exact pushCells_keeps _ _ _ _ (Heap.get?_push_of_some _ (hk0 b o e))
 generalize hcs : cellsFrom (C + 1) scope.names (cV X.env scope.names []) = cs
 have I0 : Inv (dD X own cap scope cs C fp s2 H2) [] (cU own σ capI) H2 { s2 with heap := h1 } := by
  have q := I2.comp (tk := s2.toks) B hown f2 ho2 hk0 (by rw [hsz0, hl]; exact Nat.le_succ _) hC.symm hh1.symm
  rw [hcs] at q
  exact q
 have henv : (newEnv scope C X.env.globals cs X.env.qual none .none (some X.env) builtinsNs) = { compEnvC scope cs C X.env with scope := scope } := rfl
 have henv2 : ({ newEnv scope C X.env.globals cs X.env.qual none .none (some X.env) builtinsNs with scope := relabel scope X.env } : Env) = (dD X own cap scope cs C fp s2 H2).env := rfl
 generalize hX' : dD X own cap scope cs C fp s2 H2 = X' at I0 henv2
 have eP : X'.prog = X.prog := by rw [<- hX']; rfl
 have eW : X'.w = X.w := by rw [<- hX']; rfl
 have eK : X'.K = X.K := by rw [<- hX']; rfl
 have eA : X'.A = X.A := by rw [<- hX']; rfl
 have eFs : X'.fs = frs X.stack := by rw [<- hX']; rfl
 have eEx : X'.ex = fp := by rw [<- hX']; rfl
 have eS : X'.s₀ = s2 := by rw [<- hX']; rfl
 have eH : X'.H₀ = H2 := by rw [<- hX']; rfl
 have eL : X'.env.locals = C := by rw [<- hX']; rfl
 have eC : X'.calm = true := by rw [<- hX']; exact hc
 have eX : X'.xe = λ _ _ => False := by rw [<- hX']; rfl
 have ePn : X'.pn = [] := by rw [<- hX']; rfl
 have hg' : PG X' tg g := by rw [<- hX']; exact hg cs C fp s2 H2
 have ht' : PIf X' ifs tt := by rw [<- hX']; exact ht cs C fp s2 H2
 have he' : PE X' elt te := by rw [<- hX']; exact he cs C fp s2 H2
 have stat : ∀ {H' : Hp} {P : List (Addr × Obj)}, X'.Ok -> (∀ b ∈ fp, H' b = none) -> (∀ p ∈ P, p.1 = l) -> ∀ b ∈ fp, mz X' P H' b := λ {H' P} ok hn hP b hb => by
  refine ⟨hn b hb, ?_, ?_, .inl (by rw [eEx]; exact hb), ?_, λ p hp => ?_⟩
  .exact (ok.exf b (by rw [eEx]; exact hb)).1
  .exact ok.exfs b (by rw [eEx]; exact hb)
  .exact (ok.exf b (by rw [eEx]; exact hb)).2
  .rw [ePn, List.nil_append] at hp
   rw [hP p hp]
   exact Ne.symm (hfl b hb).1
 have lfs : X'.Ok -> l ∉ X'.fs := λ ok hz => by
  rw [eFs] at hz
  exact (Inv.nofs (X := X) I2 hls) ((List.mem_cons.mp (I2.stkSub l hz)).elim (λ z => absurd I2.lt (by rw [<- z, hl]; exact Nat.lt_irrefl _)) id)
 have pinL : ∀ {σ' : St} {H' : Hp} {s' : Shared} {us : List Value} {k : Nat}, Inv X' [] σ' H' s' -> s'.heap.get? l = some (bN us k) -> H' l = none -> Inv X' [(l, bN us k)] σ' H' s' := λ {σ' H' s' us k} I' e n =>
  I'.pins_of λ p hp => by
   obtain rfl : p = (l, bN us k) := by simpa using hp
   exact ⟨e, n, by rw [eL]; exact hlC, lfs I'.ok, λ v z => by cases z⟩
 have loop : ∀ s3 : Shared, s3 = { s2 with heap := h1 } -> codeAny (model X.prog X.w) X.A (.compLoop (.ListComp elt [⟨tg, iter, ifs, 0⟩] scope pos) 0 (.ref it) (.ref l) X'.env) (compPost (model X.prog X.w) X.A X.xe none (EP X pins σ Q) (.ref l) C) s3 := by
  rintro s3 rfl
  refine vo (E' := λ _ _ => False) (λ n s' => ∃ i ys us k H', Inv X' [] (cU own σ capI) H' s' /\ tn i s'.heap /\ (∀ b ∈ fp, H' b = none) /\ W i n ys H' /\ Vals ys us /\ s'.heap.get? l = some (bN us k) /\ H' l = none /\ ys.length <= sizeLine) (λ _ _ z => z.elim) ?_ m0
   ⟨0, [], [], 0, H2, I0, T.keep _ _ _ st2 λ b _ o e => keep1 b o e, λ b hb => (f2 b hb).1, w0, .nil, hl1, I2.hok.fresh hls, Nat.zero_le _⟩
  rintro n s3 ⟨i, ys, us, k, H3, I3, st3, fr3, w3, v3, o3, n3, z3⟩
  have I3p := pinL I3 o3 n3
  have P1 : ∀ p ∈ [(l, bN us k)], p.1 = l := λ p hp => by
   obtain rfl : p = (l, bN us k) := by simpa using hp
   rfl
  rcases turn i n ys H3 w3 with ⟨stop, qn⟩ | ⟨go, hlt, step⟩
  .have q := T.done X' eP eW eK eC i _ s3 _ H3 (λ _ _ => False) I3p (stat I3.ok fr3 P1) st3 stop
   rw [eA] at q
   refine wpAny_mono q (λ r s4 ⟨hr, I4⟩ => ?_) λ _ _ z => z
   subst hr
   have pl := I4.pin (l, bN us k) (by simp)
   obtain ⟨m4, hn4, _⟩ := I4.loc
   rw [eL] at hn4
   refine ⟨m4, hn4, λ h' sb => ⟨.ref l, upd H3 l (.lst ys), ?_, rfl, qn l n3⟩⟩
   exact I2.compEnd f2 eP eW eFs eEx eS eH eL I4 hls hlC hCs pl.1 n3 v3 z3 sb
  .have q := T.item X' eP eW eK eC i _ s3 _ H3 (λ _ _ => False) I3p (stat I3.ok fr3 P1) st3 go
   rw [eA] at q
   refine wpAny_mono q (λ r s4 ⟨u, hr, h4⟩ => ?_) λ _ _ z => z
   subst hr
   refine wpAny_mono h4 (λ _ s5 ⟨x, H5, I5, r5, y5, st5, fr5⟩ => ?_) λ _ _ z => z
   have I5' := I5.pinned (stat I5.ok fr5 P1) (T.obj _ _ st5)
   have a1 := hg' _ s5 _ H5 x u _ I5' r5 (step x H5 y5)
   rw [eP, eW, eA, eX] at a1
   refine wpAny_mono a1 (λ _ s6 ⟨σ6, H6, I6, ft6, q6⟩ => ?_) λ _ _ z => z
   have a2 := ht' _ s6 σ6 H6 _ I6 q6
   rw [eP, eW, eA, eX] at a2
   refine wpAny_mono a2 (λ ok s7 ⟨H7, I7, q7⟩ => ?_) λ _ _ z => z
   have back : ∀ {H8 : Hp} {s8 : Shared}, Inv X' ([(l, bN us k)] ++ qM fp s5.heap) σ6 H8 s8 -> Inv X' [] (cU own σ capI) H8 s8 /\ tn (i + 1) s8.heap /\ (∀ b ∈ fp, H8 b = none) /\ s8.heap.get? l = some (bN us k) /\ H8 l = none := λ {H8 s8} I8 => by
    have pl := I8.pin (l, bN us k) (by simp)
    refine ⟨(I8.weak ft6.1.symm ft6.2).pins_of λ p hp => absurd hp (by simp), T.keep _ _ _ st5 λ b hb o e => ?_, λ b hb => ?_, pl.1, pl.2.1⟩
    .exact (I8.pin (b, o) (List.mem_append_right _ (List.mem_append_right _ (fZ hb e)))).1
    .obtain ⟨o, e, d⟩ := T.obj _ _ st5 b hb
     exact (I8.pin (b, o) (List.mem_append_right _ (List.mem_append_right _ (fZ hb e)))).2.1
   cases ok with
   | false =>
    rw [if_neg Bool.false_ne_true]
    rw [if_neg Bool.false_ne_true] at q7
    obtain ⟨m', hm, w7⟩ := q7
    obtain ⟨I8, st8, fr8, o8, n8⟩ := back I7
    exact ⟨m', hm, i + 1, ys, us, k, H7, I8, st8, fr8, w7, v3, o8, n8, z3⟩
   | true =>
    rw [if_pos rfl]
    rw [if_pos rfl] at q7
    have a3 := he' _ s7 σ6 H7 _ I7 q7
    rw [eP, eW, eA, eX] at a3
    refine wpAny_mono a3 (λ yv s8 ⟨y, H8, I8', r8, m', hm, w8⟩ => ?_) λ _ _ z => z
    obtain ⟨I8, st8, fr8, o8, n8⟩ := back I8'
    refine append_at (hsz := by show us.toArray.size <= sizeLine; rw [List.size_toArray, <- v3.length]; exact z3) o8 λ h9 sb9 o9 => ?_
    have I9 : Inv X' [] (cU own σ capI) H8 { s8 with heap := h9 } := I8.turned (t' := s8.toks) (λ b o hb e => (sb9.2 b hb).trans e) n8 (by rw [eL]; exact hlC) (.inr (by rw [eS]; exact hls)) (λ x c e => by
     rintro rfl
     obtain ⟨v', ho', hd', hd''⟩ := I8.cell x c e
     rw [o8] at hd'
     cases hd'
     cases hd'') (λ p hp => by rw [ePn] at hp; exact absurd hp (by simp))
    refine ⟨m', hm, i + 1, ys ++ [y], us ++ [yv], k + 1, H8, I9, T.keep _ _ _ st8 λ b hb o e => (sb9.2 b (hfl b hb).1).trans e, fr8, w8, v3.append (.cons r8 .nil), ?_, n8, ?_⟩
    .rw [o9]
     simp [bN]
    .rw [List.length_append]
     exact hlt
 have T0 := T.keep 0 s2.heap h1 st2 λ b _ o e => keep1 b o e
 rw [henv2]
 exact codeAny_compStart_list (loop _ rfl) (T.self X.A 0 _ _ _ T0 (loop _ rfl))
end
def cI (M : Model) (A : Around) (c : Code) (t : Sem Fin) (fs : List Frame) (s : Shared) (Φ : End -> Shared -> Prop) : Prop :=
 ∀ Γ p, Γ.code = c -> Γ.Woken A -> ∃ e s', Runs M Γ p t fs s e s' /\ Φ e s'
section
variable {M : Model} {A : Around} {c : Code} {fs : List Frame} {s : Shared} {Φ : End -> Shared -> Prop}
theorem cI.wrap {α : Type} {m : Sem α} {K : α -> Sem Fin} {H : Value -> Sem Fin} {gd : Bool -> Bool} {lv : List Value -> List Value}
  (h : wpAny M (A.over c fs) m (λ a s' => cI M A c (K a) fs s' Φ) (λ x s' => cI M A c (H x) fs s' Φ) s) : cI M A c (m.wrap K H gd lv) fs s Φ := by
 rintro Γ p rfl hΓ
 exact runs_wrap_of_wp K H gd lv m (h (Γ.over fs) p (hΓ.over fs)) (λ a p' s' h' => h' Γ p' rfl hΓ) (λ x p' s' h' => h' Γ p' rfl hΓ)
theorem cI.bindWrap {α β : Type} {m : Sem α} {K : α -> Sem β} {K' : β -> Sem Fin} {H' : Value -> Sem Fin} {gd : Bool -> Bool} {lv : List Value -> List Value}
  (h : wpAny M (A.over c fs) m (λ a s' => cI M A c ((K a).wrap K' H' gd lv) fs s' Φ) (λ x s' => cI M A c (H' x) fs s' Φ) s) : cI M A c ((m >>= K).wrap K' H' gd lv) fs s Φ := by
 rw [Sem.bind_eq_wrap', Sem.wrap_wrap]; exact cI.wrap h
theorem cI.at {p' : Pos} {k : Unit -> Sem Fin} (h : cI M A c (k ()) fs s Φ) : cI M A c (.at p' k) fs s Φ :=
 cI.wrap (m := standAt p') (K := k) (H := .raise) (gd := id) (lv := id) (wpAny_standAt h)
theorem cI.again {c' : Code} (hq : c'.quiet = true) (hc : cI M A c' (M.den c') fs s Φ) : cI M A c (.pure (.again c')) fs s Φ := by
 rintro Γ p rfl hΓ
 obtain ⟨e, s', hr, he⟩ := hc (Γ.goto c') p rfl (hΓ.goto c')
 exact ⟨e, s', Runs.head (c₁ := c') (λ _ _ x => .again hq x) hr, he⟩
theorem cI.end (r : Result) (h : Φ (.ret r) s) : cI M A c (leafOf r) [] s Φ := by
 rintro Γ p rfl _
 exact ⟨.ret r, s, Runs.leaf r, h⟩
theorem cI.yield {v : Value} {g : Bool} {l : List Value} {k : Resume -> Sem Fin} (hfs : splitAtGen fs = none) (h : ∀ p, Φ (.susp v g l k c p fs) s) : cI M A c (.yield v g l k) fs s Φ := by
 rintro Γ p rfl _
 exact ⟨_, s, Runs.yield' fs hfs, h p⟩
def JM (M : Model) (A : Around) (gs : GenState) (s : Shared) (Φ : End -> Shared -> Prop) : Prop :=
 match gs with
 | .fresh c => cI M A c (M.den c) [] s Φ
 | .suspended k _ c _ fs _ => cI M A c (k (.send .none)) fs s Φ
 | _ => False
theorem Je {E : Value -> Shared -> Prop} {g : Nat} {gs : GenState} {l : List Value} {α : Type} {k : GenResult -> Sem α} {Q : α -> Shared -> Prop} (hg : s.gens[g]? = some gs)
  (hgo : JM M A gs (s.setGen g .running) Φ) (hq : ∀ e s₁, Φ e s₁ -> e.quiet = true) (hΦ : ∀ e s₁, Φ e s₁ -> wpAny M A (k e.result) Q E (s₁.setGen g e.genState)) :
  wpAny M A (.resume g (.send .none) l k) Q E s := by
 intro Γ p hΓ
 rw [Sem.wp_resume]
 have hB : ∀ c, (Γ.wake c p).Woken A := λ c => hΓ.wake c p
 cases gs with
 | fresh c =>
  obtain ⟨e₁, s₁, hr, he⟩ := hgo (Γ.wake c p) p rfl (hB c)
  exact ⟨_, _, by unfold Wakes; rw [hg]; exact ⟨e₁, s₁, hr, hq e₁ s₁ he, rfl, rfl⟩, hΦ e₁ s₁ he Γ p hΓ⟩
 | suspended k₀ l₀ c₀ p₀ fs₀ cl =>
  obtain ⟨e₁, s₁, hr, he⟩ := hgo (Γ.wake c₀ p) p₀ rfl (hB c₀)
  exact ⟨_, _, by unfold Wakes; rw [hg]; exact ⟨e₁, s₁, hr, hq e₁ s₁ he, rfl, rfl⟩, hΦ e₁ s₁ he Γ p hΓ⟩
 | running => exact hgo.elim
 | finished => exact hgo.elim
end
section
variable {prog : Program} {w : World} {A : Around} {E : Value -> Shared -> Prop} {s : Shared} {Φ : End -> Shared -> Prop}
theorem qZ {a : Addr} {g : Nat} {gs : GenState} {Q : Option Value -> Shared -> Prop} (hh : A.handled = none) (hl : s.heap.NoLimit) (hroom : A.depth < recursionLimit)
  (hg : s.heap.IsGen a g) (hgs : s.gens[g]? = some gs) (hgo : JM (model prog w) A.in1 gs (s.setGen g .running) Φ) (hq : ∀ e s₁, Φ e s₁ -> e.quiet = true)
  (hΦ : ∀ e s₁, Φ e s₁ -> (∃ v gd l k c p fs, e = .susp v gd l k c p fs /\ Q (some v) (s₁.setGen g e.genState)) ∨
   (e = .ret (.ok .next) /\ ∀ h', (∀ b o, s₁.heap.get? b = some o -> h'.get? b = some o) -> Q none { s₁.setGen g .finished with heap := h' })) :
  wpAny (model prog w) A (pyNext (.ref a)) Q E s := by
 unfold pyNext
 refine wpAny_bind (wpAny_attempt (wpAny_callSpecial?_slot (name := Str.ofString "__next__") hg.typeIs slot_gen_next
  (wpAny_call_entry slot_gen_next hg.typeIs entry_gen_next ?_ (args_gen_next _))))
 show wpAny _ A.in1 (Builtin.Generator.genWake (.ref a) (.send .none)) _ _ s
 unfold Builtin.Generator.genWake
 refine wpAny_bind (wpAny_holding (wpAny_genNumber hg (wpAny_bind (wpAny_genState hgs ?_))))
 cases gs with
 | running => exact hgo.elim
 | finished => exact hgo.elim
 | _ =>
  refine wpAny_bind (wpAny_roomToWake hl hroom ?_)
  show wpAny _ A.in1 (.resume g (.send .none) [] _) _ _ s
  refine Je hgs hgo hq λ e s₁ he => ?_
  rcases hΦ e s₁ he with ⟨v, gd, l, k, c, p, fs, rfl, hQ⟩ | ⟨rfl, hP⟩
  .exact wpAny_pure ⟨v, rfl, wpAny_pure hQ⟩
  .show wpAny _ A.in1 (newExc (.type "StopIteration") [] >>= _) _ _ _
   refine wpAny_bind ?_
   simp only [newExc, newTuple]
   refine wpAny_bind (wpAny_newObj_type ?_ (by size_fits))
   refine wpAny_bind (m := firstArgMember _ _) (wpAny_of_eq (a := Value.none) (by first | rfl | (simp only [firstArgMember]; rfl)) ?_)
   refine wpAny_newObj_type ?_ (by size_fits)
   simp only [raiseNew]
   refine wpAny_bind (wpAny_bind (wpAny_handled ?_))
   first | rw [show A.in1.handled = none from hh] | rw [hh]
   refine wpAny_throw ?_
   refine wpAny_bind (wpAny_isInstance (T := "StopIteration") (b := true) ⟨_, Heap.get?_push_size _ rfl, rfl⟩ isSubtype_stop ?_)
   exact wpAny_pure (hP _ λ b o hb => Heap.get?_push_of_some _ (Heap.get?_push_of_some _ hb))
end
def uh (X : Cx) (AG : Around) (own cap : List Str) (scope : Scope) (cs : List (Str × Addr)) (C : Addr) (code : Value) (fp : List Addr) (s2 : Shared) (H2 : Hp) : Cx where
 prog := X.prog
 w := X.w
 K := X.K
 mg := X.mg
 base := X.base
 A := AG
 N := own ++ cap
 s₀ := { s2 with gens := s2.gens.push .running }
 H₀ := H2
 env := genEnv scope cs C code builtinsNs X.env
 outer := X.stack
 stack := genEnv scope cs C code builtinsNs X.env :: X.stack
 ex := fp
 fn := λ x => own.contains x
 calm := true
 pn := []
 xe := λ _ _ => False
section
variable {X : Cx} {pins : List (Addr × Obj)} {σ : St} {H : Hp} {s : Shared} {own cap : List Str} {capI : List Nat} {scope : Scope}
theorem Inv.gen {AG : Around} {fp : List Addr} {h1 : Heap} {C : Addr} {tk : Nat} {code : Value} {m : Str -> Option Value} (I : Inv X pins σ H s) (B : gw X own cap capI scope) (hown : ∀ x ∈ own, (x, NameKind.free) ∉ scope.names) (hnc : ∀ y ∈ scope.names, y.2 ≠ .cell)
  (hf : ∀ b ∈ fp, mz X pins H b) (ho : ∀ b ∈ fp, ∃ o, s.heap.get? b = some o)
  (keep : ∀ b o, s.heap.get? b = some o -> h1.get? b = some o) (hCs : s.heap.objs.size <= C) (hm : h1.Ns C m) (hAf : AG.frames = some (genEnv scope (cV X.env scope.names []) C code builtinsNs X.env :: X.stack)) (hAh : AG.handled = none) :
  Inv (uh X AG own cap scope (cV X.env scope.names []) C code fp s H) [] (cU own σ capI) H { s with heap := h1, toks := tk, gens := s.gens.push .running } := by
 have clo_old : ∀ p ∈ cV X.env scope.names [], X.env.cells.lookup p.1 = some p.2 := λ p hp => (nR hp).elim (λ z => by simp at z) id
 have old_lt : ∀ x c, X.env.cells.lookup x = some c -> c < s.heap.objs.size := λ x c e => let ⟨v, q⟩ := I.cell x c e; q.lt
 have csm : ∀ x c, (cV X.env scope.names []).lookup x = some c -> X.env.cells.lookup x = some c /\ c < s.heap.objs.size := λ x c e => by
  have q := clo_old _ (PySem.mem_of_lookup e)
  exact ⟨q, old_lt _ _ q⟩
 have fresh : ∀ b, s.heap.objs.size <= b -> H b = none := λ b hb => I.hok.fresh hb
 have brun : AllBare (s.gens.push .running) := AllBare.push I.bare.bare rfl
 refine ⟨⟨I.ok.mod, ?_, I.ok.glob, rfl, hCs, ?_, ?_, ?_, λ _ => hAh, hAf, .inr ⟨rfl, rfl⟩, ?_, I.bs, Nat.le_trans I.ok.bsz I.sz, ?_, ?_, I.stack, I.stkFree⟩, rfl, GK.refl brun, Un.kept keep, ?_, ?_, fresh C hCs, ?_, ?_, I.hok.kept keep, ?_⟩
 .exact B.kind
 .intro x y c e1 e2
  exact I.ok.inj x y c (csm x c e1).1 (csm y c e2).1
 .intro x hx
  have hx' : scope.names.lookup x = some .cell ∨ scope.names.lookup x = some .free := hx
  rcases hx' with e | e
  .exact absurd rfl (hnc _ (PySem.mem_of_lookup e))
  .have q := PySem.mem_of_lookup e
   obtain ⟨c, hc⟩ := B.cells I _ q rfl
   exact ⟨c, mL hc (.inl q)⟩
 .intro x c hx e
  exfalso
  have hxo : x ∈ own := by simpa [uh] using hx
  have nf := hown x hxo
  have q : (cV X.env scope.names []).lookup x = none := by
   rw [qN λ k hk => by rintro rfl; exact nf hk]; rfl
  have e' : (cV X.env scope.names []).lookup x = some c := e
  rw [q] at e'; cases e'
 .intro b hb
  obtain ⟨o, hbo⟩ := ho b hb
  have hlt := Heap.lt_size hbo
  exact ⟨Nat.ne_of_lt (Nat.lt_of_lt_of_le hlt hCs), λ x c e => (hf b hb).2.2.2.2.1 x c (csm x c e).1⟩
 .intro b o e hb
  rcases (hf b hb).2.2.2.1 with z | z
  .exact I.ok.noex b o e z
  .exact absurd (Nat.lt_of_lt_of_le (Heap.lt_size e) (Nat.le_trans I.ok.bsz z)) (Nat.lt_irrefl _)
 .intro b hb hz
  rcases List.mem_cons.mp (I.stkSub b hz) with z | z
  .exact (hf b hb).2.1 z
  .exact (hf b hb).2.2.1 z
 .obtain ⟨m', hn, hl⟩ := I.loc
  refine ⟨m, hm, λ i x v e1 e2 hv => ?_⟩
  have e2' : (cU own σ capI)[i]? = some (some v) := e2
  have e1' : (own ++ cap)[i]? = some x := e1
  unfold cU at e2'
  by_cases hi : i < own.length
  .rw [List.getElem?_append_left (by simpa using hi), List.getElem?_replicate] at e2'
   split at e2' <;> cases e2'
  .rw [List.getElem?_append_right (by simpa using hi)] at e2'
   rw [List.getElem?_append_right (by simpa using hi)] at e1'
   rw [List.length_replicate] at e2'
   obtain ⟨i0, q1, q2⟩ := uM e2'
   obtain ⟨y, q3, q4, q5⟩ := B.caps.get q1
   rw [e1'] at q3
   cases q3
   have hxf : (x, NameKind.free) ∈ scope.names := B.cfr x (List.mem_of_getElem? e1')
   have vis : Vis X.env.scope x := by
    rcases q5 with q5 | q5
    .exact .inr (.inl q5)
    .exact .inr (.inr q5)
   obtain ⟨u, ru, lk⟩ := hl i0 x v q4 q2 vis
   refine ⟨u, ru, .inr ⟨.inr (eG B.nd hxf), ?_⟩⟩
   rcases lk with ⟨k, _⟩ | ⟨_, c, ec, hc⟩
   .rcases q5 with q5 | q5 <;> rw [k] at q5 <;> cases q5
   .exact ⟨c, mL ec (.inl hxf), hc.keeps keep⟩
 .intro x c e
  obtain ⟨v, q⟩ := I.cell x c (csm x c e).1
  exact ⟨v, q.keeps keep⟩
 .intro x c e
  exact I.freeC x c (csm x c e).1
 .intro p hp
  exact absurd (show p ∈ ([] : List (Addr × Obj)) from hp) (by simp)
 .show (cU own σ capI).length = (own ++ cap).length
  unfold cU rY
  rw [List.length_append, List.length_append, List.length_replicate, List.length_map, B.caps.length]
end
abbrev Bq (elt tg iter : Expr) (scope : Scope) (pos : Pos) : Expr := .GeneratorExp elt [⟨tg, iter, [], 0⟩] scope pos
abbrev jK (elt tg iter : Expr) (scope : Scope) (pos : Pos) (it : Addr) (cenv : Env) : Code := .compLoop (Bq elt tg iter scope pos) 0 (.ref it) .none cenv
abbrev genS (elt tg iter : Expr) (scope : Scope) (pos : Pos) (it : Addr) (cenv : Env) : Code := .compStart (Bq elt tg iter scope pos) 0 (.ref it) .none cenv
section
variable {X' : Cx} {A1 : Around} {elt tg iter : Expr} {scope : Scope} {pos : Pos} {it : Addr} {fp : List Addr} {tn : Nat -> Heap -> Prop} {J : It} {σb : St} {g : TG} {te : TE}
theorem Fb (T : Turn X'.prog X'.w X'.K tg J fp it tn) (hA : X'.A = A1.over (jK elt tg iter scope pos it X'.env) []) (hc : X'.calm = true) (hex : X'.ex = fp) (hpn : X'.pn = []) (hco : X'.env.scope.isCoroutine = false)
  (hxe : X'.xe = λ _ _ => False) (hg : PG X' tg g) (he : PE X' elt te) {i : Nat} {H : Hp} {s : Shared} {Q : VK} {P : List (Addr × Obj)} (hP : ∀ p ∈ P, p.1 ∉ fp) (I : Inv X' P σb H s) (st : tn i s.heap) (fr : ∀ b ∈ fp, H b = none)
  (go : J.go i H) (step : ∀ x H', J.yld i H x H' -> g x σb H' λ σ2 H2 => Fits σb σ2 /\ te σ2 H2 Q) :
  cI (model X'.prog X'.w) A1 (jK elt tg iter scope pos it X'.env) ((model X'.prog X'.w).den (jK elt tg iter scope pos it X'.env)) [] s λ e s' =>
   ∃ v k p y H', e = .susp v false [] k (jK elt tg iter scope pos it X'.env) p [] /\ k (.send .none) = .pure (.again (jK elt tg iter scope pos it X'.env)) /\ RelV y v /\ Q y H' /\ Inv X' P σb H' s' /\ tn (i + 1) s'.heap /\ ∀ b ∈ fp, H' b = none := by
 have stat : ∀ {H' : Hp}, X'.Ok -> (∀ b ∈ fp, H' b = none) -> ∀ b ∈ fp, mz X' P H' b := λ {H'} ok hn b hb =>
  ⟨hn b hb, (ok.exf b (by rw [hex]; exact hb)).1, ok.exfs b (by rw [hex]; exact hb), .inl (by rw [hex]; exact hb), (ok.exf b (by rw [hex]; exact hb)).2, λ p hp e => by rw [hpn] at hp; exact hP p hp (e ▸ hb)⟩
 show cI _ A1 _ ((compTurn (Bq elt tg iter scope pos) 0 (.ref it) .none X'.env).onRaise (leaving X'.env)) [] s _
 rw [compTurn_gen, Sem.onRaise_eq_wrap]
 refine cI.bindWrap (wpAny_standAt ?_)
 have q := T.item X' rfl rfl rfl hc i P s σb H (λ _ _ => False) I (stat I.ok fr) st go
 rw [hA] at q
 refine cI.bindWrap (wpAny_mono q (λ r s1 ⟨u, hr, h1⟩ => ?_) λ _ _ z => z.elim)
 subst hr
 refine cI.bindWrap (wpAny_mono h1 (λ _ s2 ⟨x, H2, I2, r2, y2, st2, fr2⟩ => ?_) λ _ _ z => z.elim)
 have I2' := I2.pinned (stat I2.ok fr2) (T.obj _ _ st2)
 have a1 := hg _ s2 σb H2 x u _ I2' r2 (step x H2 y2)
 rw [hA, hxe] at a1
 refine cI.bindWrap (wpAny_mono a1 (λ _ s3 ⟨σ3, H3, I3, ft3, q3⟩ => ?_) λ _ _ z => z.elim)
 refine cI.bindWrap (wpAny_tests_nil ?_)
 simp only [if_true]
 have hy : ∀ v, yieldOut X'.env v = yieldValue v := λ v => by simp only [yieldOut, hco, Bool.false_eq_true, if_false]
 simp only [hy]
 rw [Sem.bind_eq_wrap', Sem.bind_eq_wrap', Sem.wrap_wrap, Sem.wrap_wrap]
 have a2 := he _ s3 σ3 H3 _ I3 q3
 rw [hA, hxe] at a2
 refine cI.wrap (wpAny_mono a2 (λ v s4 ⟨y, H4, I4, r4, q4⟩ => ?_) λ _ _ z => z.elim)
 refine cI.at (cI.yield rfl λ p => ⟨v, _, p, y, H4, rfl, rfl, r4, q4, (I4.weak ft3.1.symm ft3.2).unpinned, T.keep _ _ _ st2 λ b hb o e => ?_, λ b hb => ?_⟩)
 .exact (I4.pin (b, o) (List.mem_append_right _ (List.mem_append_right _ (fZ hb e)))).1
 .obtain ⟨o, e, d⟩ := T.obj _ _ st2 b hb
  exact (I4.pin (b, o) (List.mem_append_right _ (List.mem_append_right _ (fZ hb e)))).2.1
theorem Gr (T : Turn X'.prog X'.w X'.K tg J fp it tn) (hA : X'.A = A1.over (jK elt tg iter scope pos it X'.env) []) (hc : X'.calm = true) (hex : X'.ex = fp) (hpn : X'.pn = [])
  {i : Nat} {H : Hp} {s : Shared} {P : List (Addr × Obj)} (hP : ∀ p ∈ P, p.1 ∉ fp) (I : Inv X' P σb H s) (st : tn i s.heap) (fr : ∀ b ∈ fp, H b = none) (stop : J.stop i H) :
  cI (model X'.prog X'.w) A1 (jK elt tg iter scope pos it X'.env) ((model X'.prog X'.w).den (jK elt tg iter scope pos it X'.env)) [] s λ e s' => e = .ret (.ok .next) /\ Inv X' P σb H s' := by
 have stat : ∀ b ∈ fp, mz X' P H b := λ b hb =>
  ⟨fr b hb, (I.ok.exf b (by rw [hex]; exact hb)).1, I.ok.exfs b (by rw [hex]; exact hb), .inl (by rw [hex]; exact hb), (I.ok.exf b (by rw [hex]; exact hb)).2, λ p hp e => by rw [hpn] at hp; exact hP p hp (e ▸ hb)⟩
 show cI _ A1 _ ((compTurn (Bq elt tg iter scope pos) 0 (.ref it) .none X'.env).onRaise (leaving X'.env)) [] s _
 rw [compTurn_gen, Sem.onRaise_eq_wrap]
 refine cI.bindWrap (wpAny_standAt ?_)
 have q := T.done X' rfl rfl rfl hc i P s σb H (λ _ _ => False) I stat st stop
 rw [hA] at q
 refine cI.bindWrap (wpAny_mono q (λ r s1 ⟨hr, I1⟩ => ?_) λ _ _ z => z.elim)
 subst hr
 exact cI.end (.ok .next) ⟨rfl, I1⟩
theorem vf {A0 : Around} {P : Program} {w : World} {K : PySem.W.Frag} {cenv : Env} {Φ : End -> Shared -> Prop} {s : Shared} {i : Nat} (T : Turn P w K tg J fp it tn) (st : tn i s.heap)
  (h : cI (model P w) A0 (jK elt tg iter scope pos it cenv) ((model P w).den (jK elt tg iter scope pos it cenv)) [] s Φ) :
  cI (model P w) A0 (genS elt tg iter scope pos it cenv) ((model P w).den (genS elt tg iter scope pos it cenv)) [] s Φ := by
 show cI _ A0 _ ((compStart (Bq elt tg iter scope pos) 0 (.ref it) .none cenv).onRaise (leaving cenv)) [] s _
 unfold compStart
 rw [Sem.onRaise_eq_wrap]
 show cI _ A0 _ ((ask >>= _).wrap _ _ _ _) [] s _
 refine cI.bindWrap (wpAny_askSetting ?_)
 split
 .exact cI.again rfl h
 .first
   | exact cI.bindWrap (wpAny_rule (cI.bindWrap (wpAny_standAt (cI.bindWrap (T.self _ i s _ _ st (cI.again rfl h))))))
   | (refine cI.bindWrap (wpAny_rule ?_); show cI _ A0 _ ((standAt iter.pos >>= _).wrap _ _ _ _) [] s _; exact cI.bindWrap (wpAny_standAt (cI.bindWrap (T.self _ i s _ _ st (cI.again rfl h)))))
end
structure oW where
 nxt : Nat -> Hp -> (V -> Hp -> Prop) -> Prop
 fin : Nat -> Hp -> Prop
structure yH (X : Cx) (pins : List (Addr × Obj)) (σ : St) (A' : Around) (it : Addr) (lo : Nat) (S : oW) (SS : List (Addr × Obj) -> Nat -> Hp -> Shared -> Prop) : Prop where
 inv : ∀ {P i H s}, SS P i H s -> Inv X (pins ++ P) σ H s
 next : ∀ {P i H s Q} (E : Value -> Shared -> Prop), SS P i H s -> S.nxt i H Q -> wpAny (model X.prog X.w) A' (pyNext (.ref it)) (λ r s1 => ∃ u y H', r = some u /\ RelV y u /\ Q y H' /\ SS P (i + 1) H' s1) E s
 stop : ∀ {P i H s} (E : Value -> Shared -> Prop), SS P i H s -> S.fin i H -> wpAny (model X.prog X.w) A' (pyNext (.ref it)) (λ r s1 => r = none /\ Inv X (pins ++ P) σ H s1) E s
 keep : ∀ {P i H s h' tk}, SS P i H s -> (∀ b o, s.heap.get? b = some o -> h'.get? b = some o) -> SS P i H { s with heap := h', toks := tk }
 pin : ∀ {P i H s D o}, SS P i H s -> lo <= D -> s.heap.get? D = some o -> H D = none -> (∀ v, o.data ≠ .cell v) -> SS ((D, o) :: P) i H s
 unpin : ∀ {p P i H s}, SS (p :: P) i H s -> SS P i H s
 acc : ∀ {P i H s h' tk D}, SS P i H s -> lo <= D -> H D = none -> (∀ p ∈ P, p.1 ≠ D) -> (∀ b o, b ≠ D -> s.heap.get? b = some o -> h'.get? b = some o) -> SS P i H { s with heap := h', toks := tk }
def Ready (X : Cx) (pins : List (Addr × Obj)) (σ : St) (S : oW) (v : Value) (H : Hp) (s : Shared) : Prop :=
 ∀ (A' : Around) (E : Value -> Shared -> Prop), A'.handled = none -> A'.frames = some X.stack -> A'.depth <= X.A.depth + 1 -> A'.units <= X.A.units + 8 ->
  wpAny (model X.prog X.w) A' (pyIter v) (λ itv s2 => ∃ it lo SS, itv = .ref it /\ yH X pins σ A' it lo S SS /\ SS [] 0 H s2 /\ lo <= s2.heap.objs.size) E s
abbrev rC := St -> Hp -> (oW -> Hp -> Prop) -> Prop
def zG (X : Cx) (e : Expr) (ts : rC) : Prop :=
 ∀ (pins : List (Addr × Obj)) (s : Shared) (σ : St) (H : Hp) (R : oW -> Hp -> Prop), Inv X pins σ H s -> ts σ H R ->
  wpAny (model X.prog X.w) X.A (eval e X.env) (λ v s1 => ∃ S H1, Inv X pins σ H1 s1 /\ Ready X pins σ S v H1 s1 /\ R S H1) X.xe s
def Ms (X : Cx) (pins : List (Addr × Obj)) (σ : St) (S : oW) (a : Addr) (H : Hp) (s : Shared) : Prop :=
 ∀ (A' : Around), A'.handled = none -> A'.frames = some X.stack -> A'.depth <= X.A.depth + 1 -> A'.units <= X.A.units + 8 ->
  ∃ lo SS, yH X pins σ A' a lo S SS /\ SS [] 0 H s /\ a < lo /\ lo <= s.heap.objs.size /\ ∀ P i H s, SS P i H s -> ∃ g, s.heap.IsGen a g
def uU (X : Cx) (e : Expr) (ts : rC) : Prop :=
 ∀ (pins : List (Addr × Obj)) (s : Shared) (σ : St) (H : Hp) (R : oW -> Hp -> Prop), Inv X pins σ H s -> ts σ H R ->
  wpAny (model X.prog X.w) X.A (eval e X.env) (λ v s1 => ∃ a S H1, v = .ref a /\ Inv X pins σ H1 s1 /\ Ms X pins σ S a H1 s1 /\ R S H1) X.xe s
theorem yM {X : Cx} {e : Expr} {ts : rC} (h : uU X e ts) : zG X e ts := by
 intro pins s σ H R I hq
 refine thn (h pins s σ H R I hq) λ v s1 ⟨a, S, H1, e, I1, rdy, r⟩ => ⟨S, H1, I1, ?_, r⟩
 subst e
 intro A' E h1 h2 h3 h4
 obtain ⟨lo, SS, sm, s0, _, hl, hg⟩ := rdy A' h1 h2 h3 h4
 obtain ⟨g, ig⟩ := hg _ _ _ _ s0
 exact wpAny_pyIter_gen ig ⟨a, lo, SS, rfl, sm, s0, hl⟩
section
variable {X : Cx} {pins : List (Addr × Obj)} {σ : St} {H : Hp} {s : Shared}
theorem Inv.grown {h' : Heap} {g' : Array GenState} {tk : Nat} (I : Inv X pins σ H s) (k : ∀ b o, s.heap.get? b = some o -> h'.get? b = some o) (hg : GK s.gens g') : Inv X pins σ H { s with heap := h', gens := g', toks := tk } :=
 I.call (ch := []) (g' := g') (t' := tk) (d' := s.drawn) (Un.kept k) (I.hok.kept k) hg λ b hb => absurd hb (by simp)
theorem Inv.more {Q : List (Addr × Obj)} (I : Inv X pins σ H s) (h : ∀ p ∈ Q, s.heap.get? p.1 = some p.2 /\ H p.1 = none /\ p.1 ≠ X.env.locals /\ p.1 ∉ X.fs /\ ∀ v, p.2.data ≠ .cell v) : Inv X (pins ++ Q) σ H s :=
 I.pins_of λ p hp => (List.mem_append.mp hp).elim (λ z => I.pin p (List.mem_append_right _ z)) (h p)
theorem Inv.tbl {P : Addr} {ps ps' : Array Value} {h' : Heap} {tk : Nat} (I : Inv X pins σ H s) (hP : H P = some (.tbl ps)) (hm : ∃ more, ps' = ps ++ more) (k : ∀ b o, b ≠ P -> s.heap.get? b = some o -> h'.get? b = some o)
  (ho : h'.get? P = some { cls := .none, data := .fields ps' }) : Inv X pins σ (upd H P (.tbl ps')) { s with heap := h', toks := tk } := by
 have nP : ∀ b, H b = none -> b ≠ P := λ b e z => by rw [z, hP] at e; cases e
 refine I.un ⟨λ b o e n _ _ => k b o (nP b n) e, λ b o e n _ _ => ⟨o.slots, k b o (nP b n) e⟩, λ b o e n _ => by rw [aV (nP b n)]; exact n, λ b o e _ => ?_, λ b xs e => ?_, λ b o u e => ?_, λ b qs e => ?_⟩ λ a o e => ?_
 .by_cases z : b = P
  .subst z; exact ⟨_, ho⟩
  .exact ⟨o, k b o z e⟩
 .have z : b ≠ P := λ z => by rw [z, hP] at e; cases e
  rw [aV z]; exact e
 .have z : b ≠ P := λ z => by rw [z, hP] at e; cases e
  rw [aV z]; exact e
 .by_cases z : b = P
  .subst z
   rw [hP] at e; cases e
   obtain ⟨more, e⟩ := hm
   exact ⟨more, by rw [gq, e]⟩
  .exact ⟨#[], by rw [aV z, e]; simp⟩
 .by_cases z : a = P
  .subst z
   rw [gq] at e; cases e
   exact ho
  .rw [aV z] at e
   refine (I.hok a o e).stay (λ b u hb q => k b u ?_ q) (λ b q => ?_) λ b xs q => ?_
   .rcases hb with r | r
    .rw [r]; exact z
    .exact λ y => by rw [y, hP] at r; cases r
   .have y : b ≠ P := λ y => by rw [y, hP] at q; cases q
    rw [aV y]; exact q
   .have y : b ≠ P := λ y => by rw [y, hP] at q; cases q
    rw [aV y]; exact q
def Og (H : Hp) (v : Value) : Prop := ∃ c o vs u, v = .ref c /\ H c = some (.frz o (.own 0)) /\ o.data = .fields vs /\ vs[1]? = some u
def TOk (H : Hp) (ps : Array Value) : Prop := TriplesOk ps.toList /\ ∀ pos v, codeAmong pos ps.toList = some v -> Og H v
theorem TOk.mono {H H' : Hp} {ps : Array Value} (h : TOk H ps) (k : ∀ c o, H c = some (.frz o (.own 0)) -> H' c = some (.frz o (.own 0))) : TOk H' ps :=
 ⟨h.1, λ pos v e => let ⟨c, o, vs, u, e1, e2, e3⟩ := h.2 pos v e; ⟨c, o, vs, u, e1, k c o e2, e3⟩⟩
theorem TOk.nil {H : Hp} : TOk H #[] := ⟨by unfold TriplesOk; trivial, λ pos v e => by simp [codeAmong] at e⟩
theorem zp {pos : Pos} {a b : Int} {c v : Value} : ∀ (l : List Value), TriplesOk l -> codeAmong pos (l ++ [rawInt a, rawInt b, c]) = some v -> codeAmong pos l = some v ∨ v = c := λ l h => by
 fun_induction TriplesOk l with
 | case1 =>
  intro e
  right
  simp only [List.nil_append, rawInt, codeAmong] at e
  split at e
  .cases e; rfl
  .cases e
 | case2 line t col u x rest ih =>
  intro e
  simp only [List.cons_append, codeAmong] at e ⊢
  split at e
  .rename_i hc
   left; rw [if_pos hc]; exact e
  .rename_i hc
   rw [if_neg hc]
   exact ih h e
 | case3 => exact h.elim
structure GX (lo : Nat) (P : Addr) (ps ps' : Array Value) (H H' : Hp) : Prop where
 tab : H' P = some (.tbl ps')
 more : ∃ more, ps' = ps ++ more
 ok : TOk H' ps'
 keep : ∀ b o, b ≠ P -> H b = some o -> H' b = some o
 none : ∀ b, b < lo -> H b = none -> H' b = none
theorem Inv.reg {c : Addr} {o : Obj} (I : Inv X pins σ H s) (ho : s.heap.get? c = some o) (hn : H c = none) (hnew : X.s₀.heap.objs.size <= c) (hL : c ≠ X.env.locals) (hc : ∀ x d, X.env.cells.lookup x = some d -> d ≠ c) (hp : ∀ p ∈ X.pn ++ pins, p.1 ≠ c) :
  Inv X pins σ (upd H c (.frz o (.own 0))) s := by
 have ne : ∀ b u, H b = some u -> b ≠ c := λ b u e z => by rw [z, hn] at e; cases e
 refine ⟨I.ok, I.os, I.bare, ⟨I.base.keep, I.base.slot, λ b ob e n hx => ?_, I.base.there, λ b xs e => ?_, λ b ob u e => ?_, λ b ps e => ?_⟩, I.loc, I.cell, ?_, λ x d e => ?_, λ p hp' => ?_, λ a u e => ?_, I.len⟩
 .rw [aV (Nat.ne_of_lt (Nat.lt_of_lt_of_le (Heap.lt_size e) hnew))]; exact I.base.free b ob e n hx
 .have q := I.base.tups b xs e
  rw [aV (ne _ _ q)]; exact q
 .have q := I.base.frzs b ob u e
  rw [aV (ne _ _ q)]; exact q
 .obtain ⟨more, q⟩ := I.base.tbls b ps e
  exact ⟨more, by rw [aV (ne _ _ q)]; exact q⟩
 .rw [aV (Ne.symm hL)]; exact I.free
 .rw [aV (hc x d e)]; exact I.freeC x d e
 .obtain ⟨a, b, r⟩ := I.pin p hp'
  exact ⟨a, by rw [aV (hp p hp')]; exact b, r⟩
 .by_cases z : a = c
  .subst z
   rw [gq] at e; cases e
   exact ⟨ho, o, ho⟩
  .rw [aV z] at e
   exact (I.hok a u e).stay (λ b v _ q => q) (λ b q => by rw [aV (ne _ _ q)]; exact q) λ b xs q => by rw [aV (ne _ _ q)]; exact q
theorem Bs {P c' : Addr} {ps vs : Array Value} {u : Value} {oc : Obj} {h' : Heap} {tk : Nat} {pos : Pos} {G : Prop} (I : Inv X pins σ H s) (hP : H P = some (.tbl ps)) (ht : TOk H ps) (hge : s.heap.objs.size <= c') (hoc : h'.get? c' = some oc) (hdd : oc.data = .fields vs) (hv : vs[1]? = some u)
  (k : ∀ b o, b ≠ P -> s.heap.get? b = some o -> h'.get? b = some o) (ho : h'.get? P = some { cls := .none, data := .fields (ps ++ #[rawInt pos.line, rawInt pos.col, .ref c']) })
  (h : GX s.heap.objs.size P ps (ps ++ #[rawInt pos.line, rawInt pos.col, .ref c']) H (upd (upd H P (.tbl (ps ++ #[rawInt pos.line, rawInt pos.col, .ref c']))) c' (.frz oc (.own 0))) -> Inv X pins σ (upd (upd H P (.tbl (ps ++ #[rawInt pos.line, rawInt pos.col, .ref c']))) c' (.frz oc (.own 0))) { s with heap := h', toks := tk } -> G) : G := by
 have lt := λ {b : Addr} {o : Obj} (e : s.heap.get? b = some o) => Nat.lt_of_lt_of_le (Heap.lt_size e) hge
 have cP : P ≠ c' := Nat.ne_of_lt (lt (I.hok P _ hP))
 have hn : H c' = none := I.hok.fresh hge
 generalize hps : ps ++ #[rawInt pos.line, rawInt pos.col, .ref c'] = ps' at *
 have I1 : Inv X pins σ (upd H P (.tbl ps')) { s with heap := h', toks := tk } := I.tbl hP ⟨_, hps.symm⟩ k ho
 have I2 : Inv X pins σ (upd (upd H P (.tbl ps')) c' (.frz oc (.own 0))) { s with heap := h', toks := tk } := I1.reg hoc (by rw [aV (Ne.symm cP)]; exact hn) (Nat.le_trans I.sz hge) (Nat.ne_of_gt (Nat.lt_of_lt_of_le I.lt hge))
  (λ x d e => by
   obtain ⟨v, o, e2, _⟩ := I.cell x d e
   exact Nat.ne_of_lt (lt e2)) λ p hp => Nat.ne_of_lt (lt (I.pin p hp).1)
 have kp : ∀ b o, b ≠ P -> H b = some o -> upd (upd H P (.tbl ps')) c' (.frz oc (.own 0)) b = some o := λ b o hb e => by
  have hbc : b ≠ c' := λ z => by rw [z, hn] at e; cases e
  rw [aV hbc, aV hb]; exact e
 refine h ⟨by rw [aV cP, gq], ⟨_, hps.symm⟩, ⟨?_, λ p v e => ?_⟩, kp, λ b hb e => ?_⟩ I2
 .rw [<- hps]
  have hl : (ps ++ #[rawInt pos.line, rawInt pos.col, Value.ref c']).toList = ps.toList ++ [rawInt pos.line, rawInt pos.col, .ref c'] := by simp
  rw [hl]; exact TriplesOk_snoc _ _ _ _ ht.1
 .rw [<- hps] at e
  have hl : (ps ++ #[rawInt pos.line, rawInt pos.col, Value.ref c']).toList = ps.toList ++ [rawInt pos.line, rawInt pos.col, .ref c'] := by simp
  rw [hl] at e
  rcases zp _ ht.1 e with e | e
  .obtain ⟨c, o, ws, w, q1, q2, q3⟩ := ht.2 p v e
   exact ⟨c, o, ws, w, q1, kp c _ (λ z => by rw [z, hP] at q2; cases q2) q2, q3⟩
  .exact ⟨c', oc, vs, u, e, gq, hdd, hv⟩
 .have hbc : b ≠ c' := Nat.ne_of_lt (Nat.lt_of_lt_of_le hb hge)
  have hbP : b ≠ P := λ z => by rw [z, hP] at e; cases e
  rw [aV hbc, aV hbP]; exact e
theorem Qe {c P : Addr} {ps : Array Value} {pos : Pos} {q : Str} {scope : Scope} {Q : Value -> Shared -> Prop} {A : Around} {E : Value -> Shared -> Prop} (I : Inv X pins σ H s) (hc : X.env.code = .ref c) (hd : PySem.W.CodeHd X.base c P) (hP : H P = some (.tbl ps)) (ht : TOk H ps)
  (h : ∀ code s' H' ps', GX s.heap.objs.size P ps ps' H H' -> Inv X pins σ H' s' -> s'.gens = s.gens -> (∀ b o, b ≠ P -> s.heap.get? b = some o -> s'.heap.get? b = some o) -> Q code s') :
  wpAny (model X.prog X.w) A (genexprCode X.env pos q scope) Q E s := by
 have hd' : PySem.W.CodeHd s.heap c P := hd.keeps I.bk
 have oP : s.heap.get? P = some (PySem.W.tabObj ps) := I.hok P _ hP
 have hok : s.heap.IsCode c P ps := hd'.code oP ht.1
 have htab : s.heap.TableAt c P ps := hd'.tab oP
 cases hnf : codeAmong pos ps.toList with
 | some cv =>
  obtain ⟨o, vs, file, tf, flags, tg, inF, text, tt, op, ho, hdd, h11, h2, h7, h9, h10, hop, hpd, htr, hne⟩ := id hok
  unfold genexprCode codeAt
  rw [hc, if_neg (show ¬ ((Value.ref c == Value.none) = true) from Bool.false_ne_true)]
  refine wpAny_bind (wpAny_fieldsOf ho hdd ?_)
  rw [h11]
  refine wpAny_bind (wpAny_fieldsOf hop hpd ?_)
  rw [hnf]
  exact wpAny_pure (h cv s H ps ⟨hP, ⟨#[], by simp⟩, ht, λ _ _ _ e => e, λ _ _ e => e⟩ I rfl λ b o _ e => e)
 | none =>
  refine wpAny_genexprCodeX hc hok htab hnf λ c' h' tk hx hge hlt hcode hrec htab' _ => ?_
  obtain ⟨c2, oc, vs, t, e2, hoc, hdd, hv⟩ := hrec
  cases e2
  exact Bs I hP ht hge hoc hdd hv (λ b o hb e => hx b o hb e) htab'.2 λ hG I' => h (.ref c') _ _ _ hG I' rfl λ b o hb e => hx b o hb e
end
def Et (J : It) (g : TG) (te : TE) (σb : St) : oW where
 nxt := λ i H Q => J.go i H /\ ∀ x H', J.yld i H x H' -> g x σb H' λ σ2 H2 => Fits σb σ2 /\ te σ2 H2 Q
 fin := λ i H => J.stop i H
def tGen (own : List Str) (capI : List Nat) (P : Addr) (wi : TI) (g : TG) (te : TE) : rC := λ σ H R => wi σ H λ J H1 => ∃ ps, H1 P = some (.tbl ps) /\ TOk H1 ps /\
 ∀ lo H2 ps', GX lo P ps ps' H1 H2 -> R (Et J g te (cU own σ capI)) H2
theorem yo {A : Around} {elt tg iter : Expr} {scope : Scope} {pos : Pos} {it : Addr} {cenv : Env} {l : List Env} (h : A.frames = some l) : (A.over (jK elt tg iter scope pos it cenv) []).frames = some (cenv :: l) := by
 unfold Around.over
 show pushEnvs (Code.envs (jK elt tg iter scope pos it cenv)) (pushEnvs (envsOf []) A.frames) = _
 rw [h]; rfl
theorem Bp {X : Cx} {A' : Around} {elt tg iter : Expr} {scope : Scope} {pos : Pos} {it : Addr} {cenv : Env} (hh : A'.handled = none) (hd : A'.depth <= X.A.depth + 1) (hu : A'.units <= X.A.units + 8) :
  ∀ k, gQ (k + 1) X.A -> gQ k (A'.in1.over (jK elt tg iter scope pos it cenv) []) := λ k r => by
 have e1 : (A'.in1.over (jK elt tg iter scope pos it cenv) []).depth = A'.depth + 1 := rfl
 have e2 : (A'.in1.over (jK elt tg iter scope pos it cenv) []).units = A'.units + 1 + 3 := rfl
 have e3 : (A'.in1.over (jK elt tg iter scope pos it cenv) []).handled = A'.handled := rfl
 have := r.dp
 have := r.un
 exact ⟨e3.trans hh, by rw [e1]; omega, by rw [e2]; omega⟩
section
variable {X : Cx} {tg iter elt : Expr} {wi : TI} {g : TG} {te : TE} {own cap : List Str} {capI : List Nat} {scope : Scope} {pos : Pos} {P : Addr} {kr : Nat}
theorem Gm (hc : X.calm = true) (hr : gQ kr X.A) (B : gw X own cap capI scope) (hown : ∀ x ∈ own, (x, NameKind.free) ∉ scope.names) (hnc : ∀ y ∈ scope.names, y.2 ≠ .cell) (h0 : scope.names.lookup (".0" : Str) = some NameKind.local)
  (hco : scope.isCoroutine = false) (htb : ∃ c, X.env.code = .ref c /\ PySem.W.CodeHd X.base c P) (hi : PI X tg iter wi) (hg : ∀ AG cs C code fp s2 H2, PG (uh X AG own cap scope cs C code fp s2 H2) tg g)
  (he : ∀ AG cs C code fp s2 H2, (∀ k, gQ (k + 1) X.A -> gQ k AG) -> PE (uh X AG own cap scope cs C code fp s2 H2) elt te) (hs : ∀ x, genFold iter X.env x = pure x := by intro _; rfl) :
  uU X (Bq elt tg iter scope pos) (tGen own capI P wi g te) := by
 intro pins s σ H R I h
 obtain ⟨c, hcode, hhd⟩ := htb
 refine wpAny_GeneratorExp_make hco (kZ (B.cells I)) hnc h0 B.kind hr.depth ?_ hs
 refine thn (hi pins s σ H _ I h) λ v s1 h1 => thn h1 λ itv s2 h2 => ?_
 obtain ⟨it, fp, tn, J, H2, e, I2, T, st2, f2, ps, hP, htr, hR⟩ := h2
 subst e
 refine ⟨I2.nolimit, Qe I2 hcode hhd hP htr λ code s4 H4 ps' hG I4 hgens hk4 => ?_⟩
 obtain ⟨bm, ob, b1, b2, b3, b4, b5, b6⟩ := I4.mod.bmain
 refine wpAny_builtinsFor (bm := bm) (by rw [I4.ok.glob]; exact I4.mod.glob.keeps I4.bk) b1 b2 (I4.bk _ _ b3) b4 b5 b6 ?_
 intro h5 hn5 hs5
 generalize hC : s4.heap.objs.size = C at hn5 hs5 ⊢
 have hCs : s4.heap.objs.size <= C := Nat.le_of_eq hC
 have hR' := hR _ H4 ps' hG
 have k5 : ∀ b o, s4.heap.get? b = some o -> h5.get? b = some o := λ b o e => hs5.extBut b o (Nat.ne_of_lt (Nat.lt_of_lt_of_le (Heap.lt_size e) hCs)) (Heap.get?_push_of_some _ e)
 have sz5 : h5.objs.size = C + 1 := by rw [hs5.1, Heap.size_push, hC]
 generalize ha : h5.objs.size = a
 have hCa : C < a := by rw [<- ha, sz5]; exact Nat.lt_succ_self _
 generalize hgi : s4.gens.size = gi
 generalize hgo : ({ cls := .type "generator", data := .fields #[.int (gi : Int) 0, .str "<genexpr>" (s4.toks + 1), .str (X.env.qual ++ "<genexpr>") (s4.toks + 1 + 1)] } : Obj) = gob
 generalize hh6 : h5.push gob = h6
 have k6 : ∀ b o, h5.get? b = some o -> h6.get? b = some o := λ b o e => by rw [<- hh6]; exact Heap.get?_push_of_some _ e
 have k46 : ∀ b o, s4.heap.get? b = some o -> h6.get? b = some o := λ b o e => k6 b o (k5 b o e)
 have oa6 : h6.get? a = some gob := by rw [<- hh6, <- ha]; refine Heap.get?_push_size _ ?_; rw [<- hgo]; rfl
 have isg : ∀ {h : Heap}, h.get? a = some gob -> h.IsGen a gi := λ {h} e => ⟨gob, .str "<genexpr>" (s4.toks + 1), .str (X.env.qual ++ "<genexpr>") (s4.toks + 1 + 1), e, by rw [<- hgo], by rw [<- hgo], by rw [<- hgo]⟩
 have hfr4 : ∀ b ∈ fp, H4 b = none := λ b hb => let ⟨o, e, _⟩ := T.obj 0 _ st2 b hb; hG.none b (Heap.lt_size e) (f2 b hb).1
 have f4 : ∀ b ∈ fp, mz X pins H4 b := λ b hb => ⟨hfr4 b hb, (f2 b hb).2⟩
 have hbP : ∀ b ∈ fp, b ≠ P := λ b hb z => by have n2 := (f2 b hb).1; rw [z, hP] at n2; cases n2
 have o4 : ∀ b ∈ fp, ∃ o, s4.heap.get? b = some o := λ b hb => let ⟨o, e, _⟩ := T.obj 0 _ st2 b hb; ⟨o, hk4 b o (hbP b hb) e⟩
 have st4 : tn 0 s4.heap := T.keep _ _ _ st2 λ b hb o e => hk4 b o (hbP b hb) e
 have hfa : ∀ b ∈ fp, b ≠ a /\ b ≠ C := λ b hb => let ⟨o, e⟩ := o4 b hb
  have l := Nat.lt_of_lt_of_le (Heap.lt_size e) hCs
  ⟨Nat.ne_of_lt (Nat.lt_trans l hCa), Nat.ne_of_lt l⟩
 generalize hcenv : genEnv scope (cV X.env scope.names []) C code builtinsNs X.env = cenv
 have gk6 : GK s4.gens (s4.gens.push (.fresh (genS elt tg iter scope pos it cenv))) := by
  refine ⟨AllBare.push I4.bare.bare rfl, λ k x e => ?_⟩
  have hlt : k < s4.gens.size := by
   rcases Nat.lt_or_ge k s4.gens.size with z | z
   .exact z
   .rw [Array.getElem?_eq_none z] at e; cases e
  rw [Array.getElem?_push_lt hlt, <- Array.getElem?_eq_getElem hlt]; exact e
 refine ⟨a, Et J g te (cU own σ capI), H4, rfl, I4.grown k46 gk6, ?_, hR'⟩
 intro A' hAh hAf hAd hAu
 have gi6 : (s4.gens.push (.fresh (genS elt tg iter scope pos it cenv)))[gi]? = some (.fresh (genS elt tg iter scope pos it cenv)) := by rw [<- hgi]; simp
 generalize hX' : uh X (A'.in1.over (jK elt tg iter scope pos it cenv) []) own cap scope (cV X.env scope.names []) C code fp s4 H4 = X'
 have eP : X'.prog = X.prog := by rw [<- hX']; rfl
 have eW : X'.w = X.w := by rw [<- hX']; rfl
 have eK : X'.K = X.K := by rw [<- hX']; rfl
 have eFs : X'.fs = frs X.stack := by rw [<- hX']; rfl
 have eEx : X'.ex = fp := by rw [<- hX']; rfl
 have eS : X'.s₀ = { s4 with gens := s4.gens.push .running } := by rw [<- hX']; rfl
 have eH : X'.H₀ = H4 := by rw [<- hX']; rfl
 have eL : X'.env.locals = C := by rw [<- hX']; rfl
 have eC : X'.calm = true := by rw [<- hX']; rfl
 have eX : X'.xe = λ _ _ => False := by rw [<- hX']; rfl
 have ePn : X'.pn = [] := by rw [<- hX']; rfl
 have eE : X'.env = cenv := by rw [<- hX', <- hcenv]; rfl
 have eA : X'.A = A'.in1.over (jK elt tg iter scope pos it X'.env) [] := by rw [eE, <- hX']; rfl
 have eCo : X'.env.scope.isCoroutine = false := by rw [<- hX']; exact hco
 have hg' : PG X' tg g := by rw [<- hX']; exact hg _ _ _ _ _ _ _
 have he' : PE X' elt te := by rw [<- hX']; exact he _ _ _ _ _ _ _ (Bp hAh hAd hAu)
 have T' : Turn X'.prog X'.w X'.K tg J fp it tn := by rw [eP, eW, eK]; exact T
 have pfp : ∀ {Q : List (Addr × Obj)}, (∀ p ∈ Q, a < p.1) -> ∀ p ∈ (a, gob) :: Q, p.1 ∉ fp := λ {Q} hQ p hp hb => by
  obtain ⟨o, e⟩ := o4 _ hb
  have l := Nat.lt_of_lt_of_le (Heap.lt_size e) hCs
  rcases List.mem_cons.mp hp with z | z
  .subst z; exact absurd (Nat.lt_trans l hCa) (Nat.lt_irrefl _)
  .exact absurd (Nat.lt_trans (Nat.lt_trans l hCa) (hQ p z)) (Nat.lt_irrefl _)
 have afs : a ∉ X'.fs := λ hz => by
  rw [eFs] at hz
  have l4 : s4.heap.objs.size <= a := Nat.le_trans hCs (Nat.le_of_lt hCa)
  rcases List.mem_cons.mp (I4.stkSub a hz) with z | z
  .exact absurd I4.lt (by rw [<- z]; exact Nat.not_lt.mpr l4)
  .exact I4.nofs l4 z
 have setg : ∀ (s : Shared) (x : GenState), (s.setGen gi x).gens = s.gens.setIfInBounds gi x := λ s x => rfl
 have hSS : ∀ {Q : List (Addr × Obj)} {i : Nat} {H : Hp} {s : Shared}, (∀ p ∈ Q, a < p.1) -> Inv X' ((a, gob) :: Q) (cU own σ capI) H s -> s.heap.get? a = some gob /\ s.gens[gi]? = some .running /\
   ∀ (x : GenState) (h' : Heap) (tk : Nat), x.bare = true -> (∀ b o, s.heap.get? b = some o -> h'.get? b = some o) -> Inv X (pins ++ Q) σ H { s.setGen gi x with heap := h', toks := tk } := λ {Q i H s} hQ I' => by
  have pa := (I'.pin (a, gob) (by simp)).1
  have gr : s.gens[gi]? = some .running := I'.bare.kept gi .running (by rw [eS, <- hgi]; simp)
  refine ⟨pa, gr, λ x h' tk hx hk => ?_⟩
  have ub := I'.base
  rw [eFs, eEx, eS, eH] at ub
  have hok := I'.hok
  rw [eP, eW] at hok
  refine Inv.more ?_ λ p hp => by
   have q := I'.pin p (by simp [hp])
   have l4 : s4.heap.objs.size <= p.1 := Nat.le_trans hCs (Nat.le_of_lt (Nat.lt_trans hCa (hQ p hp)))
   exact ⟨hk _ _ q.1, q.2.1, λ z => absurd I4.lt (by rw [<- z]; exact Nat.not_lt.mpr l4), I4.nofs l4, q.2.2.2.2⟩
  refine I4.call' (ch := fp) (s' := { s.setGen gi x with heap := h', toks := tk }) (by have := I'.os; rw [eS] at this; exact this)
   ⟨λ b o e n hb hx' => hk b o (ub.keep b o e n hb hx'), λ b o e n hb hx' => let ⟨sl, q⟩ := ub.slot b o e n hb hx'; ⟨sl, hk b _ q⟩, ub.free, λ b o e hx' => let ⟨o', q⟩ := ub.there b o e hx'; ⟨o', hk b o' q⟩, ub.tups, ub.frzs, ub.tbls⟩
   (hok.kept hk) ⟨λ y hy => ?_, λ k y e => ?_⟩ λ b hb => ?_
  .have hy' : y ∈ s.gens.setIfInBounds gi x := hy
   rcases Array.mem_or_eq_of_mem_setIfInBounds hy' with z | z
   .exact I'.bare.bare y z
   .rw [z]; exact hx
  .have hlt : k < gi := by
    rw [<- hgi]
    rcases Nat.lt_or_ge k s4.gens.size with z | z
    .exact z
    .rw [Array.getElem?_eq_none z] at e; cases e
   have q := I'.bare.kept k y (by rw [eS]; show (s4.gens.push .running)[k]? = some y; rw [Array.getElem?_push_lt (by rw [hgi]; exact hlt), <- Array.getElem?_eq_getElem (by rw [hgi]; exact hlt)]; exact e)
   show (s.gens.setIfInBounds gi x)[k]? = some y
   rw [Array.getElem?_setIfInBounds_ne (Nat.ne_of_gt hlt)]
   exact q
  .obtain ⟨q0, q1, q2, q3, q4, q5⟩ := f4 b hb
   exact ⟨q3, q1, q4, q5⟩
 refine ⟨a + 1, λ Q i H s => (∀ p ∈ Q, a < p.1) /\ Inv X (pins ++ Q) σ H s /\ (∃ gs, s.gens[gi]? = some gs /\ gs.bare = true /\ (gs = .fresh (genS elt tg iter scope pos it X'.env) ∨ ∃ k l p cl, gs = .suspended k l (jK elt tg iter scope pos it X'.env) p [] cl /\ k (.send .none) = .pure (.again (jK elt tg iter scope pos it X'.env)))) /\
   Inv X' ((a, gob) :: Q) (cU own σ capI) H (s.setGen gi .running) /\ tn i s.heap /\ ∀ b ∈ fp, H b = none, ⟨λ st => st.2.1, ?_, ?_, ?_, ?_, ?_, ?_⟩, ?_, Nat.lt_succ_self _, ?_, λ Q i H s st => ⟨gi, isg (hSS (i := i) st.1 st.2.2.2.1).1⟩⟩
 .
  rintro PP i H s Q E ⟨hQ, I1, ⟨gs, hgs, hb, hgs'⟩, Ib, st, fr⟩ ⟨go, step⟩
  have tr := Fb (A1 := A'.in1) (elt := elt) (tg := tg) (iter := iter) (scope := scope) (pos := pos) T' eA eC eEx ePn eCo eX hg' he' (pfp hQ) Ib st fr go step
  have oa := (hSS (i := i) hQ Ib).1
  rw [eP, eW] at tr
  refine qZ hAh I1.nolimit (by have := hr.dp; omega) (isg oa) hgs (Φ := λ e s' => ∃ v k p y H', e = .susp v false [] k (jK elt tg iter scope pos it X'.env) p [] /\ k (.send .none) = .pure (.again (jK elt tg iter scope pos it X'.env)) /\ RelV y v /\ Q y H' /\ Inv X' ((a, gob) :: PP) (cU own σ capI) H' s' /\ tn (i + 1) s'.heap /\ ∀ b ∈ fp, H' b = none) ?_ ?_ ?_
  .rcases hgs' with e | ⟨k, l, p, cl, e, ek⟩
   .subst e
    exact vf (i := i) T st tr
   .subst e
    show cI _ _ _ (k (.send .none)) [] _ _
    rw [ek]
    exact cI.again rfl tr
  .rintro e s' ⟨v, k, p, y, H', rfl, _⟩
   rfl
  .rintro e s' ⟨v, k, p, y, H', rfl, ek, ry, qy, I', st', fr'⟩
   left
   refine ⟨v, false, [], k, _, p, [], rfl, v, y, H', rfl, ry, qy, ?_⟩
   obtain ⟨oa', gr', mk⟩ := hSS (i := i) hQ I'
   have e1 : ((s'.setGen gi (End.susp v false [] k (jK elt tg iter scope pos it X'.env) p []).genState).setGen gi .running) = s' := by
    have hl : gi < s'.gens.size := by
     rcases Nat.lt_or_ge gi s'.gens.size with z | z
     .exact z
     .rw [Array.getElem?_eq_none z] at gr'; cases gr'
    obtain ⟨hh, gg, dd, tt, oo⟩ := s'
    show (Shared.mk hh ((gg.setIfInBounds gi _).setIfInBounds gi .running) dd tt oo) = _
    congr 1
    apply Array.ext_getElem?
    intro j
    by_cases hj : gi = j
    .subst hj
     have gr'' : gg[gi]? = some .running := gr'
     have hl' : gi < gg.size := hl
     rw [gr'']
     simp [hl']
    .simp [hj]
   refine ⟨hQ, mk _ s'.heap s'.toks rfl λ b o e => e, ⟨_, setGen_self gr', rfl, .inr ⟨k, [], p, _, rfl, ek⟩⟩, by rw [e1]; exact I', st', fr'⟩
 .
  rintro PP i H s E ⟨hQ, I1, ⟨gs, hgs, hb, hgs'⟩, Ib, st, fr⟩ hfin
  have tr := Gr (A1 := A'.in1) (elt := elt) (tg := tg) (iter := iter) (scope := scope) (pos := pos) T' eA eC eEx ePn (pfp hQ) Ib st fr hfin
  have oa := (hSS (i := i) hQ Ib).1
  rw [eP, eW] at tr
  refine qZ hAh I1.nolimit (by have := hr.dp; omega) (isg oa) hgs (Φ := λ e s' => e = .ret (.ok .next) /\ Inv X' ((a, gob) :: PP) (cU own σ capI) H s') ?_ ?_ ?_
  .rcases hgs' with e | ⟨k, l, p, cl, e, ek⟩
   .subst e
    exact vf (i := i) T st tr
   .subst e
    show cI _ _ _ (k (.send .none)) [] _ _
    rw [ek]
    exact cI.again rfl tr
  .rintro e s' ⟨rfl, _⟩
   rfl
  .rintro e s' ⟨rfl, I'⟩
   right
   obtain ⟨oa', gr', mk⟩ := hSS (i := i) hQ I'
   exact ⟨rfl, λ h' hk => ⟨rfl, mk .finished h' s'.toks rfl hk⟩⟩
 .
  rintro PP i H s h' tk ⟨hQ, I1, hgs, Ib, st, fr⟩ hk
  exact ⟨hQ, I1.kept hk, hgs, Ib.kept (s := s.setGen gi .running) hk, T.keep _ _ _ st λ b _ o e => hk b o e, fr⟩
 .
  rintro PP i H s D o ⟨hQ, I1, hgs, Ib, st, fr⟩ hD ho hn hcell
  have hDa : a < D := hD
  have hD4 : s4.heap.objs.size <= D := Nat.le_of_lt (Nat.lt_of_le_of_lt hCs (Nat.lt_trans hCa hDa))
  refine ⟨λ p hp => ?_, ?_, hgs, ?_, st, fr⟩
  .rcases List.mem_cons.mp hp with z | z
   .subst z; exact hDa
   .exact hQ p z
  .refine I1.pins_of λ p hp => ?_
   rcases List.mem_append.mp hp with z | z
   .exact I1.pin p (by simp [z])
   .rcases List.mem_cons.mp z with z | z
    .subst z
     exact ⟨ho, hn, λ z => absurd I4.lt (by rw [<- z]; exact Nat.not_lt.mpr hD4), I4.nofs hD4, hcell⟩
    .exact I1.pin p (by simp [z])
  .refine Ib.pins_of λ p hp => ?_
   rcases List.mem_cons.mp hp with z | z
   .exact Ib.pin p (by simp [z])
   .rcases List.mem_cons.mp z with z | z
    .subst z
     refine ⟨ho, hn, by rw [eL]; exact Nat.ne_of_gt (Nat.lt_trans hCa hDa), λ hz => ?_, hcell⟩
     rw [eFs] at hz
     rcases List.mem_cons.mp (I4.stkSub D hz) with z | z
     .exact absurd I4.lt (by rw [<- z]; exact Nat.not_lt.mpr hD4)
     .exact I4.nofs hD4 z
    .exact Ib.pin p (by simp [z])
 .
  rintro p PP i H s ⟨hQ, I1, hgs, Ib, st, fr⟩
  exact ⟨λ q hq => hQ q (List.mem_cons_of_mem _ hq), I1.pins_of λ q hq => I1.pin q (by rcases List.mem_append.mp hq with z | z <;> simp [z]), hgs, Ib.pins_of λ q hq => Ib.pin q (by rcases List.mem_cons.mp hq with z | z <;> simp [z]), st, fr⟩
 .
  rintro PP i H s h' tk D ⟨hQ, I1, hgs, Ib, st, fr⟩ hD hn hPD hk
  have hDa : a < D := hD
  have hDC : C < D := Nat.lt_trans hCa hDa
  have hD4 : s4.heap.objs.size <= D := Nat.le_of_lt (Nat.lt_of_le_of_lt hCs hDC)
  have l4 : ∀ b, b < s4.heap.objs.size -> b ≠ D := λ b hb => Nat.ne_of_lt (Nat.lt_of_lt_of_le hb hD4)
  have cl4 : ∀ x c, X.env.cells.lookup x = some c -> c ≠ D := λ x c e => let ⟨v, q⟩ := I4.cell x c e; l4 c q.lt
  refine ⟨hQ, I1.turned hk hn (Ne.symm (l4 _ I4.lt)) (.inr (Nat.le_trans I4.sz hD4)) cl4 (λ p hp => ?_), hgs, Ib.turned (s := s.setGen gi .running) hk hn (by rw [eL]; exact Nat.ne_of_gt hDC) (.inr (by rw [eS]; exact hD4)) (λ x c e => ?_) (λ p hp => ?_), T.keep _ _ _ st λ b hb o e => hk b o ?_ e, fr⟩
  .rcases List.mem_append.mp hp with z | z
   .exact l4 _ (Heap.lt_size (I4.pin p (by simp [z])).1)
   .rcases List.mem_append.mp z with z | z
    .exact l4 _ (Heap.lt_size (I4.pin p (by simp [z])).1)
    .exact hPD p z
  .obtain ⟨v, q⟩ := Ib.cell x c e
   have e' : (cV X.env scope.names []).lookup x = some c := by rw [<- hX'] at e; exact e
   exact cl4 x c ((nR (PySem.mem_of_lookup e')).elim (λ z => by simp at z) id)
  .rw [ePn, List.nil_append] at hp
   rcases List.mem_cons.mp hp with z | z
   .subst z; exact Nat.ne_of_lt hDa
   .exact hPD p z
  .obtain ⟨o', e'⟩ := o4 b hb
   exact l4 b (Heap.lt_size e')
 .
  have Ib0 : Inv X' [] (cU own σ capI) H4 { s4 with heap := h6, toks := s4.toks + 1 + 1 + 1, gens := s4.gens.push .running } := by
   rw [<- hX']
   refine I4.gen B hown hnc f4 o4 k46 hCs (hn5.at' λ o e => k6 _ o e) ?_ hAh
   rw [hcenv]
   exact yo hAf
  refine ⟨λ p hp => absurd hp (by simp), by rw [List.append_nil]; exact (I4.grown k46 gk6 : Inv X pins σ H4 _), ⟨_, gi6, rfl, .inl (by rw [eE])⟩, ?_, T.keep _ _ _ st4 λ b _ o e => k46 b o e, hfr4⟩
  have e1 : (Shared.setGen { s4 with gens := s4.gens.push (.fresh (genS elt tg iter scope pos it cenv)), toks := s4.toks + 1 + 1 + 1, heap := h6 } gi .running) = { s4 with heap := h6, toks := s4.toks + 1 + 1 + 1, gens := s4.gens.push .running } := by
   show Shared.mk _ ((s4.gens.push _).setIfInBounds gi .running) _ _ _ = _
   congr 1
   rw [<- hgi]
   apply Array.ext_getElem?
   intro j
   by_cases hj : s4.gens.size = j
   .subst hj; simp
   .simp [hj, Array.getElem?_push, Ne.symm hj]
  rw [e1]
  exact Ib0.pins_of λ p hp => by
   obtain rfl : p = (a, gob) := by simpa using hp
   refine ⟨oa6, ?_, by rw [eL]; exact Nat.ne_of_gt hCa, afs, λ v z => ?_⟩
   .exact I4.hok.fresh (Nat.le_trans hCs (Nat.le_of_lt hCa))
   .rw [<- hgo] at z; cases z
 .show a + 1 <= h6.objs.size
  rw [<- hh6, Heap.size_push, ha]
  exact Nat.le_refl _
end
end L2
namespace L3
open PySem PySem.Spec PyProof.Rows L2
inductive D where
 | non | bl (b : Bool) | int (i : Int) | str (x : Str) | tup (ds : List D) | lst (ds : List D) | ro (ds : List D) | dic (kvs : List (Key × D)) | cell (n : Nat)
abbrev Mu := List (Option (List D))
abbrev En := List (Option D)
mutual
def bu (K : PySem.W.Frag) (F : Hp) (ad : List Addr) : D -> V -> Prop
 | .non, v => v = .non
 | .bl b, v => v = .bl b
 | .int i, v => v = .int i
 | .str x, v => v = .str x
 | .tup ds, v => ∃ a xs, v = .ref a /\ SqT K F a xs /\ aC K F ad ds xs
 | .lst ds, v => ∃ a xs, v = .ref a /\ F a = some (.lst xs) /\ aC K F ad ds xs
 | .ro ds, v => ∃ a xs, v = .ref a /\ SqL K F a xs /\ aC K F ad ds xs
 | .dic kvs, v => ∃ a ps, v = .ref a /\ F a = some (.dK ps) /\ ju K F ad kvs ps
 | .cell n, v => ∃ a, v = .ref a /\ ad[n]? = some a
def aC (K : PySem.W.Frag) (F : Hp) (ad : List Addr) : List D -> List V -> Prop
 | [], vs => vs = []
 | d :: ds, vs => ∃ u us, vs = u :: us /\ bu K F ad d u /\ aC K F ad ds us
def ju (K : PySem.W.Frag) (F : Hp) (ad : List Addr) : List (Key × D) -> List (Key × V) -> Prop
 | [], vs => vs = []
 | p :: ds, vs => ∃ u us, vs = u :: us /\ (u.1 = p.1 /\ bu K F ad p.2 u.2) /\ ju K F ad ds us
end
def oE (a b : List Addr) : Prop := ∀ (i : Nat) x, a[i]? = some x -> b[i]? = some x
theorem oE.refl (a : List Addr) : oE a a := λ _ _ e => e
theorem oE.trans {a b c : List Addr} (x : oE a b) (y : oE b c) : oE a c := λ i z e => y i z (x i z e)
theorem SqT.mono {K : PySem.W.Frag} {F F' : Hp} {a : Addr} {xs : List V} (s : mK F F') (h : SqT K F a xs) : SqT K F' a xs := by
 rcases h with (h | ⟨o, h⟩) | h
 .exact .inl (.inl (s _ _ h))
 .exact .inl (.inr ⟨o, s _ _ h⟩)
 .exact .inr h
theorem SqL.mono {K : PySem.W.Frag} {F F' : Hp} {a : Addr} {xs : List V} (s : mK F F') (h : SqL K F a xs) : SqL K F' a xs := by
 rcases h with (h | ⟨o, h⟩) | h
 .exact .inl (.inl (s _ _ h))
 .exact .inl (.inr ⟨o, s _ _ h⟩)
 .exact .inr h
section
variable {K : PySem.W.Frag} {F F' : Hp} {ad ad' : List Addr}
mutual
theorem bu.mono (s : mK F F') (l : oE ad ad') : ∀ (d : D) (v : V), bu K F ad d v -> bu K F' ad' d v
 | .non, v, h => by unfold bu at h ⊢; exact h
 | .bl _, v, h => by unfold bu at h ⊢; exact h
 | .int _, v, h => by unfold bu at h ⊢; exact h
 | .str _, v, h => by unfold bu at h ⊢; exact h
 | .tup ds, v, h => by
  unfold bu at h ⊢
  obtain ⟨a, xs, e, q, r⟩ := h
  exact ⟨a, xs, e, SqT.mono s q, aC.mono s l ds xs r⟩
 | .lst ds, v, h => by
  unfold bu at h ⊢
  obtain ⟨a, xs, e, q, r⟩ := h
  exact ⟨a, xs, e, s _ _ q, aC.mono s l ds xs r⟩
 | .ro ds, v, h => by
  unfold bu at h ⊢
  obtain ⟨a, xs, e, q, r⟩ := h
  exact ⟨a, xs, e, SqL.mono s q, aC.mono s l ds xs r⟩
 | .dic kvs, v, h => by
  unfold bu at h ⊢
  obtain ⟨a, ps, e, q, r⟩ := h
  exact ⟨a, ps, e, s _ _ q, ju.mono s l kvs ps r⟩
 | .cell n, v, h => by
  unfold bu at h ⊢
  obtain ⟨a, e, q⟩ := h
  exact ⟨a, e, l _ _ q⟩
theorem aC.mono (s : mK F F') (l : oE ad ad') : ∀ (ds : List D) (vs : List V), aC K F ad ds vs -> aC K F' ad' ds vs
 | [], vs, h => by unfold aC at h ⊢; exact h
 | d :: ds, vs, h => by
  unfold aC at h ⊢
  obtain ⟨u, us, e, p, r⟩ := h
  exact ⟨u, us, e, bu.mono s l d u p, aC.mono s l ds us r⟩
theorem ju.mono (s : mK F F') (l : oE ad ad') : ∀ (ds : List (Key × D)) (vs : List (Key × V)), ju K F ad ds vs -> ju K F' ad' ds vs
 | [], vs, h => by unfold ju at h ⊢; exact h
 | p :: ds, vs, h => by
  unfold ju at h ⊢
  obtain ⟨u, us, e, ⟨p1, p2⟩, r⟩ := h
  exact ⟨u, us, e, ⟨p1, bu.mono s l p.2 u.2 p2⟩, ju.mono s l ds us r⟩
end
theorem aC.nil : aC K F ad [] [] := by unfold aC; rfl
theorem aC.cons {d : D} {v : V} {ds : List D} {vs : List V} (h : bu K F ad d v) (r : aC K F ad ds vs) : aC K F ad (d :: ds) (v :: vs) := by unfold aC; exact ⟨v, vs, rfl, h, r⟩
theorem aC.length : ∀ {ds : List D} {vs : List V}, aC K F ad ds vs -> ds.length = vs.length
 | [], vs, h => by unfold aC at h; subst h; rfl
 | d :: ds, vs, h => by
  unfold aC at h
  obtain ⟨u, us, rfl, _, r⟩ := h
  rw [List.length_cons, List.length_cons, aC.length r]
theorem aC.get : ∀ {ds : List D} {vs : List V} {i : Nat} {d : D}, aC K F ad ds vs -> ds[i]? = some d -> ∃ v, vs[i]? = some v /\ bu K F ad d v
 | [], _, _, _, _, e => by simp at e
 | d :: ds, vs, 0, x, h, e => by
  unfold aC at h
  obtain ⟨u, us, rfl, p, r⟩ := h
  simp at e; subst e
  exact ⟨u, rfl, p⟩
 | d :: ds, vs, i + 1, x, h, e => by
  unfold aC at h
  obtain ⟨u, us, rfl, p, r⟩ := h
  obtain ⟨v, e1, e2⟩ := aC.get (i := i) r (by simpa using e)
  exact ⟨v, by simpa using e1, e2⟩
theorem aC.append : ∀ {ds es : List D} {vs us : List V}, aC K F ad ds vs -> aC K F ad es us -> aC K F ad (ds ++ es) (vs ++ us)
 | [], es, vs, us, h, r => by unfold aC at h; subst h; exact r
 | d :: ds, es, vs, us, h, r => by
  unfold aC at h
  obtain ⟨u, ws, rfl, p, q⟩ := h
  exact aC.cons p (aC.append q r)
theorem aC.drop : ∀ {ds : List D} {vs : List V} (n : Nat), aC K F ad ds vs -> aC K F ad (ds.drop n) (vs.drop n)
 | ds, vs, 0, h => h
 | [], vs, n + 1, h => by unfold aC at h; subst h; exact aC.nil
 | d :: ds, vs, n + 1, h => by
  unfold aC at h
  obtain ⟨u, ws, rfl, p, q⟩ := h
  exact aC.drop n q
theorem aC.take : ∀ {ds : List D} {vs : List V} (n : Nat), aC K F ad ds vs -> aC K F ad (ds.take n) (vs.take n)
 | ds, vs, 0, h => aC.nil
 | [], vs, n + 1, h => by unfold aC at h; subst h; exact aC.nil
 | d :: ds, vs, n + 1, h => by
  unfold aC at h
  obtain ⟨u, ws, rfl, p, q⟩ := h
  exact aC.cons p (aC.take n q)
theorem aC.reverse : ∀ {ds : List D} {vs : List V}, aC K F ad ds vs -> aC K F ad ds.reverse vs.reverse
 | [], vs, h => by unfold aC at h; subst h; exact aC.nil
 | d :: ds, vs, h => by
  unfold aC at h
  obtain ⟨u, ws, rfl, p, q⟩ := h
  rw [List.reverse_cons, List.reverse_cons]
  exact aC.append (aC.reverse q) (aC.cons p aC.nil)
theorem aC.two {d e : D} {vs : List V} (h : aC K F ad [d, e] vs) : ∃ u v, vs = [u, v] /\ bu K F ad d u /\ bu K F ad e v := by
 unfold aC at h
 obtain ⟨u, us, rfl, p, h⟩ := h
 unfold aC at h
 obtain ⟨v, ws, rfl, q, h⟩ := h
 unfold aC at h
 subst h
 exact ⟨u, v, rfl, p, q⟩
theorem aC.one {d : D} {vs : List V} (h : aC K F ad [d] vs) : ∃ u, vs = [u] /\ bu K F ad d u := by
 unfold aC at h
 obtain ⟨u, us, rfl, p, h⟩ := h
 unfold aC at h
 subst h
 exact ⟨u, rfl, p⟩
theorem aC.zero {vs : List V} (h : aC K F ad [] vs) : vs = [] := by unfold aC at h; exact h
end
structure Wd where
 H : Hp
 ad : List Addr
 mu : Mu
def oh (ad : List Addr) (mu : Mu) (b : Addr) : Prop := ∃ (i : Nat) (ds : List D), ad[i]? = some b /\ mu[i]? = some (some ds)
open Classical in
noncomputable def Wd.fz (tb : List Addr) (W : Wd) : Hp := λ b => if oh W.ad W.mu b ∨ b ∈ tb then none else W.H b
abbrev Den (K : PySem.W.Frag) (tb : List Addr) (W : Wd) : D -> V -> Prop := bu K (W.fz tb) W.ad
abbrev di (K : PySem.W.Frag) (tb : List Addr) (W : Wd) : List D -> List V -> Prop := aC K (W.fz tb) W.ad
structure WOk (K : PySem.W.Frag) (tb : List Addr) (W : Wd) : Prop where
 len : W.ad.length = W.mu.length
 cont : ∀ (i : Nat) a ds, W.ad[i]? = some a -> W.mu[i]? = some (some ds) -> ∃ xs, W.H a = some (.lst xs) /\ di K tb W ds xs
 inj : ∀ (i j : Nat) a ds es, W.ad[i]? = some a -> W.ad[j]? = some a -> W.mu[i]? = some (some ds) -> W.mu[j]? = some (some es) -> i = j
 tab : ∀ P ∈ tb, ∃ ps, W.H P = some (.tbl ps) /\ TOk W.H ps
structure Le (tb : List Addr) (W W' : Wd) : Prop where
 same : mK (W.fz tb) (W'.fz tb)
 ad : oE W.ad W'.ad
theorem Le.refl {tb : List Addr} (W : Wd) : Le tb W W := ⟨mK.refl _, oE.refl _⟩
theorem Le.trans {tb : List Addr} {W W1 W2 : Wd} (a : Le tb W W1) (b : Le tb W1 W2) : Le tb W W2 := ⟨a.same.trans b.same, a.ad.trans b.ad⟩
section
variable {K : PySem.W.Frag} {tb : List Addr} {W W' : Wd} {d : D} {v : V} {ds : List D} {vs : List V}
theorem Den.mono' (h : Den K tb W d v) (l : Le tb W W') : Den K tb W' d v := bu.mono l.same l.ad d v h
theorem di.mono' (h : di K tb W ds vs) (l : Le tb W W') : di K tb W' ds vs := aC.mono l.same l.ad ds vs h
theorem eU {b : Addr} {o : HO} (h : W.fz tb b = some o) : W.H b = some o /\ ¬ oh W.ad W.mu b /\ b ∉ tb := by
 unfold Wd.fz at h
 split at h
 .cases h
 .rename_i q
  exact ⟨h, λ z => q (.inl z), λ z => q (.inr z)⟩
theorem pR {b : Addr} (h1 : ¬ oh W.ad W.mu b) (h2 : b ∉ tb) : W.fz tb b = W.H b := by
 unfold Wd.fz
 rw [if_neg]
 rintro (z | z)
 .exact h1 z
 .exact h2 z
theorem SqT.fz {a : Addr} {xs : List V} (h : SqT K (W.fz tb) a xs) : SqT K W.H a xs := by
 rcases h with (h | ⟨o, h⟩) | h
 .exact .inl (.inl (eU h).1)
 .exact .inl (.inr ⟨o, (eU h).1⟩)
 .exact .inr h
theorem SqL.fz {a : Addr} {xs : List V} (h : SqL K (W.fz tb) a xs) : SqL K W.H a xs := by
 rcases h with (h | ⟨o, h⟩) | h
 .exact .inl (.inl (eU h).1)
 .exact .inl (.inr ⟨o, (eU h).1⟩)
 .exact .inr h
theorem WOk.live (ok : WOk K tb W) {b : Addr} (h : oh W.ad W.mu b) : ∃ xs, W.H b = some (.lst xs) := by
 obtain ⟨i, ds, e1, e2⟩ := h
 obtain ⟨xs, e, _⟩ := ok.cont i b ds e1 e2
 exact ⟨xs, e⟩
theorem WOk.alloc (ok : WOk K tb W) {p : Addr} {o : HO} (hp : W.H p = none) : WOk K tb ⟨upd W.H p o, W.ad, W.mu⟩ /\ Le tb W ⟨upd W.H p o, W.ad, W.mu⟩ /\ (Wd.fz tb ⟨upd W.H p o, W.ad, W.mu⟩) p = some o := by
 have nl : ¬ oh W.ad W.mu p := λ z => by obtain ⟨xs, e⟩ := ok.live z; rw [hp] at e; cases e
 have nt : p ∉ tb := λ z => by obtain ⟨ps, e, _⟩ := ok.tab p z; rw [hp] at e; cases e
 have le : Le tb W ⟨upd W.H p o, W.ad, W.mu⟩ := ⟨λ b u e => by
  obtain ⟨e1, e2, e3⟩ := eU e
  have hb : b ≠ p := cL e1 hp
  have q := pR (tb := tb) (W := ⟨upd W.H p o, W.ad, W.mu⟩) e2 e3
  rw [q]
  show upd W.H p o b = some u
  rw [aV hb]; exact e1, oE.refl _⟩
 refine ⟨⟨ok.len, λ i a ds e1 e2 => ?_, ok.inj, λ P hP => ?_⟩, le, ?_⟩
 .obtain ⟨xs, e, r⟩ := ok.cont i a ds e1 e2
  refine ⟨xs, ?_, di.mono' r le⟩
  show upd W.H p o a = _
  rw [aV (cL e hp)]; exact e
 .obtain ⟨ps, e, r⟩ := ok.tab P hP
  refine ⟨ps, ?_, r.mono λ c u q => (aV (cL q hp)).trans q⟩
  show upd W.H p o P = _
  rw [aV (cL e hp)]; exact e
 .have q := pR (tb := tb) (W := ⟨upd W.H p o, W.ad, W.mu⟩) nl nt
  rw [q]; exact gq
theorem WOk.new (ok : WOk K tb W) {p : Addr} (hp : W.H p = none) (r : di K tb W ds vs) :
  WOk K tb ⟨upd W.H p (.lst vs), W.ad ++ [p], W.mu ++ [some ds]⟩ /\ Le tb W ⟨upd W.H p (.lst vs), W.ad ++ [p], W.mu ++ [some ds]⟩ /\ Den K tb ⟨upd W.H p (.lst vs), W.ad ++ [p], W.mu ++ [some ds]⟩ (.cell W.mu.length) (.ref p) := by
 have adl : oE W.ad (W.ad ++ [p]) := λ i x e => by
  rw [List.getElem?_append_left (List.getElem?_eq_some_iff.mp e).1]; exact e
 have lv : ∀ b, oh (W.ad ++ [p]) (W.mu ++ [some ds]) b -> oh W.ad W.mu b ∨ b = p := λ b zq1 => by
  obtain ⟨i, es, e1, e2⟩ := zq1
  by_cases hi : i < W.ad.length
  .rw [List.getElem?_append_left hi] at e1
   rw [List.getElem?_append_left (by rw [<- ok.len]; exact hi)] at e2
   exact .inl ⟨i, es, e1, e2⟩
  .rw [List.getElem?_append_right (Nat.le_of_not_lt hi)] at e1
   right
   have : (i - W.ad.length) = 0 := by
    have := (List.getElem?_eq_some_iff.mp e1).1
    simp at this
    omega
   rw [this] at e1
   simpa using e1.symm
 have le : Le tb W ⟨upd W.H p (.lst vs), W.ad ++ [p], W.mu ++ [some ds]⟩ := ⟨λ b u e => by
  obtain ⟨e1, e2, e3⟩ := eU e
  have hb : b ≠ p := cL e1 hp
  have q := pR (tb := tb) (W := ⟨upd W.H p (.lst vs), W.ad ++ [p], W.mu ++ [some ds]⟩) (b := b) (λ z => (lv b z).elim e2 hb) e3
  rw [q]
  show upd W.H p (.lst vs) b = some u
  rw [aV hb]; exact e1, adl⟩
 refine ⟨⟨by simp [ok.len], λ i a es e1 e2 => ?_, λ i j a es fs e1 e2 e3 e4 => ?_, λ P hP => ?_⟩, le, ?_⟩
 .by_cases hi : i < W.ad.length
  .have e1' : W.ad[i]? = some a := by rw [<- List.getElem?_append_left (l₂ := [p]) hi]; exact e1
   have e2' : W.mu[i]? = some (some es) := by rw [<- List.getElem?_append_left (l₂ := [some ds]) (by rw [<- ok.len]; exact hi)]; exact e2
   obtain ⟨xs, e, q⟩ := ok.cont i a es e1' e2'
   refine ⟨xs, ?_, di.mono' q le⟩
   show upd W.H p (.lst vs) a = _
   rw [aV (cL e hp)]; exact e
  .have h0 : i = W.ad.length := by
    have h1 : i < (W.ad ++ [p]).length := (List.getElem?_eq_some_iff.mp e1).1
    simp at h1
    omega
   have e1' : (W.ad ++ [p])[i]? = some a := e1
   have e2' : (W.mu ++ [some ds])[i]? = some (some es) := e2
   rw [h0] at e1' e2'
   rw [ok.len] at e2'
   simp at e1' e2'
   subst e1' e2'
   exact ⟨vs, gq, di.mono' r le⟩
 .have old : ∀ (k : Nat) es, (W.ad ++ [p])[k]? = some a -> (W.mu ++ [some ds])[k]? = some (some es) -> (k < W.ad.length /\ W.ad[k]? = some a /\ W.mu[k]? = some (some es)) ∨ (k = W.ad.length /\ a = p) := λ k es q1 q2 => by
   by_cases hk : k < W.ad.length
   .left
    refine ⟨hk, ?_, ?_⟩
    .rw [<- List.getElem?_append_left (l₂ := [p]) hk]; exact q1
    .rw [<- List.getElem?_append_left (l₂ := [some ds]) (by rw [<- ok.len]; exact hk)]; exact q2
   .right
    have h1 : k < (W.ad ++ [p]).length := (List.getElem?_eq_some_iff.mp q1).1
    simp at h1
    have h0 : k = W.ad.length := by omega
    subst h0
    simp at q1
    exact ⟨rfl, q1.symm⟩
  rcases old i es e1 e3 with ⟨_, a1, a2⟩ | ⟨a1, a2⟩ <;> rcases old j fs e2 e4 with ⟨_, b1, b2⟩ | ⟨b1, b2⟩
  .exact ok.inj i j a es fs a1 b1 a2 b2
  .obtain ⟨xs, e, _⟩ := ok.cont i a es a1 a2
   rw [b2, hp] at e; cases e
  .obtain ⟨xs, e, _⟩ := ok.cont j a fs b1 b2
   rw [a2, hp] at e; cases e
  .rw [a1, b1]
 .obtain ⟨ps, e, q⟩ := ok.tab P hP
  refine ⟨ps, ?_, q.mono λ c u q => (aV (cL q hp)).trans q⟩
  show upd W.H p (.lst vs) P = _
  rw [aV (cL e hp)]; exact e
 .show bu K _ _ (.cell W.mu.length) (.ref p)
  unfold bu
  refine ⟨p, rfl, ?_⟩
  rw [<- ok.len]
  simp
theorem WOk.write (ok : WOk K tb W) {i : Nat} {a : Addr} {es : List D} (e1 : W.ad[i]? = some a) (e2 : W.mu[i]? = some (some es)) (r : di K tb W ds vs) :
  WOk K tb ⟨upd W.H a (.lst vs), W.ad, W.mu.set i (some ds)⟩ /\ Le tb W ⟨upd W.H a (.lst vs), W.ad, W.mu.set i (some ds)⟩ := by
 have hi : i < W.mu.length := (List.getElem?_eq_some_iff.mp e2).1
 have lv : ∀ b, oh W.ad (W.mu.set i (some ds)) b -> oh W.ad W.mu b := λ b zq2 => by
  obtain ⟨j, fs, q1, q2⟩ := zq2
  by_cases hj : i = j
  .subst hj; exact ⟨i, es, q1, e2⟩
  .rw [List.getElem?_set_ne hj] at q2; exact ⟨j, fs, q1, q2⟩
 have la : oh W.ad W.mu a := ⟨i, es, e1, e2⟩
 have le : Le tb W ⟨upd W.H a (.lst vs), W.ad, W.mu.set i (some ds)⟩ := ⟨λ b u e => by
  obtain ⟨p1, p2, p3⟩ := eU e
  have hb : b ≠ a := λ z => p2 (z ▸ la)
  have q := pR (tb := tb) (W := ⟨upd W.H a (.lst vs), W.ad, W.mu.set i (some ds)⟩) (b := b) (λ z => p2 (lv b z)) p3
  rw [q]
  show upd W.H a (.lst vs) b = some u
  rw [aV hb]; exact p1, oE.refl _⟩
 refine ⟨⟨by show W.ad.length = (W.mu.set i (some ds)).length; rw [List.length_set]; exact ok.len, λ j b fs q1 q2 => ?_, λ j k b fs gs q1 q2 q3 q4 => ?_, λ P hP => ?_⟩, le⟩
 .have q2' : (W.mu.set i (some ds))[j]? = some (some fs) := q2
  by_cases hj : i = j
  .subst hj
   have q1' : W.ad[i]? = some b := q1
   rw [e1] at q1'; cases q1'
   rw [List.getElem?_set_self hi] at q2'
   cases q2'
   exact ⟨vs, gq, di.mono' r le⟩
  .rw [List.getElem?_set_ne hj] at q2'
   obtain ⟨xs, e, q⟩ := ok.cont j b fs q1 q2'
   refine ⟨xs, ?_, di.mono' q le⟩
   show upd W.H a (.lst vs) b = _
   have hba : b ≠ a := by
    intro z
    subst z
    exact hj (ok.inj i j b es fs e1 q1 e2 q2')
   rw [aV hba]; exact e
 .have up : ∀ (j : Nat) fs, (W.mu.set i (some ds))[j]? = some (some fs) -> ∃ gs, W.mu[j]? = some (some gs) := λ j fs q => by
   by_cases hj : i = j
   .subst hj; exact ⟨es, e2⟩
   .rw [List.getElem?_set_ne hj] at q; exact ⟨fs, q⟩
  obtain ⟨fs', q3'⟩ := up j fs q3
  obtain ⟨gs', q4'⟩ := up k gs q4
  exact ok.inj j k b fs' gs' q1 q2 q3' q4'
 .obtain ⟨ps, e, q⟩ := ok.tab P hP
  obtain ⟨xs, ea, _⟩ := ok.cont i a es e1 e2
  refine ⟨ps, ?_, q.mono λ c u q => (aV (Al q ea (by intro z; cases z))).trans q⟩
  show upd W.H a (.lst vs) P = _
  rw [aV (Al e ea (by intro z; cases z))]; exact e
theorem WOk.freeze (ok : WOk K tb W) {i : Nat} {a : Addr} {es : List D} (e1 : W.ad[i]? = some a) (e2 : W.mu[i]? = some (some es)) :
  WOk K tb ⟨W.H, W.ad, W.mu.set i none⟩ /\ Le tb W ⟨W.H, W.ad, W.mu.set i none⟩ /\ Den K tb ⟨W.H, W.ad, W.mu.set i none⟩ (.lst es) (.ref a) := by
 have hi : i < W.mu.length := (List.getElem?_eq_some_iff.mp e2).1
 have up : ∀ (j : Nat) fs, (W.mu.set i none)[j]? = some (some fs) -> i ≠ j /\ W.mu[j]? = some (some fs) := λ j fs q => by
  by_cases hj : i = j
  .subst hj; rw [List.getElem?_set_self hi] at q; cases q
  .rw [List.getElem?_set_ne hj] at q; exact ⟨hj, q⟩
 have lv : ∀ b, oh W.ad (W.mu.set i none) b -> oh W.ad W.mu b := λ b ⟨j, fs, q1, q2⟩ => ⟨j, fs, q1, (up j fs q2).2⟩
 have le : Le tb W ⟨W.H, W.ad, W.mu.set i none⟩ := ⟨λ b u e => by
  obtain ⟨p1, p2, p3⟩ := eU e
  have q := pR (tb := tb) (W := ⟨W.H, W.ad, W.mu.set i none⟩) (b := b) (λ z => p2 (lv b z)) p3
  rw [q]; exact p1, oE.refl _⟩
 obtain ⟨xs, ea, ra⟩ := ok.cont i a es e1 e2
 refine ⟨⟨by show W.ad.length = (W.mu.set i none).length; rw [List.length_set]; exact ok.len, λ j b fs q1 q2 => ?_, λ j k b fs gs q1 q2 q3 q4 => ?_, ok.tab⟩, le, ?_⟩
 .obtain ⟨xs, e, q⟩ := ok.cont j b fs q1 (up j fs q2).2
  exact ⟨xs, e, di.mono' q le⟩
 .exact ok.inj j k b fs gs q1 q2 (up j fs q3).2 (up k gs q4).2
 .show bu K _ _ (.lst es) (.ref a)
  unfold bu
  refine ⟨a, xs, rfl, ?_, di.mono' ra le⟩
  have nl : ¬ oh W.ad (W.mu.set i none) a := λ zq3 => by
   obtain ⟨j, fs, q1, q2⟩ := zq3
   obtain ⟨hj, q⟩ := up j fs q2
   exact hj (ok.inj i j a es fs e1 q1 e2 q)
  have nt : a ∉ tb := λ z => by
   obtain ⟨ps, e, _⟩ := ok.tab a z
   rw [ea] at e; cases e
  have q := pR (tb := tb) (W := ⟨W.H, W.ad, W.mu.set i none⟩) nl nt
  rw [q]; exact ea
theorem WOk.tbl (ok : WOk K tb W) {P : Addr} {lo : Nat} {ps ps' : Array Value} {H' : Hp} (hP : P ∈ tb) (e : W.H P = some (.tbl ps)) (hG : GX lo P ps ps' W.H H') :
  WOk K tb ⟨H', W.ad, W.mu⟩ /\ Le tb W ⟨H', W.ad, W.mu⟩ := by
 have le : Le tb W ⟨H', W.ad, W.mu⟩ := ⟨λ b u q => by
  obtain ⟨p1, p2, p3⟩ := eU q
  have q := pR (tb := tb) (W := ⟨H', W.ad, W.mu⟩) (b := b) p2 p3
  rw [q]
  exact hG.keep b u (λ z => p3 (z ▸ hP)) p1, oE.refl _⟩
 refine ⟨⟨ok.len, λ i a ds e1 e2 => ?_, ok.inj, λ Q hQ => ?_⟩, le⟩
 .obtain ⟨xs, ea, r⟩ := ok.cont i a ds e1 e2
  exact ⟨xs, hG.keep a _ (Al ea e (by intro z; cases z)) ea, di.mono' r le⟩
 .by_cases hq : Q = P
  .subst hq; exact ⟨ps', hG.tab, hG.ok⟩
  .obtain ⟨qs, e', r⟩ := ok.tab Q hQ
   exact ⟨qs, hG.keep Q _ hq e', r.mono λ c u q => hG.keep c _ (Al q e (by intro z; cases z)) q⟩
end
abbrev SV := L2.St
abbrev EF := En -> Mu -> Option (D × Mu)
abbrev AF := En -> Mu -> Option (List D × Mu)
abbrev TF := En -> Mu -> Option (Bool × Mu)
inductive Fl where
 | nx | bk | ct | rt (d : D)
abbrev SF := En -> Mu -> Option (Fl × En × Mu)
def jw (K : PySem.W.Frag) (tb : List Addr) (W : Wd) (δ : En) (σ : SV) : Prop := δ.length = σ.length /\ ∀ (i : Nat) d, δ[i]? = some (some d) -> ∃ v, σ[i]? = some (some v) /\ Den K tb W d v
section
variable {K : PySem.W.Frag} {tb : List Addr} {W W' : Wd} {δ : En} {σ : SV}
theorem jw.mono' (h : jw K tb W δ σ) (l : Le tb W W') : jw K tb W' δ σ := ⟨h.1, λ i d e => let ⟨v, e1, e2⟩ := h.2 i d e; ⟨v, e1, Den.mono' e2 l⟩⟩
theorem jw.set (h : jw K tb W δ σ) {i : Nat} {d : D} {v : V} (r : Den K tb W d v) : jw K tb W (δ.set i (some d)) (σ.set i (some v)) := by
 refine ⟨by rw [List.length_set, List.length_set]; exact h.1, λ j e q => ?_⟩
 by_cases hj : i = j
 .subst hj
  have hi : i < δ.length := by
   have := (List.getElem?_eq_some_iff.mp q).1
   rwa [List.length_set] at this
  rw [List.getElem?_set_self hi] at q
  cases q
  exact ⟨v, by rw [List.getElem?_set_self (by rw [<- h.1]; exact hi)], r⟩
 .rw [List.getElem?_set_ne hj] at q ⊢
  exact h.2 j e q
end
def tD (K : PySem.W.Frag) (tb : List Addr) (f : EF) : TE := λ σ H Q => ∃ W δ d μ', W.H = H /\ WOk K tb W /\ jw K tb W δ σ /\ f δ W.mu = some (d, μ') /\
 ∀ v W', WOk K tb W' -> Le tb W W' -> W'.mu = μ' -> Den K tb W' d v -> Q v W'.H
def tDA (K : PySem.W.Frag) (tb : List Addr) (f : AF) : TA := λ σ H Q => ∃ W δ ds μ', W.H = H /\ WOk K tb W /\ jw K tb W δ σ /\ f δ W.mu = some (ds, μ') /\
 ∀ vs W', WOk K tb W' -> Le tb W W' -> W'.mu = μ' -> di K tb W' ds vs -> Q vs W'.H
def tDT (K : PySem.W.Frag) (tb : List Addr) (f : TF) : TT := λ σ H Q => ∃ W δ b μ', W.H = H /\ WOk K tb W /\ jw K tb W δ σ /\ f δ W.mu = some (b, μ') /\
 ∀ W', WOk K tb W' -> Le tb W W' -> W'.mu = μ' -> Q b W'.H
def EndD (K : PySem.W.Frag) (tb : List Addr) (E : Ends) (fl : Fl) (σ : SV) (W : Wd) : Prop := match fl with
 | .nx => E.nx σ W.H
 | .bk => E.bk σ W.H
 | .ct => E.ct σ W.H
 | .rt d => ∀ v, Den K tb W d v -> E.rt v W.H
def tDS (K : PySem.W.Frag) (tb : List Addr) (g : SF) : TS := λ E σ H => ∃ W δ fl δ' μ', W.H = H /\ WOk K tb W /\ jw K tb W δ σ /\ g δ W.mu = some (fl, δ', μ') /\
 ∀ σ' W', WOk K tb W' -> Le tb W W' -> W'.mu = μ' -> jw K tb W' δ' σ' -> EndD K tb E fl σ' W'
def PD (X : Cx) (tb : List Addr) (e : Expr) (f : EF) : Prop := PE X e (tD X.K tb f)
def PAD (X : Cx) (tb : List Addr) (es : List Expr) (f : AF) : Prop := PA X es (tDA X.K tb f)
def PTD (X : Cx) (tb : List Addr) (e : Expr) (f : TF) : Prop := PT X e (tDT X.K tb f)
def PWD (X : Cx) (tb : List Addr) (e : Expr) (f : TF) : Prop := PW X e (tDT X.K tb f)
def PSD (X : Cx) (tb : List Addr) (st : Stmt) (g : SF) : Prop := PS X st (tDS X.K tb g)
def uw (X : Cx) (tb : List Addr) (st : List Stmt) (g : SF) : Prop := PSs X st (tDS X.K tb g)
theorem fJ {X : Cx} {e : Expr} {t t' : TE} (h : PE X e t) (k : ∀ σ H Q, t' σ H Q -> t σ H Q) : PE X e t' := λ pins s σ H Q I hq => h pins s σ H Q I (k σ H Q hq)
theorem JC {X : Cx} {e : List Expr} {t t' : TA} (h : PA X e t) (k : ∀ σ H Q, t' σ H Q -> t σ H Q) : PA X e t' := λ pos pins s σ H Q I hq => h pos pins s σ H Q I (k σ H Q hq)
theorem Ak {X : Cx} {e : Expr} {t t' : TT} (h : PT X e t) (k : ∀ σ H Q, t' σ H Q -> t σ H Q) : PT X e t' := λ pins s σ H Q I hq => h pins s σ H Q I (k σ H Q hq)
theorem JN {X : Cx} {e : Expr} {t t' : TT} (h : PW X e t) (k : ∀ σ H Q, t' σ H Q -> t σ H Q) : PW X e t' := λ wh pins s σ H Q I hq => h wh pins s σ H Q I (k σ H Q hq)
theorem kh {X : Cx} {e : Stmt} {t t' : TS} (h : PS X e t) (k : ∀ E σ H, t' E σ H -> t E σ H) : PS X e t' := λ pins s σ H E I hq => h pins s σ H E I (k E σ H hq)
theorem Ey {X : Cx} {e : List Stmt} {t t' : TS} (h : PSs X e t) (k : ∀ E σ H, t' E σ H -> t E σ H) : PSs X e t' := λ pins s σ H E I hq => h pins s σ H E I (k E σ H hq)
def aq (i : Nat) : EF := λ δ μ => match δ[i]? with
 | some (some d) => some (d, μ)
 | _ => none
def mC (d : D) : EF := λ _ μ => some (d, μ)
def M1 (fa : EF) (op : D -> Mu -> Option (D × Mu)) : EF := λ δ μ => (fa δ μ).bind λ r => op r.1 r.2
def M2 (fa fb : EF) (op : D -> D -> Mu -> Option (D × Mu)) : EF := λ δ μ => (fa δ μ).bind λ r => (fb δ r.2).bind λ q => op r.1 q.1 q.2
def aD : AF := λ _ μ => some ([], μ)
def ao (f : EF) (fs : AF) : AF := λ δ μ => (f δ μ).bind λ r => (fs δ r.2).bind λ q => some (r.1 :: q.1, q.2)
def MC (fs : AF) (op : List D -> Mu -> Option (D × Mu)) : EF := λ δ μ => (fs δ μ).bind λ r => op r.1 r.2
def RD1 (K : PySem.W.Frag) (tb : List Addr) (r : V -> Hp -> VK -> Prop) (op : D -> Mu -> Option (D × Mu)) : Prop := ∀ (W : Wd) (x : D) (v : V) (d : D) (μ' : Mu) (Q : VK), WOk K tb W -> Den K tb W x v -> op x W.mu = some (d, μ') ->
 (∀ v W', WOk K tb W' -> Le tb W W' -> W'.mu = μ' -> Den K tb W' d v -> Q v W'.H) -> r v W.H Q
def RD2 (K : PySem.W.Frag) (tb : List Addr) (r : R2) (op : D -> D -> Mu -> Option (D × Mu)) : Prop := ∀ (W : Wd) (x y : D) (v u : V) (d : D) (μ' : Mu) (Q : VK), WOk K tb W -> Den K tb W x v -> Den K tb W y u -> op x y W.mu = some (d, μ') ->
 (∀ v W', WOk K tb W' -> Le tb W W' -> W'.mu = μ' -> Den K tb W' d v -> Q v W'.H) -> r v u W.H Q
def RDN (K : PySem.W.Frag) (tb : List Addr) (r : List V -> Hp -> VK -> Prop) (op : List D -> Mu -> Option (D × Mu)) : Prop := ∀ (W : Wd) (xs : List D) (vs : List V) (d : D) (μ' : Mu) (Q : VK), WOk K tb W -> di K tb W xs vs -> op xs W.mu = some (d, μ') ->
 (∀ v W', WOk K tb W' -> Le tb W W' -> W'.mu = μ' -> Den K tb W' d v -> Q v W'.H) -> r vs W.H Q
section
variable {K : PySem.W.Frag} {tb : List Addr}
theorem put {W : Wd} {Q : VK} {d : D} {v : V} (ok : WOk K tb W) (h : ∀ v W', WOk K tb W' -> Le tb W W' -> W'.mu = W.mu -> Den K tb W' d v -> Q v W'.H) (r : Den K tb W d v) : Q v W.H := h v W ok (Le.refl _) rfl r
theorem fB {W : Wd} {i : Int} : Den K tb W (.int i) (.int i) := by show bu _ _ _ _ _; unfold bu; rfl
theorem fQ {W : Wd} {b : Bool} : Den K tb W (.bl b) (.bl b) := by show bu _ _ _ _ _; unfold bu; rfl
theorem wC {W : Wd} : Den K tb W .non .non := by show bu _ _ _ _ _; unfold bu; rfl
theorem Iz {W : Wd} {x : Str} : Den K tb W (.str x) (.str x) := by show bu _ _ _ _ _; unfold bu; rfl
theorem bF {W : Wd} {i : Int} {v : V} (h : Den K tb W (.int i) v) : v = .int i := by have h : bu _ _ _ _ _ := h; unfold bu at h; exact h
theorem jy {W : Wd} {b : Bool} {v : V} (h : Den K tb W (.bl b) v) : v = .bl b := by have h : bu _ _ _ _ _ := h; unfold bu at h; exact h
theorem pB {W : Wd} {v : V} (h : Den K tb W .non v) : v = .non := by have h : bu _ _ _ _ _ := h; unfold bu at h; exact h
theorem lY {W : Wd} {x : Str} {v : V} (h : Den K tb W (.str x) v) : v = .str x := by have h : bu _ _ _ _ _ := h; unfold bu at h; exact h
theorem iU {W : Wd} {ds : List D} {v : V} (h : Den K tb W (.tup ds) v) : ∃ a xs, v = .ref a /\ SqT K (W.fz tb) a xs /\ di K tb W ds xs := by have h : bu _ _ _ _ _ := h; unfold bu at h; exact h
theorem pW {W : Wd} {ds : List D} {v : V} (h : Den K tb W (.lst ds) v) : ∃ a xs, v = .ref a /\ W.fz tb a = some (.lst xs) /\ di K tb W ds xs := by have h : bu _ _ _ _ _ := h; unfold bu at h; exact h
theorem lZ {W : Wd} {ds : List D} {v : V} (h : Den K tb W (.lst ds) v) : ∃ a xs, v = .ref a /\ SqL K (W.fz tb) a xs /\ di K tb W ds xs := let ⟨a, xs, e, q, r⟩ := pW h; ⟨a, xs, e, SqL.of q, r⟩
theorem yr {W : Wd} {ds : List D} {v : V} (h : Den K tb W (.ro ds) v) : ∃ a xs, v = .ref a /\ SqL K (W.fz tb) a xs /\ di K tb W ds xs := by have h : bu _ _ _ _ _ := h; unfold bu at h; exact h
theorem Mv {W : Wd} {kvs : List (Key × D)} {v : V} (h : Den K tb W (.dic kvs) v) : ∃ a ps, v = .ref a /\ W.fz tb a = some (.dK ps) /\ ju K (W.fz tb) W.ad kvs ps := by have h : bu _ _ _ _ _ := h; unfold bu at h; exact h
theorem jk {W : Wd} {n : Nat} {v : V} (h : Den K tb W (.cell n) v) : ∃ a, v = .ref a /\ W.ad[n]? = some a := by have h : bu _ _ _ _ _ := h; unfold bu at h; exact h
theorem my {W : Wd} {Q : VK} {ds : List D} {vs : List V} {p : Addr} (ok : WOk K tb W) (h : ∀ v W', WOk K tb W' -> Le tb W W' -> W'.mu = W.mu -> Den K tb W' (.tup ds) v -> Q v W'.H) (r : di K tb W ds vs) (hp : W.H p = none) : Q (.ref p) (upd W.H p (.tup vs)) := by
 obtain ⟨ok', le, e⟩ := ok.alloc (o := .tup vs) hp
 refine h (.ref p) _ ok' le rfl ?_
 show bu _ _ _ _ _
 unfold bu
 exact ⟨p, vs, rfl, .inl (.inl e), di.mono' r le⟩
theorem jB {W : Wd} {Q : VK} {ds : List D} {vs : List V} {p : Addr} (ok : WOk K tb W) (h : ∀ v W', WOk K tb W' -> Le tb W W' -> W'.mu = W.mu -> Den K tb W' (.lst ds) v -> Q v W'.H) (r : di K tb W ds vs) (hp : W.H p = none) : Q (.ref p) (upd W.H p (.lst vs)) := by
 obtain ⟨ok', le, e⟩ := ok.alloc (o := .lst vs) hp
 refine h (.ref p) _ ok' le rfl ?_
 show bu _ _ _ _ _
 unfold bu
 exact ⟨p, vs, rfl, e, di.mono' r le⟩
end
section
variable {X : Cx} {tb : List Addr} {a b c e : Expr} {fa fb fc f : EF} {pos : Pos}
theorem Lk {i : Nat} {x : Str} (hN : X.N[i]? = some x) (hv : Vis X.env.scope x) (hd : (x == ("__debug__" : Str)) = false := by decide) (hcd : (x == ("__classdict__" : Str)) = false := by decide) : PD X tb (.Name x pos) (aq i) :=
 fJ (MP hN hv hd hcd) λ σ H Q zq1 => by
  obtain ⟨W, δ, d, μ', e, ok, hd, hf, h⟩ := zq1
  subst e
  unfold aq at hf
  split at hf
  .rename_i d' e
   cases hf
   obtain ⟨v, ev, r⟩ := hd.2 i _ e
   exact ⟨v, ev, put ok h r⟩
  .cases hf
theorem rW {d : D} {v : V} (hp : PE X e (tC v)) (hd : ∀ W, Den X.K tb W d v) : PD X tb e (mC d) :=
 fJ hp λ σ H Q zq2 => by
  obtain ⟨W, δ, d', μ', e, ok, _, hf, h⟩ := zq2
  subst e
  cases hf
  exact put ok h (hd W)
theorem az {i j} : PD X tb (.Constant (.int i) j pos) (mC (.int i)) := rW zc λ _ => fB
theorem gW {i j} : PD X tb (.Constant (.bool i) j pos) (mC (.bl i)) := rW Qz λ _ => fQ
structure GD (K : PySem.W.Frag) (mg : Str -> Option Value) (x : Str) (d : D) : Prop where
 is : ∃ u v, mg x = some u /\ RelV v u /\ ∀ F ad, bu K F ad d v
theorem Hl {x : Str} {d : D} (G : GD X.K X.mg x d) (hg : Gl X x) (hd : (x == ("__debug__" : Str)) = false := by decide) : PD X tb (.Name x pos) (mC d) := by
 obtain ⟨u, v, e, r, q⟩ := G.is
 exact rW (Gx hg e r hd) λ W => q _ _
theorem Ml {r : V -> Hp -> VK -> Prop} {op : D -> Mu -> Option (D × Mu)} (hp : ∀ ta, PE X a ta -> PE X e (tUn r ta)) (ho : RD1 X.K tb r op) (ha : PD X tb a fa) : PD X tb e (M1 fa op) :=
 fJ (hp _ ha) λ σ H Q zq3 => by
  obtain ⟨W, δ, d, μ', e, ok, hd, hf, h⟩ := zq3
  unfold M1 at hf
  obtain ⟨⟨x, μ1⟩, e1, e2⟩ := Option.bind_eq_some_iff.mp hf
  exact ⟨W, δ, x, μ1, e, ok, hd, e1, λ v W1 ok1 l1 m1 d1 => ho W1 x v d μ' Q ok1 d1 (by rw [m1]; exact e2) λ v' W' ok' l' m' d' => h v' W' ok' (l1.trans l') m' d'⟩
theorem yW {r : R2} {op : D -> D -> Mu -> Option (D × Mu)} (hp : ∀ ta tb, PE X a ta -> PE X b tb -> PE X e (tOp r ta tb)) (ho : RD2 X.K tb r op) (ha : PD X tb a fa) (hb : PD X tb b fb) : PD X tb e (M2 fa fb op) :=
 fJ (hp _ _ ha hb) λ σ H Q zq4 => by
  obtain ⟨W, δ, d, μ', e, ok, hd, hf, h⟩ := zq4
  unfold M2 at hf
  obtain ⟨⟨x, μ1⟩, e1, hf⟩ := Option.bind_eq_some_iff.mp hf
  obtain ⟨⟨y, μ2⟩, e2, e3⟩ := Option.bind_eq_some_iff.mp hf
  refine ⟨W, δ, x, μ1, e, ok, hd, e1, λ v W1 ok1 l1 m1 d1 => ⟨W1, δ, y, μ2, rfl, ok1, hd.mono' l1, (by rw [m1]; exact e2), λ u W2 ok2 l2 m2 d2 => ?_⟩⟩
  exact ho W2 x y v u d μ' Q ok2 (Den.mono' d1 l2) d2 (by rw [m2]; exact e3) λ v' W' ok' l' m' d' => h v' W' ok' ((l1.trans l2).trans l') m' d'
theorem au : PAD X tb [] aD := JC zT λ σ H Q zq5 => by
 obtain ⟨W, δ, d, μ', e, ok, hd, hf, h⟩ := zq5
 subst e; cases hf
 exact h [] W ok (Le.refl _) rfl aC.nil
theorem aa {es : List Expr} {fs : AF} (ha : PD X tb e f) (hr : PAD X tb es fs) (hs : starEach (e :: es) X.env = (false, eval e X.env) :: starEach es X.env := by rfl) : PAD X tb (e :: es) (ao f fs) :=
 JC (rK ha hr hs) λ σ H Q zq6 => by
  obtain ⟨W, δ, ds, μ', e, ok, hd, hf, h⟩ := zq6
  unfold ao at hf
  obtain ⟨⟨x, μ1⟩, e1, hf⟩ := Option.bind_eq_some_iff.mp hf
  obtain ⟨⟨xs, μ2⟩, e2, e3⟩ := Option.bind_eq_some_iff.mp hf
  cases e3
  refine ⟨W, δ, x, μ1, e, ok, hd, e1, λ v W1 ok1 l1 m1 d1 => ⟨W1, δ, xs, _, rfl, ok1, hd.mono' l1, (by rw [m1]; exact e2), λ vs W2 ok2 l2 m2 d2 => ?_⟩⟩
  exact h (v :: vs) W2 ok2 (l1.trans l2) m2 (aC.cons (Den.mono' d1 l2) d2)
theorem Bm {es : List Expr} {fs : AF} {r : List V -> Hp -> VK -> Prop} {op : List D -> Mu -> Option (D × Mu)} (hp : ∀ ta, PA X es ta -> PE X e (tCB r ta)) (ho : RDN X.K tb r op) (ha : PAD X tb es fs) : PD X tb e (MC fs op) :=
 fJ (hp _ ha) λ σ H Q zq7 => by
  obtain ⟨W, δ, d, μ', e, ok, hd, hf, h⟩ := zq7
  unfold MC at hf
  obtain ⟨⟨x, μ1⟩, e1, e2⟩ := Option.bind_eq_some_iff.mp hf
  exact ⟨W, δ, x, μ1, e, ok, hd, e1, λ v W1 ok1 l1 m1 d1 => ho W1 x v d μ' Q ok1 d1 (by rw [m1]; exact e2) λ v' W' ok' l' m' d' => h v' W' ok' (l1.trans l') m' d'⟩
def oTup (ds : List D) (μ : Mu) : Option (D × Mu) := if ds.length <= sizeLine then some (.tup ds, μ) else none
def oLst (ds : List D) (μ : Mu) : Option (D × Mu) := if ds.length <= sizeLine then some (.lst ds, μ) else none
theorem cO {es : List Expr} {fs : AF} {x1} (h : PAD X tb es fs) : PD X tb (.Tuple es x1 pos) (MC fs oTup) :=
 Bm (r := λ xs H Q => xs.length <= sizeLine /\ ∀ p, H p = none -> Q (.ref p) (upd H p (.tup xs))) (λ ta h => Lb h) (λ W xs vs d μ' Q ok r ho h => by
  unfold oTup at ho
  split at ho
  .rename_i hl
   cases ho
   exact ⟨by rw [<- aC.length r]; exact hl, λ p hp => my ok h r hp⟩
  .cases ho) h
theorem ji {es : List Expr} {fs : AF} (h : PAD X tb es fs) : PD X tb (.List es pos) (MC fs oLst) :=
 Bm (r := λ xs H Q => xs.length <= sizeLine /\ ∀ p, H p = none -> Q (.ref p) (upd H p (.lst xs))) (λ ta h => Es h) (λ W xs vs d μ' Q ok r ho h => by
  unfold oLst at ho
  split at ho
  .rename_i hl
   cases ho
   exact ⟨by rw [<- aC.length r]; exact hl, λ p hp => jB ok h r hp⟩
  .cases ho) h
def yI : D -> Mu -> Option Bool
 | .bl b, _ => some b
 | .int i, _ => some (i != 0)
 | .non, _ => some false
 | .tup ds, _ => some !ds.isEmpty
 | .lst ds, _ => some !ds.isEmpty
 | .cell n, μ => match μ[n]? with
  | some (some ds) => some !ds.isEmpty
  | _ => none
 | _, _ => none
end
section
variable {K : PySem.W.Frag} {tb : List Addr}
theorem GR {W : Wd} {x : D} {v : V} {k : Bool} (ok : WOk K tb W) (h : Den K tb W x v) (e : yI x W.mu = some k) : Nh K v W.H k := by
 cases x with
 | non => rw [pB h]; cases e; rfl
 | bl b => rw [jy h]; cases e; rfl
 | int i => rw [bF h]; cases e; rfl
 | str y => cases e
 | dic y => cases e
 | ro y => cases e
 | tup ds =>
  obtain ⟨a, xs, rfl, q, r⟩ := iU h
  cases e
  refine .inr (.inl ⟨xs, SqT.fz q, ?_⟩)
  have := aC.length r
  cases ds <;> cases xs <;> simp_all
 | lst ds =>
  obtain ⟨a, xs, rfl, q, r⟩ := lZ h
  cases e
  refine .inl ⟨xs, SqL.fz q, ?_⟩
  have := aC.length r
  cases ds <;> cases xs <;> simp_all
 | cell n =>
  obtain ⟨a, rfl, q⟩ := jk h
  have e' : (match W.mu[n]? with | some (some ds) => some !ds.isEmpty | _ => none) = some k := e
  cases e2 : W.mu[n]? with
  | none => rw [e2] at e'; cases e'
  | some o =>
   cases o with
   | none => rw [e2] at e'; cases e'
   | some ds =>
    rw [e2] at e'
    have e'' : some (!ds.isEmpty) = some k := e'
    cases e''
    obtain ⟨xs, e3, r⟩ := ok.cont n a ds q e2
    refine .inl ⟨xs, SqL.of e3, ?_⟩
    have := aC.length r
    cases ds <;> cases xs <;> simp_all
end
section
variable {X : Cx} {tb : List Addr} {a b c e : Expr} {fa fb fc f : EF} {ta tc : TF} {pos : Pos}
def jM (f : EF) : TF := λ δ μ => (f δ μ).bind λ r => (yI r.1 r.2).map λ k => (k, r.2)
theorem cX (h : PD X tb e f) (he : ∀ whole, isTrue e X.env whole = (do let v <- whole; standAt e.pos; holding [v] (truthy v)) := by intro _; rfl) : PTD X tb e (jM f) :=
 Ak (Fp h he) λ σ H Q zq1 => by
  obtain ⟨W, δ, k, μ', e, ok, hd, hf, h⟩ := zq1
  unfold jM at hf
  obtain ⟨⟨x, μ1⟩, e1, e2⟩ := Option.bind_eq_some_iff.mp hf
  obtain ⟨k', e3, e4⟩ := Option.map_eq_some_iff.mp e2
  cases e4
  exact ⟨W, δ, x, _, e, ok, hd, e1, λ v W1 ok1 l1 m1 d1 => ⟨k, GR ok1 d1 (by rw [m1]; exact e3), h W1 ok1 l1 m1⟩⟩
structure OpD (X : Cx) (tb : List Addr) (sem : Value -> Value -> Sem Value) (op : D -> D -> Mu -> Option (D × Mu)) : Prop where
 ex : ∃ r, OpR X sem r /\ RD2 X.K tb r op
theorem aG {o : Operator} {op : D -> D -> Mu -> Option (D × Mu)} (ho : OpD X tb (binaryOp o) op) (ha : PD X tb a fa) (hb : PD X tb b fb) : PD X tb (.BinOp a o b pos) (M2 fa fb op) := by
 obtain ⟨r, h1, h2⟩ := ho.ex
 exact yW (λ ta tb ha hb => JH h1 ha hb) h2 ha hb
theorem nH {o : CmpOp} {op : D -> D -> Mu -> Option (D × Mu)} (ho : OpD X tb (compareOp o) op) (ha : PD X tb a fa) (hb : PD X tb b fb) (hm : behindInMarks o b = false := by first | exact xn _ (by decide) (by decide) | rfl) : PD X tb (.Compare a [o] [b] pos) (M2 fa fb op) := by
 obtain ⟨r, h1, h2⟩ := ho.ex
 exact yW (λ ta tb ha hb => Hz h1 ha hb hm) h2 ha hb
def toB (f : EF) : TF := λ δ μ => (f δ μ).bind λ r => match r.1 with
 | .bl k => some (k, r.2)
 | _ => none
theorem bx {o : CmpOp} {op : D -> D -> Mu -> Option (D × Mu)} (ho : OpD X tb (compareOp o) op) (ha : PD X tb a fa) (hb : PD X tb b fb) (hm : behindInMarks o b = false := by first | exact xn _ (by decide) (by decide) | rfl) : PTD X tb (.Compare a [o] [b] pos) (toB (M2 fa fb op)) := by
 obtain ⟨r, h1, h2⟩ := ho.ex
 refine Ak (Jf h1 ha hb hm) λ σ H Q zq2 => ?_
 obtain ⟨W, δ, k, μ', e, ok, hd, hf, h⟩ := zq2
 unfold toB at hf
 obtain ⟨⟨z, μz⟩, hf, ez⟩ := Option.bind_eq_some_iff.mp hf
 unfold M2 at hf
 obtain ⟨⟨x, μ1⟩, e1, hf⟩ := Option.bind_eq_some_iff.mp hf
 obtain ⟨⟨y, μ2⟩, e2, e3⟩ := Option.bind_eq_some_iff.mp hf
 cases z with
 | bl k' =>
  cases ez
  refine ⟨W, δ, x, μ1, e, ok, hd, e1, λ v W1 ok1 l1 m1 d1 => ⟨W1, δ, y, μ2, rfl, ok1, hd.mono' l1, (by rw [m1]; exact e2), λ u W2 ok2 l2 m2 d2 => ?_⟩⟩
  refine h2 W2 x y v u _ _ _ ok2 (Den.mono' d1 l2) d2 (by rw [m2]; exact e3) λ v' W' ok' l' m' d' => ?_
  exact ⟨k, jy d', h W' ok' ((l1.trans l2).trans l') m'⟩
 | _ => cases ez
def MCh (fa fb fc : EF) (op op' : D -> D -> Mu -> Option (D × Mu)) : EF := λ δ μ => (fa δ μ).bind λ r => (fb δ r.2).bind λ q => (op r.1 q.1 q.2).bind λ z => match z.1 with
 | .bl true => (fc δ z.2).bind λ t => op' q.1 t.1 t.2
 | .bl false => some (.bl false, z.2)
 | _ => none
theorem yL {r r' : R2} {op op' : D -> D -> Mu -> Option (D × Mu)} (h1 : RD2 X.K tb r op) (h2 : RD2 X.K tb r' op') {σ : SV} {H : Hp} {Q : VK} (h : tD X.K tb (MCh fa fb fc op op') σ H Q) : zg r r' (tD X.K tb fa) (tD X.K tb fb) (tD X.K tb fc) σ H Q := by
 obtain ⟨W, δ, d, μ', e, ok, hd, hf, h⟩ := h
 unfold MCh at hf
 obtain ⟨⟨x, μ1⟩, e1, hf⟩ := Option.bind_eq_some_iff.mp hf
 obtain ⟨⟨y, μ2⟩, e2, hf⟩ := Option.bind_eq_some_iff.mp hf
 obtain ⟨⟨z, μ3⟩, e3, hf⟩ := Option.bind_eq_some_iff.mp hf
 refine ⟨W, δ, x, μ1, e, ok, hd, e1, λ v W1 ok1 l1 m1 d1 => ⟨W1, δ, y, μ2, rfl, ok1, hd.mono' l1, (by rw [m1]; exact e2), λ u W2 ok2 l2 m2 d2 => ?_⟩⟩
 refine h1 W2 x y v u _ _ _ ok2 (Den.mono' d1 l2) d2 (by rw [m2]; exact e3) λ v' W3 ok3 l3 m3 d3 => ?_
 cases z with
 | bl k =>
  cases k with
  | true =>
  refine ⟨true, jy d3, ?_⟩
  rw [if_pos rfl]
  obtain ⟨⟨t, μ4⟩, e4, e5⟩ := Option.bind_eq_some_iff.mp hf
  refine ⟨W3, δ, t, μ4, rfl, ok3, hd.mono' ((l1.trans l2).trans l3), (by rw [m3]; exact e4), λ w' W4 ok4 l4 m4 d4 => ?_⟩
  exact h2 W4 y t u w' _ _ _ ok4 (Den.mono' d2 (l3.trans l4)) d4 (by rw [m4]; exact e5) λ v'' W' ok' l' m' d' => h v'' W' ok' ((((l1.trans l2).trans l3).trans l4).trans l') m' d'
  | false =>
  cases hf
  refine ⟨false, jy d3, ?_⟩
  rw [if_neg Bool.false_ne_true]
  exact h _ W3 ok3 ((l1.trans l2).trans l3) m3 fQ
 | _ => cases hf
theorem Fv {o o' : CmpOp} {op op' : D -> D -> Mu -> Option (D × Mu)} (ho : OpD X tb (compareOp o) op) (ho' : OpD X tb (compareOp o') op') (ha : PD X tb a fa) (hb : PD X tb b fb) (hc : PD X tb c fc)
  (hm : lastMarks [o, o'] [b, c] = false := by with_unfolding_all rfl) : PD X tb (.Compare a [o, o'] [b, c] pos) (MCh fa fb fc op op') := by
 obtain ⟨r, h1, h2⟩ := ho.ex
 obtain ⟨r', h1', h2'⟩ := ho'.ex
 exact fJ (Ga h1 h1' ha hb hc hm) λ σ H Q h => yL h2 h2' h
theorem Cw {o o' : CmpOp} {op op' : D -> D -> Mu -> Option (D × Mu)} (ho : OpD X tb (compareOp o) op) (ho' : OpD X tb (compareOp o') op') (ha : PD X tb a fa) (hb : PD X tb b fb) (hc : PD X tb c fc)
  (hm : lastMarks [o, o'] [b, c] = false := by with_unfolding_all rfl) : PTD X tb (.Compare a [o, o'] [b, c] pos) (toB (MCh fa fb fc op op')) := by
 obtain ⟨r, h1, h2⟩ := ho.ex
 obtain ⟨r', h1', h2'⟩ := ho'.ex
 refine Ak (Eu h1 h1' ha hb hc hm) λ σ H Q zq3 => ?_
 obtain ⟨W, δ, k, μ', e, ok, hd, hf, h⟩ := zq3
 unfold toB at hf
 obtain ⟨⟨z, μz⟩, hf2, ez⟩ := Option.bind_eq_some_iff.mp hf
 cases z with
 | bl k' =>
  cases ez
  exact yL h2 h2' ⟨W, δ, _, _, e, ok, hd, hf2, λ v W' ok' l' m' d' => ⟨k, jy d', h W' ok' l' m'⟩⟩
 | _ => cases ez
def qd (ta tc : TF) : TF := λ δ μ => (ta δ μ).bind λ r => if r.1 = true then tc δ r.2 else some (false, r.2)
def jY (ta tc : TF) : TF := λ δ μ => (ta δ μ).bind λ r => if r.1 = true then some (true, r.2) else tc δ r.2
def fX (ta : TF) : TF := λ δ μ => (ta δ μ).bind λ r => some (!r.1, r.2)
theorem Fi (ha : PTD X tb a ta) : PWD X tb (.BoolOp .And [a] pos) ta := Jq ha
theorem gY (ha : PTD X tb a ta) : PWD X tb (.BoolOp .Or [a] pos) ta := Kq ha
theorem HW {rest : List Expr} (ha : PTD X tb a ta) (hb : PWD X tb (.BoolOp .And (b :: rest) pos) tc) : PWD X tb (.BoolOp .And (a :: b :: rest) pos) (qd ta tc) :=
 JN (MN ha hb) λ σ H Q zq4 => by
  obtain ⟨W, δ, k, μ', e, ok, hd, hf, h⟩ := zq4
  unfold qd at hf
  obtain ⟨⟨z, μz⟩, e1, e2⟩ := Option.bind_eq_some_iff.mp hf
  refine ⟨W, δ, z, μz, e, ok, hd, e1, λ W1 ok1 l1 m1 => ?_⟩
  cases z with
  | true => exact ⟨W1, δ, k, μ', rfl, ok1, hd.mono' l1, (by rw [m1]; exact e2), λ W' ok' l' m' => h W' ok' (l1.trans l') m'⟩
  | false => cases e2; exact h W1 ok1 l1 m1
theorem fP {rest : List Expr} (ha : PTD X tb a ta) (hb : PWD X tb (.BoolOp .Or (b :: rest) pos) tc) : PWD X tb (.BoolOp .Or (a :: b :: rest) pos) (jY ta tc) :=
 JN (Pj ha hb) λ σ H Q zq5 => by
  obtain ⟨W, δ, k, μ', e, ok, hd, hf, h⟩ := zq5
  unfold jY at hf
  obtain ⟨⟨z, μz⟩, e1, e2⟩ := Option.bind_eq_some_iff.mp hf
  refine ⟨W, δ, z, μz, e, ok, hd, e1, λ W1 ok1 l1 m1 => ?_⟩
  cases z with
  | false => exact ⟨W1, δ, k, μ', rfl, ok1, hd.mono' l1, (by rw [m1]; exact e2), λ W' ok' l' m' => h W' ok' (l1.trans l') m'⟩
  | true => cases e2; exact h W1 ok1 l1 m1
theorem jf (h : PWD X tb a ta) : PTD X tb a ta := PW.pt h
theorem cR (ha : PTD X tb a ta) : PTD X tb (.UnaryOp .Not a pos) (fX ta) :=
 Ak (MJ ha) λ σ H Q zq6 => by
  obtain ⟨W, δ, k, μ', e, ok, hd, hf, h⟩ := zq6
  unfold fX at hf
  obtain ⟨⟨z, μz⟩, e1, e2⟩ := Option.bind_eq_some_iff.mp hf
  cases e2
  exact ⟨W, δ, z, _, e, ok, hd, e1, λ W1 ok1 l1 m1 => h W1 ok1 l1 m1⟩
def km (fa fb : EF) : EF := λ δ μ => (fa δ μ).bind λ r => match r.1 with
 | .bl true => fb δ r.2
 | .bl false => some (.bl false, r.2)
 | _ => none
def vH (fa : EF) : EF := λ δ μ => (fa δ μ).bind λ r => match r.1 with
 | .bl k => some (.bl !k, r.2)
 | _ => none
theorem jD {o} (ha : PD X tb a fa) : PD X tb (.BoolOp o [a] pos) fa := Kv ha
theorem lV {rest : List Expr} (ha : PD X tb a fa) (hb : PD X tb (.BoolOp .And (b :: rest) pos) fb) : PD X tb (.BoolOp .And (a :: b :: rest) pos) (km fa fb) :=
 fJ (Nv ha hb) λ σ H Q zq7 => by
  obtain ⟨W, δ, d, μ', e, ok, hd, hf, h⟩ := zq7
  unfold km at hf
  obtain ⟨⟨z, μz⟩, e1, e2⟩ := Option.bind_eq_some_iff.mp hf
  refine ⟨W, δ, z, μz, e, ok, hd, e1, λ v W1 ok1 l1 m1 d1 => ?_⟩
  cases z with
  | bl k =>
   cases k with
   | true =>
   refine ⟨true, jy d1, ?_⟩
   rw [if_pos rfl]
   exact ⟨W1, δ, d, μ', rfl, ok1, hd.mono' l1, (by rw [m1]; exact e2), λ v W' ok' l' m' d' => h v W' ok' (l1.trans l') m' d'⟩
   | false =>
   cases e2
   refine ⟨false, jy d1, ?_⟩
   rw [if_neg Bool.false_ne_true]
   exact h _ W1 ok1 l1 m1 fQ
  | _ => cases e2
theorem Dt (ha : PD X tb a fa) : PD X tb (.UnaryOp .Not a pos) (vH fa) :=
 fJ (Nu ha) λ σ H Q zq9 => by
  obtain ⟨W, δ, d, μ', e, ok, hd, hf, h⟩ := zq9
  unfold vH at hf
  obtain ⟨⟨z, μz⟩, e1, e2⟩ := Option.bind_eq_some_iff.mp hf
  refine ⟨W, δ, z, μz, e, ok, hd, e1, λ v W1 ok1 l1 m1 d1 => ?_⟩
  cases z with
  | bl k =>
   cases e2
   exact ⟨k, jy d1, h _ W1 ok1 l1 m1 fQ⟩
  | _ => cases e2
end
def bM : SF := λ δ μ => some (.nx, δ, μ)
def sW : SF := λ δ μ => some (.bk, δ, μ)
def aQ (g h : SF) : SF := λ δ μ => (g δ μ).bind λ r => match r.1 with
 | .nx => h r.2.1 r.2.2
 | _ => some r
def gP (f : EF) : SF := λ δ μ => (f δ μ).bind λ r => some (.nx, δ, r.2)
def bI (f : EF) : SF := λ δ μ => (f δ μ).bind λ r => some (.rt r.1, δ, r.2)
def sIf (c : TF) (g h : SF) : SF := λ δ μ => (c δ μ).bind λ r => if r.1 = true then g δ r.2 else h δ r.2
def bz (i : Nat) (f : EF) : SF := λ δ μ => (f δ μ).bind λ r => some (.nx, δ.set i (some r.1), r.2)
section
variable {X : Cx} {tb : List Addr} {e : Expr} {f : EF} {g h : SF} {st : Stmt} {rest : List Stmt} {pos : Pos}
theorem bc : uw X tb [] bM := Ey Hs λ E σ H zq11 => by
 obtain ⟨W, δ, fl, δ', μ', e, ok, hd, hf, h⟩ := zq11
 subst e; cases hf
 exact h σ W ok (Le.refl _) rfl hd
theorem aF (h1 : PSD X tb st g) : uw X tb [st] g := HJ h1
theorem aA (h1 : PSD X tb st g) (h2 : uw X tb rest h) : uw X tb (st :: rest) (aQ g h) :=
 Ey (Fd h1 h2) λ E σ H zq12 => by
  obtain ⟨W, δ, fl, δ', μ', e, ok, hd, hf, k⟩ := zq12
  unfold aQ at hf
  obtain ⟨⟨fl1, δ1, μ1⟩, e1, e2⟩ := Option.bind_eq_some_iff.mp hf
  refine ⟨W, δ, fl1, δ1, μ1, e, ok, hd, e1, λ σ1 W1 ok1 l1 m1 d1 => ?_⟩
  cases fl1 with
  | nx => exact ⟨W1, δ1, fl, δ', μ', rfl, ok1, d1, (by rw [m1]; exact e2), λ σ' W' ok' l' m' d' => k σ' W' ok' (l1.trans l') m' d'⟩
  | bk => cases e2; exact k σ1 W1 ok1 l1 m1 d1
  | ct => cases e2; exact k σ1 W1 ok1 l1 m1 d1
  | rt d => cases e2; exact k σ1 W1 ok1 l1 m1 d1
theorem Cp : PSD X tb (.Break pos) sW := kh Fw λ E σ H zq14 => by
 obtain ⟨W, δ, fl, δ', μ', e, ok, hd, hf, h⟩ := zq14
 subst e; cases hf
 exact h σ W ok (Le.refl _) rfl hd
theorem iH (he : PD X tb e f) (hs : swapsWith e none pos.line X.env = pure false := by rfl) : PSD X tb (.Expr e pos) (gP f) :=
 kh (Ip he hs) λ E σ H zq16 => by
  obtain ⟨W, δ, fl, δ', μ', e, ok, hd, hf, h⟩ := zq16
  unfold gP at hf
  obtain ⟨⟨x, μ1⟩, e1, e2⟩ := Option.bind_eq_some_iff.mp hf
  cases e2
  exact ⟨W, δ, x, _, e, ok, hd, e1, λ v W1 ok1 l1 m1 d1 => h σ W1 ok1 l1 m1 (hd.mono' l1)⟩
theorem aM (he : PD X tb e f) : PSD X tb (.Return (some e) pos) (bI f) :=
 kh (KR he) λ E σ H zq17 => by
  obtain ⟨W, δ, fl, δ', μ', e, ok, hd, hf, h⟩ := zq17
  unfold bI at hf
  obtain ⟨⟨x, μ1⟩, e1, e2⟩ := Option.bind_eq_some_iff.mp hf
  cases e2
  exact ⟨W, δ, x, _, e, ok, hd, e1, λ v W1 ok1 l1 m1 d1 => h σ W1 ok1 l1 m1 (hd.mono' l1) v d1⟩
theorem bR {c : Expr} {tc : TF} {as bs : List Stmt} (hc : PTD X tb c tc) (ha : uw X tb as g) (hb : uw X tb bs h) : PSD X tb (.If c as bs pos) (sIf tc g h) :=
 kh (Qv hc ha hb) λ E σ H zq18 => by
  obtain ⟨W, δ, fl, δ', μ', e, ok, hd, hf, k⟩ := zq18
  unfold sIf at hf
  obtain ⟨⟨z, μ1⟩, e1, e2⟩ := Option.bind_eq_some_iff.mp hf
  refine ⟨W, δ, z, μ1, e, ok, hd, e1, λ W1 ok1 l1 m1 => ?_⟩
  cases z with
  | true => exact ⟨W1, δ, fl, δ', μ', rfl, ok1, hd.mono' l1, (by rw [m1]; exact e2), λ σ' W' ok' l' m' d' => k σ' W' ok' (l1.trans l') m' d'⟩
  | false => exact ⟨W1, δ, fl, δ', μ', rfl, ok1, hd.mono' l1, (by rw [m1]; exact e2), λ σ' W' ok' l' m' d' => k σ' W' ok' (l1.trans l') m' d'⟩
theorem aX {i : Nat} {x : Str} {pos' : Pos} (hN : X.N.Nodup) (he : PD X tb e f) (hi : X.N[i]? = some x := by rfl) (hx : Loc X.env.scope x := by first | exact Or.inl rfl | exact Or.inr rfl) (hs : swapsWith e (some (.Name x pos')) pos.line X.env = pure false := by rfl)
  (hf : X.fn x = true ∨ X.env.scope.names.lookup x = some .local := by first | exact .inl rfl | exact .inr rfl | assumption) : PSD X tb (.Assign [.Name x pos'] e pos) (bz i f) :=
 kh (Ni hN hi hx he hs hf) λ E σ H zq19 => by
  obtain ⟨W, δ, fl, δ', μ', e, ok, hd, hf, h⟩ := zq19
  unfold bz at hf
  obtain ⟨⟨x, μ1⟩, e1, e2⟩ := Option.bind_eq_some_iff.mp hf
  cases e2
  exact ⟨W, δ, x, _, e, ok, hd, e1, λ v W1 ok1 l1 m1 d1 => h _ W1 ok1 l1 m1 ((hd.mono' l1).set d1)⟩
def wU (i j : Nat) (fs : AF) : SF := λ δ μ => (fs δ μ).bind λ r => match r.1 with
 | [x, y] => some (.nx, (δ.set i (some x)).set j (some y), r.2)
 | _ => none
theorem wV {i j : Nat} {x y : Str} {a b : Expr} {fs : AF} {px py pt : Pos} {kt k2 pt2} (hc : X.calm = true) (hN : X.N.Nodup) (ha : PAD X tb [a, b] fs) (hij : i ≠ j := by decide) (hi : X.N[i]? = some x := by rfl) (hj : X.N[j]? = some y := by rfl)
  (hx : X.env.scope.names.lookup x = some .local := by rfl) (hy : X.env.scope.names.lookup y = some .local := by rfl)
  (hw : swappedStores [.Tuple [.Name x px, .Name y py] kt pt] (.Tuple [a, b] k2 pt2) X.env = pure (some [x, y]) := by rfl)
  (hs : swapsWithSole [.Tuple [.Name x px, .Name y py] kt pt] (.Tuple [a, b] k2 pt2) pos.line X.env = pure false := by rfl) :
  PSD X tb (.Assign [.Tuple [.Name x px, .Name y py] kt pt] (.Tuple [a, b] k2 pt2) pos) (wU i j fs) :=
 kh (Oa hc hN hi hj hij hx hy ha hw hs) λ E σ H zq20 => by
  obtain ⟨W, δ, fl, δ', μ', e, ok, hd, hf, h⟩ := zq20
  unfold wU at hf
  obtain ⟨⟨xs, μ1⟩, e1, e2⟩ := Option.bind_eq_some_iff.mp hf
  match xs, e1, e2 with
  | [x, y], e1, e2 =>
   cases e2
   refine ⟨W, δ, _, _, e, ok, hd, e1, λ vs W1 ok1 l1 m1 d1 => ?_⟩
   obtain ⟨u, v, rfl, du, dv⟩ := aC.two d1
   exact ⟨u, v, rfl, h _ W1 ok1 l1 m1 (((hd.mono' l1).set du).set dv)⟩
def fU (c : TF) (b : SF) : Nat -> SF
 | 0 => λ _ _ => none
 | n + 1 => λ δ μ => (c δ μ).bind λ r => if r.1 = true then (b δ r.2).bind λ q => match q.1 with
   | .nx => fU c b n q.2.1 q.2.2
   | .ct => fU c b n q.2.1 q.2.2
   | .bk => some (.nx, q.2)
   | .rt d => some (.rt d, q.2)
  else some (.nx, δ, r.2)
theorem kW {c : TF} {b : SF} : ∀ {n m : Nat} {δ : En} {μ : Mu} {r : Fl × En × Mu}, n <= m -> fU c b n δ μ = some r -> fU c b m δ μ = some r
 | 0, _, _, _, _, _, h => by cases h
 | n + 1, 0, _, _, _, hl, _ => by omega
 | n + 1, m + 1, δ, μ, r, hl, h => by
  unfold fU at h ⊢
  obtain ⟨q, e1, e2⟩ := Option.bind_eq_some_iff.mp h
  rw [e1]
  show (if q.1 = true then _ else _) = _
  by_cases hq : q.1 = true
  .rw [if_pos hq] at e2 ⊢
   obtain ⟨t, e3, e4⟩ := Option.bind_eq_some_iff.mp e2
   rw [e3]
   show (match t.1 with | .nx => _ | .ct => _ | .bk => _ | .rt d => _) = _
   cases ht : t.1 with
   | nx => rw [ht] at e4; exact kW (by omega) e4
   | ct => rw [ht] at e4; exact kW (by omega) e4
   | bk => rw [ht] at e4; exact e4
   | rt d => rw [ht] at e4; exact e4
  .rw [if_neg hq] at e2 ⊢; exact e2
open Classical in
noncomputable def mx (c : TF) (b : SF) : SF := λ δ μ => if h : ∃ n r, fU c b n δ μ = some r then some (choose (choose_spec h)) else none
theorem qu {c : TF} {b : SF} {n : Nat} {δ : En} {μ : Mu} {r : Fl × En × Mu} (h : fU c b n δ μ = some r) : mx c b δ μ = some r := by
 have hx : ∃ n r, fU c b n δ μ = some r := ⟨n, r, h⟩
 unfold mx
 rw [dif_pos hx]
 have q := Classical.choose_spec (Classical.choose_spec hx)
 have a := kW (Nat.le_max_left n (Classical.choose hx)) h
 have b := kW (Nat.le_max_right n (Classical.choose hx)) q
 rw [a] at b
 exact b.symm
theorem Cv {c : TF} {b : SF} {δ : En} {μ : Mu} {r : Fl × En × Mu} (h : mx c b δ μ = some r) : ∃ n, fU c b n δ μ = some r := by
 unfold mx at h
 split at h
 .rename_i hx
  cases h
  exact ⟨_, Classical.choose_spec (Classical.choose_spec hx)⟩
 .cases h
theorem qG {c : Expr} {tc : TF} {body : List Stmt} (hp : PassesOwn (model X.prog X.w) X.A X.env X.xe) (hc : PTD X tb c tc) (hb : uw X tb body g) : PSD X tb (.While c body [] pos) (mx tc g) :=
 kh (Fo hp hc hb) λ E σ H zq21 => by
  obtain ⟨W, δ, fl, δ', μ', e, ok, hd, hf, h⟩ := zq21
  obtain ⟨n0, hn0⟩ := Cv hf
  refine ⟨λ m σ1 H1 => ∃ W1 δ1, W1.H = H1 /\ WOk X.K tb W1 /\ Le tb W W1 /\ jw X.K tb W1 δ1 σ1 /\ fU tc g m δ1 W1.mu = some (fl, δ', μ'), ⟨n0, W, δ, e, ok, Le.refl _, hd, hn0⟩, ?_⟩
  rintro m σ1 H1 ⟨W1, δ1, rfl, ok1, l1, d1, hn⟩
  cases m with
  | zero => cases hn
  | succ m =>
   unfold fU at hn
   obtain ⟨⟨k, μ2⟩, e1, e2⟩ := Option.bind_eq_some_iff.mp hn
   refine ⟨W1, δ1, k, μ2, rfl, ok1, d1, e1, λ W2 ok2 l2 m2 => ?_⟩
   cases k with
   | false =>
    cases e2
    rw [if_neg Bool.false_ne_true]
    exact h σ1 W2 ok2 (l1.trans l2) m2 (d1.mono' l2)
   | true =>
    rw [if_pos rfl]
    obtain ⟨⟨fl3, δ3, μ3⟩, e3, e4⟩ := Option.bind_eq_some_iff.mp e2
    refine ⟨λ σ3 H3 => ∃ W3, W3.H = H3 /\ WOk X.K tb W3 /\ Le tb W W3 /\ jw X.K tb W3 δ3 σ3 /\ fU tc g m δ3 W3.mu = some (fl, δ', μ'), λ σ3 H3 ⟨W3, q1, q2, q3, q4, q5⟩ => ⟨m, Nat.lt_succ_self _, W3, δ3, q1, q2, q3, q4, q5⟩, ?_⟩
    refine ⟨W2, δ1, fl3, δ3, μ3, rfl, ok2, d1.mono' l2, (by rw [m2]; exact e3), λ σ3 W3 ok3 l3 m3 d3 => ?_⟩
    cases fl3 with
    | nx => exact ⟨W3, rfl, ok3, (l1.trans l2).trans l3, d3, by rw [m3]; exact e4⟩
    | ct => exact ⟨W3, rfl, ok3, (l1.trans l2).trans l3, d3, by rw [m3]; exact e4⟩
    | bk => cases e4; exact h σ3 W3 ok3 ((l1.trans l2).trans l3) m3 d3
    | rt d => cases e4; exact h σ3 W3 ok3 ((l1.trans l2).trans l3) m3 d3
end
abbrev GF := D -> En -> Mu -> Option En
abbrev GsF := List D -> En -> Mu -> Option En
def tDG (K : PySem.W.Frag) (tb : List Addr) (ts : List Nat) (h : GF) : TG := λ v σ H Q => ∃ W δ d δ', W.H = H /\ WOk K tb W /\ jw K tb W δ σ /\ Den K tb W d v /\ h d δ W.mu = some δ' /\
 ∀ σ', jw K tb W δ' σ' -> σ'.length = σ.length -> (∀ i, i ∉ ts -> σ'[i]? = σ[i]?) -> Q σ' H
def tDGs (K : PySem.W.Frag) (tb : List Addr) (ts : List Nat) (h : GsF) : TGs := λ vs σ H Q => ∃ W δ ds δ', W.H = H /\ WOk K tb W /\ jw K tb W δ σ /\ di K tb W ds vs /\ h ds δ W.mu = some δ' /\
 ∀ σ', jw K tb W δ' σ' -> σ'.length = σ.length -> (∀ i, i ∉ ts -> σ'[i]? = σ[i]?) -> Q σ' H
def PGD (X : Cx) (tb : List Addr) (tg : Expr) (ts : List Nat) (h : GF) : Prop := PG X tg (tDG X.K tb ts h)
def IV (X : Cx) (tb : List Addr) (tg : List Expr) (ts : List Nat) (h : GsF) : Prop := PGs X tg (tDGs X.K tb ts h)
theorem JV {X : Cx} {e : Expr} {t t' : TG} (h : PG X e t) (k : ∀ v σ H Q, t' v σ H Q -> t v σ H Q) : PG X e t' := λ pins s σ H v u Q I r hq => h pins s σ H v u Q I r (k v σ H Q hq)
theorem Dl {X : Cx} {e : List Expr} {t t' : TGs} (h : PGs X e t) (k : ∀ v σ H Q, t' v σ H Q -> t v σ H Q) : PGs X e t' := λ pins s σ H v u Q I r hq => h pins s σ H v u Q I r (k v σ H Q hq)
def hName (i : Nat) : GF := λ d δ _ => some (δ.set i (some d))
def gZ : GsF := λ ds δ _ => match ds with
 | [] => some δ
 | _ => none
def bj (h : GF) (hs : GsF) : GsF := λ ds δ μ => match ds with
 | [] => none
 | d :: r => (h d δ μ).bind λ δ1 => hs r δ1 μ
def iw (n : Nat) (hs : GsF) : GF := λ d δ μ => match d with
 | .tup ds => if ds.length = n then hs ds δ μ else none
 | _ => none
section
variable {X : Cx} {tb : List Addr} {e tg iter elt : Expr} {f : EF} {pos : Pos}
theorem aH {i : Nat} {x : Str} (hN : X.N.Nodup) (hi : X.N[i]? = some x := by rfl) (hx : Loc X.env.scope x := by first | exact Or.inl rfl | exact Or.inr rfl)
  (hf : X.fn x = true ∨ X.env.scope.names.lookup x = some .local := by first | exact .inl rfl | exact .inr rfl | assumption) : PGD X tb (.Name x pos) [i] (hName i) :=
 JV (Js hN hi hx hf) λ v σ H Q zq1 => by
  obtain ⟨W, δ, d, δ', e, ok, hd, dv, hh, h⟩ := zq1
  cases hh
  refine h _ (hd.set dv) (by rw [List.length_set]) λ j hj => ?_
  rw [List.getElem?_set_ne (λ z => hj (by simp [z]))]
theorem cJ : IV X tb [] [] gZ :=
 Dl GZ λ vs σ H Q zq2 => by
  obtain ⟨W, δ, ds, δ', e, ok, hd, dv, hh, h⟩ := zq2
  match ds, dv, hh with
  | [], dv, hh =>
   cases hh
   exact ⟨aC.zero dv, h σ hd rfl λ _ _ => rfl⟩
theorem aR {es : List Expr} {ts us : List Nat} {h : GF} {hs : GsF} (h1 : PGD X tb e ts h) (h2 : IV X tb es us hs)
  (ha : (assignEach (e :: es) X.env).map (·.2) = assign e X.env :: (assignEach es X.env).map (·.2) := by rfl) : IV X tb (e :: es) (ts ++ us) (bj h hs) :=
 Dl (Ew h1 h2 ha) λ vs σ H Q zq3 => by
  obtain ⟨W, δ, ds, δ', e, ok, hd, dv, hh, k⟩ := zq3
  match ds, dv, hh with
  | d :: r, dv, hh =>
   obtain ⟨δ1, e1, e2⟩ := Option.bind_eq_some_iff.mp hh
   have dv' : aC _ _ _ _ _ := dv
   unfold aC at dv'
   obtain ⟨u, us', rfl, p, q⟩ := dv'
   refine ⟨u, us', rfl, W, δ, d, δ1, e, ok, hd, p, e1, λ σ1 d1 l1 s1 => ⟨W, δ1, r, δ', e, ok, d1, q, e2, λ σ2 d2 l2 s2 => ?_⟩⟩
   exact k σ2 d2 (l2.trans l1) λ i hi => (s2 i λ z => hi (List.mem_append_right _ z)).trans (s1 i λ z => hi (List.mem_append_left _ z))
theorem dI {es : List Expr} {k : Nat} {ts : List Nat} {hs : GsF} {n : Nat} (hc : X.calm = true) (h : IV X tb es ts hs) (hn : (assignEach es X.env).length = n := by rfl) (hst : (assignEach es X.env).findIdx? (·.1) = none := by rfl) :
  PGD X tb (.Tuple es k pos) ts (iw n hs) :=
 JV (Ma hc h hn hst) λ v σ H Q zq4 => by
  obtain ⟨W, δ, d, δ', e, ok, hd, dv, hh, k⟩ := zq4
  cases d with
  | tup ds =>
   obtain ⟨a, xs, rfl, q, r⟩ := iU dv
   have hh' : (if ds.length = n then hs ds δ W.mu else none) = some δ' := hh
   by_cases hl : ds.length = n
   .rw [if_pos hl] at hh'
    have q' : SqT X.K H a xs := by rw [<- e]; exact SqT.fz q
    have hl' : xs.length = n := by rw [<- aC.length r]; exact hl
    exact ⟨a, xs, rfl, q', hl', ⟨W, δ, ds, δ', e, ok, hd, r, hh', k⟩⟩
   .rw [if_neg hl] at hh'; cases hh'
  | _ => cases hh
def ut (f : EF) (h : GF) : SF := λ δ μ => (f δ μ).bind λ r => (h r.1 δ r.2).bind λ δ' => some (.nx, δ', r.2)
theorem lO {ts : List Nat} {h : GF} (he : PD X tb e f) (hg : PGD X tb tg ts h) (hs : swapsWithSole [tg] e pos.line X.env = pure false := by rfl) (hw : swappedStores [tg] e X.env = pure none := by rfl)
  (h1 : (assignEach [tg] X.env).map (·.2) = [assign tg X.env] := by rfl) : PSD X tb (.Assign [tg] e pos) (ut f h) :=
 kh (Du he hg hs hw h1) λ E σ H zq5 => by
  obtain ⟨W, δ, fl, δ', μ', e, ok, hd, hf, k⟩ := zq5
  unfold ut at hf
  obtain ⟨⟨x, μ1⟩, e1, hf⟩ := Option.bind_eq_some_iff.mp hf
  obtain ⟨δ1, e2, e3⟩ := Option.bind_eq_some_iff.mp hf
  cases e3
  refine ⟨W, δ, x, _, e, ok, hd, e1, λ v W1 ok1 l1 m1 d1 => ⟨W1, δ, x, _, rfl, ok1, hd.mono' l1, d1, (by rw [m1]; exact e2), λ σ1 d2 _ _ => ?_⟩⟩
  exact k σ1 W1 ok1 l1 m1 d2
structure Src where
 items : List D
 cel : Option Nat
def Src.ok (S : Src) (μ : Mu) : Prop := ∀ n, S.cel = some n -> μ[n]? = some (some S.items)
theorem Src.bT {S : Src} {μ : Mu} (h : S.cel = none) : S.ok μ := λ n e => by rw [h] at e; cases e
abbrev IF := En -> Mu -> Option (Src × Mu)
structure Ck (K : PySem.W.Frag) (tb : List Addr) (J : It) (S : Src) (W0 : Wd) : Prop where
 go : ∀ (i : Nat) W d, Le tb W0 W -> WOk K tb W -> S.ok W.mu -> S.items[i]? = some d -> J.go i W.H /\ ∀ x H', J.yld i W.H x H' -> ∃ W', W'.H = H' /\ WOk K tb W' /\ Le tb W W' /\ W'.mu = W.mu /\ Den K tb W' d x
 stop : ∀ (i : Nat) W, Le tb W0 W -> WOk K tb W -> S.ok W.mu -> S.items.length <= i -> J.stop i W.H
def tDI (K : PySem.W.Frag) (tb : List Addr) (f : IF) : TI := λ σ H R => ∃ W δ S μ', W.H = H /\ WOk K tb W /\ jw K tb W δ σ /\ f δ W.mu = some (S, μ') /\
 ∀ J W', WOk K tb W' -> Le tb W W' -> W'.mu = μ' -> Ck K tb J S W' -> R J W'.H
def PID (X : Cx) (tb : List Addr) (tg iter : Expr) (f : IF) : Prop := PI X tg iter (tDI X.K tb f)
theorem Dz {w w' : TI} (h : PI X tg iter w) (k : ∀ σ H R, w' σ H R -> w σ H R) : PI X tg iter w' := λ pins s σ H R I hq => h pins s σ H R I (k σ H R hq)
theorem Kg {l : Expr} {tl : TE} (hl : PE X l tl) : PI X tg l (λ σ H R => tl σ H λ x H1 => ∃ a, x = .ref a /\ ((∃ xs, SqL X.K H1 a xs) /\ R (Itl X.K a) H1 ∨ (∃ xs, SqT X.K H1 a xs) /\ R (Itt X.K a) H1)) := by
 intro pins s σ H R I h
 refine thn (hl pins s σ H _ I h) λ v s1 zq6 => ?_
 obtain ⟨x, H1, I1, r1, q1⟩ := zq6
 obtain ⟨a, e, q⟩ := q1
 subst e
 cases r1
 rcases q with ⟨⟨xs, hq⟩, q⟩ | ⟨⟨xs, hq⟩, q⟩
 .obtain ⟨its, rv, p, hz⟩ := I1.list hq
  refine wpAny_pyIter_list p.isList ?_
  refine ⟨s1.heap.objs.size, [s1.heap.objs.size], _, _, H1, rfl, I1.kept (t' := s1.toks) λ b o e => Heap.get?_push_of_some _ e, vG a _, ⟨_, Heap.get?_push_size _ rfl, rfl, rfl⟩, λ b hb => ?_, q⟩
  have e : b = s1.heap.objs.size := by simpa using hb
  subst e
  exact I1.fpOk (Nat.le_refl _) (I1.hok.fresh (Nat.le_refl _))
 .obtain ⟨its, rv, p, hz⟩ := I1.tuple hq
  refine wpAny_pyIter_tuple (show s1.heap.IsTuple a its.toArray from p) ?_
  refine ⟨s1.heap.objs.size, [s1.heap.objs.size], _, _, H1, rfl, I1.kept (t' := s1.toks) λ b o e => Heap.get?_push_of_some _ e, um a _, ⟨_, Heap.get?_push_size _ rfl, rfl, rfl⟩, λ b hb => ?_, q⟩
  have e : b = s1.heap.objs.size := by simpa using hb
  subst e
  exact I1.fpOk (Nat.le_refl _) (I1.hok.fresh (Nat.le_refl _))
def srcOf (d : D) (μ : Mu) : Option Src := match d with
 | .tup ds => some ⟨ds, none⟩
 | .lst ds => some ⟨ds, none⟩
 | .cell n => match μ[n]? with
  | some (some ds) => some ⟨ds, some n⟩
  | _ => none
 | _ => none
theorem Gj {K : PySem.W.Frag} {W0 : Wd} {a : Addr} {xs : List V} {ds : List D} (q : SqL K (W0.fz tb) a xs) (r : di K tb W0 ds xs) : Ck K tb (Itl K a) ⟨ds, none⟩ W0 where
 go := λ i W d l ok _ e => by
  have q' : SqL K W.H a xs := SqL.fz (SqL.mono l.same q)
  obtain ⟨v, ev, dv⟩ := aC.get (di.mono' r l) e
  exact ⟨⟨xs, v, q', ev⟩, λ x H' ⟨e1, e2⟩ => ⟨W, e1.symm, ok, Le.refl _, rfl, by have := e2 xs q'; rw [ev] at this; cases this; exact dv⟩⟩
 stop := λ i W l ok _ hi => ⟨xs, SqL.fz (SqL.mono l.same q), by rw [<- aC.length r]; exact hi⟩
theorem Dn {K : PySem.W.Frag} {W0 : Wd} {a : Addr} {xs : List V} {ds : List D} (q : SqT K (W0.fz tb) a xs) (r : di K tb W0 ds xs) : Ck K tb (Itt K a) ⟨ds, none⟩ W0 where
 go := λ i W d l ok _ e => by
  have q' : SqT K W.H a xs := SqT.fz (SqT.mono l.same q)
  obtain ⟨v, ev, dv⟩ := aC.get (di.mono' r l) e
  exact ⟨⟨xs, v, q', ev⟩, λ x H' ⟨e1, e2⟩ => ⟨W, e1.symm, ok, Le.refl _, rfl, by have := e2 xs q'; rw [ev] at this; cases this; exact dv⟩⟩
 stop := λ i W l ok _ hi => ⟨xs, SqT.fz (SqT.mono l.same q), by rw [<- aC.length r]; exact hi⟩
theorem Ku {K : PySem.W.Frag} {W0 : Wd} {a : Addr} {n : Nat} {ds : List D} (q : W0.ad[n]? = some a) : Ck K tb (Itl K a) ⟨ds, some n⟩ W0 where
 go := λ i W d l ok hs e => by
  obtain ⟨xs, ex, r⟩ := ok.cont n a ds (l.ad _ _ q) (hs n rfl)
  obtain ⟨v, ev, dv⟩ := aC.get r e
  exact ⟨⟨xs, v, SqL.of ex, ev⟩, λ x H' ⟨e1, e2⟩ => ⟨W, e1.symm, ok, Le.refl _, rfl, by have := e2 xs (SqL.of ex); rw [ev] at this; cases this; exact dv⟩⟩
 stop := λ i W l ok hs hi => by
  obtain ⟨xs, ex, r⟩ := ok.cont n a ds (l.ad _ _ q) (hs n rfl)
  exact ⟨xs, SqL.of ex, by rw [<- aC.length r]; exact hi⟩
def gk (f : EF) : IF := λ δ μ => (f δ μ).bind λ r => (srcOf r.1 r.2).map λ S => (S, r.2)
theorem dC (he : PD X tb e f) : PID X tb tg e (gk f) :=
 Dz (Kg he) λ σ H R zq7 => by
  obtain ⟨W, δ, S, μ', e, ok, hd, hf, h⟩ := zq7
  unfold gk at hf
  obtain ⟨⟨x, μ1⟩, e1, hf⟩ := Option.bind_eq_some_iff.mp hf
  obtain ⟨S', e2, e3⟩ := Option.map_eq_some_iff.mp hf
  cases e3
  refine ⟨W, δ, x, _, e, ok, hd, e1, λ v W1 ok1 l1 m1 d1 => ?_⟩
  cases x with
  | tup ds =>
   cases e2
   obtain ⟨a, xs, rfl, q, r⟩ := iU d1
   exact ⟨a, rfl, .inr ⟨⟨xs, SqT.fz q⟩, h _ W1 ok1 l1 m1 (Dn q r)⟩⟩
  | lst ds =>
   cases e2
   obtain ⟨a, xs, rfl, q, r⟩ := lZ d1
   exact ⟨a, rfl, .inl ⟨⟨xs, SqL.fz q⟩, h _ W1 ok1 l1 m1 (Gj q r)⟩⟩
  | cell n =>
   obtain ⟨a, rfl, q⟩ := jk d1
   have e2' : (match μ1[n]? with | some (some ds) => some (⟨ds, some n⟩ : Src) | _ => none) = some S := e2
   cases e4 : μ1[n]? with
   | none => rw [e4] at e2'; cases e2'
   | some o =>
    cases o with
    | none => rw [e4] at e2'; cases e2'
    | some ds =>
     rw [e4] at e2'
     cases e2'
     obtain ⟨xs, ex, _⟩ := ok1.cont n a ds q (by rw [m1]; exact e4)
     exact ⟨a, rfl, .inl ⟨⟨xs, SqL.of ex⟩, h _ W1 ok1 l1 m1 (Ku q)⟩⟩
  | _ => cases e2
def gm (lo : Int) (n : Nat) : List D := (List.range n).map λ (k : Nat) => D.int (lo + (k : Int))
theorem La {K : PySem.W.Frag} {W0 : Wd} {lo : Int} {n : Nat} : Ck K tb (Itr lo n) ⟨gm lo n, none⟩ W0 where
 go := λ i W d l ok _ e => by
  unfold gm at e
  rw [List.getElem?_map] at e
  by_cases hi : i < n
  .rw [List.getElem?_range hi] at e
   cases e
   exact ⟨hi, λ x H' ⟨e1, e2⟩ => ⟨W, e1.symm, ok, Le.refl _, rfl, by rw [e2]; exact fB⟩⟩
  .rw [List.getElem?_eq_none (by simpa using hi)] at e; cases e
 stop := λ i W l ok _ hi => by
  unfold gm at hi
  have hi' : n <= i := by simpa using hi
  exact hi'
def cC (fs : AF) : IF := λ δ μ => (fs δ μ).bind λ r => match r.1 with
 | [.int j] => if -(2 ^ 62) <= j /\ j < 2 ^ 62 then some (⟨gm 0 j.toNat, none⟩, r.2) else none
 | _ => none
theorem cZ {a : Expr} {fs : AF} {p : Pos} (hm : X.mg "range" = none) (ha : PAD X tb [a] fs) (hg : Gl X "range" := by rfl) (hs : starEach [a] X.env = [(false, eval a X.env)] := by rfl) : PID X tb tg (.Call (.Name "range" p) [a] [] pos) (cC fs) :=
 Dz (BL hg hm ha hs) λ σ H R zq8 => by
  obtain ⟨W, δ, S, μ', e, ok, hd, hf, h⟩ := zq8
  unfold cC at hf
  obtain ⟨⟨xs, μ1⟩, e1, e2⟩ := Option.bind_eq_some_iff.mp hf
  match xs, e1, e2 with
  | [.int j], e1, e2 =>
   have e2' : (if -(2 ^ 62) <= j /\ j < 2 ^ 62 then some ((⟨gm 0 j.toNat, none⟩ : Src), μ1) else none) = some (S, μ') := e2
   split at e2'
   .rename_i hj
    cases e2'
    refine ⟨W, δ, _, _, e, ok, hd, e1, λ vs W1 ok1 l1 m1 d1 => ?_⟩
    obtain ⟨u, rfl, du⟩ := aC.one d1
    rw [bF du]
    exact ⟨j, rfl, hj.1, hj.2, h _ W1 ok1 l1 m1 La⟩
   .cases e2'
open Classical in
noncomputable def forL (S : Src) (h : GF) (b : SF) : List D -> SF
 | [], δ, μ => if S.ok μ then some (.nx, δ, μ) else none
 | d :: r, δ, μ => if S.ok μ then (h d δ μ).bind λ δ1 => (b δ1 μ).bind λ q => match q.1 with
   | .nx => forL S h b r q.2.1 q.2.2
   | .ct => forL S h b r q.2.1 q.2.2
   | .bk => some (.nx, q.2)
   | .rt d => some (.rt d, q.2)
  else none
noncomputable def iC (f : IF) (h : GF) (b : SF) : SF := λ δ μ => (f δ μ).bind λ r => forL r.1 h b r.1.items δ r.2
theorem fY {body : List Stmt} {fi : IF} {ts : List Nat} {h : GF} {b : SF} (hp : PassesOwn (model X.prog X.w) X.A X.env X.xe) (hc : X.calm = true) (hi : PID X tb tg iter fi) (hg : PGD X tb tg ts h) (hb : uw X tb body b)
  (hs : ∀ x, foldedSetIterable iter X.env x = pure x := by intro _; rfl) : PSD X tb (.For tg iter body [] pos) (iC fi h b) :=
 kh (Lg hp hc hi hg hb hs) λ E σ H zq10 => by
  obtain ⟨W, δ, fl, δ', μ', e, ok, hd, hf, k⟩ := zq10
  unfold iC at hf
  obtain ⟨⟨S, μ1⟩, e1, e2⟩ := Option.bind_eq_some_iff.mp hf
  refine ⟨W, δ, S, μ1, e, ok, hd, e1, λ J W1 ok1 l1 m1 io => ?_⟩
  refine ⟨λ i m σ2 H2 => m = S.items.length - i /\ i <= S.items.length /\ ∃ W2 δ2, W2.H = H2 /\ WOk X.K tb W2 /\ Le tb W1 W2 /\ jw X.K tb W2 δ2 σ2 /\ forL S h b (S.items.drop i) δ2 W2.mu = some (fl, δ', μ'),
   ⟨S.items.length, rfl, Nat.zero_le _, W1, δ, rfl, ok1, Le.refl _, hd.mono' l1, by rw [m1]; exact e2⟩, ?_⟩
  rintro i m σ2 H2 ⟨hm, hi', W2, δ2, rfl, ok2, l2, d2, hn⟩
  by_cases hlt : i < S.items.length
  .right
   have hdr : S.items.drop i = S.items[i] :: S.items.drop (i + 1) := List.drop_eq_getElem_cons hlt
   rw [hdr] at hn
   unfold forL at hn
   split at hn
   .rename_i hok
    obtain ⟨δ3, e3, hn⟩ := Option.bind_eq_some_iff.mp hn
    obtain ⟨⟨fl4, δ4, μ4⟩, e4, e5⟩ := Option.bind_eq_some_iff.mp hn
    obtain ⟨go, yl⟩ := io.go i W2 S.items[i] l2 ok2 hok (by simp [hlt])
    refine ⟨go, λ σ5 H5 => ∃ W5, W5.H = H5 /\ WOk X.K tb W5 /\ Le tb W1 W5 /\ jw X.K tb W5 δ4 σ5 /\ forL S h b (S.items.drop (i + 1)) δ4 W5.mu = some (fl, δ', μ'), λ σ5 H5 ⟨W5, q1, q2, q3, q4, q5⟩ => ⟨S.items.length - (i + 1), by omega, rfl, hlt, W5, δ4, q1, q2, q3, q4, q5⟩, λ x H' y => ?_⟩
    obtain ⟨W3, rfl, ok3, l3, m3, d3⟩ := yl x H' y
    refine ⟨W3, δ2, S.items[i], δ3, rfl, ok3, d2.mono' l3, d3, (by rw [m3]; exact e3), λ σ3 d3' _ _ => ?_⟩
    refine ⟨W3, δ3, fl4, δ4, μ4, rfl, ok3, d3', (by rw [m3]; exact e4), λ σ4 W4 ok4 l4 m4 d4 => ?_⟩
    cases fl4 with
    | nx => exact ⟨W4, rfl, ok4, (l2.trans l3).trans l4, d4, by rw [m4]; exact e5⟩
    | ct => exact ⟨W4, rfl, ok4, (l2.trans l3).trans l4, d4, by rw [m4]; exact e5⟩
    | bk => cases e5; exact k σ4 W4 ok4 (((l1.trans l2).trans l3).trans l4) m4 d4
    | rt d => cases e5; exact k σ4 W4 ok4 (((l1.trans l2).trans l3).trans l4) m4 d4
   .cases hn
  .left
   have hdr : S.items.drop i = [] := List.drop_of_length_le (by omega)
   rw [hdr] at hn
   unfold forL at hn
   split at hn
   .rename_i hok
    have hn' : some (Fl.nx, δ2, W2.mu) = some (fl, δ', μ') := hn
    cases hn'
    exact ⟨io.stop i W2 l2 ok2 hok (by omega), k σ2 W2 ok2 (l1.trans l2) rfl d2⟩
   .cases hn
abbrev LF := En -> Mu -> Option (List D × Mu)
def tDN (K : PySem.W.Frag) (tb : List Addr) (f : LF) : TE := λ σ H Q => ∃ W δ ds μ', W.H = H /\ WOk K tb W /\ jw K tb W δ σ /\ f δ W.mu = some (ds, μ') /\
 ∀ p vs W', WOk K tb W' -> Le tb W W' -> W'.mu = μ' -> W'.H p = none -> di K tb W' ds vs -> Q (.ref p) (upd W'.H p (.lst vs))
def PDN (X : Cx) (tb : List Addr) (e : Expr) (f : LF) : Prop := PE X e (tDN X.K tb f)
def mFz (f : LF) : EF := λ δ μ => (f δ μ).bind λ r => some (.lst r.1, r.2)
def oA (f : LF) : EF := λ δ μ => (f δ μ).bind λ r => some (.cell r.2.length, r.2 ++ [some r.1])
theorem gB {f : LF} (h : PDN X tb e f) : PD X tb e (mFz f) := fJ h λ σ H Q zq11 => by
 obtain ⟨W, δ, d, μ', e, ok, hd, hf, k⟩ := zq11
 unfold mFz at hf
 obtain ⟨⟨ds, μ1⟩, e1, e2⟩ := Option.bind_eq_some_iff.mp hf
 cases e2
 refine ⟨W, δ, ds, _, e, ok, hd, e1, λ p vs W1 ok1 l1 m1 hp r => ?_⟩
 exact jB ok1 (λ v W' ok' l' m' d' => k v W' ok' (l1.trans l') (m'.trans m1) d') r hp
theorem nY {f : LF} (h : PDN X tb e f) : PD X tb e (oA f) := fJ h λ σ H Q zq12 => by
 obtain ⟨W, δ, d, μ', e, ok, hd, hf, k⟩ := zq12
 unfold oA at hf
 obtain ⟨⟨ds, μ1⟩, e1, e2⟩ := Option.bind_eq_some_iff.mp hf
 cases e2
 refine ⟨W, δ, ds, μ1, e, ok, hd, e1, λ p vs W1 ok1 l1 m1 hp r => ?_⟩
 obtain ⟨ok2, l2, d2⟩ := ok1.new hp r
 exact k _ _ ok2 (l1.trans l2) (by show W1.mu ++ [some ds] = _; rw [m1]) (by rw [<- m1]; exact d2)
def sI (fs : AF) : LF := λ δ μ => (fs δ μ).bind λ r => if r.1.length <= sizeLine then some r else none
theorem pK {es : List Expr} {fs : AF} (h : PAD X tb es fs) : PDN X tb (.List es pos) (sI fs) := fJ (Es h) λ σ H Q zq13 => by
 obtain ⟨W, δ, ds, μ', e, ok, hd, hf, k⟩ := zq13
 unfold sI at hf
 obtain ⟨⟨xs, μ1⟩, e1, e2⟩ := Option.bind_eq_some_iff.mp hf
 split at e2
 .rename_i hl
  cases e2
  exact ⟨W, δ, _, _, e, ok, hd, e1, λ vs W1 ok1 l1 m1 d1 => ⟨by rw [<- aC.length d1]; exact hl, λ p hp => k p vs W1 ok1 l1 m1 hp d1⟩⟩
 .cases e2
def cT (own : List Str) (δ : En) (capI : List Nat) : En := List.replicate own.length none ++ capI.map λ i => (δ[i]?).join
theorem wy {K : PySem.W.Frag} {W : Wd} {own : List Str} {capI : List Nat} {δ : En} {σ : SV} (h : jw K tb W δ σ) : jw K tb W (cT own δ capI) (cU own σ capI) := by
 refine ⟨by unfold cT cU rY; simp, λ i d e => ?_⟩
 unfold cT at e
 unfold cU rY
 by_cases hi : i < own.length
 .rw [List.getElem?_append_left (by simpa using hi), List.getElem?_replicate] at e
  split at e <;> cases e
 .rw [List.getElem?_append_right (by simpa using hi), List.getElem?_map] at e
  rw [List.getElem?_append_right (by simpa using hi), List.getElem?_map]
  rw [List.length_replicate] at e ⊢
  cases q : capI[i - own.length]? with
  | none => rw [q] at e; cases e
  | some j =>
   rw [q] at e
   have e' : (δ[j]?).join = some d := by simpa using e
   cases q2 : δ[j]? with
   | none => rw [q2] at e'; cases e'
   | some o =>
    rw [q2] at e'
    have e2 : o = some d := e'
    subst e2
    obtain ⟨v, ev, dv⟩ := h.2 j d q2
    exact ⟨v, by simp [ev], dv⟩
theorem fits_of {own : List Str} {capI : List Nat} {σ σ' : SV} {ts : List Nat} (hts : ∀ i ∈ ts, i < own.length) (hl : σ'.length = (cU own σ capI).length) (h : ∀ i, i ∉ ts -> σ'[i]? = (cU own σ capI)[i]?) : Fits (cU own σ capI) σ' :=
 ⟨hl, λ i v e => by
  rw [h i λ z => ?_]
  .exact e
  .unfold cU at e
   rw [List.getElem?_append_left (by simpa using hts i z), List.getElem?_replicate] at e
   split at e <;> cases e⟩
open Classical in
noncomputable def lcL (S : Src) (h : GF) (tt : TF) (fe : EF) (δb : En) : List D -> Mu -> Option (List D × Mu)
 | [], μ => if S.ok μ then some ([], μ) else none
 | d :: r, μ => if S.ok μ then (h d δb μ).bind λ δ1 => (tt δ1 μ).bind λ k => if k.1 = true then (fe δ1 k.2).bind λ y => (lcL S h tt fe δb r y.2).bind λ ys => some (y.1 :: ys.1, ys.2) else lcL S h tt fe δb r k.2 else none
noncomputable def lLC (own : List Str) (capI : List Nat) (fi : IF) (h : GF) (tt : TF) (fe : EF) : LF := λ δ μ => (fi δ μ).bind λ r => if r.1.items.length <= sizeLine then lcL r.1 h tt fe (cT own δ capI) r.1.items r.2 else none
def DK (X : Cx) (tb : List Addr) (ifs : List Expr) (t : TF) : Prop := PIf X ifs (tDT X.K tb t)
def dh : TF := λ _ μ => some (true, μ)
theorem LQ {X : Cx} {e : List Expr} {t t' : TT} (h : PIf X e t) (k : ∀ σ H Q, t' σ H Q -> t σ H Q) : PIf X e t' := λ pins s σ H Q I hq => h pins s σ H Q I (k σ H Q hq)
theorem eF : DK X tb [] dh := LQ Jd λ σ H Q zq14 => by
 obtain ⟨W, δ, k, μ', e, ok, hd, hf, h⟩ := zq14
 subst e; cases hf
 exact h W ok (Le.refl _) rfl
theorem Eg {c : Expr} {t : TF} (h : PTD X tb c t) : DK X tb [c] t := Jc h
theorem jb {ifs : List Expr} {fi : IF} {h : GF} {tt : TF} {fe : EF} {own cap : List Str} {capI ts : List Nat} {scope : Scope} (hc : X.calm = true) (B : gw X own cap capI scope) (hown : ∀ x ∈ own, (x, NameKind.free) ∉ scope.names) (hi : PID X tb tg iter fi)
  (hg : ∀ cs C fp s2 H2, PGD (dD X own cap scope cs C fp s2 H2) tb tg ts h) (ht : ∀ cs C fp s2 H2, DK (dD X own cap scope cs C fp s2 H2) tb ifs tt) (he : ∀ cs C fp s2 H2, PD (dD X own cap scope cs C fp s2 H2) tb elt fe)
  (hts : ∀ i ∈ ts, i < own.length := by decide) (hs : ∀ x, foldedSetIterable iter X.env x = pure x := by intro _; rfl) : PDN X tb (.ListComp elt [⟨tg, iter, ifs, 0⟩] scope pos) (lLC own capI fi h tt fe) :=
 fJ (PK (g := tDG X.K tb ts h) (tt := tDT X.K tb tt) (te := tD X.K tb fe) hc B hown hi hg ht he hs) λ σ H Q zq15 => by
  obtain ⟨W, δ, ds, μ', e, ok, hd, hf, k⟩ := zq15
  unfold lLC at hf
  obtain ⟨⟨S, μ1⟩, e1, e2⟩ := Option.bind_eq_some_iff.mp hf
  split at e2
  .rename_i hz
   refine ⟨W, δ, S, μ1, e, ok, hd, e1, λ J W1 ok1 l1 m1 io => ?_⟩
   refine ⟨λ i m ys H2 => m = S.items.length - i /\ i <= S.items.length /\ ys.length <= i /\ ∃ W2 zs rs, W2.H = H2 /\ WOk X.K tb W2 /\ Le tb W1 W2 /\ di X.K tb W2 zs ys /\ lcL S h tt fe (cT own δ capI) (S.items.drop i) W2.mu = some (rs, μ') /\ zs ++ rs = ds,
    ⟨S.items.length, rfl, Nat.zero_le _, Nat.zero_le _, W1, [], ds, rfl, ok1, Le.refl _, aC.nil, by rw [m1]; exact e2, rfl⟩, ?_⟩
   rintro i m ys H2 ⟨hm, hi', hy, W2, zs, rs, rfl, ok2, l2, d2, hn, hzs⟩
   by_cases hlt : i < S.items.length
   .right
    have hdr : S.items.drop i = S.items[i] :: S.items.drop (i + 1) := List.drop_eq_getElem_cons hlt
    rw [hdr] at hn
    unfold lcL at hn
    split at hn
    .rename_i hok
     obtain ⟨δ3, e3, hn⟩ := Option.bind_eq_some_iff.mp hn
     obtain ⟨⟨kk, μ4⟩, e4, hn⟩ := Option.bind_eq_some_iff.mp hn
     obtain ⟨go, yl⟩ := io.go i W2 S.items[i] l2 ok2 hok (by simp [hlt])
     refine ⟨go, Nat.lt_of_lt_of_le (Nat.lt_of_le_of_lt hy hlt) hz, λ x H' y => ?_⟩
     obtain ⟨W3, rfl, ok3, l3, m3, d3⟩ := yl x H' y
     refine ⟨W3, cT own δ capI, S.items[i], δ3, rfl, ok3, (wy hd).mono' ((l1.trans l2).trans l3), d3, (by rw [m3]; exact e3), λ σ3 d3' hl3 ht3 => ⟨fits_of hts hl3 ht3, ?_⟩⟩
     refine ⟨W3, δ3, kk, μ4, rfl, ok3, d3', (by rw [m3]; exact e4), λ W4 ok4 l4 m4 => ?_⟩
     cases kk with
     | false =>
      rw [if_neg Bool.false_ne_true]
      exact ⟨S.items.length - (i + 1), by omega, rfl, hlt, by omega, W4, zs, rs, rfl, ok4, (l2.trans l3).trans l4, di.mono' d2 (l3.trans l4), by rw [m4]; exact hn, hzs⟩
     | true =>
      rw [if_pos rfl]
      have hn' : ((fe δ3 μ4).bind λ y => (lcL S h tt fe (cT own δ capI) (S.items.drop (i + 1)) y.2).bind λ ys => some (y.1 :: ys.1, ys.2)) = some (rs, μ') := hn
      obtain ⟨⟨yd, μ5⟩, e5, hn'⟩ := Option.bind_eq_some_iff.mp hn'
      obtain ⟨⟨rs', μ6⟩, e6, e7⟩ := Option.bind_eq_some_iff.mp hn'
      cases e7
      refine ⟨W4, δ3, yd, μ5, rfl, ok4, d3'.mono' l4, (by rw [m4]; exact e5), λ v W5 ok5 l5 m5 d5 => ?_⟩
      refine ⟨S.items.length - (i + 1), by omega, rfl, hlt, by rw [List.length_append]; simp; omega, W5, zs ++ [yd], rs', rfl, ok5, ((l2.trans l3).trans l4).trans l5, aC.append (di.mono' d2 ((l3.trans l4).trans l5)) (aC.cons d5 aC.nil), by rw [m5]; exact e6, by rw [List.append_assoc]; exact hzs⟩
    .cases hn
   .left
    have hdr : S.items.drop i = [] := List.drop_of_length_le (by omega)
    rw [hdr] at hn
    unfold lcL at hn
    split at hn
    .rename_i hok
     cases hn
     rw [List.append_nil] at hzs
     subst hzs
     exact ⟨io.stop i W2 l2 ok2 hok (by omega), λ l hl => k l ys W2 ok2 (l1.trans l2) rfl hl d2⟩
    .cases hn
  .cases e2
end
end L3
namespace L2
open PySem PySem.Spec PyProof.Rows
theorem zr {X : Cx} {pins : List (Addr × Obj)} {σ : L2.St} {H : Hp} {s : Shared} (I : Inv X pins σ H s) (hc : X.calm = true) {A' : Around} (h1 : A'.handled = X.A.handled) (h2 : A'.frames = X.A.frames) : A'.handled = none /\ A'.frames = some X.stack :=
 ⟨h1.trans (I.ok.hd hc), h2.trans I.ok.frames⟩
theorem wg {X : Cx} {e : Expr} {pos : Pos} {s : Shared} {Q : List Value -> Shared -> Prop} (h : wpAny (model X.prog X.w) X.A (eval e X.env) (λ u s1 => Q [u] s1) X.xe s) (hs : starEach [e] X.env = (false, eval e X.env) :: starEach [] X.env := by rfl) :
  wpAny (model X.prog X.w) X.A (spliced (backTo pos (starEach [e] X.env))) Q X.xe s := by
 rw [hs]
 show wpAny _ _ (spliced ((false, eval e X.env) :: backTo pos (starEach [] X.env))) _ _ s
 exact Calls.spliced_cons (thn h λ u s1 q => Calls.spliced_nil q)
def IK (y : V) (k : Bool) : Prop := y = .bl k ∨ ∃ i, y = .int i /\ k = (i != 0)
theorem HR {P : Program} {w : World} {A : Around} {E : Value -> Shared -> Prop} {s : Shared} {y : V} {v : Value} {k : Bool} {Q : Bool -> Shared -> Prop} (r : RelV y v) (h : IK y k) (hq : Q k s) : wpAny (model P w) A (truthy v) Q E s := by
 rcases h with rfl | ⟨i, rfl, rfl⟩
 .cases r; exact wpAny_truthy_bool hq
 .obtain ⟨t, rfl⟩ := r; exact PySem.P.truthy_int hq
theorem xq {M : Model} {A : Around} {E : Value -> Shared -> Prop} {s : Shared} {t : Sem (Option Value)} {P : Value -> Shared -> Prop} {f : Value -> Sem Unit} (hf : ∀ u, f u = pure ())
  (h : wpAny M A t (λ r s1 => ∃ u, r = some u /\ wpAny M A (f u) (λ _ s2 => P u s2) E s1) E s) : wpAny M A t (λ r s1 => ∃ u, r = some u /\ P u s1) E s := λ Γ p hΓ =>
 Sem.wp_mono M Γ t (λ a p' s ⟨u, e, q⟩ => ⟨u, e, by rw [hf] at q; exact q Γ p' hΓ⟩) (λ _ _ _ e => e) p s (h Γ p hΓ)
section
variable {X : Cx} {e : Expr} {ts : rC} {p pos : Pos} {pins : List (Addr × Obj)} {σ : L2.St}
def Qc (ts : rC) : TE := λ σ H Q => ts σ H λ S H1 => ∃ W : Nat -> Nat -> Hp -> Prop, (∃ m, W 0 m H1) /\ ∀ i m H, W i m H ->
 (S.fin i H /\ Q (.bl true) H) ∨ S.nxt i H λ y H' => ∃ k, IK y k /\ if k = true then ∃ m', m' < m /\ W (i + 1) m' H' else Q (.bl false) H'
theorem Ft {it : Addr} {lo : Nat} {S : oW} {SS : List (Addr × Obj) -> Nat -> Hp -> Shared -> Prop} {Q : VK} {W : Nat -> Nat -> Hp -> Prop} (sm : yH X pins σ X.A.in1 it lo S SS)
  (st : ∀ i m H, W i m H -> (S.fin i H /\ Q (.bl true) H) ∨ S.nxt i H λ y H' => ∃ k, IK y k /\ if k = true then ∃ m', m' < m /\ W (i + 1) m' H' else Q (.bl false) H') :
  ∀ (m i : Nat) (H : Hp) (s : Shared), SS [] i H s -> W i m H -> codeAny (model X.prog X.w) X.A (.builtin "all.loop" ⟨[.ref it], []⟩) (λ r s' => ∃ u, r = .ok (.ret u) /\ EP X pins σ Q u s') s := by
 intro m
 induction m using Nat.strongRecOn with
 | ind m ih =>
  intro i H s hs hw
  refine codeAny_builtin F.entry_all_loop ?_
  rw [Around.under_plainId F.plain_all_loop _]
  show wpAny _ X.A.in1 (pyNext (.ref it) >>= _) _ _ s
  rcases st i m H hw with ⟨hf, q⟩ | hn
  .refine wpAny_bind (wpAny_mono (sm.stop (λ _ _ => False) hs hf) (λ r s1 ⟨hr, I1⟩ => ?_) λ _ _ z => z.elim)
   subst hr
   refine wpAny_bind (wpAny_rule (wpAny_pure ⟨_, rfl, .bl true, H, ?_, rfl, q⟩))
   rw [List.append_nil] at I1
   exact I1
  .refine wpAny_bind (wpAny_mono (sm.next (λ _ _ => False) hs hn) (λ r s1 ⟨u, y, H', hr, ry, ⟨k, tk, q⟩, hs'⟩ => ?_) λ _ _ z => z.elim)
   subst hr
   refine wpAny_bind (wpAny_holding (HR ry tk ?_))
   refine wpAny_bind (wpAny_letGo ?_)
   cases k with
   | true =>
    simp only [if_true]
    rw [if_pos rfl] at q
    obtain ⟨m', hm, hw'⟩ := q
    exact wpAny_pure ⟨plainId_quiet F.plain_all_loop _, ih m' hm (i + 1) H' s1 hs' hw'⟩
   | false =>
    simp only [Bool.false_eq_true, if_false]
    rw [if_neg Bool.false_ne_true] at q
    refine wpAny_bind (wpAny_rule (wpAny_pure ⟨_, rfl, .bl false, H', ?_, rfl, q⟩))
    have I1 := sm.inv hs'
    rw [List.append_nil] at I1
    exact I1
theorem Hu (hc : X.calm = true) (hm : X.mg "all" = none) (hstr : zG X e ts) (hg : Gl X "all" := by rfl) (hs : starEach [e] X.env = (false, eval e X.env) :: starEach [] X.env := by rfl) : PE X (.Call (.Name "all" p) [e] [] pos) (Qc ts) := by
 intro pins s σ H Q I h
 refine wpAny_Call_Name_kw (nF I hg hm boot_all ?_ (by decide) (by decide))
 refine PyProof.Rows.callWith_builtin1 (wg (thn (hstr pins s σ H _ I h) λ u s1 ⟨S, H1, I1, rdy, W, ⟨m, w0⟩, st⟩ => ?_) hs) hs rfl
 refine call_function_tree F.kind_all F.plain_all F.entry_all (F.args_all1 _) ?_
 unfold Builtin.«all»
 refine wpAny_bind (m := oneArg "all" _) (wpAny_pure ?_)
 obtain ⟨a1, a2⟩ := zr I1 hc (A' := X.A.in1) rfl rfl
 refine wpAny_bind (wpAny_mono (rdy X.A.in1 (λ _ _ => False) a1 a2 (Nat.le_succ _) (by show X.A.units + 1 <= _; omega)) (λ itv s2 ⟨it, lo, SS, e, sm, s0, _⟩ => ?_) λ _ _ z => z.elim)
 subst e
 refine wpAny_pure ⟨plainId_quiet F.plain_all_loop _, codeAny_mono (Ft sm st m 0 H1 s2 s0 w0) λ r s' ⟨u, hr, q⟩ => ?_⟩
 subst hr
 exact q
def Ao (J : It) : oW := ⟨λ i H Q => J.go i H /\ ∀ x H', J.yld i H x H' -> Q x H', λ i H => J.stop i H⟩
theorem vg {A' : Around} {it : Addr} {fp : List Addr} {tn : Nat -> Heap -> Prop} {J : It} {H : Hp} {s : Shared} (hc : X.calm = true) (hP : A'.handled = none) (hf : A'.frames = some X.stack)
  (T : Turn X.prog X.w X.K (.Name "x" ⟨0, 0, 0, 0⟩) J fp it tn) (I : Inv X pins σ H s) (st : tn 0 s.heap) (fk : ∀ b ∈ fp, mz X pins H b) :
  ∃ lo SS, yH X pins σ A' it lo (Ao J) SS /\ SS [] 0 H s /\ lo <= s.heap.objs.size := by
 have toA : ∀ {P : List (Addr × Obj)} {H : Hp} {s : Shared}, Inv X P σ H s -> Inv ({ X with A := A' } : Cx) P σ H s := λ I =>
  ⟨⟨I.ok.mod, I.ok.kind, I.ok.glob, I.ok.blt, I.ok.above, I.ok.inj, I.ok.has, I.ok.cab, λ _ => hP, hf, I.ok.stk, I.ok.exf, I.ok.bs, I.ok.bsz, I.ok.noex, I.ok.exfs, I.ok.funs, I.ok.frf⟩, I.os, I.bare, I.base, I.loc, I.cell, I.free, I.freeC, I.pin, I.hok, I.len⟩
 have ofA : ∀ {P : List (Addr × Obj)} {H : Hp} {s : Shared}, X.Ok -> Inv ({ X with A := A' } : Cx) P σ H s -> Inv X P σ H s := λ ok I =>
  ⟨ok, I.os, I.bare, I.base, I.loc, I.cell, I.free, I.freeC, I.pin, I.hok, I.len⟩
 have flt : ∀ b ∈ fp, b < s.heap.objs.size := λ b hb => let ⟨o, e, _⟩ := T.obj 0 _ st b hb; Heap.lt_size e
 have fkA : ∀ {P : List (Addr × Obj)} {H' : Hp}, (∀ p ∈ P, s.heap.objs.size <= p.1) -> (∀ b ∈ fp, H' b = none) -> ∀ b ∈ fp, mz ({ X with A := A' } : Cx) (pins ++ P) H' b := λ {P H'} hP hn b hb => by
  obtain ⟨q0, q1, q2, q3, q4, q5⟩ := fk b hb
  refine ⟨hn b hb, q1, q2, q3, q4, λ p hp => ?_⟩
  rcases List.mem_append.mp hp with z | z
  .exact q5 p (by simp only [List.mem_append]; exact .inl z)
  .rcases List.mem_append.mp z with z | z
   .exact q5 p (by simp only [List.mem_append]; exact .inr z)
   .exact λ e => absurd (flt b hb) (by rw [<- e]; exact Nat.not_lt.mpr (hP p z))
 refine ⟨s.heap.objs.size, λ P i H' s' => (∀ p ∈ P, s.heap.objs.size <= p.1) /\ Inv X (pins ++ P) σ H' s' /\ tn i s'.heap /\ ∀ b ∈ fp, H' b = none, ⟨λ st => st.2.1, ?_, ?_, ?_, ?_, ?_, ?_⟩, ⟨λ p hp => absurd hp (by simp), by rw [List.append_nil]; exact I, st, λ b hb => (fk b hb).1⟩, Nat.le_refl _⟩
 .rintro P i H1 s1 Q E ⟨hP1, I1, st1, fr1⟩ ⟨go, yl⟩
  have q := T.item ({ X with A := A' } : Cx) rfl rfl rfl hc i (pins ++ P) s1 σ H1 (λ _ _ => False) (toA I1) (fkA hP1 fr1) st1 go
  refine wpAny_mono (xq (λ u => rfl) q) (λ r s2 ⟨u, hr, x, H', I3, r3, y3, st3, fr3⟩ => ?_) λ _ _ z => z.elim
  exact ⟨u, x, H', hr, r3, yl x H' y3, hP1, ofA I1.ok I3, st3, fr3⟩
 .rintro P i H1 s1 E ⟨hP1, I1, st1, fr1⟩ hf
  exact wpAny_mono (T.done ({ X with A := A' } : Cx) rfl rfl rfl hc i (pins ++ P) s1 σ H1 (λ _ _ => False) (toA I1) (fkA hP1 fr1) st1 hf) (λ r s2 ⟨hr, I2⟩ => ⟨hr, ofA I1.ok I2⟩) λ _ _ z => z.elim
 .rintro P i H1 s1 h' tk ⟨hP1, I1, st1, fr1⟩ hk
  exact ⟨hP1, I1.kept hk, T.keep _ _ _ st1 λ b _ o e => hk b o e, fr1⟩
 .rintro P i H1 s1 D o ⟨hP1, I1, st1, fr1⟩ hD ho hn hcell
  refine ⟨λ p hp => ?_, I1.pins_of λ p hp => ?_, st1, fr1⟩
  .rcases List.mem_cons.mp hp with z | z
   .subst z; exact hD
   .exact hP1 p z
  .rcases List.mem_append.mp hp with z | z
   .exact I1.pin p (by simp [z])
   .rcases List.mem_cons.mp z with z | z
    .subst z
     exact ⟨ho, hn, λ z => absurd I.lt (by rw [<- z]; exact Nat.not_lt.mpr hD), I.nofs hD, hcell⟩
    .exact I1.pin p (by simp [z])
 .rintro p P i H1 s1 ⟨hP1, I1, st1, fr1⟩
  exact ⟨λ q hq => hP1 q (List.mem_cons_of_mem _ hq), I1.pins_of λ q hq => I1.pin q (by rcases List.mem_append.mp hq with z | z <;> simp [z]), st1, fr1⟩
 .rintro P i H1 s1 h' tk D ⟨hP1, I1, st1, fr1⟩ hD hn hPD hk
  have l4 : ∀ b, b < s.heap.objs.size -> b ≠ D := λ b hb => Nat.ne_of_lt (Nat.lt_of_lt_of_le hb hD)
  refine ⟨hP1, I1.turned hk hn (Ne.symm (l4 _ I.lt)) (.inr (Nat.le_trans I.sz hD)) (λ x c e => let ⟨v, q⟩ := I.cell x c e; l4 c q.lt) (λ p hp => ?_), T.keep _ _ _ st1 λ b hb o e => hk b o (l4 b (flt b hb)) e, fr1⟩
  rcases List.mem_append.mp hp with z | z
  .exact l4 _ (Heap.lt_size (I.pin p (by simp [z])).1)
  .rcases List.mem_append.mp z with z | z
   .exact l4 _ (Heap.lt_size (I.pin p (by simp [z])).1)
   .exact hPD p z
theorem Gp {te : TE} (hc : X.calm = true) (he : PE X e te) : zG X e (λ σ H R => te σ H λ x H1 => ∃ a, x = .ref a /\ ((∃ xs, SqL X.K H1 a xs) /\ R (Ao (Itl X.K a)) H1 ∨ (∃ xs, SqT X.K H1 a xs) /\ R (Ao (Itt X.K a)) H1)) := by
 intro pins s σ H R I h
 refine thn (he pins s σ H _ I h) λ v s1 zq1 => ?_
 obtain ⟨x, H1, I1, r1, a, e, q⟩ := zq1
 subst e
 cases r1
 rcases q with ⟨⟨xs, hq⟩, q⟩ | ⟨⟨xs, hq⟩, q⟩
 .refine ⟨_, H1, I1, λ A' E h1 h2 h3 h4 => ?_, q⟩
  obtain ⟨its, rv, p, hz⟩ := I1.list hq
  refine wpAny_pyIter_list p.isList ?_
  obtain ⟨lo, SS, sm, s0, hl⟩ := vg (A' := A') (H := H1) (s := { s1 with heap := s1.heap.push { cls := .type "list_iterator", data := .fields #[.ref a, .int 0 0] } }) hc h1 h2 (vG a s1.heap.objs.size) (I1.kept (t' := s1.toks) λ b o e => Heap.get?_push_of_some _ e) ⟨_, Heap.get?_push_size _ rfl, rfl, rfl⟩ λ b hb => by
   have e : b = s1.heap.objs.size := by simpa using hb
   subst e
   exact I1.fpOk (Nat.le_refl _) (I1.hok.fresh (Nat.le_refl _))
  exact ⟨_, lo, SS, rfl, sm, s0, hl⟩
 .refine ⟨_, H1, I1, λ A' E h1 h2 h3 h4 => ?_, q⟩
  obtain ⟨its, rv, p, hz⟩ := I1.tuple hq
  refine wpAny_pyIter_tuple (show s1.heap.IsTuple a its.toArray from p) ?_
  obtain ⟨lo, SS, sm, s0, hl⟩ := vg (A' := A') (H := H1) (s := { s1 with heap := s1.heap.push { cls := .type "tuple_iterator", data := .fields #[.ref a, .int 0 0] } }) hc h1 h2 (um a s1.heap.objs.size) (I1.kept (t' := s1.toks) λ b o e => Heap.get?_push_of_some _ e) ⟨_, Heap.get?_push_size _ rfl, rfl, rfl⟩ λ b hb => by
   have e : b = s1.heap.objs.size := by simpa using hb
   subst e
   exact I1.fpOk (Nat.le_refl _) (I1.hok.fresh (Nat.le_refl _))
  exact ⟨_, lo, SS, rfl, sm, s0, hl⟩
end
section
variable {X : Cx} {e : Expr} {ts : rC} {p pos : Pos} {pins : List (Addr × Obj)} {σ : L2.St}
def KJ (S : oW) (Fin : List V -> Hp -> Prop) (H1 : Hp) : Prop := ∃ W : Nat -> Nat -> List V -> Hp -> Prop, (∃ m, W 0 m [] H1) /\ ∀ i m ys H, W i m ys H ->
 (S.fin i H /\ Fin ys H) ∨ (ys.length < sizeLine /\ S.nxt i H λ y H' => ∃ m', m' < m /\ W (i + 1) m' (ys ++ [y]) H')
theorem xV {A : Around} {it D : Addr} {lo : Nat} {S : oW} {SS : List (Addr × Obj) -> Nat -> Hp -> Shared -> Prop} {Fin : List V -> Hp -> Prop} {W : Nat -> Nat -> List V -> Hp -> Prop} {res : Value} (sm : yH X pins σ A.in1 it lo S SS) (hD : lo <= D)
  (st : ∀ i m ys H, W i m ys H -> (S.fin i H /\ Fin ys H) ∨ (ys.length < sizeLine /\ S.nxt i H λ y H' => ∃ m', m' < m /\ W (i + 1) m' (ys ++ [y]) H')) :
  ∀ (m i : Nat) (ys : List V) (us : List Value) (c : Nat) (H : Hp) (s : Shared), SS [] i H s -> W i m ys H -> Vals ys us -> ys.length <= sizeLine -> s.heap.get? D = some (bN us c) -> H D = none ->
   codeAny (model X.prog X.w) A (.builtin "list.extend.loop" ⟨[.ref D, .ref it, res], []⟩) (λ r s' => r = .ok (.ret res) /\ ∃ ys us c H', Inv X pins σ H' s' /\ Vals ys us /\ ys.length <= sizeLine /\ s'.heap.get? D = some (bN us c) /\ H' D = none /\ Fin ys H') s := by
 intro m
 induction m using Nat.strongRecOn with
 | ind m ih =>
  intro i ys us c H s hs hw hv hz ho hn
  have hsp := sm.pin hs hD ho hn (λ v z => by cases z)
  refine codeAny_builtin F.entry_extend_loop ?_
  rw [Around.under_plainId F.plain_extend_loop _]
  show wpAny _ A.in1 (pyNext (.ref it) >>= _) _ _ s
  rcases st i m ys H hw with ⟨hf, q⟩ | ⟨hlt, hn'⟩
  .refine wpAny_bind (wpAny_mono (sm.stop (λ _ _ => False) hsp hf) (λ r s1 ⟨hr, I1⟩ => ?_) λ _ _ z => z.elim)
   subst hr
   have pl := I1.pin (D, bN us c) (by simp)
   exact wpAny_pure ⟨rfl, ys, us, c, H, I1.pins_of λ p hp => I1.pin p (by simp [hp]), hv, hz, pl.1, hn, q⟩
  .refine wpAny_bind (wpAny_mono (sm.next (λ _ _ => False) hsp hn') (λ r s1 ⟨u, y, H', hr, ry, ⟨m', hm, hw'⟩, hs'⟩ => ?_) λ _ _ z => z.elim)
   subst hr
   have pl := (sm.inv hs').pin (D, bN us c) (by simp)
   have hul : us.length = ys.length := hv.length.symm
   show wpAny _ A.in1 (updateSeq D (·.push u) >>= _) _ _ _
   refine wpAny_bind ?_
   refine wpAny_updateSeq pl.1 rfl (wpAny_pure ⟨plainId_quiet F.plain_extend_loop _, ih m' hm (i + 1) (ys ++ [y]) (us ++ [u]) (c + 1) H' _ (sm.acc (tk := s1.toks) (sm.unpin hs') hD pl.2.1 (λ p hp => absurd hp (by simp)) λ b o hb e => (Heap.get?_update_other _ _ (Ne.symm hb)).trans e) hw' (hv.append (.cons ry .nil)) (by rw [List.length_append]; exact hlt) ?_ pl.2.1⟩) ?_ ?_
   .rw [Heap.get?_update_self _ pl.1 rfl]
    simp [Obj.mapSeq, bN]
   .show us.toArray.size <= sizeLine
    rw [List.size_toArray, hul]; exact hz
   .show (us.toArray.push u).size <= sizeLine + 1
    rw [Array.size_push, List.size_toArray, hul]; omega
theorem yg {A : Around} {E : Value -> Shared -> Prop} {a : Addr} {lo : Nat} {S : oW} {SS : List (Addr × Obj) -> Nat -> Hp -> Shared -> Prop} {Fin : List V -> Hp -> Prop} {H : Hp} {s : Shared} {Q : List Value -> Shared -> Prop} (sm : yH X pins σ A.in1 a lo S SS) (hs : SS [] 0 H s) (hal : a < lo) (hlo : lo <= s.heap.objs.size)
  (hg : ∀ P i H s, SS P i H s -> ∃ g, s.heap.IsGen a g) (hC : KJ S Fin H) (hQ : ∀ ys us H' s', Inv X pins σ H' s' -> Vals ys us -> ys.length <= sizeLine -> Fin ys H' -> Q us s') : wpAny (model X.prog X.w) A (collect (.ref a)) Q E s := by
 obtain ⟨W, ⟨m, w0⟩, st⟩ := hC
 have hT : ∀ {P i H s}, SS P i H s -> s.TypeIs (.ref a) "generator" := λ h => let ⟨g, ig⟩ := hg _ _ _ _ h; ig.typeIs
 have hSa : s.heap.objs.size ≠ a := Nat.ne_of_gt (Nat.lt_of_lt_of_le hal hlo)
 unfold collect
 refine wpAny_bind (wpAny_runValue (codeAny_builtin F.entry_proto_collect ?_))
 rw [Around.under_plainId F.plain_proto_collect _]
 show wpAny _ A.in1 (newList [] >>= λ l => again (.builtin "list.__iadd__" ⟨[l, .ref a], []⟩)) _ _ s
 refine wpAny_bind (wpAny_newObj_type ?_)
 refine wpAny_pure ⟨plainId_quiet F.plain_list_iadd _, codeAny_builtin F.entry_list_iadd ?_⟩
 rw [Around.under_plainId F.plain_list_iadd _]
 have hn : H s.heap.objs.size = none := (sm.inv hs).hok.fresh (Nat.le_refl _)
 have hst₁ := sm.keep (h' := s.heap.push { cls := .type "list", data := .seq ([] : List Value).toArray }) (tk := s.toks) hs λ b o e => Heap.get?_push_of_some _ e
 show wpAny _ A.in1 (Builtin.List.listExtendWith (.ref s.heap.objs.size) (.ref a) (.ref s.heap.objs.size)) _ _ _
 unfold Builtin.List.listExtendWith
 refine wpAny_bind (wpAny_typeOf (hT hst₁) ?_)
 have h1 : Builtin.List.listSameRef (.ref s.heap.objs.size) (.ref a) = false := by simp [Builtin.List.listSameRef, hSa]
 have h2 : (Value.type "generator" == Value.type "list") = false := by decide
 have h3 : (Value.type "generator" == Value.type "tuple") = false := by decide
 simp only [h1, h2, h3, Bool.or_false, Bool.false_eq_true, if_false]
 obtain ⟨g1, ig1⟩ := hg _ _ _ _ hst₁
 refine wpAny_bind (wpAny_pyIter_gen ig1 ?_)
 refine wpAny_bind (wpAny_holding ?_)
 unfold Builtin.List.listLengthHint
 refine wpAny_bind (wpAny_specialOf (hT hst₁) F.gen_no_len ?_)
 show wpAny _ A.in1 (specialOf (Value.ref a) (Str.ofString "__length_hint__") >>= _) _ _ _
 refine wpAny_bind (wpAny_specialOf (hT hst₁) F.gen_no_hint ?_)
 refine wpAny_pure ?_
 show wpAny _ A.in1 (rule "list.extend.makes-room" >>= λ _ => Builtin.List.listTouch (.ref s.heap.objs.size) >>= λ _ =>
  again (.builtin "list.extend.loop" ⟨[.ref s.heap.objs.size, .ref a, .ref s.heap.objs.size], []⟩)) _ _ _
 refine wpAny_bind (wpAny_rule ?_)
 have hS₁ : (s.heap.push { cls := .type "list", data := .seq ([] : List Value).toArray }).get? s.heap.objs.size = some { cls := .type "list", data := .seq ([] : List Value).toArray } := Heap.get?_push_size _ rfl
 refine wpAny_bind ?_
 show wpAny _ A.in1 (updateSeq s.heap.objs.size (·.push .none) >>= λ _ => updateSeq s.heap.objs.size (·.pop)) _ _ _
 refine wpAny_bind (wpAny_updateSeq hS₁ rfl ?_)
 have hS₂ := Heap.get?_update_self (Obj.mapSeq (·.push Value.none)) hS₁ rfl
 refine wpAny_updateSeq hS₂ rfl ?_
 have hS₃ := Heap.get?_update_self (Obj.mapSeq (·.pop)) hS₂ rfl
 have oth : ∀ b o, b ≠ s.heap.objs.size -> (s.heap.push { cls := .type "list", data := .seq ([] : List Value).toArray }).get? b = some o ->
   (((s.heap.push { cls := .type "list", data := .seq ([] : List Value).toArray }).update s.heap.objs.size (Obj.mapSeq (·.push Value.none))).update s.heap.objs.size (Obj.mapSeq (·.pop))).get? b = some o :=
  λ b o hb e => (Heap.get?_update_other _ _ (Ne.symm hb)).trans ((Heap.get?_update_other _ _ (Ne.symm hb)).trans e)
 refine wpAny_pure ⟨plainId_quiet F.plain_extend_loop _, codeAny_mono (xV (res := .ref s.heap.objs.size) sm hlo st m 0 [] [] _ H _ (sm.acc (s := ({ s with heap := s.heap.push { cls := .type "list", data := .seq ([] : List Value).toArray } } : Shared)) (h' := ((s.heap.push { cls := .type "list", data := .seq ([] : List Value).toArray }).update s.heap.objs.size (Obj.mapSeq (·.push Value.none))).update s.heap.objs.size (Obj.mapSeq (·.pop))) (tk := s.toks) hst₁ hlo hn (λ p hp => absurd hp (by simp)) oth) w0 .nil (Nat.zero_le _) hS₃ hn) λ r s' ⟨hr, ys, us, c, H', I', hv, hz, ho, hn', hfin⟩ => ?_⟩
 subst hr
 show wpAny _ A (load s.heap.objs.size >>= _) _ _ s'
 refine wpAny_bind (wpAny_load ho ?_)
 refine wpAny_pure ?_
 have e : (us.toArray).toList = us := by simp
 show Q (us.toArray).toList s'
 rw [e]
 exact hQ ys us H' s' I' hv hz hfin
def PB (ts : rC) : TE := λ σ H Q => ts σ H λ S H1 => KJ S (λ ys H' => ∀ p, H' p = none -> Q (.ref p) (upd H' p (.tup ys))) H1
theorem uc {A : Around} {E : Value -> Shared -> Prop} {a : Addr} {lo : Nat} {S : oW} {SS : List (Addr × Obj) -> Nat -> Hp -> Shared -> Prop} {Fin : List V -> Hp -> Prop} {H : Hp} {s : Shared} {Q₁ : Value -> Shared -> Prop} (sm : yH X pins σ A.in1.in1 a lo S SS) (hs : SS [] 0 H s) (hal : a < lo) (hlo : lo <= s.heap.objs.size)
  (hg : ∀ P i H s, SS P i H s -> ∃ g, s.heap.IsGen a g) (hC : KJ S Fin H) (h : ∀ ys us H' s', Inv X pins σ H' s' -> Vals ys us -> ys.length <= sizeLine -> Fin ys H' -> Q₁ (.ref s'.heap.objs.size) { s' with heap := s'.heap.push { cls := .type "tuple", data := .seq us.toArray } }) :
  codeAny (model X.prog X.w) A (.call (.builtin "tuple.__new__") ⟨[.type "tuple", .ref a], []⟩) (wants Q₁ E) s := by
 refine codeAny_of_tree ?_
 show wpAny _ A.in1 (do checkBuiltinCall "tuple.__new__" ⟨[.type "tuple", .ref a], []⟩; again (.builtin "tuple.__new__" ⟨[.type "tuple", .ref a], []⟩)) _ _ s
 refine wpAny_bind (wpAny_of_eq (F.newCall_tuple_1 _) (wpAny_pure ⟨plainId_quiet F.plain_tuple_new _, codeAny_builtin F.entry_tuple_new ?_⟩))
 rw [Around.under_plainId F.plain_tuple_new _]
 have hsub := sub_tuple_self
 have hinit := init_tuple_lookup
 have hmh := madeHere_tuple
 obtain ⟨g0, ig0⟩ := hg _ _ _ _ hs
 have hTI := ig0.typeIs
 have col : ∀ {Q : List Value -> Shared -> Prop} {E : Value -> Shared -> Prop}, (∀ ys us H' s', Inv X pins σ H' s' -> Vals ys us -> ys.length <= sizeLine -> Fin ys H' -> Q us s') -> wpAny (model X.prog X.w) A.in1 (collect (.ref a)) Q E s := λ hQ => yg sm hs hal hlo hg hC hQ
 wp_walk using wpAny_typeOf hTI, col
 intro ys us H' s' I' hv hz hfin
 show wpAny _ _ (Builtin.Tuple.tupleExact us.toArray >>= λ v => ret v) _ _ _
 unfold Builtin.Tuple.tupleExact
 refine wpAny_bind (wpAny_newObj_type ?_ (by show us.toArray.size <= sizeLine; rw [List.size_toArray, <- hv.length]; exact hz))
 refine wpAny_pure ?_
 exact h ys us H' s' I' hv hz hfin
theorem Ik (hc : X.calm = true) (hm : X.mg "tuple" = none) (hstr : uU X e ts) (hg : Gl X "tuple" := by rfl) (hs : starEach [e] X.env = (false, eval e X.env) :: starEach [] X.env := by rfl) : PE X (.Call (.Name "tuple" p) [e] [] pos) (PB ts) := by
 intro pins s σ H Q I h
 refine wpAny_Call_Name_kw (nF I hg hm PyProof.Rows.boot_tuple ?_ (by decide) (by decide))
 refine PyProof.Rows.callWith_type1 (wg (thn (hstr pins s σ H _ I h) λ u s1 ⟨a, S, H1, e, I1, rdy, hC⟩ => ?_) hs) hs rfl
 subst e
 obtain ⟨a1, a2⟩ := zr I1 hc (A' := X.A.in1.in1.in1) rfl rfl
 obtain ⟨lo, SS, sm, s0, hal, hlo, hgn⟩ := rdy X.A.in1.in1.in1 a1 a2 (Nat.le_succ _) (by show X.A.units + 1 + 1 + 1 <= _; omega)
 refine callType_codes (Q₁ := λ obj s₁ => s₁.TypeIs obj "tuple" /\ EP X pins σ Q obj s₁) F.called_tuple (F.typeCall_tuple_1 _) F.entry_object_init
  (uc (A := X.A.in1) sm s0 hal hlo hgn hC λ ys us H' s' I' hv hz hfin => ⟨⟨_, Heap.get?_push_size _ rfl, rfl⟩, ?_⟩) λ obj s₁ h₁ => ?_
 .have hf : H' s'.heap.objs.size = none := I'.hok.fresh (Nat.le_refl _)
  refine ⟨.ref s'.heap.objs.size, upd H' s'.heap.objs.size (.tup ys), I'.laid (t' := s'.toks) (λ b u e => Heap.get?_push_of_some _ e) (Nat.le_refl _) ?_, rfl, hfin _ hf⟩
  exact ⟨hz, us, hv, ⟨_, Heap.get?_push_size _ rfl, rfl, _, rfl⟩⟩
 .exact ⟨h₁.1, F.args_object_init_2 obj _, object_init_meets F.called_tuple.init.lookup F.called_tuple.made (by decide) X.prog X.w X.A.in1 _ s₁ ⟨h₁.1, rfl, h₁.2⟩⟩
def Qu (ts : rC) : TE := λ σ H Q => ts σ H λ S H1 => ∃ W : Nat -> Nat -> Int -> Hp -> Prop, (∃ m, W 0 m 0 H1) /\ ∀ i m t H, W i m t H ->
 (S.fin i H /\ Q (.int t) H) ∨ S.nxt i H λ y H' => ∃ j, y = .int j /\ ∃ m', m' < m /\ W (i + 1) m' (t + j) H'
theorem Fg {A : Around} {it D : Addr} {lo : Nat} {S : oW} {SS : List (Addr × Obj) -> Nat -> Hp -> Shared -> Prop} {Q : VK} {W : Nat -> Nat -> Int -> Hp -> Prop} (sm : yH X pins σ A.in1 it lo S SS) (hD : lo <= D)
  (st : ∀ i m t H, W i m t H -> (S.fin i H /\ Q (.int t) H) ∨ S.nxt i H λ y H' => ∃ j, y = .int j /\ ∃ m', m' < m /\ W (i + 1) m' (t + j) H') :
  ∀ (m i : Nat) (t : Int) (tA : Tok) (c : Nat) (stage : Int) (H : Hp) (s : Shared), (stage = 0 ∨ stage = 2) -> SS [] i H s -> W i m t H -> s.heap.get? D = some (bN [.int t tA] c) -> H D = none ->
   codeAny (model X.prog X.w) A (.builtin "sum.loop" ⟨[.ref it, .ref D, rawInt stage, rawInt 0], []⟩) (λ r s' => ∃ u, r = .ok (.ret u) /\ EP X pins σ Q u s') s := by
 intro m
 induction m using Nat.strongRecOn with
 | ind m ih =>
  intro i t tA c stage H s hstg hs hw ho hn
  have hsp := sm.pin hs hD ho hn (λ v z => by cases z)
  refine codeAny_builtin F.entry_sum_loop ?_
  rw [Around.under_plainId F.plain_sum_loop _]
  show wpAny _ A.in1 (seqItems? (.ref D) >>= _) _ _ s
  refine wpAny_bind (wpAny_seqItems ho rfl ?_)
  show wpAny _ A.in1 (tryCatch (pyNext (.ref it)) _ >>= _) _ _ s
  rcases st i m t H hw with ⟨hf, q⟩ | hn'
  .refine wpAny_bind (wpAny_tryCatch (wpAny_mono (sm.stop (λ _ _ => False) hsp hf) (λ r s1 ⟨hr, I1⟩ => ?_) λ _ _ z => z.elim))
   subst hr
   exact wpAny_pure ⟨_, rfl, .int t, H, I1.pins_of λ p hp => I1.pin p (by simp [hp]), ⟨tA, rfl⟩, q⟩
  .refine wpAny_bind (wpAny_tryCatch (wpAny_mono (sm.next (λ _ _ => False) hsp hn') (λ r s1 ⟨u, y, H', hr, ry, ⟨j, ey, m', hm, hw'⟩, hs'⟩ => ?_) λ _ _ z => z.elim))
   subst hr ey
   obtain ⟨tj, rfl⟩ := ry
   have pl := (sm.inv hs').pin (D, bN [.int t tA] c) (by simp)
   have hs0 := sm.unpin hs'
   have plain : ∀ (next : Value -> Int), (∀ r, next r = 2) -> wpAny (model X.prog X.w) A.in1 (do
     match <- (holding [Value.int j tj] (binaryOp .Add (Value.int t tA) (Value.int j tj))).attempt with
     | .ok r => updateSeq D λ _ => #[r]; letGo [Value.int t tA, Value.int j tj]; (do updateSeq D λ _ => #[r]; again (.builtin "sum.loop" ⟨[.ref it, .ref D, rawInt (next r), rawInt 0], []⟩))
     | .error e => updateSeq D λ _ => #[]; letGo [Value.int t tA, Value.int j tj] [e]; throw e) (λ fin s' => match fin with
      | .done f => ∃ u, (Except.ok f : Result) = .ok (.ret u) /\ EP X pins σ Q u s'
      | .again c => c.quiet = true /\ codeAny (model X.prog X.w) A c (λ r s' => ∃ u, r = .ok (.ret u) /\ EP X pins σ Q u s') s') (λ e s' => ∃ u, (Except.error e : Result) = .ok (.ret u) /\ EP X pins σ Q u s') s1 := by
    intro next hnx
    refine wpAny_bind (wpAny_attempt (wpAny_holding (add_int ?_)))
    refine wpAny_bind (wpAny_updateSeq (s := { s1 with toks := s1.toks + 1 }) pl.1 rfl ?_)
    have o1 := Heap.get?_update_self (Obj.mapSeq (λ _ => #[Value.int (t + j) s1.toks])) pl.1 rfl
    refine wpAny_bind (wpAny_letGo ?_)
    refine wpAny_bind (wpAny_updateSeq o1 rfl ?_)
    have o2 := Heap.get?_update_self (Obj.mapSeq (λ _ => #[Value.int (t + j) s1.toks])) o1 rfl
    rw [hnx]
    refine wpAny_pure ⟨plainId_quiet F.plain_sum_loop _, ih m' hm (i + 1) (t + j) s1.toks _ 2 H' _ (.inr rfl) (sm.acc (s := s1) (h' := (s1.heap.update D (Obj.mapSeq (λ _ => #[Value.int (t + j) s1.toks]))).update D (Obj.mapSeq (λ _ => #[Value.int (t + j) s1.toks]))) (tk := s1.toks + 1) hs0 hD pl.2.1 (λ p hp => absurd hp (by simp)) λ b o hb e => (Heap.get?_update_other _ _ (Ne.symm hb)).trans ((Heap.get?_update_other _ _ (Ne.symm hb)).trans e)) hw' o2 pl.2.1⟩
   rcases hstg with rfl | rfl
   .show wpAny _ A.in1 (if (_ : Bool) = true then (mkInt (t + j) >>= _) else _) _ _ _
    split
    .refine wpAny_bind (wpAny_mkInt ?_)
     show wpAny _ A.in1 (updateSeq D (λ _ => #[.int (t + j) s1.toks]) >>= _) _ _ _
     refine wpAny_bind (wpAny_updateSeq (s := { s1 with toks := s1.toks + 1 }) pl.1 rfl ?_)
     have o1 := Heap.get?_update_self (Obj.mapSeq (λ _ => #[Value.int (t + j) s1.toks])) pl.1 rfl
     exact wpAny_pure ⟨plainId_quiet F.plain_sum_loop _, ih m' hm (i + 1) (t + j) s1.toks _ 0 H' _ (.inl rfl) (sm.acc (s := s1) (h' := s1.heap.update D (Obj.mapSeq (λ _ => #[Value.int (t + j) s1.toks]))) (tk := s1.toks + 1) hs0 hD pl.2.1 (λ p hp => absurd hp (by simp)) λ b o hb e => (Heap.get?_update_other _ _ (Ne.symm hb)).trans e) hw' o1 pl.2.1⟩
    .exact wpAny_bind (wpAny_rule (plain (λ _ => 2) λ _ => rfl))
   .exact plain (λ _ => 2) λ _ => rfl
theorem Jb (hc : X.calm = true) (hm : X.mg "sum" = none) (hstr : zG X e ts) (hg : Gl X "sum" := by rfl) (hs : starEach [e] X.env = (false, eval e X.env) :: starEach [] X.env := by rfl) : PE X (.Call (.Name "sum" p) [e] [] pos) (Qu ts) := by
 intro pins s σ H Q I h
 refine wpAny_Call_Name_kw (nF I hg hm boot_sum ?_ (by decide) (by decide))
 refine PyProof.Rows.callWith_builtin1 (wg (thn (hstr pins s σ H _ I h) λ u s1 ⟨S, H1, I1, rdy, W, ⟨m, w0⟩, st⟩ => ?_) hs) hs rfl
 refine call_function_tree F.kind_sum F.plain_sum F.entry_sum (F.args_sum1 _) ?_
 unfold Builtin.«sum»
 simp only [List.length_cons, List.length_nil]
 rw [if_neg (by decide)]
 refine wpAny_bind (wpAny_of_eq (show Builtin.Builtins.bindParams "sum" ["start"] 0 { } = pure [none] from rfl) ?_)
 obtain ⟨a1, a2⟩ := zr I1 hc (A' := X.A.in1) rfl rfl
 refine wpAny_bind (wpAny_mono (rdy X.A.in1 (λ _ _ => False) a1 a2 (Nat.le_succ _) (by show X.A.units + 1 <= _; omega)) (λ itv s2 ⟨it, lo, SS, e, sm, s0, hlo⟩ => ?_) λ _ _ z => z.elim)
 subst e
 refine wpAny_bind (wpAny_mkInt ?_)
 refine wpAny_bind (wpAny_pure ?_)
 simp only [List.forIn_cons, List.forIn_nil]
 refine wpAny_bind (wpAny_bind (wpAny_bind (wpAny_isInstance (T := "int") (b := false) (typeIs_int _ _ _) PySem.sub_int_str ?_)))
 simp only [Bool.false_eq_true, if_false]
 refine wpAny_pure (wpAny_bind (wpAny_bind (wpAny_isInstance (T := "int") (b := false) (typeIs_int _ _ _) PySem.sub_int_bytes ?_)))
 simp only [Bool.false_eq_true, if_false]
 refine wpAny_pure (wpAny_bind (wpAny_bind (wpAny_isInstance (T := "int") (b := false) (typeIs_int _ _ _) PySem.sub_int_bytearray ?_)))
 simp only [Bool.false_eq_true, if_false]
 refine wpAny_pure (wpAny_pure ?_)
 refine wpAny_bind (wpAny_newObj_type ?_)
 have hn : H1 s2.heap.objs.size = none := (sm.inv s0).hok.fresh (Nat.le_refl _)
 refine wpAny_pure ⟨plainId_quiet F.plain_sum_loop _, codeAny_mono (Fg sm hlo st m 0 0 s2.toks 0 0 H1 _ (.inl rfl) (sm.keep (s := s2) (h' := s2.heap.push { cls := .type "list", dict := none, data := .seq [Value.int 0 s2.toks].toArray }) (tk := s2.toks + 1) s0 λ b o e => Heap.get?_push_of_some _ e) w0 (Heap.get?_push_size _ rfl) hn) λ r s' ⟨u, hr, q⟩ => ?_⟩
 subst hr
 exact q
end
end L2
namespace L3
open PySem PySem.Spec PyProof.Rows L2
abbrev iI := Mu -> Option (D × Mu)
structure JX (K : PySem.W.Frag) (tb : List Addr) (S : oW) (ths : List iI) (W0 : Wd) : Prop where
 nxt : ∀ (i : Nat) W th d μ' Q, Le tb W0 W -> WOk K tb W -> ths[i]? = some th -> th W.mu = some (d, μ') -> (∀ v W', WOk K tb W' -> Le tb W W' -> W'.mu = μ' -> Den K tb W' d v -> Q v W'.H) -> S.nxt i W.H Q
 fin : ∀ (i : Nat) W, Le tb W0 W -> WOk K tb W -> ths.length <= i -> S.fin i W.H
abbrev StF := En -> Mu -> Option (List iI × Mu)
def JT (K : PySem.W.Frag) (tb : List Addr) (f : StF) : rC := λ σ H R => ∃ W δ ths μ', W.H = H /\ WOk K tb W /\ jw K tb W δ σ /\ f δ W.mu = some (ths, μ') /\
 ∀ S W', WOk K tb W' -> Le tb W W' -> W'.mu = μ' -> JX K tb S ths W' -> R S W'.H
def Aj (X : Cx) (tb : List Addr) (e : Expr) (f : StF) : Prop := zG X e (JT X.K tb f)
def zV (X : Cx) (tb : List Addr) (e : Expr) (f : StF) : Prop := uU X e (JT X.K tb f)
section
variable {X : Cx} {tb : List Addr} {e tg iter elt : Expr} {f : EF} {pos p : Pos} {fs : StF}
theorem Jj {t t' : rC} (h : zG X e t) (k : ∀ σ H R, t' σ H R -> t σ H R) : zG X e t' := λ pins s σ H R I hq => h pins s σ H R I (k σ H R hq)
theorem CZ {t t' : rC} (h : uU X e t) (k : ∀ σ H R, t' σ H R -> t σ H R) : uU X e t' := λ pins s σ H R I hq => h pins s σ H R I (k σ H R hq)
theorem lJ (h : zV X tb e fs) : Aj X tb e fs := yM h
def thE (d : D) : iI := λ μ => some (d, μ)
def Ag (f : EF) : StF := λ δ μ => (f δ μ).bind λ r => match r.1 with
 | .tup ds => some (ds.map thE, r.2)
 | .lst ds => some (ds.map thE, r.2)
 | _ => none
theorem FW {K : PySem.W.Frag} {J : It} {ds : List D} {W0 : Wd} (io : Ck K tb J ⟨ds, none⟩ W0) : JX K tb (Ao J) (ds.map thE) W0 where
 nxt := λ i W th d μ' Q l ok e1 e2 hQ => by
  rw [List.getElem?_map] at e1
  cases q : ds[i]? with
  | none => rw [q] at e1; cases e1
  | some d0 =>
   rw [q] at e1
   cases e1
   cases e2
   obtain ⟨go, yl⟩ := io.go i W d l ok (Src.bT rfl) q
   exact ⟨go, λ x H' y => by
    obtain ⟨W', rfl, ok', l', m', d'⟩ := yl x H' y
    exact hQ x W' ok' l' m' d'⟩
 fin := λ i W l ok hi => io.stop i W l ok (Src.bT rfl) (by simpa using hi)
theorem CG (hc : X.calm = true) (he : PD X tb e f) : Aj X tb e (Ag f) :=
 Jj (Gp hc he) λ σ H R zq1 => by
  obtain ⟨W, δ, ths, μ', e, ok, hd, hf, h⟩ := zq1
  unfold Ag at hf
  obtain ⟨⟨x, μ1⟩, e1, e2⟩ := Option.bind_eq_some_iff.mp hf
  refine ⟨W, δ, x, μ1, e, ok, hd, e1, λ v W1 ok1 l1 m1 d1 => ?_⟩
  cases x with
  | tup ds =>
   cases e2
   obtain ⟨a, xs, rfl, q, r⟩ := iU d1
   exact ⟨a, rfl, .inr ⟨⟨xs, SqT.fz q⟩, h _ W1 ok1 l1 m1 (FW (Dn q r))⟩⟩
  | lst ds =>
   cases e2
   obtain ⟨a, xs, rfl, q, r⟩ := lZ d1
   exact ⟨a, rfl, .inl ⟨⟨xs, SqL.fz q⟩, h _ W1 ok1 l1 m1 (FW (Gj q r))⟩⟩
  | _ => cases e2
def thG (h : GF) (fe : EF) (δb : En) (d : D) : iI := λ μ => (h d δb μ).bind λ δ1 => fe δ1 μ
def mW (own : List Str) (capI : List Nat) (fi : IF) (h : GF) (fe : EF) : StF := λ δ μ => (fi δ μ).bind λ r => match r.1.cel with
 | none => some (r.1.items.map (thG h fe (cT own δ capI)), r.2)
 | some _ => none
theorem jd {fi : IF} {h : GF} {fe : EF} {own cap : List Str} {capI ts : List Nat} {scope : Scope} {P : Addr} {kr : Nat} (hc : X.calm = true) (hr : gQ kr X.A) (B : gw X own cap capI scope) (hown : ∀ x ∈ own, (x, NameKind.free) ∉ scope.names) (hnc : ∀ y ∈ scope.names, y.2 ≠ .cell)
  (hP : P ∈ tb) (htb : ∃ c, X.env.code = .ref c /\ PySem.W.CodeHd X.base c P) (hi : PID X tb tg iter fi)
  (hg : ∀ AG cs C code fp s2 H2, PGD (uh X AG own cap scope cs C code fp s2 H2) tb tg ts h)
  (he : ∀ AG cs C code fp s2 H2, (∀ k, gQ (k + 1) X.A -> gQ k AG) -> PD (uh X AG own cap scope cs C code fp s2 H2) tb elt fe)
  (hts : ∀ i ∈ ts, i < own.length := by decide) (h0 : scope.names.lookup (".0" : Str) = some NameKind.local := by rfl) (hco : scope.isCoroutine = false := by rfl) (hs : ∀ x, genFold iter X.env x = pure x := by intro _; rfl) :
  zV X tb (.GeneratorExp elt [⟨tg, iter, [], 0⟩] scope pos) (mW own capI fi h fe) :=
 CZ (Gm (g := tDG X.K tb ts h) (te := tD X.K tb fe) hc hr B hown hnc h0 hco htb hi hg he hs) λ σ H R zq2 => by
  obtain ⟨W, δ, ths, μ', e, ok, hd, hf, k⟩ := zq2
  unfold mW at hf
  obtain ⟨⟨S, μ1⟩, e1, e2⟩ := Option.bind_eq_some_iff.mp hf
  obtain ⟨items, cel⟩ := S
  cases cel with
  | some n => cases e2
  | none =>
   cases e2
   refine ⟨W, δ, ⟨items, none⟩, _, e, ok, hd, e1, λ J W1 ok1 l1 m1 io => ?_⟩
   obtain ⟨ps, ep, tp⟩ := ok1.tab P hP
   refine ⟨ps, ep, tp, λ lo H2 ps' hG => ?_⟩
   obtain ⟨ok2, l2⟩ := ok1.tbl hP ep hG
   refine k _ ⟨H2, W1.ad, W1.mu⟩ ok2 (l1.trans l2) m1 ⟨λ i W3 th d μ3 Q l3 ok3 e3 e4 hQ => ?_, λ i W3 l3 ok3 hi3 => ?_⟩
   .rw [List.getElem?_map] at e3
    cases q : items[i]? with
    | none => rw [q] at e3; cases e3
    | some d0 =>
     rw [q] at e3
     cases e3
     unfold thG at e4
     obtain ⟨δ1, e5, e6⟩ := Option.bind_eq_some_iff.mp e4
     obtain ⟨go, yl⟩ := io.go i W3 d0 (l2.trans l3) ok3 (Src.bT rfl) q
     refine ⟨go, λ x H' y => ?_⟩
     obtain ⟨W4, rfl, ok4, l4, m4, d4⟩ := yl x H' y
     refine ⟨W4, cT own δ capI, d0, δ1, rfl, ok4, (wy hd).mono' (((l1.trans l2).trans l3).trans l4), d4, (by rw [m4]; exact e5), λ σ' d' hl ht => ⟨fits_of hts hl ht, ?_⟩⟩
     exact ⟨W4, δ1, d, μ3, rfl, ok4, d', (by rw [m4]; exact e6), λ v W5 ok5 l5 m5 d5 => hQ v W5 ok5 (l4.trans l5) m5 d5⟩
   .exact io.stop i W3 (l2.trans l3) ok3 (Src.bT rfl) (by simpa using hi3)
def Oc : D -> Option Bool
 | .bl b => some b
 | .int i => some (i != 0)
 | _ => none
theorem DQ {K : PySem.W.Frag} {W : Wd} {x : D} {v : V} {k : Bool} (h : Den K tb W x v) (e : Oc x = some k) : IK v k := by
 cases x with
 | bl b => cases e; exact .inl (jy h)
 | int i => cases e; exact .inr ⟨i, bF h, rfl⟩
 | _ => cases e
def xy : List iI -> Mu -> Option (Bool × Mu)
 | [], μ => some (true, μ)
 | t :: r, μ => (t μ).bind λ x => (Oc x.1).bind λ k => if k = true then xy r x.2 else some (false, x.2)
def yt : List iI -> Mu -> Option (List D × Mu)
 | [], μ => some ([], μ)
 | t :: r, μ => (t μ).bind λ x => (yt r x.2).bind λ q => some (x.1 :: q.1, q.2)
def yf : Int -> List iI -> Mu -> Option (Int × Mu)
 | a, [], μ => some (a, μ)
 | a, t :: r, μ => (t μ).bind λ x => match x.1 with
  | .int j => yf (a + j) r x.2
  | _ => none
def wG (f : StF) : EF := λ δ μ => (f δ μ).bind λ r => (xy r.1 r.2).bind λ q => some (.bl q.1, q.2)
def ym (f : StF) : EF := λ δ μ => (f δ μ).bind λ r => if r.1.length <= sizeLine then (yt r.1 r.2).bind λ q => some (.tup q.1, q.2) else none
def Hh (f : StF) : EF := λ δ μ => (f δ μ).bind λ r => (yf 0 r.1 r.2).bind λ q => some (.int q.1, q.2)
theorem qx (hc : X.calm = true) (hm : X.mg "all" = none) (hstr : Aj X tb e fs) (hg : Gl X "all" := by rfl) (hs : starEach [e] X.env = (false, eval e X.env) :: starEach [] X.env := by rfl) : PD X tb (.Call (.Name "all" p) [e] [] pos) (wG fs) :=
 fJ (Hu hc hm hstr hg hs) λ σ H Q zq3 => by
  obtain ⟨W, δ, d, μ', e, ok, hd, hf, h⟩ := zq3
  unfold wG at hf
  obtain ⟨⟨ths, μ1⟩, e1, hf⟩ := Option.bind_eq_some_iff.mp hf
  obtain ⟨⟨b, μ2⟩, e2, e3⟩ := Option.bind_eq_some_iff.mp hf
  cases e3
  refine ⟨W, δ, ths, μ1, e, ok, hd, e1, λ S W1 ok1 l1 m1 so => ?_⟩
  refine ⟨λ i m H2 => m = ths.length - i /\ ∃ W2, W2.H = H2 /\ WOk X.K tb W2 /\ Le tb W1 W2 /\ xy (ths.drop i) W2.mu = some (b, μ2), ⟨_, rfl, W1, rfl, ok1, Le.refl _, by rw [m1]; exact e2⟩, ?_⟩
  rintro i m H2 ⟨rfl, W2, rfl, ok2, l2, ha⟩
  by_cases hlt : i < ths.length
  .right
   rw [List.drop_eq_getElem_cons hlt] at ha
   unfold xy at ha
   obtain ⟨⟨x, μ3⟩, e3, ha⟩ := Option.bind_eq_some_iff.mp ha
   obtain ⟨k, e4, ha⟩ := Option.bind_eq_some_iff.mp ha
   refine so.nxt i W2 ths[i] x μ3 _ l2 ok2 (by simp [hlt]) e3 λ v W3 ok3 l3 m3 d3 => ⟨k, DQ d3 e4, ?_⟩
   cases k with
   | true =>
    rw [if_pos rfl]
    exact ⟨ths.length - (i + 1), by omega, rfl, W3, rfl, ok3, l2.trans l3, by rw [m3]; exact ha⟩
   | false =>
    rw [if_neg Bool.false_ne_true]
    cases ha
    exact h _ W3 ok3 ((l1.trans l2).trans l3) m3 fQ
  .left
   rw [List.drop_of_length_le (by omega)] at ha
   cases ha
   exact ⟨so.fin i W2 l2 ok2 (by omega), h _ W2 ok2 (l1.trans l2) rfl fQ⟩
theorem Mp (hc : X.calm = true) (hm : X.mg "sum" = none) (hstr : Aj X tb e fs) (hg : Gl X "sum" := by rfl) (hs : starEach [e] X.env = (false, eval e X.env) :: starEach [] X.env := by rfl) : PD X tb (.Call (.Name "sum" p) [e] [] pos) (Hh fs) :=
 fJ (Jb hc hm hstr hg hs) λ σ H Q zq5 => by
  obtain ⟨W, δ, d, μ', e, ok, hd, hf, h⟩ := zq5
  unfold Hh at hf
  obtain ⟨⟨ths, μ1⟩, e1, hf⟩ := Option.bind_eq_some_iff.mp hf
  obtain ⟨⟨b, μ2⟩, e2, e3⟩ := Option.bind_eq_some_iff.mp hf
  cases e3
  refine ⟨W, δ, ths, μ1, e, ok, hd, e1, λ S W1 ok1 l1 m1 so => ?_⟩
  refine ⟨λ i m t H2 => m = ths.length - i /\ ∃ W2, W2.H = H2 /\ WOk X.K tb W2 /\ Le tb W1 W2 /\ yf t (ths.drop i) W2.mu = some (b, μ2), ⟨_, rfl, W1, rfl, ok1, Le.refl _, by rw [m1]; exact e2⟩, ?_⟩
  rintro i m t H2 ⟨rfl, W2, rfl, ok2, l2, ha⟩
  by_cases hlt : i < ths.length
  .right
   rw [List.drop_eq_getElem_cons hlt] at ha
   unfold yf at ha
   obtain ⟨⟨x, μ3⟩, e3, ha⟩ := Option.bind_eq_some_iff.mp ha
   cases x with
   | int j =>
    refine so.nxt i W2 ths[i] _ μ3 _ l2 ok2 (by simp [hlt]) e3 λ v W3 ok3 l3 m3 d3 => ⟨j, bF d3, ths.length - (i + 1), by omega, rfl, W3, rfl, ok3, l2.trans l3, by rw [m3]; exact ha⟩
   | _ => cases ha
  .left
   rw [List.drop_of_length_le (by omega)] at ha
   cases ha
   exact ⟨so.fin i W2 l2 ok2 (by omega), h _ W2 ok2 (l1.trans l2) rfl fB⟩
theorem Jt (hc : X.calm = true) (hm : X.mg "tuple" = none) (hstr : zV X tb e fs) (hg : Gl X "tuple" := by rfl) (hs : starEach [e] X.env = (false, eval e X.env) :: starEach [] X.env := by rfl) : PD X tb (.Call (.Name "tuple" p) [e] [] pos) (ym fs) :=
 fJ (Ik hc hm hstr hg hs) λ σ H Q zq6 => by
  obtain ⟨W, δ, d, μ', e, ok, hd, hf, h⟩ := zq6
  unfold ym at hf
  obtain ⟨⟨ths, μ1⟩, e1, hf⟩ := Option.bind_eq_some_iff.mp hf
  split at hf
  .rename_i hz
   obtain ⟨⟨ds, μ2⟩, e2, e3⟩ := Option.bind_eq_some_iff.mp hf
   cases e3
   refine ⟨W, δ, ths, μ1, e, ok, hd, e1, λ S W1 ok1 l1 m1 so => ?_⟩
   refine ⟨λ i m ys H2 => m = ths.length - i /\ ys.length <= i /\ i <= ths.length /\ ∃ W2 zs rs, W2.H = H2 /\ WOk X.K tb W2 /\ Le tb W1 W2 /\ di X.K tb W2 zs ys /\ yt (ths.drop i) W2.mu = some (rs, μ2) /\ zs ++ rs = ds, ⟨_, rfl, Nat.le_refl _, Nat.zero_le _, W1, [], ds, rfl, ok1, Le.refl _, aC.nil, by rw [m1]; exact e2, rfl⟩, ?_⟩
   rintro i m ys H2 ⟨rfl, hy, hi, W2, zs, rs, rfl, ok2, l2, d2, ha, hzs⟩
   by_cases hlt : i < ths.length
   .right
    rw [List.drop_eq_getElem_cons hlt] at ha
    unfold yt at ha
    obtain ⟨⟨x, μ3⟩, e3, ha⟩ := Option.bind_eq_some_iff.mp ha
    obtain ⟨⟨rs', μ4⟩, e4, e5⟩ := Option.bind_eq_some_iff.mp ha
    cases e5
    refine ⟨by have hz' : ths.length <= sizeLine := hz; omega, so.nxt i W2 ths[i] x μ3 _ l2 ok2 (by simp [hlt]) e3 λ v W3 ok3 l3 m3 d3 => ?_⟩
    exact ⟨ths.length - (i + 1), by omega, rfl, by rw [List.length_append]; simp; omega, hlt, W3, zs ++ [x], rs', rfl, ok3, l2.trans l3, aC.append (di.mono' d2 l3) (aC.cons d3 aC.nil), by rw [m3]; exact e4, by rw [List.append_assoc]; exact hzs⟩
   .left
    rw [List.drop_of_length_le (by omega)] at ha
    cases ha
    rw [List.append_nil] at hzs
    subst hzs
    exact ⟨so.fin i W2 l2 ok2 (by omega), λ p hp => my ok2 (λ v W' ok' l' m' d' => h v W' ok' ((l1.trans l2).trans l') m' d') d2 hp⟩
  .cases hf
end
abbrev FF := List D -> Mu -> Option (D × Mu)
def spD (K : PySem.W.Frag) (tb : List Addr) (n : Nat) (φ : FF) : Sp := λ vs H Q _ => ∃ W ds d μ', W.H = H /\ WOk K tb W /\ di K tb W ds vs /\ ds.length = n /\ φ ds W.mu = some (d, μ') /\
 ∀ v W', WOk K tb W' -> Le tb W W' -> W'.mu = μ' -> Den K tb W' d v -> Q v W'.H
structure FI (P : Program) (w : World) (K : PySem.W.Frag) (mg : Str -> Option Value) (base : Heap) (tb : List Addr) (x : Str) (n k : Nat) (φ : FF) : Prop where
 is : ∃ f fd ps, rD P w K mg base CX0 k f fd ps (spD K tb n φ) /\ mg x = some (.ref f) /\ PySem.W.keepIn K (.ref f) = true /\ Binds K fd ps []
def aJ (m : Nat) (g : SF) : FF := λ ds μ => (g (ds.map some ++ List.replicate (m - ds.length) none) μ).bind λ r => match r.1 with
 | .rt d => some (d, r.2.2)
 | .nx => some (.non, r.2.2)
 | _ => none
section
variable {X : Cx} {tb : List Addr} {e : Expr} {es : List Expr} {fs : AF} {x : Str} {n k : Nat} {φ : FF} {p pos : Pos}
theorem aN (F : FI X.prog X.w X.K X.mg X.base tb x n k φ) (hr : gQ k X.A) (ha : PAD X tb (e :: es) fs) (hn : ∀ δ μ r, fs δ μ = some r -> r.1.length = n) (hg : Gl X x := by rfl) (hdb : (x == ("__debug__" : Str)) = false := by decide)
  (he : starEach (e :: es) X.env = (false, eval e X.env) :: starEach es X.env := by rfl) (hpl : (backTo pos (starEach es X.env)).any (·.1) = false := by rfl) : PD X tb (.Call (.Name x p) (e :: es) [] pos) (MC fs φ) := by
 obtain ⟨f, fd, ps, h1, h2, h3, h4⟩ := F.is
 refine fJ (Hy (E := E0) h1 hr hg h2 h3 h4 .nil Pu ha hdb he hpl) λ σ H Q zq7 => ?_
 obtain ⟨W, δ, d, μ', e, ok, hd, hf, h⟩ := zq7
 unfold MC at hf
 obtain ⟨⟨xs, μ1⟩, e1, e2⟩ := Option.bind_eq_some_iff.mp hf
 refine ⟨W, δ, xs, μ1, e, ok, hd, e1, λ vs W1 ok1 l1 m1 d1 => ?_⟩
 refine ⟨W1, xs, d, μ', rfl, ok1, by rw [List.append_nil]; exact d1, hn _ _ _ e1, (by rw [m1]; exact e2), λ v W' ok' l' m' d' => h v W' ok' (l1.trans l') m' d'⟩
theorem aO (δ : En) (μ : Mu) (r : List D × Mu) (h : aD δ μ = some r) : r.1.length = 0 := by cases h; rfl
theorem aB {f : EF} {fs : AF} {n : Nat} (hk : ∀ δ μ r, fs δ μ = some r -> r.1.length = n) (δ : En) (μ : Mu) (r : List D × Mu) (h : ao f fs δ μ = some r) : r.1.length = n + 1 := by
 unfold ao at h
 obtain ⟨q, _, h⟩ := Option.bind_eq_some_iff.mp h
 obtain ⟨t, e, h⟩ := Option.bind_eq_some_iff.mp h
 cases h
 rw [List.length_cons, hk _ _ _ e]
end
structure fK (K : PySem.W.Frag) (x qual : Str) (st : Stmt) (f : Addr) (fd : FuncData) (P : Addr) : Prop where
 ex : ∃ (oc : Value) (od : Option Addr) (kV doc pm : Value) (an : Option Addr) (c : Addr) (ct : Value) (osl : Array (Option Value)),
  fd = PySem.W.fnOf x qual (lR st) (jE st) (aP st) .none kV doc pm an (.ref c) ct /\ K.lookup f = some ⟨oc, od, .func fd, osl⟩ /\ PySem.W.codeIn K (.ref c) qual = true /\ ∀ h : Heap, K.In h -> PySem.W.CodeHd h c P
 kp : PySem.W.keepIn K (.ref f) = true
theorem dm {P : Program} {w : World} {K : PySem.W.Frag} {mg : Str -> Option Value} {base : Heap} {tb : List Addr} {x qual : Str} {st : Stmt} {f : Addr} {fd : FuncData} {T : Addr} {N ps : List Str} {n k : Nat} {g : SF} (F : fK K x qual st f fd T) (KB : K.In base) (hmg : mg x = some (.ref f)) (S : bh N ps (aP st)) (hps : ps.length = n)
  (hb : ∀ (kV doc pm : Value) (an : Option Addr) (cdv ct : Value) (us : List Value), us.length = ps.length -> bindArgs (PySem.W.fnOf x qual (lR st) (jE st) (aP st) .none kV doc pm an cdv ct) ⟨us, []⟩ = pure (ps.zip us))
  (hbody : ∀ (c : Addr) (A : Around) (outer : List Env) (s : Shared) (H : Hp) (E : XK), PySem.W.CodeHd base c T -> gQ k (A.deeper (envOfC qual (aP st) s.heap.objs.size f (.ref c))) ->
   uw (zP CX0 P w K mg base N qual (aP st) f (.ref c) A outer s H E).nox tb (jE st) g) : FI P w K mg base tb x n (k + 1) (aJ N.length g) := by
 obtain ⟨oc, od, kV, doc, pm, an, c, ct, osl, rfl, lk, hcd, hhd⟩ := F.ex
 refine ⟨f, _, ps, JZ lk hcd S (λ vs H Q E ⟨W, ds, d, μ', e, ok, dl, hl, _⟩ => by rw [<- aC.length dl, hl, hps]) λ A outer s H vs Q E hr hsp => ?_, hmg, F.kp, .all (hb kV doc pm an (.ref c) ct)⟩
 obtain ⟨W, ds, d, μ', e, ok, dl, hl, hf, k⟩ := hsp
 refine ⟨_, (hbody c A outer s H E (hhd base KB) hr).nox, ?_⟩
 unfold aJ at hf
 obtain ⟨⟨fl, δ', μ1⟩, e1, e2⟩ := Option.bind_eq_some_iff.mp hf
 refine ⟨W, _, fl, δ', μ1, e, ok, ?_, e1, λ σ' W' ok' l' m' d' => ?_⟩
 .have hlen := aC.length dl
  refine ⟨by unfold L2.start; simp [hlen], λ i y q => ?_⟩
  unfold L2.start
  by_cases hi : i < ds.length
  .rw [List.getElem?_append_left (by simpa using hi), List.getElem?_map] at q
   cases q2 : ds[i]? with
   | none => rw [q2] at q; cases q
   | some z =>
    rw [q2] at q
    cases q
    obtain ⟨v, ev, dv⟩ := aC.get dl q2
    exact ⟨v, by rw [List.getElem?_append_left (by rw [List.length_map, <- hlen]; exact hi), List.getElem?_map, ev]; rfl, dv⟩
  .rw [List.getElem?_append_right (by simpa using hi), List.getElem?_replicate] at q
   split at q <;> cases q
 .cases fl with
  | nx => cases e2; exact k .non W' ok' l' m' wC
  | rt d0 => cases e2; exact λ v dv => k v W' ok' l' m' dv
  | bk => cases e2
  | ct => cases e2
end L3
namespace L2
open PySem PySem.Spec PyProof.Rows
section
variable {X : Cx} {a b c e : Expr} {ta tb tc te : TE} {pos : Pos}
def jA (i j : Int) : Nat := Builtin.Int.intBits i + Builtin.Int.intBits j
theorem Jv : OpR X (binaryOp .Mult) (rI (λ i j => jA i j <= 134217728) λ i j => .int (i * j)) := opI λ _ _ _ _ _ _ _ hc q => mul_int q (IntMulOk.of_le (Nat.le_refl _) (Nat.le_refl _) hc)
theorem DR : OpR X (binaryOp .FloorDiv) (rI (λ _ j => j ≠ 0 /\ j.natAbs.log2 < 9000) λ i j => .int (i.fdiv j)) := opI λ _ _ _ _ _ _ _ hc q => floordiv_int hc.1 q (.inl (PyProof.noPylong_of_log2 hc.2))
theorem HD : OpR X (binaryOp .Pow) (rI (λ i j => 0 <= j /\ (Builtin.Int.intBits i : Int) * j <= 2 ^ 27) λ i j => .int (i ^ j.toNat)) := opI λ _ _ _ _ _ _ _ hc q => pow_int hc.1 hc.2 q
def OJ (K : PySem.W.Frag) : R2 := λ x y H Q => ∃ a b xs ys, x = .ref a /\ y = .ref b /\ SqT K H a xs /\ SqT K H b ys /\ xs.length + ys.length <= sizeLine /\
 (xs = [] -> Q (.ref b) H) /\ (xs ≠ [] -> ys = [] -> Q (.ref a) H) /\ (xs ≠ [] -> ys ≠ [] -> ∀ p, H p = none -> Q (.ref p) (upd H p (.tup (xs ++ ys))))
theorem Ia : OpR X (binaryOp .Add) (OJ X.K) := by
 intro pins s σ H x y v u Q I rx ry h
 obtain ⟨t, b, xs, ys, rfl, rfl, ha, hb, hz, q0, q1, q2⟩ := h
 by_cases hx : xs = []
 .subst hx
  cases rx
  cases ry
  obtain ⟨its, r1, p1, _⟩ := I.tuple ha
  obtain ⟨its2, r2, p2, _⟩ := I.tuple hb
  cases r1
  obtain ⟨⟨cls, dd, data, sl⟩, ho, hc, n, hd⟩ := id p1
  obtain ⟨⟨cls2, dd2, data2, sl2⟩, ho2, hc2, n2, hd2⟩ := id p2
  simp only at hc hd hc2 hd2
  subst hc hd hc2 hd2
  exact concat_meets ⟨_, ho, rfl⟩ ⟨_, ho2, rfl⟩ noFill_tuple_add seq_tuple_add PySem.F.slot_tuple_add PySem.F.entry_tuple_add (PySem.F.args_tuple_add_2 _ _)
   (tuple_addW0 t b _ _ n n2 dd dd2 sl sl2 (by simp)) ⟨ho, ho2, ⟨.ref b, H, I, rfl, q0 rfl⟩⟩
 .exact Jp pins s σ H _ _ v u Q I rx ry ⟨t, b, xs, ys, rfl, rfl, ha, hb, hx, hz, q1 hx, q2 hx⟩
theorem qm : fillsNumberSlot (.type "tuple") "mul" = pure false :=
 PySem.fillsNumberSlot_seq (id := "tuple.__mul__") (r := some (.builtin "tuple.__rmul__")) F.slot_tuple_mul.lookup (by decide +kernel) F.slot_tuple_rmul.lookup (by decide +kernel)
theorem wj : seqRepeat? (.type "tuple") = pure (some (.builtin "tuple.__mul__")) := by
 unfold seqRepeat?
 rw [PySem.seqSlot_of (T := "tuple") (name := "__mul__") (id := "tuple.__mul__") F.slot_tuple_mul.lookup (by decide +kernel), PySem.seqSlot_of (T := "tuple") (name := "__rmul__") (id := "tuple.__rmul__") F.slot_tuple_rmul.lookup (by decide +kernel)]
 rfl
theorem tU (a : Int) (t : Tok) (l : Addr) (items : Array Value) (n : Nat) (dd : Option Addr) (sl : Array (Option Value)) :
  Meets (Builtin.«int.__rmul__» ⟨[.int a t, .ref l], []⟩) (λ _ R s => s.heap.get? l = some { cls := .type "tuple", dict := dd, data := .seq items n, slots := sl } /\ R (.ok (.ret Value.notImplemented)) s) :=
 .of_wp λ prog w A R s h => by obtain ⟨hp, g, d, tk, os⟩ := s; obtain ⟨hl, h⟩ := h; wp_walk; exact ⟨_, rfl, h⟩
theorem ul (l : Addr) (items : Array Value) (n : Nat) (x : Int) (u : Tok) (dd : Option Addr) (sl : Array (Option Value)) (h0 : (decide (x < -2 ^ 63) || decide (x >= 2 ^ 63)) = false) (h1 : (items.isEmpty || x == 1) = true) :
  Meets (Builtin.«tuple.__mul__» ⟨[.ref l, .int x u], []⟩) (λ _ R s => s.heap.get? l = some { cls := .type "tuple", dict := dd, data := .seq items n, slots := sl } /\ R (.ok (.ret (Value.ref l))) s) :=
 .of_wp λ prog w A R s h => by
  obtain ⟨hp, g, d, tk, os⟩ := s; obtain ⟨hl, h⟩ := h
  unfold Builtin.«tuple.__mul__»
  wp_walk using AutoSeq1.wpAny_loadPart' hl
  refine wpAny_ite_false (decide_eq_false (by rw [h0]; exact Bool.false_ne_true)) ?_
  wp_walk using AutoSeq1.wpAny_loadPart' hl
  exact ⟨_, rfl, h⟩
theorem uf (l : Addr) (items : Array Value) (n : Nat) (x : Int) (u : Tok) (dd : Option Addr) (sl : Array (Option Value)) (h0 : (decide (x < -2 ^ 63) || decide (x >= 2 ^ 63)) = false) (h1 : (items.isEmpty || x == 1) = false) (h2 : (decide (x <= 0) || items.isEmpty) = true) :
  Meets (Builtin.«tuple.__mul__» ⟨[.ref l, .int x u], []⟩) (λ _ R s => s.heap.get? l = some { cls := .type "tuple", dict := dd, data := .seq items n, slots := sl } /\ R (.ok (.ret (Value.ref s.heap.objs.size))) { s with heap := s.heap.push { cls := Value.type "tuple", data := Data.seq #[] }, toks := s.toks }) :=
 .of_wp λ prog w A R s h => by
  obtain ⟨hp, g, d, tk, os⟩ := s; obtain ⟨hl, h⟩ := h
  unfold Builtin.«tuple.__mul__»
  wp_walk using AutoSeq1.wpAny_loadPart' hl
  refine wpAny_ite_false (decide_eq_false (by rw [h0]; exact Bool.false_ne_true)) ?_
  wp_walk using AutoSeq1.wpAny_loadPart' hl
  exact ⟨_, rfl, h⟩
theorem ur (l : Addr) (items : Array Value) (n : Nat) (x : Int) (u : Tok) (dd : Option Addr) (sl : Array (Option Value)) (h0 : (decide (x < -2 ^ 63) || decide (x >= 2 ^ 63)) = false) (h1 : (items.isEmpty || x == 1) = false) (h2 : (decide (x <= 0) || items.isEmpty) = false)
  (h3 : ¬ (items.size : Int) * x > (2 ^ 63 - 1) / 8) (h4 : Builtin.Tuple.tupleTooMany ((items.size : Int) * x) = false) (h5 : ((List.replicate x.toNat items).foldl (· ++ ·) #[]).size <= sizeLine) :
  Meets (Builtin.«tuple.__mul__» ⟨[.ref l, .int x u], []⟩) (λ _ R s => s.heap.get? l = some { cls := .type "tuple", dict := dd, data := .seq items n, slots := sl } /\ R (.ok (.ret (Value.ref s.heap.objs.size))) { s with heap := s.heap.push { cls := Value.type "tuple", data := Data.seq ((List.replicate x.toNat items).foldl (· ++ ·) #[]) }, toks := s.toks }) :=
 .of_wp λ prog w A R s h => by
  obtain ⟨hp, g, d, tk, os⟩ := s; obtain ⟨hl, h⟩ := h
  unfold Builtin.«tuple.__mul__»
  wp_walk using AutoSeq1.wpAny_loadPart' hl
  refine wpAny_ite_false (decide_eq_false (by rw [h0]; exact Bool.false_ne_true)) ?_
  wp_walk using AutoSeq1.wpAny_loadPart' hl
  refine wpAny_ite_false (decide_eq_false h3) ?_
  wp_walk using AutoSeq1.wpAny_loadPart' hl
  exact ⟨_, rfl, h⟩
def Qh (K : PySem.W.Frag) : R2 := λ x y H Q => ∃ l k xs, x = .ref l /\ y = .int k /\ SqT K H l xs /\ -(2 ^ 63) <= k /\ k < 2 ^ 63 /\ xs.length * k.toNat <= sizeLine /\
 ((xs = [] ∨ k = 1) -> Q (.ref l) H) /\ (¬ (xs = [] ∨ k = 1) -> ∀ p, H p = none -> Q (.ref p) (upd H p (.tup (List.replicate k.toNat xs).flatten)))
theorem Jr : OpR X (binaryOp .Mult) (Qh X.K) := by
 intro pins s σ H x y v u Q I rx ry h
 obtain ⟨l, k, xs, rfl, rfl, hH, h1, h2, hz, q1, q2⟩ := h
 cases rx
 obtain ⟨t, rfl⟩ := ry
 obtain ⟨its, r, p, hz0⟩ := I.tuple hH
 have hl := r.length
 obtain ⟨⟨cls, dd, data, sl⟩, e, hc, n, hd⟩ := id p
 simp only at hc hd
 subst hc hd
 have h0 : (decide (k < -2 ^ 63) || decide (k >= 2 ^ 63)) = false := by
  rw [decide_eq_false (by omega), decide_eq_false (by omega)]; rfl
 refine wpAny_binaryOp_repeat_ref (T := "tuple") (U := "int") (by decide) ⟨_, e, rfl⟩ (λ s' => typeIs_int s' k t) qm F.fills_int_mul F.slot_int_rmul wj F.slot_int_index.lookup
  (call_meets F.slot_int_rmul (typeIs_int s k t) F.entry_int_rmul (F.args_int_rmul_2 _ _) (tU k t l its.toArray n dd sl) ⟨e, rfl, ⟨_, e, rfl⟩, ?_⟩)
 by_cases hs : xs = [] ∨ k = 1
 .refine call_meets F.slot_tuple_mul ⟨_, e, rfl⟩ F.entry_tuple_mul (F.args_tuple_mul_2 _ _) (ul l its.toArray n k t dd sl h0 ?_) ⟨e, ⟨.ref l, H, I, rfl, q1 hs⟩⟩
  rcases hs with hs | hs
  .subst hs; cases r; rfl
  .subst hs; simp
 .have hne : (its.toArray.isEmpty || k == 1) = false := by
   rw [Bool.or_eq_false_iff]
   refine ⟨?_, by simpa using λ z => hs (.inr z)⟩
   cases its with
   | nil => cases r; exact absurd (Or.inl rfl) hs
   | cons a b => simp
  have hne' : its.toArray.isEmpty = false := (Bool.or_eq_false_iff.mp hne).1
  by_cases hk : k <= 0
  .refine call_meets F.slot_tuple_mul ⟨_, e, rfl⟩ F.entry_tuple_mul (F.args_tuple_mul_2 _ _) (uf l its.toArray n k t dd sl h0 hne (by rw [decide_eq_true hk]; rfl)) ⟨e, ?_⟩
   have hk0 : k.toNat = 0 := by omega
   refine ⟨.ref s.heap.objs.size, _, I.laid (t' := s.toks) (o := .tup []) (λ b ob q => Heap.get?_push_of_some _ q) (Nat.le_refl _) ⟨Nat.zero_le _, [], .nil, IsTup.new _ _⟩, rfl, ?_⟩
   have := q2 hs _ (I.hok.fresh (Nat.le_refl _))
   rw [hk0] at this
   exact this
  .have hp : its.length * k.toNat <= sizeLine := by rw [<- hl]; exact hz
   have hsz := sizeLine_eq
   have hcast : ((its.toArray.size : Int)) * k = ((its.length * k.toNat : Nat) : Int) := by
    rw [List.size_toArray, Int.natCast_mul, Int.toNat_of_nonneg (by omega)]
   have hfold : List.foldl (λ x1 x2 => x1 ++ x2) #[] (List.replicate k.toNat its.toArray) = (List.replicate k.toNat its).flatten.toArray := by
    have := foldl_rep its k.toNat []
    rw [List.nil_append] at this
    exact this
   have hlen : (List.replicate k.toNat its).flatten.length <= sizeLine := by rw [len_rep, Nat.mul_comm]; exact hp
   refine call_meets F.slot_tuple_mul ⟨_, e, rfl⟩ F.entry_tuple_mul (F.args_tuple_mul_2 _ _) (ur l its.toArray n k t dd sl h0 hne (by rw [decide_eq_false hk, hne']; rfl) ?_ ?_ ?_) ⟨e, ?_⟩
   .rw [hcast]
    have : (sizeLine : Int) <= (2 ^ 63 - 1) / 8 := by decide
    omega
   .rw [hcast]
    unfold Builtin.Tuple.tupleTooMany
    exact decide_eq_false (by omega)
   .rw [hfold, List.size_toArray]; exact hlen
   .rw [hfold]
    refine ⟨.ref s.heap.objs.size, _, I.laid (t' := s.toks) (o := .tup (List.replicate k.toNat xs).flatten) (λ b ob q => Heap.get?_push_of_some _ q) (Nat.le_refl _) ⟨by rw [len_rep, Nat.mul_comm]; exact hz, _, r.rep k.toNat, IsTup.new _ _⟩, rfl, q2 hs _ (I.hok.fresh (Nat.le_refl _))⟩
def Ob (K : PySem.W.Frag) (T : String) (x : V) (H : Hp) (k : Bool) : Prop := match x with
 | .non => k = false
 | .bl _ => k = (T == "bool" || T == "int")
 | .int _ => k = (T == "int")
 | .str _ => k = (T == "str")
 | .ref p => (k = (T == "list") /\ ∃ xs, SqL K H p xs) ∨ (k = (T == "tuple") /\ ∃ xs, SqT K H p xs) ∨ (k = (T == "dict") /\ ∃ xs, H p = some (.dK xs))
 | _ => False
def Hg : List String := ["bool", "int", "str", "list", "tuple", "dict"]
theorem Dk : lC X (.builtin "isinstance") (λ xs H Q => ∃ x T k, xs = [x, .ty T] /\ T ∈ Hg /\ Ob X.K T x H k /\ Q (.bl k) H) := by
 intro pins s σ H xs us Q I r h
 obtain ⟨x, T, k, rfl, hT, hx, q⟩ := h
 obtain ⟨u, w', rfl, rx, rt⟩ := vals2 r
 cases rt
 have fin : EP X pins σ Q (.bool k) s := ⟨.bl k, H, I, rfl, q⟩
 have fin1 : EP X pins σ Q (.bool k) { s with toks := s.toks + 1 } := ⟨.bl k, H, I.tok _, rfl, q⟩
 simp only [Hg, List.mem_cons, List.not_mem_nil, or_false] at hT
 cases x with
 | non =>
  cases rx
  have hk : k = false := hx
  subst hk
  rcases hT with rfl | rfl | rfl | rfl | rfl | rfl
  .exact IsiPair.NoneType_bool fin1
  .exact IsiPair.NoneType_int fin1
  .exact IsiPair.NoneType_str fin1
  .exact IsiPair.NoneType_list fin1
  .exact IsiPair.NoneType_tuple fin1
  .exact IsiPair.NoneType_dict fin1
 | bl b =>
  cases rx
  have hk : k = _ := hx
  subst hk
  rcases hT with rfl | rfl | rfl | rfl | rfl | rfl
  .exact IsiPair.bool_bool fin
  .exact IsiPair.bool_int fin
  .exact IsiPair.bool_str fin1
  .exact IsiPair.bool_list fin1
  .exact IsiPair.bool_tuple fin1
  .exact IsiPair.bool_dict fin1
 | int b =>
  obtain ⟨t, rfl⟩ := rx
  have hk : k = _ := hx
  subst hk
  rcases hT with rfl | rfl | rfl | rfl | rfl | rfl
  .exact IsiPair.int_bool fin1
  .exact IsiPair.int_int fin
  .exact IsiPair.int_str fin1
  .exact IsiPair.int_list fin1
  .exact IsiPair.int_tuple fin1
  .exact IsiPair.int_dict fin1
 | str b =>
  obtain ⟨t, rfl⟩ := rx
  have hk : k = _ := hx
  subst hk
  rcases hT with rfl | rfl | rfl | rfl | rfl | rfl
  .exact IsiPair.str_bool fin1
  .exact IsiPair.str_int fin1
  .exact IsiPair.str_str fin
  .exact IsiPair.str_list fin1
  .exact IsiPair.str_tuple fin1
  .exact IsiPair.str_dict fin1
 | ref p =>
  cases rx
  rcases hx with ⟨hk, xs, hq⟩ | ⟨hk, xs, hq⟩ | ⟨hk, xs, hq⟩
  .subst hk
   obtain ⟨its, _, pl, _⟩ := I.list hq
   obtain ⟨o, ho, hc, _⟩ := pl.isList
   rcases hT with rfl | rfl | rfl | rfl | rfl | rfl
   .exact IsiPair.list_bool ho hc fin1
   .exact IsiPair.list_int ho hc fin1
   .exact IsiPair.list_str ho hc fin1
   .exact IsiPair.list_list ho hc fin
   .exact IsiPair.list_tuple ho hc fin1
   .exact IsiPair.list_dict ho hc fin1
  .subst hk
   obtain ⟨its, _, pl, _⟩ := I.tuple hq
   obtain ⟨o, ho, hc, _⟩ := pl
   rcases hT with rfl | rfl | rfl | rfl | rfl | rfl
   .exact IsiPair.tuple_bool ho hc fin1
   .exact IsiPair.tuple_int ho hc fin1
   .exact IsiPair.tuple_str ho hc fin1
   .exact IsiPair.tuple_list ho hc fin1
   .exact IsiPair.tuple_tuple ho hc fin
   .exact IsiPair.tuple_dict ho hc fin1
  .subst hk
   obtain ⟨_, _, vs, _, o, _, _, ho, ex, _⟩ := I.hok p _ hq
   have hc := ex.1
   rcases hT with rfl | rfl | rfl | rfl | rfl | rfl
   .exact IsiPair.dict_bool ho hc fin1
   .exact IsiPair.dict_int ho hc fin1
   .exact IsiPair.dict_str ho hc fin1
   .exact IsiPair.dict_list ho hc fin1
   .exact IsiPair.dict_tuple ho hc fin1
   .exact IsiPair.dict_dict ho hc fin
 | _ => exact hx.elim
end
end L2
namespace L3
open PySem PySem.Spec PyProof.Rows L2
abbrev O2 := D -> D -> Mu -> Option (D × Mu)
abbrev O1' := D -> Mu -> Option (D × Mu)
abbrev ON := List D -> Mu -> Option (D × Mu)
def bJ : O2
 | .int i, .int j, μ => some (.int (i + j), μ)
 | .tup xs, .tup ys, μ => if xs.length + ys.length <= sizeLine then some (.tup (xs ++ ys), μ) else none
 | .lst xs, .lst ys, μ => if xs.length + ys.length <= sizeLine then some (.lst (xs ++ ys), μ) else none
 | .str x, .str y, μ => if x.length + y.length <= sizeLine then some (.str (x ++ y), μ) else none
 | _, _, _ => none
def jh : O2
 | .int i, .int j, μ => some (.int (i - j), μ)
 | _, _, _ => none
def eO : O2
 | .int i, .int j, μ => if jA i j <= 134217728 then some (.int (i * j), μ) else none
 | .tup xs, .int k, μ => if -(2 ^ 63) <= k /\ k < 2 ^ 63 /\ xs.length * k.toNat <= sizeLine then some (.tup (List.replicate k.toNat xs).flatten, μ) else none
 | .lst xs, .int k, μ => if -(2 ^ 63) <= k /\ k < 2 ^ 63 /\ xs.length * k.toNat <= sizeLine then some (.lst (List.replicate k.toNat xs).flatten, μ) else none
 | _, _, _ => none
def oDiv : O2
 | .int i, .int j, μ => if j ≠ 0 /\ j.natAbs.log2 < 9000 then some (.int (i.fdiv j), μ) else none
 | _, _, _ => none
def oMod : O2
 | .int i, .int j, μ => if j ≠ 0 then some (.int (i.fmod j), μ) else none
 | _, _, _ => none
def xT : O2
 | .int i, .int j, μ => if 0 <= j /\ (Builtin.Int.intBits i : Int) * j <= 2 ^ 27 then some (.int (i ^ j.toNat), μ) else none
 | _, _, _ => none
def oLt : O2
 | .int i, .int j, μ => some (.bl (decide (i < j)), μ)
 | _, _, _ => none
def oLe : O2
 | .int i, .int j, μ => some (.bl (decide (i <= j)), μ)
 | _, _, _ => none
def oGe : O2
 | .int i, .int j, μ => some (.bl (decide (j <= i)), μ)
 | _, _, _ => none
section
variable {X : Cx} {tb : List Addr}
theorem rN {K : PySem.W.Frag} {F : Hp} {ad : List Addr} {ds : List D} {vs : List V} (h : aC K F ad ds vs) : ∀ k : Nat, aC K F ad (List.replicate k ds).flatten (List.replicate k vs).flatten
 | 0 => aC.nil
 | k + 1 => by
  rw [List.replicate_succ, List.replicate_succ, List.flatten_cons, List.flatten_cons]
  exact aC.append h (rN h k)
theorem mj {K : PySem.W.Frag} {F : Hp} {ad : List Addr} {ds : List D} {vs : List V} (h : aC K F ad ds vs) : vs = [] ↔ ds = [] := by
 have := aC.length h
 cases ds <;> cases vs <;> simp_all
theorem Hq {α : Type} (xs : List α) : (List.replicate (1 : Int).toNat xs).flatten = xs := by simp
theorem bG : OpD X tb (binaryOp .Add) bJ := ⟨_, KY.or (Ia.or (Nj.or zW)), λ W x y v u d μ' Q ok dx dy ho h => by
 cases x with
 | int i =>
  cases y with
  | int j => cases ho; rw [bF dx, bF dy]; exact .inl ⟨i, j, rfl, rfl, put ok h fB⟩
  | _ => cases ho
 | tup xs =>
  cases y with
  | tup ys =>
   have ho' : (if xs.length + ys.length <= sizeLine then some (D.tup (xs ++ ys), W.mu) else none) = some (d, μ') := ho
   split at ho'
   .rename_i hz
    cases ho'
    obtain ⟨a, us, rfl, q1, r1⟩ := iU dx
    obtain ⟨b, ws, rfl, q2, r2⟩ := iU dy
    refine .inr (.inl ⟨a, b, us, ws, rfl, rfl, SqT.fz q1, SqT.fz q2, by rw [<- aC.length r1, <- aC.length r2]; exact hz, λ e => ?_, λ _ e => ?_, λ _ _ p hp => my ok h (aC.append r1 r2) hp⟩)
    .have e' := (mj r1).mp e
     subst e'
     exact put ok h dy
    .have e' := (mj r2).mp e
     subst e'
     rw [List.append_nil] at h
     exact put ok h dx
   .cases ho'
  | _ => cases ho
 | lst xs =>
  cases y with
  | lst ys =>
   have ho' : (if xs.length + ys.length <= sizeLine then some (D.lst (xs ++ ys), W.mu) else none) = some (d, μ') := ho
   split at ho'
   .rename_i hz
    cases ho'
    obtain ⟨a, us, rfl, q1, r1⟩ := pW dx
    obtain ⟨b, ws, rfl, q2, r2⟩ := pW dy
    exact .inr (.inr (.inl ⟨a, b, us, ws, rfl, rfl, (eU q1).1, (eU q2).1, by rw [<- aC.length r1, <- aC.length r2]; exact hz, λ p hp => jB ok h (aC.append r1 r2) hp⟩))
   .cases ho'
  | _ => cases ho
 | str x =>
  cases y with
  | str y =>
   have ho' : (if x.length + y.length <= sizeLine then some (D.str (x ++ y), W.mu) else none) = some (d, μ') := ho
   split at ho'
   .rename_i hz
    cases ho'
    rw [lY dx, lY dy]
    exact .inr (.inr (.inr ⟨x, y, rfl, rfl, hz, put ok h Iz⟩))
   .cases ho'
  | _ => cases ho
 | _ => cases y <;> cases ho⟩
theorem iY : OpD X tb (binaryOp .Sub) jh := ⟨_, Lq, λ W x y v u d μ' Q ok dx dy ho h => by
 cases x with
 | int i =>
  cases y with
  | int j => cases ho; rw [bF dx, bF dy]; exact ⟨i, j, rfl, rfl, put ok h fB⟩
  | _ => cases ho
 | _ => cases y <;> cases ho⟩
theorem fW : OpD X tb (binaryOp .Mult) eO := ⟨_, Jv.or (Jr.or FP), λ W x y v u d μ' Q ok dx dy ho h => by
 cases x with
 | int i =>
  cases y with
  | int j =>
   have ho' : (if jA i j <= 134217728 then some (D.int (i * j), W.mu) else none) = some (d, μ') := ho
   split at ho'
   .rename_i hz
    cases ho'
    rw [bF dx, bF dy]; exact .inl ⟨i, j, rfl, rfl, hz, put ok h fB⟩
   .cases ho'
  | _ => cases ho
 | tup xs =>
  cases y with
  | int k =>
   have ho' : (if -(2 ^ 63) <= k /\ k < 2 ^ 63 /\ xs.length * k.toNat <= sizeLine then some (D.tup (List.replicate k.toNat xs).flatten, W.mu) else none) = some (d, μ') := ho
   split at ho'
   .rename_i hz
    cases ho'
    obtain ⟨a, us, rfl, q1, r1⟩ := iU dx
    rw [bF dy]
    refine .inr (.inl ⟨a, k, us, rfl, rfl, SqT.fz q1, hz.1, hz.2.1, by rw [<- aC.length r1]; exact hz.2.2, λ e => ?_, λ _ p hp => my ok h (rN r1 _) hp⟩)
    rcases e with e | e
    .have e' := (mj r1).mp e
     subst e'
     have e2 : (List.replicate k.toNat ([] : List D)).flatten = [] := by simp
     rw [e2] at h
     exact put ok h dx
    .subst e
     rw [Hq] at h
     exact put ok h dx
   .cases ho'
  | _ => cases ho
 | lst xs =>
  cases y with
  | int k =>
   have ho' : (if -(2 ^ 63) <= k /\ k < 2 ^ 63 /\ xs.length * k.toNat <= sizeLine then some (D.lst (List.replicate k.toNat xs).flatten, W.mu) else none) = some (d, μ') := ho
   split at ho'
   .rename_i hz
    cases ho'
    obtain ⟨a, us, rfl, q1, r1⟩ := pW dx
    rw [bF dy]
    exact .inr (.inr ⟨a, k, us, rfl, rfl, (eU q1).1, hz.1, hz.2.1, by rw [<- aC.length r1]; exact hz.2.2, λ p hp => jB ok h (rN r1 _) hp⟩)
   .cases ho'
  | _ => cases ho
 | _ => cases y <;> cases ho⟩
theorem fH : OpD X tb (binaryOp .FloorDiv) oDiv := ⟨_, DR, λ W x y v u d μ' Q ok dx dy ho h => by
 cases x with
 | int i =>
  cases y with
  | int j =>
   have ho' : (if j ≠ 0 /\ j.natAbs.log2 < 9000 then some (D.int (i.fdiv j), W.mu) else none) = some (d, μ') := ho
   split at ho'
   .rename_i hz
    cases ho'
    rw [bF dx, bF dy]; exact ⟨i, j, rfl, rfl, hz, put ok h fB⟩
   .cases ho'
  | _ => cases ho
 | _ => cases y <;> cases ho⟩
theorem cu : OpD X tb (binaryOp .Mod) oMod := ⟨_, Hv, λ W x y v u d μ' Q ok dx dy ho h => by
 cases x with
 | int i =>
  cases y with
  | int j =>
   have ho' : (if j ≠ 0 then some (D.int (i.fmod j), W.mu) else none) = some (d, μ') := ho
   split at ho'
   .rename_i hz
    cases ho'
    rw [bF dx, bF dy]; exact ⟨i, j, rfl, rfl, hz, put ok h fB⟩
   .cases ho'
  | _ => cases ho
 | _ => cases y <;> cases ho⟩
theorem El : OpD X tb (binaryOp .Pow) xT := ⟨_, HD, λ W x y v u d μ' Q ok dx dy ho h => by
 cases x with
 | int i =>
  cases y with
  | int j =>
   have ho' : (if 0 <= j /\ (Builtin.Int.intBits i : Int) * j <= 2 ^ 27 then some (D.int (i ^ j.toNat), W.mu) else none) = some (d, μ') := ho
   split at ho'
   .rename_i hz
    cases ho'
    rw [bF dx, bF dy]; exact ⟨i, j, rfl, rfl, hz, put ok h fB⟩
   .cases ho'
  | _ => cases ho
 | _ => cases y <;> cases ho⟩
theorem oF : OpD X tb (compareOp .Lt) oLt := ⟨_, Pk, λ W x y v u d μ' Q ok dx dy ho h => by
 cases x with
 | int i =>
  cases y with
  | int j => cases ho; rw [bF dx, bF dy]; exact ⟨i, j, rfl, rfl, put ok h fQ⟩
  | _ => cases ho
 | _ => cases y <;> cases ho⟩
theorem Ac : OpD X tb (compareOp .LtE) oLe := ⟨_, OD, λ W x y v u d μ' Q ok dx dy ho h => by
 cases x with
 | int i =>
  cases y with
  | int j => cases ho; rw [bF dx, bF dy]; exact ⟨i, j, rfl, rfl, put ok h fQ⟩
  | _ => cases ho
 | _ => cases y <;> cases ho⟩
theorem ye : OpD X tb (compareOp .GtE) oGe := ⟨_, Qq, λ W x y v u d μ' Q ok dx dy ho h => by
 cases x with
 | int i =>
  cases y with
  | int j => cases ho; rw [bF dx, bF dy]; exact ⟨i, j, rfl, rfl, put ok h fQ⟩
  | _ => cases ho
 | _ => cases y <;> cases ho⟩
end
open PySem.SeqAt
mutual
def eqD : D -> D -> Bool
 | .non, .non => true
 | .bl a, .bl b => a == b
 | .bl a, .int b => (if a then 1 else 0) == b
 | .int a, .bl b => a == (if b then 1 else 0)
 | .int a, .int b => a == b
 | .str a, .str b => a == b
 | .tup xs, .tup ys => jC xs ys
 | .lst xs, .lst ys => jC xs ys
 | _, _ => false
def jC : List D -> List D -> Bool
 | [], [] => true
 | x :: xs, y :: ys => eqD x y && jC xs ys
 | _, _ => false
end
mutual
def fV : D -> Nat
 | .tup ds => iV ds + 1
 | .lst ds => iV ds + 1
 | _ => 0
def iV : List D -> Nat
 | [] => 0
 | d :: ds => max (fV d) (iV ds)
end
mutual
def cH : D -> Bool
 | .non => true
 | .bl _ => true
 | .int _ => true
 | .str _ => true
 | .tup ds => fG ds
 | .lst ds => fG ds
 | _ => false
def fG : List D -> Bool
 | [] => true
 | d :: ds => cH d && fG ds
end
mutual
def DV (K : PySem.W.Frag) (H : Hp) : D -> V -> Prop
 | .non, v => v = .non
 | .bl b, v => v = .bl b
 | .int i, v => v = .int i
 | .str x, v => v = .str x
 | .tup ds, v => ∃ a xs, v = .ref a /\ SqT K H a xs /\ DVL K H ds xs
 | .lst ds, v => ∃ a xs, v = .ref a /\ SqL K H a xs /\ DVL K H ds xs
 | .ro _, _ => False
 | .dic _, _ => False
 | .cell _, _ => False
def DVL (K : PySem.W.Frag) (H : Hp) : List D -> List V -> Prop
 | [], vs => vs = []
 | d :: ds, vs => ∃ u us, vs = u :: us /\ DV K H d u /\ DVL K H ds us
end
section
variable {K : PySem.W.Frag} {tb : List Addr} {W : Wd}
mutual
theorem JR : ∀ (d : D) (v : V), cH d = true -> bu K (W.fz tb) W.ad d v -> DV K W.H d v
 | .non, v, _, h => by unfold bu at h; unfold DV; exact h
 | .bl _, v, _, h => by unfold bu at h; unfold DV; exact h
 | .int _, v, _, h => by unfold bu at h; unfold DV; exact h
 | .str _, v, _, h => by unfold bu at h; unfold DV; exact h
 | .tup ds, v, p, h => by
  unfold bu at h; unfold DV; unfold cH at p
  obtain ⟨a, xs, e, q, r⟩ := h
  exact ⟨a, xs, e, SqT.fz q, tB ds xs p r⟩
 | .lst ds, v, p, h => by
  unfold bu at h; unfold DV; unfold cH at p
  obtain ⟨a, xs, e, q, r⟩ := h
  exact ⟨a, xs, e, SqL.of (eU q).1, tB ds xs p r⟩
 | .ro ds, v, p, h => by unfold cH at p; cases p
 | .dic ds, v, p, h => by unfold cH at p; cases p
 | .cell ds, v, p, h => by unfold cH at p; cases p
theorem tB : ∀ (ds : List D) (vs : List V), fG ds = true -> aC K (W.fz tb) W.ad ds vs -> DVL K W.H ds vs
 | [], vs, _, h => by unfold aC at h; unfold DVL; exact h
 | d :: ds, vs, p, h => by
  unfold aC at h; unfold DVL; unfold fG at p
  rw [Bool.and_eq_true] at p
  obtain ⟨u, us, e, q, r⟩ := h
  exact ⟨u, us, e, JR d u p.1 q, tB ds us p.2 r⟩
end
end
def kE (xs ys : List D) (j : Nat) : Bool := match xs[j]?, ys[j]? with
 | some x, some y => eqD x y
 | _, _ => false
theorem jR : ∀ (xs ys : List D), xs.length = ys.length -> (List.range xs.length).all (kE xs ys) = jC xs ys
 | [], [], _ => by unfold jC; rfl
 | x :: xs, y :: ys, h => by
  unfold jC
  rw [List.length_cons, List.range_succ_eq_map, List.all_cons, List.all_map, <- jR xs ys (by simpa using h)]
  rfl
theorem nq : ∀ (xs ys : List D), xs.length ≠ ys.length -> jC xs ys = false
 | [], [], h => absurd rfl h
 | [], y :: ys, _ => by unfold jC; rfl
 | x :: xs, [], _ => by unfold jC; rfl
 | x :: xs, y :: ys, h => by
  unfold jC
  rw [nq xs ys (by simpa using h), Bool.and_false]
theorem rP (xs ys : List D) : ((List.range (min xs.length ys.length)).all (kE xs ys) && xs.length == ys.length) = jC xs ys := by
 by_cases h : xs.length = ys.length
 .rw [<- h, Nat.min_self, jR xs ys h]; simp
 .rw [nq xs ys h, beq_false_of_ne h, Bool.and_false]
section
variable {X : Cx} {pins : List (Addr × Obj)} {σ : L2.St} {H : Hp} {s : Shared}
theorem DVL.length {K : PySem.W.Frag} : ∀ {ds : List D} {vs : List V}, DVL K H ds vs -> ds.length = vs.length
 | [], vs, h => by unfold DVL at h; subst h; rfl
 | d :: ds, vs, h => by
  unfold DVL at h
  obtain ⟨u, us, rfl, _, r⟩ := h
  rw [List.length_cons, List.length_cons, DVL.length r]
theorem DVL.get' {K : PySem.W.Frag} : ∀ {ds : List D} {vs : List V} {i : Nat} {v : V}, DVL K H ds vs -> vs[i]? = some v -> ∃ d, ds[i]? = some d /\ DV K H d v
 | [], vs, i, v, h, e => by unfold DVL at h; subst h; simp at e
 | d :: ds, vs, 0, x, h, e => by
  unfold DVL at h
  obtain ⟨u, us, rfl, p, r⟩ := h
  simp at e; subst e
  exact ⟨d, rfl, p⟩
 | d :: ds, vs, i + 1, x, h, e => by
  unfold DVL at h
  obtain ⟨u, us, rfl, p, r⟩ := h
  obtain ⟨y, e1, e2⟩ := DVL.get' (i := i) r (by simpa using e)
  exact ⟨y, by simpa using e1, e2⟩
theorem xX {a : Addr} {xs ys : List V} (I : Inv X pins σ H s) (h : SqL X.K H a xs) (h' : SqT X.K H a ys) : False := by
 obtain ⟨its, _, pl, _⟩ := I.list h
 obtain ⟨its', _, pt, _⟩ := I.tuple h'
 obtain ⟨o, ho, hc, _⟩ := pl.isList
 obtain ⟨o', ho', hc', _⟩ := pt
 rw [ho] at ho'; cases ho'
 rw [hc] at hc'
 exact absurd hc' (by decide)
mutual
theorem tK (I : Inv X pins σ H s) : ∀ (x y : D) (v : V), DV X.K H x v -> DV X.K H y v -> eqD x y = true
 | .non, .non, v, h, k => by unfold eqD; rfl
 | .non, .bl b, v, h, k => by unfold DV at h k; subst h; cases k
 | .non, .int b, v, h, k => by unfold DV at h k; subst h; cases k
 | .non, .str b, v, h, k => by unfold DV at h k; subst h; cases k
 | .non, .tup ys, v, h, k => by unfold DV at h k; obtain ⟨a, us, rfl, q, r⟩ := k; cases h
 | .non, .lst ys, v, h, k => by unfold DV at h k; obtain ⟨a, us, rfl, q, r⟩ := k; cases h
 | .bl a, .non, v, h, k => by unfold DV at h k; subst h; cases k
 | .bl a, .bl b, v, h, k => by unfold DV at h k; subst h; cases k; unfold eqD; simp
 | .bl a, .int b, v, h, k => by unfold DV at h k; subst h; cases k
 | .bl a, .str b, v, h, k => by unfold DV at h k; subst h; cases k
 | .bl a, .tup ys, v, h, k => by unfold DV at h k; obtain ⟨a, us, rfl, q, r⟩ := k; cases h
 | .bl a, .lst ys, v, h, k => by unfold DV at h k; obtain ⟨a, us, rfl, q, r⟩ := k; cases h
 | .int a, .non, v, h, k => by unfold DV at h k; subst h; cases k
 | .int a, .bl b, v, h, k => by unfold DV at h k; subst h; cases k
 | .int a, .int b, v, h, k => by unfold DV at h k; subst h; cases k; unfold eqD; simp
 | .int a, .str b, v, h, k => by unfold DV at h k; subst h; cases k
 | .int a, .tup ys, v, h, k => by unfold DV at h k; obtain ⟨a, us, rfl, q, r⟩ := k; cases h
 | .int a, .lst ys, v, h, k => by unfold DV at h k; obtain ⟨a, us, rfl, q, r⟩ := k; cases h
 | .str a, .non, v, h, k => by unfold DV at h k; subst h; cases k
 | .str a, .bl b, v, h, k => by unfold DV at h k; subst h; cases k
 | .str a, .int b, v, h, k => by unfold DV at h k; subst h; cases k
 | .str a, .str b, v, h, k => by unfold DV at h k; subst h; cases k; unfold eqD; simp
 | .str a, .tup ys, v, h, k => by unfold DV at h k; obtain ⟨a, us, rfl, q, r⟩ := k; cases h
 | .str a, .lst ys, v, h, k => by unfold DV at h k; obtain ⟨a, us, rfl, q, r⟩ := k; cases h
 | .tup xs, .non, v, h, k => by unfold DV at h k; obtain ⟨a, us, rfl, q, r⟩ := h; cases k
 | .tup xs, .bl b, v, h, k => by unfold DV at h k; obtain ⟨a, us, rfl, q, r⟩ := h; cases k
 | .tup xs, .int b, v, h, k => by unfold DV at h k; obtain ⟨a, us, rfl, q, r⟩ := h; cases k
 | .tup xs, .str b, v, h, k => by unfold DV at h k; obtain ⟨a, us, rfl, q, r⟩ := h; cases k
 | .tup xs, .tup ys, v, h, k => by
  unfold DV at h k
  obtain ⟨a, us, rfl, q, r⟩ := h
  obtain ⟨a', us', e, q', r'⟩ := k
  cases e
  have := I.tuple_inj q q'
  subst this
  unfold eqD
  exact qP I xs ys us r r'
 | .tup xs, .lst ys, v, h, k => by
  unfold DV at h k
  obtain ⟨a, us, rfl, q, r⟩ := h
  obtain ⟨a', us', e, q', r'⟩ := k
  cases e
  exact (xX I q' q).elim
 | .lst xs, .non, v, h, k => by unfold DV at h k; obtain ⟨a, us, rfl, q, r⟩ := h; cases k
 | .lst xs, .bl b, v, h, k => by unfold DV at h k; obtain ⟨a, us, rfl, q, r⟩ := h; cases k
 | .lst xs, .int b, v, h, k => by unfold DV at h k; obtain ⟨a, us, rfl, q, r⟩ := h; cases k
 | .lst xs, .str b, v, h, k => by unfold DV at h k; obtain ⟨a, us, rfl, q, r⟩ := h; cases k
 | .lst xs, .tup ys, v, h, k => by
  unfold DV at h k
  obtain ⟨a, us, rfl, q, r⟩ := h
  obtain ⟨a', us', e, q', r'⟩ := k
  cases e
  exact (xX I q q').elim
 | .lst xs, .lst ys, v, h, k => by
  unfold DV at h k
  obtain ⟨a, us, rfl, q, r⟩ := h
  obtain ⟨a', us', e, q', r'⟩ := k
  cases e
  have := I.list_inj q q'
  subst this
  unfold eqD
  exact qP I xs ys us r r'
 | .ro _, _, v, h, _ => by unfold DV at h; exact h.elim
 | .dic _, _, v, h, _ => by unfold DV at h; exact h.elim
 | .cell _, _, v, h, _ => by unfold DV at h; exact h.elim
 | .non, .ro _, v, _, k => by unfold DV at k; exact k.elim
 | .non, .dic _, v, _, k => by unfold DV at k; exact k.elim
 | .non, .cell _, v, _, k => by unfold DV at k; exact k.elim
 | .bl _, .ro _, v, _, k => by unfold DV at k; exact k.elim
 | .bl _, .dic _, v, _, k => by unfold DV at k; exact k.elim
 | .bl _, .cell _, v, _, k => by unfold DV at k; exact k.elim
 | .int _, .ro _, v, _, k => by unfold DV at k; exact k.elim
 | .int _, .dic _, v, _, k => by unfold DV at k; exact k.elim
 | .int _, .cell _, v, _, k => by unfold DV at k; exact k.elim
 | .str _, .ro _, v, _, k => by unfold DV at k; exact k.elim
 | .str _, .dic _, v, _, k => by unfold DV at k; exact k.elim
 | .str _, .cell _, v, _, k => by unfold DV at k; exact k.elim
 | .tup _, .ro _, v, _, k => by unfold DV at k; exact k.elim
 | .tup _, .dic _, v, _, k => by unfold DV at k; exact k.elim
 | .tup _, .cell _, v, _, k => by unfold DV at k; exact k.elim
 | .lst _, .ro _, v, _, k => by unfold DV at k; exact k.elim
 | .lst _, .dic _, v, _, k => by unfold DV at k; exact k.elim
 | .lst _, .cell _, v, _, k => by unfold DV at k; exact k.elim
theorem qP (I : Inv X pins σ H s) : ∀ (xs ys : List D) (vs : List V), DVL X.K H xs vs -> DVL X.K H ys vs -> jC xs ys = true
 | [], [], vs, _, _ => by unfold jC; rfl
 | [], y :: ys, vs, h, k => by unfold DVL at h k; subst h; obtain ⟨u, us, e, _⟩ := k; cases e
 | x :: xs, [], vs, h, k => by unfold DVL at h k; subst k; obtain ⟨u, us, e, _⟩ := h; cases e
 | x :: xs, y :: ys, vs, h, k => by
  unfold DVL at h k
  obtain ⟨u, us, rfl, p, r⟩ := h
  obtain ⟨u', us', e, p', r'⟩ := k
  cases e
  unfold jC
  rw [tK I x y u p p', qP I xs ys us r r']; rfl
end
mutual
theorem Ly (I : Inv X pins σ H s) : ∀ (x y : D) (v u : V) (vv uu : Value) (A : Around), DV X.K H x v -> DV X.K H y u -> RelV v vv -> RelV u uu -> A.units + fV x < cLine -> EqAt A s vv uu (eqD x y)
 | .non, .non, v, u, vv, uu, A, h, k, rv, ru, hu => by unfold DV at h k; subst h; cases rv; subst k; cases ru; unfold eqD; exact EqAt.same _
 | .non, .bl b0, v, u, vv, uu, A, h, k, rv, ru, hu => by unfold DV at h k; subst h; cases rv; subst k; cases ru; unfold eqD; exact EqAt.none_bool _
 | .non, .int b0, v, u, vv, uu, A, h, k, rv, ru, hu => by unfold DV at h k; subst h; cases rv; subst k; obtain ⟨t1, rfl⟩ := ru; unfold eqD; exact EqAt.none_int _ _
 | .non, .str b0, v, u, vv, uu, A, h, k, rv, ru, hu => by unfold DV at h k; subst h; cases rv; subst k; obtain ⟨t1, rfl⟩ := ru; unfold eqD; exact EqAt.none_str _ _
 | .non, .tup ys, v, u, vv, uu, A, h, k, rv, ru, hu => by unfold DV at h k; subst h; cases rv; obtain ⟨b, ws, rfl, p, r2⟩ := k; cases ru; obtain ⟨its1, iv1, pl1, hz1⟩ := I.tuple p; unfold eqD; exact EqAt.none_tuple pl1 (by omega)
 | .non, .lst ys, v, u, vv, uu, A, h, k, rv, ru, hu => by unfold DV at h k; subst h; cases rv; obtain ⟨b, ws, rfl, p, r2⟩ := k; cases ru; obtain ⟨its1, iv1, pl1, hz1⟩ := I.list p; unfold eqD; exact EqAt.none_list pl1.isList (by omega)
 | .bl a0, .non, v, u, vv, uu, A, h, k, rv, ru, hu => by unfold DV at h k; subst h; cases rv; subst k; cases ru; unfold eqD; exact EqAt.bool_none _
 | .bl a0, .bl b0, v, u, vv, uu, A, h, k, rv, ru, hu => by unfold DV at h k; subst h; cases rv; subst k; cases ru; unfold eqD; exact EqAt.bool_bool _ _
 | .bl a0, .int b0, v, u, vv, uu, A, h, k, rv, ru, hu => by unfold DV at h k; subst h; cases rv; subst k; obtain ⟨t1, rfl⟩ := ru; unfold eqD; exact EqAt.bool_int _ _ _
 | .bl a0, .str b0, v, u, vv, uu, A, h, k, rv, ru, hu => by unfold DV at h k; subst h; cases rv; subst k; obtain ⟨t1, rfl⟩ := ru; unfold eqD; exact EqAt.bool_str _ _ _
 | .bl a0, .tup ys, v, u, vv, uu, A, h, k, rv, ru, hu => by unfold DV at h k; subst h; cases rv; obtain ⟨b, ws, rfl, p, r2⟩ := k; cases ru; obtain ⟨its1, iv1, pl1, hz1⟩ := I.tuple p; unfold eqD; exact EqAt.bool_tuple _ pl1 (by omega)
 | .bl a0, .lst ys, v, u, vv, uu, A, h, k, rv, ru, hu => by unfold DV at h k; subst h; cases rv; obtain ⟨b, ws, rfl, p, r2⟩ := k; cases ru; obtain ⟨its1, iv1, pl1, hz1⟩ := I.list p; unfold eqD; exact EqAt.bool_list _ pl1.isList (by omega)
 | .int a0, .non, v, u, vv, uu, A, h, k, rv, ru, hu => by unfold DV at h k; subst h; obtain ⟨t0, rfl⟩ := rv; subst k; cases ru; unfold eqD; exact EqAt.int_none _ _
 | .int a0, .bl b0, v, u, vv, uu, A, h, k, rv, ru, hu => by unfold DV at h k; subst h; obtain ⟨t0, rfl⟩ := rv; subst k; cases ru; unfold eqD; exact EqAt.int_bool _ _ _
 | .int a0, .int b0, v, u, vv, uu, A, h, k, rv, ru, hu => by unfold DV at h k; subst h; obtain ⟨t0, rfl⟩ := rv; subst k; obtain ⟨t1, rfl⟩ := ru; unfold eqD; exact EqAt.int_int _ _ _ _
 | .int a0, .str b0, v, u, vv, uu, A, h, k, rv, ru, hu => by unfold DV at h k; subst h; obtain ⟨t0, rfl⟩ := rv; subst k; obtain ⟨t1, rfl⟩ := ru; unfold eqD; exact EqAt.int_str _ _ _ _
 | .int a0, .tup ys, v, u, vv, uu, A, h, k, rv, ru, hu => by unfold DV at h k; subst h; obtain ⟨t0, rfl⟩ := rv; obtain ⟨b, ws, rfl, p, r2⟩ := k; cases ru; obtain ⟨its1, iv1, pl1, hz1⟩ := I.tuple p; unfold eqD; exact EqAt.int_tuple _ _ pl1 (by omega)
 | .int a0, .lst ys, v, u, vv, uu, A, h, k, rv, ru, hu => by unfold DV at h k; subst h; obtain ⟨t0, rfl⟩ := rv; obtain ⟨b, ws, rfl, p, r2⟩ := k; cases ru; obtain ⟨its1, iv1, pl1, hz1⟩ := I.list p; unfold eqD; exact EqAt.int_list _ _ pl1.isList (by omega)
 | .str a0, .non, v, u, vv, uu, A, h, k, rv, ru, hu => by unfold DV at h k; subst h; obtain ⟨t0, rfl⟩ := rv; subst k; cases ru; unfold eqD; exact EqAt.str_none _ _
 | .str a0, .bl b0, v, u, vv, uu, A, h, k, rv, ru, hu => by unfold DV at h k; subst h; obtain ⟨t0, rfl⟩ := rv; subst k; cases ru; unfold eqD; exact EqAt.str_bool _ _ _
 | .str a0, .int b0, v, u, vv, uu, A, h, k, rv, ru, hu => by unfold DV at h k; subst h; obtain ⟨t0, rfl⟩ := rv; subst k; obtain ⟨t1, rfl⟩ := ru; unfold eqD; exact EqAt.str_int _ _ _ _
 | .str a0, .str b0, v, u, vv, uu, A, h, k, rv, ru, hu => by unfold DV at h k; subst h; obtain ⟨t0, rfl⟩ := rv; subst k; obtain ⟨t1, rfl⟩ := ru; unfold eqD; exact EqAt.str_str _ _ _ _
 | .str a0, .tup ys, v, u, vv, uu, A, h, k, rv, ru, hu => by unfold DV at h k; subst h; obtain ⟨t0, rfl⟩ := rv; obtain ⟨b, ws, rfl, p, r2⟩ := k; cases ru; obtain ⟨its1, iv1, pl1, hz1⟩ := I.tuple p; unfold eqD; exact EqAt.str_tuple _ _ pl1 (by omega)
 | .str a0, .lst ys, v, u, vv, uu, A, h, k, rv, ru, hu => by unfold DV at h k; subst h; obtain ⟨t0, rfl⟩ := rv; obtain ⟨b, ws, rfl, p, r2⟩ := k; cases ru; obtain ⟨its1, iv1, pl1, hz1⟩ := I.list p; unfold eqD; exact EqAt.str_list _ _ pl1.isList (by omega)
 | .tup xs, .non, v, u, vv, uu, A, h, k, rv, ru, hu => by unfold DV at h k; obtain ⟨a, us, rfl, q, r⟩ := h; cases rv; obtain ⟨its0, iv0, pl0, hz0⟩ := I.tuple q; subst k; cases ru; unfold eqD; exact EqAt.tuple_none pl0 (by omega)
 | .tup xs, .bl b0, v, u, vv, uu, A, h, k, rv, ru, hu => by unfold DV at h k; obtain ⟨a, us, rfl, q, r⟩ := h; cases rv; obtain ⟨its0, iv0, pl0, hz0⟩ := I.tuple q; subst k; cases ru; unfold eqD; exact EqAt.tuple_bool _ pl0 (by omega)
 | .tup xs, .int b0, v, u, vv, uu, A, h, k, rv, ru, hu => by unfold DV at h k; obtain ⟨a, us, rfl, q, r⟩ := h; cases rv; obtain ⟨its0, iv0, pl0, hz0⟩ := I.tuple q; subst k; obtain ⟨t1, rfl⟩ := ru; unfold eqD; exact EqAt.tuple_int _ _ pl0 (by omega)
 | .tup xs, .str b0, v, u, vv, uu, A, h, k, rv, ru, hu => by unfold DV at h k; obtain ⟨a, us, rfl, q, r⟩ := h; cases rv; obtain ⟨its0, iv0, pl0, hz0⟩ := I.tuple q; subst k; obtain ⟨t1, rfl⟩ := ru; unfold eqD; exact EqAt.tuple_str _ _ pl0 (by omega)
 | .tup xs, .tup ys, v, u, vv, uu, A, h, k, rv, ru, hu => by
  have h0 := h
  have k0 := k
  unfold DV at h k; unfold fV at hu
  obtain ⟨a, us, rfl, q, r⟩ := h; cases rv; obtain ⟨its0, iv0, pl0, hz0⟩ := I.tuple q; obtain ⟨b, ws, rfl, p, r2⟩ := k; cases ru; obtain ⟨its1, iv1, pl1, hz1⟩ := I.tuple p
  by_cases hab : a = b
  .subst hab
   rw [tK I _ _ _ h0 k0]
   exact EqAt.same _
  .unfold eqD
   refine EqAt.of_refs hab ?_
   have hl0 : its0.toArray.size = xs.length := by rw [List.size_toArray, <- iv0.length, <- DVL.length r]
   have hl1 : its1.toArray.size = ys.length := by rw [List.size_toArray, <- iv1.length, <- DVL.length r2]
   have rc := RcAt.tuples (A := A) (e := kE xs ys) pl0 pl1 (by omega) (λ j h1 h2 => by
     have h1' : j < its0.length := by simpa using h1
     have h2' : j < its1.length := by simpa using h2
     obtain ⟨d, e1, dv⟩ := DVL.get' r (show us[j]? = some (us[j]'(by rw [iv0.length]; exact h1')) by simp)
     obtain ⟨d', e2, dv'⟩ := DVL.get' r2 (show ws[j]? = some (ws[j]'(by rw [iv1.length]; exact h2')) by simp)
     obtain ⟨z, ez, rz⟩ := iv0.get (show us[j]? = some (us[j]'(by rw [iv0.length]; exact h1')) by simp)
     obtain ⟨z', ez', rz'⟩ := iv1.get (show ws[j]? = some (ws[j]'(by rw [iv1.length]; exact h2')) by simp)
     have f1 : its0.toArray[j] = z := by simpa [h1'] using ez
     have f2 : its1.toArray[j] = z' := by simpa [h2'] using ez'
     rw [f1, f2]
     have := mD I xs ys us ws its0 its1 A.in1 r r2 iv0 iv1 (by rw [units_in1]; omega) j d d' e1 e2 z z' ez ez'
     unfold kE
     rw [e1, e2]
     exact this)
   rw [hl0, hl1, rP] at rc
   exact rc
 | .tup xs, .lst ys, v, u, vv, uu, A, h, k, rv, ru, hu => by unfold DV at h k; obtain ⟨a, us, rfl, q, r⟩ := h; cases rv; obtain ⟨its0, iv0, pl0, hz0⟩ := I.tuple q; obtain ⟨b, ws, rfl, p, r2⟩ := k; cases ru; obtain ⟨its1, iv1, pl1, hz1⟩ := I.list p; unfold eqD; exact EqAt.tuple_list pl0 pl1.isList (by omega)
 | .lst xs, .non, v, u, vv, uu, A, h, k, rv, ru, hu => by unfold DV at h k; obtain ⟨a, us, rfl, q, r⟩ := h; cases rv; obtain ⟨its0, iv0, pl0, hz0⟩ := I.list q; subst k; cases ru; unfold eqD; exact EqAt.list_none pl0.isList (by omega)
 | .lst xs, .bl b0, v, u, vv, uu, A, h, k, rv, ru, hu => by unfold DV at h k; obtain ⟨a, us, rfl, q, r⟩ := h; cases rv; obtain ⟨its0, iv0, pl0, hz0⟩ := I.list q; subst k; cases ru; unfold eqD; exact EqAt.list_bool _ pl0.isList (by omega)
 | .lst xs, .int b0, v, u, vv, uu, A, h, k, rv, ru, hu => by unfold DV at h k; obtain ⟨a, us, rfl, q, r⟩ := h; cases rv; obtain ⟨its0, iv0, pl0, hz0⟩ := I.list q; subst k; obtain ⟨t1, rfl⟩ := ru; unfold eqD; exact EqAt.list_int _ _ pl0.isList (by omega)
 | .lst xs, .str b0, v, u, vv, uu, A, h, k, rv, ru, hu => by unfold DV at h k; obtain ⟨a, us, rfl, q, r⟩ := h; cases rv; obtain ⟨its0, iv0, pl0, hz0⟩ := I.list q; subst k; obtain ⟨t1, rfl⟩ := ru; unfold eqD; exact EqAt.list_str _ _ pl0.isList (by omega)
 | .lst xs, .tup ys, v, u, vv, uu, A, h, k, rv, ru, hu => by unfold DV at h k; obtain ⟨a, us, rfl, q, r⟩ := h; cases rv; obtain ⟨its0, iv0, pl0, hz0⟩ := I.list q; obtain ⟨b, ws, rfl, p, r2⟩ := k; cases ru; obtain ⟨its1, iv1, pl1, hz1⟩ := I.tuple p; unfold eqD; exact EqAt.list_tuple pl0.isList pl1 (by omega)
 | .lst xs, .lst ys, v, u, vv, uu, A, h, k, rv, ru, hu => by
  have h0 := h
  have k0 := k
  unfold DV at h k; unfold fV at hu
  obtain ⟨a, us, rfl, q, r⟩ := h; cases rv; obtain ⟨its0, iv0, pl0, hz0⟩ := I.list q; obtain ⟨b, ws, rfl, p, r2⟩ := k; cases ru; obtain ⟨its1, iv1, pl1, hz1⟩ := I.list p
  by_cases hab : a = b
  .subst hab
   rw [tK I _ _ _ h0 k0]
   exact EqAt.same _
  .unfold eqD
   refine EqAt.of_refs hab ?_
   have hl0 : its0.toArray.size = xs.length := by rw [List.size_toArray, <- iv0.length, <- DVL.length r]
   have hl1 : its1.toArray.size = ys.length := by rw [List.size_toArray, <- iv1.length, <- DVL.length r2]
   by_cases hlen : xs.length = ys.length
   .have rc := RcAt.lists (A := A) (e := kE xs ys) pl0.isList pl1.isList (by rw [hl0, hl1, hlen]) (by omega) (λ j h1 h2 => by
     have h1' : j < its0.length := by simpa using h1
     have h2' : j < its1.length := by simpa using h2
     obtain ⟨d, e1, dv⟩ := DVL.get' r (show us[j]? = some (us[j]'(by rw [iv0.length]; exact h1')) by simp)
     obtain ⟨d', e2, dv'⟩ := DVL.get' r2 (show ws[j]? = some (ws[j]'(by rw [iv1.length]; exact h2')) by simp)
     obtain ⟨z, ez, rz⟩ := iv0.get (show us[j]? = some (us[j]'(by rw [iv0.length]; exact h1')) by simp)
     obtain ⟨z', ez', rz'⟩ := iv1.get (show ws[j]? = some (ws[j]'(by rw [iv1.length]; exact h2')) by simp)
     have f1 : its0.toArray[j] = z := by simpa [h1'] using ez
     have f2 : its1.toArray[j] = z' := by simpa [h2'] using ez'
     rw [f1, f2]
     have := mD I xs ys us ws its0 its1 A.in1 r r2 iv0 iv1 (by rw [units_in1]; omega) j d d' e1 e2 z z' ez ez'
     unfold kE
     rw [e1, e2]
     exact this)
    rw [hl0, jR _ _ hlen] at rc
    exact rc
   .rw [nq _ _ hlen]
    exact RcAt.lists_lengths pl0.isList pl1.isList (by rw [hl0, hl1]; simpa using hlen) (by omega)
 | .ro _, _, v, u, vv, uu, A, h, _, _, _, _ => by unfold DV at h; exact h.elim
 | .dic _, _, v, u, vv, uu, A, h, _, _, _, _ => by unfold DV at h; exact h.elim
 | .cell _, _, v, u, vv, uu, A, h, _, _, _, _ => by unfold DV at h; exact h.elim
 | .non, .ro _, v, u, vv, uu, A, _, k, _, _, _ => by unfold DV at k; exact k.elim
 | .non, .dic _, v, u, vv, uu, A, _, k, _, _, _ => by unfold DV at k; exact k.elim
 | .non, .cell _, v, u, vv, uu, A, _, k, _, _, _ => by unfold DV at k; exact k.elim
 | .bl _, .ro _, v, u, vv, uu, A, _, k, _, _, _ => by unfold DV at k; exact k.elim
 | .bl _, .dic _, v, u, vv, uu, A, _, k, _, _, _ => by unfold DV at k; exact k.elim
 | .bl _, .cell _, v, u, vv, uu, A, _, k, _, _, _ => by unfold DV at k; exact k.elim
 | .int _, .ro _, v, u, vv, uu, A, _, k, _, _, _ => by unfold DV at k; exact k.elim
 | .int _, .dic _, v, u, vv, uu, A, _, k, _, _, _ => by unfold DV at k; exact k.elim
 | .int _, .cell _, v, u, vv, uu, A, _, k, _, _, _ => by unfold DV at k; exact k.elim
 | .str _, .ro _, v, u, vv, uu, A, _, k, _, _, _ => by unfold DV at k; exact k.elim
 | .str _, .dic _, v, u, vv, uu, A, _, k, _, _, _ => by unfold DV at k; exact k.elim
 | .str _, .cell _, v, u, vv, uu, A, _, k, _, _, _ => by unfold DV at k; exact k.elim
 | .tup _, .ro _, v, u, vv, uu, A, _, k, _, _, _ => by unfold DV at k; exact k.elim
 | .tup _, .dic _, v, u, vv, uu, A, _, k, _, _, _ => by unfold DV at k; exact k.elim
 | .tup _, .cell _, v, u, vv, uu, A, _, k, _, _, _ => by unfold DV at k; exact k.elim
 | .lst _, .ro _, v, u, vv, uu, A, _, k, _, _, _ => by unfold DV at k; exact k.elim
 | .lst _, .dic _, v, u, vv, uu, A, _, k, _, _, _ => by unfold DV at k; exact k.elim
 | .lst _, .cell _, v, u, vv, uu, A, _, k, _, _, _ => by unfold DV at k; exact k.elim
theorem mD (I : Inv X pins σ H s) : ∀ (xs ys : List D) (vs us : List V) (vvs uus : List Value) (A : Around), DVL X.K H xs vs -> DVL X.K H ys us -> Vals vs vvs -> Vals us uus -> A.units + iV xs < cLine ->
  ∀ (j : Nat) (x y : D), xs[j]? = some x -> ys[j]? = some y -> ∀ (z z' : Value), vvs[j]? = some z -> uus[j]? = some z' -> EqAt A s z z' (eqD x y)
 | [], ys, vs, us, vvs, uus, A, _, _, _, _, _ => λ j x y e => by simp at e
 | x :: xs, [], vs, us, vvs, uus, A, _, _, _, _, _ => λ j _ y _ e => by simp at e
 | x :: xs, y :: ys, vs, us, vvs, uus, A, h, k, rv, ru, hu => by
  unfold DVL at h k
  unfold iV at hu
  obtain ⟨v, vs', rfl, p, r⟩ := h
  obtain ⟨u, us', rfl, p', r'⟩ := k
  cases rv with
  | cons rv1 rv2 =>
   cases ru with
   | cons ru1 ru2 =>
    intro j x' y' e1 e2 z z' ez ez'
    cases j with
    | zero =>
     simp at e1 e2 ez ez'
     subst e1 e2 ez ez'
     exact Ly I x y v u _ _ A p p' rv1 ru1 (by omega)
    | succ j =>
     exact mD I xs ys vs' us' _ _ A r r' rv2 ru2 (by omega) j x' y' (by simpa using e1) (by simpa using e2) z z' (by simpa using ez) (by simpa using ez')
end
theorem Nz (I : Inv X pins σ H s) : ∀ (x y : D) (v u : V) (vv uu : Value) (A : Around), DV X.K H x v -> DV X.K H y u -> RelV v vv -> RelV u uu -> A.units + fV x < cLine -> RcAt A s vv uu (eqD x y)
 | .non, .non, v, u, vv, uu, A, h, k, rv, ru, hu => by unfold DV at h k; subst h; cases rv; subst k; cases ru; unfold eqD; exact RcAt.none_none
 | .non, .bl b0, v, u, vv, uu, A, h, k, rv, ru, hu => by unfold DV at h k; subst h; cases rv; subst k; cases ru; unfold eqD; exact RcAt.none_bool _
 | .non, .int b0, v, u, vv, uu, A, h, k, rv, ru, hu => by unfold DV at h k; subst h; cases rv; subst k; obtain ⟨t1, rfl⟩ := ru; unfold eqD; exact RcAt.none_int _ _
 | .non, .str b0, v, u, vv, uu, A, h, k, rv, ru, hu => by unfold DV at h k; subst h; cases rv; subst k; obtain ⟨t1, rfl⟩ := ru; unfold eqD; exact RcAt.none_str _ _
 | .non, .tup ys, v, u, vv, uu, A, h, k, rv, ru, hu => by unfold DV at h k; subst h; cases rv; obtain ⟨b, ws, rfl, p, r2⟩ := k; cases ru; obtain ⟨its1, iv1, pl1, hz1⟩ := I.tuple p; unfold eqD; exact RcAt.none_tuple pl1 (by omega)
 | .non, .lst ys, v, u, vv, uu, A, h, k, rv, ru, hu => by unfold DV at h k; subst h; cases rv; obtain ⟨b, ws, rfl, p, r2⟩ := k; cases ru; obtain ⟨its1, iv1, pl1, hz1⟩ := I.list p; unfold eqD; exact RcAt.none_list pl1.isList (by omega)
 | .bl a0, .non, v, u, vv, uu, A, h, k, rv, ru, hu => by unfold DV at h k; subst h; cases rv; subst k; cases ru; unfold eqD; exact RcAt.bool_none _
 | .bl a0, .bl b0, v, u, vv, uu, A, h, k, rv, ru, hu => by unfold DV at h k; subst h; cases rv; subst k; cases ru; unfold eqD; exact RcAt.bool_bool _ _
 | .bl a0, .int b0, v, u, vv, uu, A, h, k, rv, ru, hu => by unfold DV at h k; subst h; cases rv; subst k; obtain ⟨t1, rfl⟩ := ru; unfold eqD; exact RcAt.bool_int _ _ _
 | .bl a0, .str b0, v, u, vv, uu, A, h, k, rv, ru, hu => by unfold DV at h k; subst h; cases rv; subst k; obtain ⟨t1, rfl⟩ := ru; unfold eqD; exact RcAt.bool_str _ _ _
 | .bl a0, .tup ys, v, u, vv, uu, A, h, k, rv, ru, hu => by unfold DV at h k; subst h; cases rv; obtain ⟨b, ws, rfl, p, r2⟩ := k; cases ru; obtain ⟨its1, iv1, pl1, hz1⟩ := I.tuple p; unfold eqD; exact RcAt.bool_tuple _ pl1 (by omega)
 | .bl a0, .lst ys, v, u, vv, uu, A, h, k, rv, ru, hu => by unfold DV at h k; subst h; cases rv; obtain ⟨b, ws, rfl, p, r2⟩ := k; cases ru; obtain ⟨its1, iv1, pl1, hz1⟩ := I.list p; unfold eqD; exact RcAt.bool_list _ pl1.isList (by omega)
 | .int a0, .non, v, u, vv, uu, A, h, k, rv, ru, hu => by unfold DV at h k; subst h; obtain ⟨t0, rfl⟩ := rv; subst k; cases ru; unfold eqD; exact RcAt.int_none _ _
 | .int a0, .bl b0, v, u, vv, uu, A, h, k, rv, ru, hu => by unfold DV at h k; subst h; obtain ⟨t0, rfl⟩ := rv; subst k; cases ru; unfold eqD; exact RcAt.int_bool _ _ _
 | .int a0, .int b0, v, u, vv, uu, A, h, k, rv, ru, hu => by unfold DV at h k; subst h; obtain ⟨t0, rfl⟩ := rv; subst k; obtain ⟨t1, rfl⟩ := ru; unfold eqD; exact RcAt.int_int _ _ _ _
 | .int a0, .str b0, v, u, vv, uu, A, h, k, rv, ru, hu => by unfold DV at h k; subst h; obtain ⟨t0, rfl⟩ := rv; subst k; obtain ⟨t1, rfl⟩ := ru; unfold eqD; exact RcAt.int_str _ _ _ _
 | .int a0, .tup ys, v, u, vv, uu, A, h, k, rv, ru, hu => by unfold DV at h k; subst h; obtain ⟨t0, rfl⟩ := rv; obtain ⟨b, ws, rfl, p, r2⟩ := k; cases ru; obtain ⟨its1, iv1, pl1, hz1⟩ := I.tuple p; unfold eqD; exact RcAt.int_tuple _ _ pl1 (by omega)
 | .int a0, .lst ys, v, u, vv, uu, A, h, k, rv, ru, hu => by unfold DV at h k; subst h; obtain ⟨t0, rfl⟩ := rv; obtain ⟨b, ws, rfl, p, r2⟩ := k; cases ru; obtain ⟨its1, iv1, pl1, hz1⟩ := I.list p; unfold eqD; exact RcAt.int_list _ _ pl1.isList (by omega)
 | .str a0, .non, v, u, vv, uu, A, h, k, rv, ru, hu => by unfold DV at h k; subst h; obtain ⟨t0, rfl⟩ := rv; subst k; cases ru; unfold eqD; exact RcAt.str_none _ _
 | .str a0, .bl b0, v, u, vv, uu, A, h, k, rv, ru, hu => by unfold DV at h k; subst h; obtain ⟨t0, rfl⟩ := rv; subst k; cases ru; unfold eqD; exact RcAt.str_bool _ _ _
 | .str a0, .int b0, v, u, vv, uu, A, h, k, rv, ru, hu => by unfold DV at h k; subst h; obtain ⟨t0, rfl⟩ := rv; subst k; obtain ⟨t1, rfl⟩ := ru; unfold eqD; exact RcAt.str_int _ _ _ _
 | .str a0, .str b0, v, u, vv, uu, A, h, k, rv, ru, hu => by unfold DV at h k; subst h; obtain ⟨t0, rfl⟩ := rv; subst k; obtain ⟨t1, rfl⟩ := ru; unfold eqD; exact RcAt.str_str _ _ _ _
 | .str a0, .tup ys, v, u, vv, uu, A, h, k, rv, ru, hu => by unfold DV at h k; subst h; obtain ⟨t0, rfl⟩ := rv; obtain ⟨b, ws, rfl, p, r2⟩ := k; cases ru; obtain ⟨its1, iv1, pl1, hz1⟩ := I.tuple p; unfold eqD; exact RcAt.str_tuple _ _ pl1 (by omega)
 | .str a0, .lst ys, v, u, vv, uu, A, h, k, rv, ru, hu => by unfold DV at h k; subst h; obtain ⟨t0, rfl⟩ := rv; obtain ⟨b, ws, rfl, p, r2⟩ := k; cases ru; obtain ⟨its1, iv1, pl1, hz1⟩ := I.list p; unfold eqD; exact RcAt.str_list _ _ pl1.isList (by omega)
 | .tup xs, .non, v, u, vv, uu, A, h, k, rv, ru, hu => by unfold DV at h k; obtain ⟨a, us, rfl, q, r⟩ := h; cases rv; obtain ⟨its0, iv0, pl0, hz0⟩ := I.tuple q; subst k; cases ru; unfold eqD; exact RcAt.tuple_none pl0 (by omega)
 | .tup xs, .bl b0, v, u, vv, uu, A, h, k, rv, ru, hu => by unfold DV at h k; obtain ⟨a, us, rfl, q, r⟩ := h; cases rv; obtain ⟨its0, iv0, pl0, hz0⟩ := I.tuple q; subst k; cases ru; unfold eqD; exact RcAt.tuple_bool _ pl0 (by omega)
 | .tup xs, .int b0, v, u, vv, uu, A, h, k, rv, ru, hu => by unfold DV at h k; obtain ⟨a, us, rfl, q, r⟩ := h; cases rv; obtain ⟨its0, iv0, pl0, hz0⟩ := I.tuple q; subst k; obtain ⟨t1, rfl⟩ := ru; unfold eqD; exact RcAt.tuple_int _ _ pl0 (by omega)
 | .tup xs, .str b0, v, u, vv, uu, A, h, k, rv, ru, hu => by unfold DV at h k; obtain ⟨a, us, rfl, q, r⟩ := h; cases rv; obtain ⟨its0, iv0, pl0, hz0⟩ := I.tuple q; subst k; obtain ⟨t1, rfl⟩ := ru; unfold eqD; exact RcAt.tuple_str _ _ pl0 (by omega)
 | .tup xs, .tup ys, v, u, vv, uu, A, h, k, rv, ru, hu => by
  unfold DV at h k; unfold fV at hu
  obtain ⟨a, us, rfl, q, r⟩ := h; cases rv; obtain ⟨its0, iv0, pl0, hz0⟩ := I.tuple q; obtain ⟨b, ws, rfl, p, r2⟩ := k; cases ru; obtain ⟨its1, iv1, pl1, hz1⟩ := I.tuple p
  unfold eqD
  have hl0 : its0.toArray.size = xs.length := by rw [List.size_toArray, <- iv0.length, <- DVL.length r]
  have hl1 : its1.toArray.size = ys.length := by rw [List.size_toArray, <- iv1.length, <- DVL.length r2]
  have rc := RcAt.tuples (A := A) (e := kE xs ys) pl0 pl1 (by omega) (λ j h1 h2 => by
     have h1' : j < its0.length := by simpa using h1
     have h2' : j < its1.length := by simpa using h2
     obtain ⟨d, e1, dv⟩ := DVL.get' r (show us[j]? = some (us[j]'(by rw [iv0.length]; exact h1')) by simp)
     obtain ⟨d', e2, dv'⟩ := DVL.get' r2 (show ws[j]? = some (ws[j]'(by rw [iv1.length]; exact h2')) by simp)
     obtain ⟨z, ez, rz⟩ := iv0.get (show us[j]? = some (us[j]'(by rw [iv0.length]; exact h1')) by simp)
     obtain ⟨z', ez', rz'⟩ := iv1.get (show ws[j]? = some (ws[j]'(by rw [iv1.length]; exact h2')) by simp)
     have f1 : its0.toArray[j] = z := by simpa [h1'] using ez
     have f2 : its1.toArray[j] = z' := by simpa [h2'] using ez'
     rw [f1, f2]
     have := mD I xs ys us ws its0 its1 A.in1 r r2 iv0 iv1 (by rw [units_in1]; omega) j d d' e1 e2 z z' ez ez'
     unfold kE
     rw [e1, e2]
     exact this)
  rw [hl0, hl1, rP] at rc
  exact rc
 | .tup xs, .lst ys, v, u, vv, uu, A, h, k, rv, ru, hu => by unfold DV at h k; obtain ⟨a, us, rfl, q, r⟩ := h; cases rv; obtain ⟨its0, iv0, pl0, hz0⟩ := I.tuple q; obtain ⟨b, ws, rfl, p, r2⟩ := k; cases ru; obtain ⟨its1, iv1, pl1, hz1⟩ := I.list p; unfold eqD; exact RcAt.tuple_list pl0 pl1.isList (by omega)
 | .lst xs, .non, v, u, vv, uu, A, h, k, rv, ru, hu => by unfold DV at h k; obtain ⟨a, us, rfl, q, r⟩ := h; cases rv; obtain ⟨its0, iv0, pl0, hz0⟩ := I.list q; subst k; cases ru; unfold eqD; exact RcAt.list_none pl0.isList (by omega)
 | .lst xs, .bl b0, v, u, vv, uu, A, h, k, rv, ru, hu => by unfold DV at h k; obtain ⟨a, us, rfl, q, r⟩ := h; cases rv; obtain ⟨its0, iv0, pl0, hz0⟩ := I.list q; subst k; cases ru; unfold eqD; exact RcAt.list_bool _ pl0.isList (by omega)
 | .lst xs, .int b0, v, u, vv, uu, A, h, k, rv, ru, hu => by unfold DV at h k; obtain ⟨a, us, rfl, q, r⟩ := h; cases rv; obtain ⟨its0, iv0, pl0, hz0⟩ := I.list q; subst k; obtain ⟨t1, rfl⟩ := ru; unfold eqD; exact RcAt.list_int _ _ pl0.isList (by omega)
 | .lst xs, .str b0, v, u, vv, uu, A, h, k, rv, ru, hu => by unfold DV at h k; obtain ⟨a, us, rfl, q, r⟩ := h; cases rv; obtain ⟨its0, iv0, pl0, hz0⟩ := I.list q; subst k; obtain ⟨t1, rfl⟩ := ru; unfold eqD; exact RcAt.list_str _ _ pl0.isList (by omega)
 | .lst xs, .tup ys, v, u, vv, uu, A, h, k, rv, ru, hu => by unfold DV at h k; obtain ⟨a, us, rfl, q, r⟩ := h; cases rv; obtain ⟨its0, iv0, pl0, hz0⟩ := I.list q; obtain ⟨b, ws, rfl, p, r2⟩ := k; cases ru; obtain ⟨its1, iv1, pl1, hz1⟩ := I.tuple p; unfold eqD; exact RcAt.list_tuple pl0.isList pl1 (by omega)
 | .lst xs, .lst ys, v, u, vv, uu, A, h, k, rv, ru, hu => by
  unfold DV at h k; unfold fV at hu
  obtain ⟨a, us, rfl, q, r⟩ := h; cases rv; obtain ⟨its0, iv0, pl0, hz0⟩ := I.list q; obtain ⟨b, ws, rfl, p, r2⟩ := k; cases ru; obtain ⟨its1, iv1, pl1, hz1⟩ := I.list p
  unfold eqD
  have hl0 : its0.toArray.size = xs.length := by rw [List.size_toArray, <- iv0.length, <- DVL.length r]
  have hl1 : its1.toArray.size = ys.length := by rw [List.size_toArray, <- iv1.length, <- DVL.length r2]
  by_cases hlen : xs.length = ys.length
  .have rc := RcAt.lists (A := A) (e := kE xs ys) pl0.isList pl1.isList (by rw [hl0, hl1, hlen]) (by omega) (λ j h1 h2 => by
     have h1' : j < its0.length := by simpa using h1
     have h2' : j < its1.length := by simpa using h2
     obtain ⟨d, e1, dv⟩ := DVL.get' r (show us[j]? = some (us[j]'(by rw [iv0.length]; exact h1')) by simp)
     obtain ⟨d', e2, dv'⟩ := DVL.get' r2 (show ws[j]? = some (ws[j]'(by rw [iv1.length]; exact h2')) by simp)
     obtain ⟨z, ez, rz⟩ := iv0.get (show us[j]? = some (us[j]'(by rw [iv0.length]; exact h1')) by simp)
     obtain ⟨z', ez', rz'⟩ := iv1.get (show ws[j]? = some (ws[j]'(by rw [iv1.length]; exact h2')) by simp)
     have f1 : its0.toArray[j] = z := by simpa [h1'] using ez
     have f2 : its1.toArray[j] = z' := by simpa [h2'] using ez'
     rw [f1, f2]
     have := mD I xs ys us ws its0 its1 A.in1 r r2 iv0 iv1 (by rw [units_in1]; omega) j d d' e1 e2 z z' ez ez'
     unfold kE
     rw [e1, e2]
     exact this)
   rw [hl0, jR _ _ hlen] at rc
   exact rc
  .rw [nq _ _ hlen]
   exact RcAt.lists_lengths pl0.isList pl1.isList (by rw [hl0, hl1]; simpa using hlen) (by omega)
 | .ro _, _, v, u, vv, uu, A, h, _, _, _, _ => by unfold DV at h; exact h.elim
 | .dic _, _, v, u, vv, uu, A, h, _, _, _, _ => by unfold DV at h; exact h.elim
 | .cell _, _, v, u, vv, uu, A, h, _, _, _, _ => by unfold DV at h; exact h.elim
 | .non, .ro _, v, u, vv, uu, A, _, k, _, _, _ => by unfold DV at k; exact k.elim
 | .non, .dic _, v, u, vv, uu, A, _, k, _, _, _ => by unfold DV at k; exact k.elim
 | .non, .cell _, v, u, vv, uu, A, _, k, _, _, _ => by unfold DV at k; exact k.elim
 | .bl _, .ro _, v, u, vv, uu, A, _, k, _, _, _ => by unfold DV at k; exact k.elim
 | .bl _, .dic _, v, u, vv, uu, A, _, k, _, _, _ => by unfold DV at k; exact k.elim
 | .bl _, .cell _, v, u, vv, uu, A, _, k, _, _, _ => by unfold DV at k; exact k.elim
 | .int _, .ro _, v, u, vv, uu, A, _, k, _, _, _ => by unfold DV at k; exact k.elim
 | .int _, .dic _, v, u, vv, uu, A, _, k, _, _, _ => by unfold DV at k; exact k.elim
 | .int _, .cell _, v, u, vv, uu, A, _, k, _, _, _ => by unfold DV at k; exact k.elim
 | .str _, .ro _, v, u, vv, uu, A, _, k, _, _, _ => by unfold DV at k; exact k.elim
 | .str _, .dic _, v, u, vv, uu, A, _, k, _, _, _ => by unfold DV at k; exact k.elim
 | .str _, .cell _, v, u, vv, uu, A, _, k, _, _, _ => by unfold DV at k; exact k.elim
 | .tup _, .ro _, v, u, vv, uu, A, _, k, _, _, _ => by unfold DV at k; exact k.elim
 | .tup _, .dic _, v, u, vv, uu, A, _, k, _, _, _ => by unfold DV at k; exact k.elim
 | .tup _, .cell _, v, u, vv, uu, A, _, k, _, _, _ => by unfold DV at k; exact k.elim
 | .lst _, .ro _, v, u, vv, uu, A, _, k, _, _, _ => by unfold DV at k; exact k.elim
 | .lst _, .dic _, v, u, vv, uu, A, _, k, _, _, _ => by unfold DV at k; exact k.elim
 | .lst _, .cell _, v, u, vv, uu, A, _, k, _, _, _ => by unfold DV at k; exact k.elim
theorem Mf (I : Inv X pins σ H s) : ∀ (x y : D) (v u : V) (vv uu : Value) (A : Around), DV X.K H x v -> DV X.K H y u -> RelV v vv -> RelV u uu -> A.units + fV x < cLine -> RcNeAt A s vv uu (!eqD x y)
 | .non, .non, v, u, vv, uu, A, h, k, rv, ru, hu => by unfold DV at h k; subst h; cases rv; subst k; cases ru; unfold eqD; exact RcNeAt.none_none
 | .non, .bl b0, v, u, vv, uu, A, h, k, rv, ru, hu => by unfold DV at h k; subst h; cases rv; subst k; cases ru; unfold eqD; exact RcNeAt.none_bool _
 | .non, .int b0, v, u, vv, uu, A, h, k, rv, ru, hu => by unfold DV at h k; subst h; cases rv; subst k; obtain ⟨t1, rfl⟩ := ru; unfold eqD; exact RcNeAt.none_int _ _
 | .non, .str b0, v, u, vv, uu, A, h, k, rv, ru, hu => by unfold DV at h k; subst h; cases rv; subst k; obtain ⟨t1, rfl⟩ := ru; unfold eqD; exact RcNeAt.none_str _ _
 | .non, .tup ys, v, u, vv, uu, A, h, k, rv, ru, hu => by unfold DV at h k; subst h; cases rv; obtain ⟨b, ws, rfl, p, r2⟩ := k; cases ru; obtain ⟨its1, iv1, pl1, hz1⟩ := I.tuple p; unfold eqD; exact RcNeAt.none_tuple pl1 (by omega)
 | .non, .lst ys, v, u, vv, uu, A, h, k, rv, ru, hu => by unfold DV at h k; subst h; cases rv; obtain ⟨b, ws, rfl, p, r2⟩ := k; cases ru; obtain ⟨its1, iv1, pl1, hz1⟩ := I.list p; unfold eqD; exact RcNeAt.none_list pl1.isList (by omega)
 | .bl a0, .non, v, u, vv, uu, A, h, k, rv, ru, hu => by unfold DV at h k; subst h; cases rv; subst k; cases ru; unfold eqD; exact RcNeAt.bool_none _
 | .bl a0, .bl b0, v, u, vv, uu, A, h, k, rv, ru, hu => by unfold DV at h k; subst h; cases rv; subst k; cases ru; unfold eqD; exact RcNeAt.bool_bool _ _
 | .bl a0, .int b0, v, u, vv, uu, A, h, k, rv, ru, hu => by unfold DV at h k; subst h; cases rv; subst k; obtain ⟨t1, rfl⟩ := ru; unfold eqD; exact RcNeAt.bool_int _ _ _
 | .bl a0, .str b0, v, u, vv, uu, A, h, k, rv, ru, hu => by unfold DV at h k; subst h; cases rv; subst k; obtain ⟨t1, rfl⟩ := ru; unfold eqD; exact RcNeAt.bool_str _ _ _
 | .bl a0, .tup ys, v, u, vv, uu, A, h, k, rv, ru, hu => by unfold DV at h k; subst h; cases rv; obtain ⟨b, ws, rfl, p, r2⟩ := k; cases ru; obtain ⟨its1, iv1, pl1, hz1⟩ := I.tuple p; unfold eqD; exact RcNeAt.bool_tuple _ pl1 (by omega)
 | .bl a0, .lst ys, v, u, vv, uu, A, h, k, rv, ru, hu => by unfold DV at h k; subst h; cases rv; obtain ⟨b, ws, rfl, p, r2⟩ := k; cases ru; obtain ⟨its1, iv1, pl1, hz1⟩ := I.list p; unfold eqD; exact RcNeAt.bool_list _ pl1.isList (by omega)
 | .int a0, .non, v, u, vv, uu, A, h, k, rv, ru, hu => by unfold DV at h k; subst h; obtain ⟨t0, rfl⟩ := rv; subst k; cases ru; unfold eqD; exact RcNeAt.int_none _ _
 | .int a0, .bl b0, v, u, vv, uu, A, h, k, rv, ru, hu => by unfold DV at h k; subst h; obtain ⟨t0, rfl⟩ := rv; subst k; cases ru; unfold eqD; exact RcNeAt.int_bool _ _ _
 | .int a0, .int b0, v, u, vv, uu, A, h, k, rv, ru, hu => by unfold DV at h k; subst h; obtain ⟨t0, rfl⟩ := rv; subst k; obtain ⟨t1, rfl⟩ := ru; unfold eqD; exact RcNeAt.int_int _ _ _ _
 | .int a0, .str b0, v, u, vv, uu, A, h, k, rv, ru, hu => by unfold DV at h k; subst h; obtain ⟨t0, rfl⟩ := rv; subst k; obtain ⟨t1, rfl⟩ := ru; unfold eqD; exact RcNeAt.int_str _ _ _ _
 | .int a0, .tup ys, v, u, vv, uu, A, h, k, rv, ru, hu => by unfold DV at h k; subst h; obtain ⟨t0, rfl⟩ := rv; obtain ⟨b, ws, rfl, p, r2⟩ := k; cases ru; obtain ⟨its1, iv1, pl1, hz1⟩ := I.tuple p; unfold eqD; exact RcNeAt.int_tuple _ _ pl1 (by omega)
 | .int a0, .lst ys, v, u, vv, uu, A, h, k, rv, ru, hu => by unfold DV at h k; subst h; obtain ⟨t0, rfl⟩ := rv; obtain ⟨b, ws, rfl, p, r2⟩ := k; cases ru; obtain ⟨its1, iv1, pl1, hz1⟩ := I.list p; unfold eqD; exact RcNeAt.int_list _ _ pl1.isList (by omega)
 | .str a0, .non, v, u, vv, uu, A, h, k, rv, ru, hu => by unfold DV at h k; subst h; obtain ⟨t0, rfl⟩ := rv; subst k; cases ru; unfold eqD; exact RcNeAt.str_none _ _
 | .str a0, .bl b0, v, u, vv, uu, A, h, k, rv, ru, hu => by unfold DV at h k; subst h; obtain ⟨t0, rfl⟩ := rv; subst k; cases ru; unfold eqD; exact RcNeAt.str_bool _ _ _
 | .str a0, .int b0, v, u, vv, uu, A, h, k, rv, ru, hu => by unfold DV at h k; subst h; obtain ⟨t0, rfl⟩ := rv; subst k; obtain ⟨t1, rfl⟩ := ru; unfold eqD; exact RcNeAt.str_int _ _ _ _
 | .str a0, .str b0, v, u, vv, uu, A, h, k, rv, ru, hu => by unfold DV at h k; subst h; obtain ⟨t0, rfl⟩ := rv; subst k; obtain ⟨t1, rfl⟩ := ru; unfold eqD; exact RcNeAt.str_str _ _ _ _
 | .str a0, .tup ys, v, u, vv, uu, A, h, k, rv, ru, hu => by unfold DV at h k; subst h; obtain ⟨t0, rfl⟩ := rv; obtain ⟨b, ws, rfl, p, r2⟩ := k; cases ru; obtain ⟨its1, iv1, pl1, hz1⟩ := I.tuple p; unfold eqD; exact RcNeAt.str_tuple _ _ pl1 (by omega)
 | .str a0, .lst ys, v, u, vv, uu, A, h, k, rv, ru, hu => by unfold DV at h k; subst h; obtain ⟨t0, rfl⟩ := rv; obtain ⟨b, ws, rfl, p, r2⟩ := k; cases ru; obtain ⟨its1, iv1, pl1, hz1⟩ := I.list p; unfold eqD; exact RcNeAt.str_list _ _ pl1.isList (by omega)
 | .tup xs, .non, v, u, vv, uu, A, h, k, rv, ru, hu => by unfold DV at h k; obtain ⟨a, us, rfl, q, r⟩ := h; cases rv; obtain ⟨its0, iv0, pl0, hz0⟩ := I.tuple q; subst k; cases ru; unfold eqD; exact RcNeAt.tuple_none pl0 (by omega)
 | .tup xs, .bl b0, v, u, vv, uu, A, h, k, rv, ru, hu => by unfold DV at h k; obtain ⟨a, us, rfl, q, r⟩ := h; cases rv; obtain ⟨its0, iv0, pl0, hz0⟩ := I.tuple q; subst k; cases ru; unfold eqD; exact RcNeAt.tuple_bool _ pl0 (by omega)
 | .tup xs, .int b0, v, u, vv, uu, A, h, k, rv, ru, hu => by unfold DV at h k; obtain ⟨a, us, rfl, q, r⟩ := h; cases rv; obtain ⟨its0, iv0, pl0, hz0⟩ := I.tuple q; subst k; obtain ⟨t1, rfl⟩ := ru; unfold eqD; exact RcNeAt.tuple_int _ _ pl0 (by omega)
 | .tup xs, .str b0, v, u, vv, uu, A, h, k, rv, ru, hu => by unfold DV at h k; obtain ⟨a, us, rfl, q, r⟩ := h; cases rv; obtain ⟨its0, iv0, pl0, hz0⟩ := I.tuple q; subst k; obtain ⟨t1, rfl⟩ := ru; unfold eqD; exact RcNeAt.tuple_str _ _ pl0 (by omega)
 | .tup xs, .tup ys, v, u, vv, uu, A, h, k, rv, ru, hu => by
  unfold DV at h k; unfold fV at hu
  obtain ⟨a, us, rfl, q, r⟩ := h; cases rv; obtain ⟨its0, iv0, pl0, hz0⟩ := I.tuple q; obtain ⟨b, ws, rfl, p, r2⟩ := k; cases ru; obtain ⟨its1, iv1, pl1, hz1⟩ := I.tuple p
  unfold eqD
  have hl0 : its0.toArray.size = xs.length := by rw [List.size_toArray, <- iv0.length, <- DVL.length r]
  have hl1 : its1.toArray.size = ys.length := by rw [List.size_toArray, <- iv1.length, <- DVL.length r2]
  have rc := RcNeAt.tuples (A := A) (e := kE xs ys) pl0 pl1 (by omega) (λ j h1 h2 => by
     have h1' : j < its0.length := by simpa using h1
     have h2' : j < its1.length := by simpa using h2
     obtain ⟨d, e1, dv⟩ := DVL.get' r (show us[j]? = some (us[j]'(by rw [iv0.length]; exact h1')) by simp)
     obtain ⟨d', e2, dv'⟩ := DVL.get' r2 (show ws[j]? = some (ws[j]'(by rw [iv1.length]; exact h2')) by simp)
     obtain ⟨z, ez, rz⟩ := iv0.get (show us[j]? = some (us[j]'(by rw [iv0.length]; exact h1')) by simp)
     obtain ⟨z', ez', rz'⟩ := iv1.get (show ws[j]? = some (ws[j]'(by rw [iv1.length]; exact h2')) by simp)
     have f1 : its0.toArray[j] = z := by simpa [h1'] using ez
     have f2 : its1.toArray[j] = z' := by simpa [h2'] using ez'
     rw [f1, f2]
     have := mD I xs ys us ws its0 its1 A.in1 r r2 iv0 iv1 (by rw [units_in1]; omega) j d d' e1 e2 z z' ez ez'
     unfold kE
     rw [e1, e2]
     exact this)
  rw [hl0, hl1, rP] at rc
  exact rc
 | .tup xs, .lst ys, v, u, vv, uu, A, h, k, rv, ru, hu => by unfold DV at h k; obtain ⟨a, us, rfl, q, r⟩ := h; cases rv; obtain ⟨its0, iv0, pl0, hz0⟩ := I.tuple q; obtain ⟨b, ws, rfl, p, r2⟩ := k; cases ru; obtain ⟨its1, iv1, pl1, hz1⟩ := I.list p; unfold eqD; exact RcNeAt.tuple_list pl0 pl1.isList (by omega)
 | .lst xs, .non, v, u, vv, uu, A, h, k, rv, ru, hu => by unfold DV at h k; obtain ⟨a, us, rfl, q, r⟩ := h; cases rv; obtain ⟨its0, iv0, pl0, hz0⟩ := I.list q; subst k; cases ru; unfold eqD; exact RcNeAt.list_none pl0.isList (by omega)
 | .lst xs, .bl b0, v, u, vv, uu, A, h, k, rv, ru, hu => by unfold DV at h k; obtain ⟨a, us, rfl, q, r⟩ := h; cases rv; obtain ⟨its0, iv0, pl0, hz0⟩ := I.list q; subst k; cases ru; unfold eqD; exact RcNeAt.list_bool _ pl0.isList (by omega)
 | .lst xs, .int b0, v, u, vv, uu, A, h, k, rv, ru, hu => by unfold DV at h k; obtain ⟨a, us, rfl, q, r⟩ := h; cases rv; obtain ⟨its0, iv0, pl0, hz0⟩ := I.list q; subst k; obtain ⟨t1, rfl⟩ := ru; unfold eqD; exact RcNeAt.list_int _ _ pl0.isList (by omega)
 | .lst xs, .str b0, v, u, vv, uu, A, h, k, rv, ru, hu => by unfold DV at h k; obtain ⟨a, us, rfl, q, r⟩ := h; cases rv; obtain ⟨its0, iv0, pl0, hz0⟩ := I.list q; subst k; obtain ⟨t1, rfl⟩ := ru; unfold eqD; exact RcNeAt.list_str _ _ pl0.isList (by omega)
 | .lst xs, .tup ys, v, u, vv, uu, A, h, k, rv, ru, hu => by unfold DV at h k; obtain ⟨a, us, rfl, q, r⟩ := h; cases rv; obtain ⟨its0, iv0, pl0, hz0⟩ := I.list q; obtain ⟨b, ws, rfl, p, r2⟩ := k; cases ru; obtain ⟨its1, iv1, pl1, hz1⟩ := I.tuple p; unfold eqD; exact RcNeAt.list_tuple pl0.isList pl1 (by omega)
 | .lst xs, .lst ys, v, u, vv, uu, A, h, k, rv, ru, hu => by
  unfold DV at h k; unfold fV at hu
  obtain ⟨a, us, rfl, q, r⟩ := h; cases rv; obtain ⟨its0, iv0, pl0, hz0⟩ := I.list q; obtain ⟨b, ws, rfl, p, r2⟩ := k; cases ru; obtain ⟨its1, iv1, pl1, hz1⟩ := I.list p
  unfold eqD
  have hl0 : its0.toArray.size = xs.length := by rw [List.size_toArray, <- iv0.length, <- DVL.length r]
  have hl1 : its1.toArray.size = ys.length := by rw [List.size_toArray, <- iv1.length, <- DVL.length r2]
  by_cases hlen : xs.length = ys.length
  .have rc := RcNeAt.lists (A := A) (e := kE xs ys) pl0.isList pl1.isList (by rw [hl0, hl1, hlen]) (by omega) (λ j h1 h2 => by
     have h1' : j < its0.length := by simpa using h1
     have h2' : j < its1.length := by simpa using h2
     obtain ⟨d, e1, dv⟩ := DVL.get' r (show us[j]? = some (us[j]'(by rw [iv0.length]; exact h1')) by simp)
     obtain ⟨d', e2, dv'⟩ := DVL.get' r2 (show ws[j]? = some (ws[j]'(by rw [iv1.length]; exact h2')) by simp)
     obtain ⟨z, ez, rz⟩ := iv0.get (show us[j]? = some (us[j]'(by rw [iv0.length]; exact h1')) by simp)
     obtain ⟨z', ez', rz'⟩ := iv1.get (show ws[j]? = some (ws[j]'(by rw [iv1.length]; exact h2')) by simp)
     have f1 : its0.toArray[j] = z := by simpa [h1'] using ez
     have f2 : its1.toArray[j] = z' := by simpa [h2'] using ez'
     rw [f1, f2]
     have := mD I xs ys us ws its0 its1 A.in1 r r2 iv0 iv1 (by rw [units_in1]; omega) j d d' e1 e2 z z' ez ez'
     unfold kE
     rw [e1, e2]
     exact this)
   rw [hl0, jR _ _ hlen] at rc
   exact rc
  .rw [nq _ _ hlen]
   exact RcNeAt.lists_lengths pl0.isList pl1.isList (by rw [hl0, hl1]; simpa using hlen) (by omega)
 | .ro _, _, v, u, vv, uu, A, h, _, _, _, _ => by unfold DV at h; exact h.elim
 | .dic _, _, v, u, vv, uu, A, h, _, _, _, _ => by unfold DV at h; exact h.elim
 | .cell _, _, v, u, vv, uu, A, h, _, _, _, _ => by unfold DV at h; exact h.elim
 | .non, .ro _, v, u, vv, uu, A, _, k, _, _, _ => by unfold DV at k; exact k.elim
 | .non, .dic _, v, u, vv, uu, A, _, k, _, _, _ => by unfold DV at k; exact k.elim
 | .non, .cell _, v, u, vv, uu, A, _, k, _, _, _ => by unfold DV at k; exact k.elim
 | .bl _, .ro _, v, u, vv, uu, A, _, k, _, _, _ => by unfold DV at k; exact k.elim
 | .bl _, .dic _, v, u, vv, uu, A, _, k, _, _, _ => by unfold DV at k; exact k.elim
 | .bl _, .cell _, v, u, vv, uu, A, _, k, _, _, _ => by unfold DV at k; exact k.elim
 | .int _, .ro _, v, u, vv, uu, A, _, k, _, _, _ => by unfold DV at k; exact k.elim
 | .int _, .dic _, v, u, vv, uu, A, _, k, _, _, _ => by unfold DV at k; exact k.elim
 | .int _, .cell _, v, u, vv, uu, A, _, k, _, _, _ => by unfold DV at k; exact k.elim
 | .str _, .ro _, v, u, vv, uu, A, _, k, _, _, _ => by unfold DV at k; exact k.elim
 | .str _, .dic _, v, u, vv, uu, A, _, k, _, _, _ => by unfold DV at k; exact k.elim
 | .str _, .cell _, v, u, vv, uu, A, _, k, _, _, _ => by unfold DV at k; exact k.elim
 | .tup _, .ro _, v, u, vv, uu, A, _, k, _, _, _ => by unfold DV at k; exact k.elim
 | .tup _, .dic _, v, u, vv, uu, A, _, k, _, _, _ => by unfold DV at k; exact k.elim
 | .tup _, .cell _, v, u, vv, uu, A, _, k, _, _, _ => by unfold DV at k; exact k.elim
 | .lst _, .ro _, v, u, vv, uu, A, _, k, _, _, _ => by unfold DV at k; exact k.elim
 | .lst _, .dic _, v, u, vv, uu, A, _, k, _, _, _ => by unfold DV at k; exact k.elim
 | .lst _, .cell _, v, u, vv, uu, A, _, k, _, _, _ => by unfold DV at k; exact k.elim
end
def rsv (d : D) (μ : Mu) : D := match d with
 | .cell n => match μ[n]? with
  | some (some ds) => .lst ds
  | _ => d
 | .ro ds => .lst ds
 | _ => d
theorem nj {K : PySem.W.Frag} {tb : List Addr} {W : Wd} {d : D} {v : V} (ok : WOk K tb W) (h : Den K tb W d v) (p : cH (rsv d W.mu) = true) : DV K W.H (rsv d W.mu) v := by
 cases d with
 | cell n =>
  obtain ⟨a, rfl, q⟩ := jk h
  unfold rsv at p ⊢
  dsimp only at p ⊢
  cases e : W.mu[n]? with
  | none => rw [e] at p; cases p
  | some o =>
   rw [e] at p
   cases o with
   | none => cases p
   | some ds =>
    dsimp only at p ⊢
    unfold cH at p
    obtain ⟨xs, ex, r⟩ := ok.cont n a ds q e
    unfold DV
    exact ⟨a, xs, rfl, SqL.of ex, tB ds xs p r⟩
 | ro ds =>
  obtain ⟨a, xs, rfl, q, r⟩ := yr h
  have p' : cH (.lst ds) = true := p
  unfold cH at p'
  show DV K W.H (.lst ds) _
  unfold DV
  exact ⟨a, xs, rfl, SqL.fz q, tB ds xs p' r⟩
 | _ => exact JR _ _ p h
def oEq : O2 := λ x y μ => if (cH (rsv x μ) && cH (rsv y μ)) = true /\ fV (rsv x μ) < 100 then some (.bl (eqD (rsv x μ) (rsv y μ)), μ) else none
def oNe : O2 := λ x y μ => if (cH (rsv x μ) && cH (rsv y μ)) = true /\ fV (rsv x μ) < 100 then some (.bl (!eqD (rsv x μ) (rsv y μ)), μ) else none
def rEqD (K : PySem.W.Frag) : R2 := λ v u H Q => ∃ x y, DV K H x v /\ DV K H y u /\ fV x < 100 /\ Q (.bl (eqD x y)) H
def rNeD (K : PySem.W.Frag) : R2 := λ v u H Q => ∃ x y, DV K H x v /\ DV K H y u /\ fV x < 100 /\ Q (.bl (!eqD x y)) H
section
variable {X : Cx} {tb : List Addr} {k : Nat}
theorem Fz (hr : gQ k X.A) : OpR X (compareOp .Eq) (rEqD X.K) := by
 intro pins s σ H v u vv uu Q I rv ru h
 obtain ⟨x, y, hx, hy, hd, q⟩ := h
 have hun := hr.un
 exact Nz I x y v u vv uu X.A hx hy rv ru (by omega) X.prog X.w X.xe _ ⟨.bl _, H, I, rfl, q⟩
theorem Fq (hr : gQ k X.A) : OpR X (compareOp .NotEq) (rNeD X.K) := by
 intro pins s σ H v u vv uu Q I rv ru h
 obtain ⟨x, y, hx, hy, hd, q⟩ := h
 have hun := hr.un
 exact Mf I x y v u vv uu X.A hx hy rv ru (by omega) X.prog X.w X.xe _ ⟨.bl _, H, I, rfl, q⟩
theorem lz (hr : gQ k X.A) : OpD X tb (compareOp .Eq) oEq := ⟨_, Fz hr, λ W x y v u d μ' Q ok dx dy ho h => by
 unfold oEq at ho
 split at ho
 .rename_i hc
  cases ho
  rw [Bool.and_eq_true] at hc
  exact ⟨_, _, nj ok dx hc.1.1, nj ok dy hc.1.2, hc.2, put ok h fQ⟩
 .cases ho⟩
theorem oO (hr : gQ k X.A) : OpD X tb (compareOp .NotEq) oNe := ⟨_, Fq hr, λ W x y v u d μ' Q ok dx dy ho h => by
 unfold oNe at ho
 split at ho
 .rename_i hc
  cases ho
  rw [Bool.and_eq_true] at hc
  exact ⟨_, _, nj ok dx hc.1.1, nj ok dy hc.1.2, hc.2, put ok h fQ⟩
 .cases ho⟩
end
end L3
namespace L2
open PySem PySem.Spec PyProof.Rows
section
variable {prog : Program} {w : World} {A : Around} {E : Value -> Shared -> Prop} {s : Shared}
theorem pM {it l : Addr} {i : Nat} {items} {x : Value} {Q : Value -> Shared -> Prop} (hit : s.heap.IsTupleIter it l i) (hl : s.heap.IsTuple l items) (hx : items[i]? = some x)
  (hQ : ∀ h', h'.IsTupleIter it l (i + 1) -> Heap.SameBut it s.heap h' -> Q x { s with heap := h' }) : wpAny (model prog w) A (Builtin.SmallTypes.nextOf (.ref it)) Q E s := by
 obtain ⟨o, ho, hc, hd⟩ := id hit
 obtain ⟨ol, hol, _, nl, hdl⟩ := hl
 unfold Builtin.SmallTypes.nextOf
 refine wpAny_bind (wpAny_callSpecial?_slot (name := Str.ofString "__next__") hit.typeIs F.slot_tuple_iterator_next
  (wpAny_call_entry F.slot_tuple_iterator_next hit.typeIs F.entry_tuple_iterator_next ?_ (F.args_tuple_iterator_next_1 _)))
 show wpAny _ _ (field (.ref it) 0 >>= _) _ _ s
 refine wpAny_bind (wpAny_field ho hd (x := .ref l) rfl ?_)
 show wpAny _ _ (if (Value.ref l == Value.none) = true then _ else _) _ _ s
 rw [if_neg (show ¬ ((Value.ref l == Value.none) = true) from Bool.false_ne_true)]
 show wpAny _ _ (field (.ref it) 1 >>= _) _ _ s
 refine wpAny_bind (wpAny_field ho hd (x := .int i 0) rfl ?_)
 show wpAny _ _ (seqItems? (.ref l) >>= _) _ _ s
 refine wpAny_bind (wpAny_seqItems hol hdl ?_)
 simp only [Int.toNat_natCast, hx]
 refine wpAny_bind (wpAny_setField ho hd (by simp) (wpAny_pure ⟨x, rfl, wpAny_pure (hQ _ ?_ (Heap.SameBut.update ..))⟩))
 exact ⟨_, Heap.get?_update_self _ ho (Obj.isFreed_of_fields (Obj.data_mapFields hd _)), (Obj.cls_mapFields ..).trans hc, by
  rw [Obj.data_mapFields hd]; simp [rawInt]⟩
theorem qt {it l : Addr} {i : Nat} {items} {Q : Value -> Shared -> Prop} (hh : A.handled = none) (hit : s.heap.IsTupleIter it l i) (hl : s.heap.IsTuple l items) (hx : items[i]? = none)
  (hE : ∀ h' e, Heap.ExtBut it s.heap h' -> (∃ o, h'.get? e = some o /\ o.cls = .type "StopIteration") -> E (.ref e) { s with heap := h' }) : wpAny (model prog w) A (Builtin.SmallTypes.nextOf (.ref it)) Q E s := by
 obtain ⟨o, ho, hc, hd⟩ := id hit
 obtain ⟨ol, hol, _, nl, hdl⟩ := hl
 unfold Builtin.SmallTypes.nextOf
 refine wpAny_bind (wpAny_callSpecial?_slot (name := Str.ofString "__next__") hit.typeIs F.slot_tuple_iterator_next
  (wpAny_call_entry F.slot_tuple_iterator_next hit.typeIs F.entry_tuple_iterator_next ?_ (F.args_tuple_iterator_next_1 _)))
 show wpAny _ _ (field (.ref it) 0 >>= _) _ _ s
 refine wpAny_bind (wpAny_field ho hd (x := .ref l) rfl ?_)
 show wpAny _ _ (if (Value.ref l == Value.none) = true then _ else _) _ _ s
 rw [if_neg (show ¬ ((Value.ref l == Value.none) = true) from Bool.false_ne_true)]
 show wpAny _ _ (field (.ref it) 1 >>= _) _ _ s
 refine wpAny_bind (wpAny_field ho hd (x := .int i 0) rfl ?_)
 show wpAny _ _ (seqItems? (.ref l) >>= _) _ _ s
 refine wpAny_bind (wpAny_seqItems hol hdl ?_)
 simp only [Int.toNat_natCast, hx]
 refine wpAny_bind (wpAny_rule (wpAny_bind (wpAny_setField ho hd (by simp) ?_)))
 show wpAny _ _ (newExc (.type "StopIteration") [] >>= _) _ _ _
 refine wpAny_bind ?_
 simp only [newExc, newTuple]
 refine wpAny_bind (wpAny_newObj_type ?_ (by size_fits))
 refine wpAny_bind (m := firstArgMember _ _) (wpAny_of_eq (a := Value.none) (by first | rfl | (simp only [firstArgMember]; rfl)) ?_)
 refine wpAny_newObj_type ?_ (by size_fits)
 simp only [raiseNew]
 refine wpAny_bind (wpAny_handled ?_)
 first | rw [show A.in1.handled = none from hh] | rw [hh]
 refine wpAny_bind (wpAny_pure (wpAny_throw ?_))
 exact hE _ _ (((Heap.SameBut.update ..).extBut.push _).push _) ⟨_, Heap.get?_push_size _ rfl, rfl⟩
end
def gU (k : Bool) (h : Heap) (it l : Addr) (i : Nat) : Prop := if k = true then h.IsTupleIter it l i else h.IsListIter it l i
def lg (k : Bool) (h : Heap) (l : Addr) (xs : Array Value) : Prop := if k = true then h.IsTuple l xs else h.IsList l xs
section
variable {prog : Program} {w : World} {A : Around} {E : Value -> Shared -> Prop} {s : Shared} {k : Bool} {it l : Addr} {i : Nat} {xs : Array Value} {h h' : Heap}
theorem gU.obj (x : gU k h it l i) : ∃ o, h.get? it = some o /\ (∀ v, o.data ≠ .cell v) /\ (o.cls = .type "tuple_iterator" ∨ o.cls = .type "list_iterator") := by
 cases k
 .obtain ⟨o, e, c, d⟩ : h.IsListIter it l i := x
  exact ⟨o, e, (λ v z => by rw [d] at z; cases z), .inr c⟩
 .obtain ⟨o, e, c, d⟩ : h.IsTupleIter it l i := x
  exact ⟨o, e, (λ v z => by rw [d] at z; cases z), .inl c⟩
theorem gU.at' (x : gU k h it l i) (hk : ∀ o, h.get? it = some o -> h'.get? it = some o) : gU k h' it l i := by
 cases k
 .obtain ⟨o, e, c, d⟩ : h.IsListIter it l i := x
  exact (⟨o, hk o e, c, d⟩ : h'.IsListIter it l i)
 .obtain ⟨o, e, c, d⟩ : h.IsTupleIter it l i := x
  exact (⟨o, hk o e, c, d⟩ : h'.IsTupleIter it l i)
theorem lg.at' (x : lg k h l xs) (hk : ∀ o, h.get? l = some o -> h'.get? l = some o) : lg k h' l xs := by
 cases k
 .obtain ⟨o, e, c⟩ : h.IsList l xs := x
  exact (⟨o, hk o e, c⟩ : h'.IsList l xs)
 .obtain ⟨o, e, c⟩ : h.IsTuple l xs := x
  exact (⟨o, hk o e, c⟩ : h'.IsTuple l xs)
theorem jO {x : Value} {Q : Value -> Shared -> Prop} (hit : gU k s.heap it l i) (hl : lg k s.heap l xs) (hx : xs[i]? = some x)
  (hQ : ∀ h', gU k h' it l (i + 1) -> Heap.SameBut it s.heap h' -> Q x { s with heap := h' }) : wpAny (model prog w) A (Builtin.SmallTypes.nextOf (.ref it)) Q E s := by
 cases k
 .exact wpAny_nextOf_list_item hit hl hx hQ
 .exact pM hit hl hx hQ
theorem oR {Q : Value -> Shared -> Prop} (hh : A.handled = none) (hit : gU k s.heap it l i) (hl : lg k s.heap l xs) (hx : xs[i]? = none)
  (hE : ∀ h' e, Heap.ExtBut it s.heap h' -> (∃ o, h'.get? e = some o /\ o.cls = .type "StopIteration") -> E (.ref e) { s with heap := h' }) : wpAny (model prog w) A (Builtin.SmallTypes.nextOf (.ref it)) Q E s := by
 cases k
 .exact wpAny_nextOf_list_end hh hit hl hx hE
 .exact qt hh hit hl hx hE
end
structure ZA (z TI TO i1 i2 : Addr) : Prop where
 TIz : TI ≠ z
 TOz : TO ≠ z
 i1z : i1 ≠ z
 i2z : i2 ≠ z
 TITO : TI ≠ TO
 TIi1 : TI ≠ i1
 TIi2 : TI ≠ i2
 TOi1 : TO ≠ i1
 TOi2 : TO ≠ i2
 i12 : i1 ≠ i2
section
variable {prog : Program} {w : World} {A : Around} {E : Value -> Shared -> Prop} {s : Shared}
theorem BR {z TI TO i1 i2 l1 l2 : Addr} {c1 c2 : Bool} {k1 k2 : Nat} {xs ys : Array Value} {x y a b : Value} {Q : Value -> Shared -> Prop} (D : ZA z TI TO i1 i2)
  (l1z : l1 ≠ z) (l2z : l2 ≠ z) (l2i1 : l2 ≠ i1) (l2TO : l2 ≠ TO)
  (hz : IsZip s.heap z TI TO .none) (hTI : IsPair s.heap TI (.ref i1) (.ref i2)) (hTO : IsPair s.heap TO a b)
  (h1 : gU c1 s.heap i1 l1 k1) (h2 : gU c2 s.heap i2 l2 k2) (hl1 : lg c1 s.heap l1 xs) (hl2 : lg c2 s.heap l2 ys) (hx : xs[k1]? = some x) (hy : ys[k2]? = some y)
  (hQ : ∀ h', IsZip h' z TI TO (rawInt s.heap.objs.size) -> IsPair h' TO x y -> gU c1 h' i1 l1 (k1 + 1) -> gU c2 h' i2 l2 (k2 + 1) -> IsPair h' s.heap.objs.size x y -> h'.objs.size = s.heap.objs.size + 1 ->
   (∀ c o, c ≠ z -> c ≠ TO -> c ≠ i1 -> c ≠ i2 -> s.heap.get? c = some o -> h'.get? c = some o) -> Q (.ref s.heap.objs.size) { s with heap := h' }) :
  wpAny (model prog w) A (Builtin.«zip.__next__» ⟨[.ref z], []⟩) (λ fin s' => ∃ v, fin = .done (.ret v) /\ Q v s') E s := by
 show wpAny _ _ (field (.ref z) 2 >>= _) _ _ _
 refine wpAny_bind (wpAny_field hz rfl (x := .bool false) rfl ?_)
 show wpAny _ _ (field (.ref z) 3 >>= _) _ _ _
 refine wpAny_bind (wpAny_field hz rfl (x := .ref TI) rfl ?_)
 refine wpAny_bind (wpAny_seqItems hTI rfl ?_)
 show wpAny _ _ (Builtin.SmallTypes.ownedTupleIsFree (.ref z) >>= _) _ _ _
 refine wpAny_bind ?_
 unfold Builtin.SmallTypes.ownedTupleIsFree
 refine wpAny_bind (wpAny_field hz rfl (x := .none) rfl (wpAny_pure ?_))
 simp only [if_true]
 refine wpAny_bind (wpAny_rule ?_)
 refine wpAny_bind (wpAny_field hz rfl (x := .ref TO) rfl ?_)
 refine wpAny_bind (wpAny_setField_rec hz (by simp) λ h₁ hz₁ hs₁ => ?_)
 replace hz₁ : IsZip h₁ z TI TO .ellipsis := hz₁
 refine wpAny_bind ?_
 simp only [List.zipIdx_cons, List.zipIdx_nil, List.forIn_cons, List.forIn_nil]
 refine wpAny_bind (wpAny_bind (wpAny_onRaise ?_))
 show wpAny _ _ (Builtin.SmallTypes.nextOf (.ref i1) >>= _) _ _ _
 refine wpAny_bind (jO (h1.at' λ o e => hs₁.extBut _ _ D.i1z e) (hl1.at' λ o e => hs₁.extBut _ _ l1z e) hx λ h₂ h1₂ hs₂ => wpAny_pure ?_)
 have hTO₂ : IsPair h₂ TO a b := hs₂.extBut _ _ D.TOi1 (hs₁.extBut _ _ D.TOz hTO)
 refine wpAny_bind (wpAny_seqItems hTO₂ rfl ?_)
 refine wpAny_bind (wpAny_updateSeq_pair hTO₂ λ h₃ hTO₃ hs₃ => ?_)
 replace hTO₃ : IsPair h₃ TO x b := hTO₃
 refine wpAny_bind (wpAny_letGo (wpAny_pure ?_))
 refine wpAny_bind (wpAny_bind (wpAny_onRaise ?_))
 show wpAny _ _ (Builtin.SmallTypes.nextOf (.ref i2) >>= _) _ _ _
 refine wpAny_bind (jO (h2.at' λ o e => hs₃.extBut _ _ D.TOi2.symm (hs₂.extBut _ _ D.i12.symm (hs₁.extBut _ _ D.i2z e))) (hl2.at' λ o e => hs₃.extBut _ _ l2TO (hs₂.extBut _ _ l2i1 (hs₁.extBut _ _ l2z e))) hy λ h₄ h2₄ hs₄ => wpAny_pure ?_)
 have hTO₄ : IsPair h₄ TO x b := hs₄.extBut _ _ D.TOi2 hTO₃
 refine wpAny_bind (wpAny_seqItems hTO₄ rfl ?_)
 refine wpAny_bind (wpAny_updateSeq_pair hTO₄ λ h₅ hTO₅ hs₅ => ?_)
 replace hTO₅ : IsPair h₅ TO x y := hTO₅
 refine wpAny_bind (wpAny_letGo (wpAny_pure (wpAny_pure ?_)))
 refine wpAny_bind (wpAny_seqItems hTO₅ rfl ?_)
 refine wpAny_bind (wpAny_newTuple ?_)
 have hsz : h₅.objs.size = s.heap.objs.size := by rw [hs₅.1, hs₄.1, hs₃.1, hs₂.1, hs₁.1]
 have hz₅ : IsZip h₅ z TI TO .ellipsis := hs₅.extBut _ _ D.TOz.symm (hs₄.extBut _ _ D.i2z.symm (hs₃.extBut _ _ D.TOz.symm (hs₂.extBut _ _ D.i1z.symm hz₁)))
 have hk₅ : ∀ c o, c ≠ z -> c ≠ TO -> c ≠ i1 -> c ≠ i2 -> s.heap.get? c = some o -> h₅.get? c = some o := λ c o q1 q2 q3 q4 e =>
  hs₅.extBut _ _ q2 (hs₄.extBut _ _ q4 (hs₃.extBut _ _ q2 (hs₂.extBut _ _ q3 (hs₁.extBut _ _ q1 e))))
 have h1₅ : gU c1 h₅ i1 l1 (k1 + 1) := h1₂.at' λ o e => hs₅.extBut _ _ D.TOi1.symm (hs₄.extBut _ _ D.i12 (hs₃.extBut _ _ D.TOi1.symm e))
 have h2₅ : gU c2 h₅ i2 l2 (k2 + 1) := h2₄.at' λ o e => hs₅.extBut _ _ D.TOi2.symm e
 have hzlt : z < h₅.objs.size := Heap.lt_size hz₅
 show wpAny _ _ (Builtin.SmallTypes.ownedTupleHandOut (.ref z) (.ref h₅.objs.size) >>= _) _ _ _
 refine wpAny_bind ?_
 unfold Builtin.SmallTypes.ownedTupleHandOut
 have hz₆ : IsZip (h₅.push { cls := .type "tuple", data := .seq #[x, y] }) z TI TO .ellipsis := Heap.get?_push_of_some _ hz₅
 refine wpAny_bind (wpAny_setField_rec hz₆ (by simp) λ h₇ hz₇ hs₇ => ?_)
 replace hz₇ : IsZip h₇ z TI TO (rawInt h₅.objs.size) := hz₇
 refine wpAny_setField_rec hz₇ (by simp) λ h₈ hz₈ hs₈ => ?_
 replace hz₈ : IsZip h₈ z TI TO (rawInt h₅.objs.size) := hz₈
 have up : ∀ c o, c ≠ z -> h₅.get? c = some o -> h₈.get? c = some o := λ c o q1 e => hs₈.extBut _ _ q1 (hs₇.extBut _ _ q1 (Heap.get?_push_of_some _ e))
 have hT₈ : IsPair h₈ h₅.objs.size x y := hs₈.extBut _ _ (Nat.ne_of_gt hzlt) (hs₇.extBut _ _ (Nat.ne_of_gt hzlt) (Heap.get?_push_size _ rfl))
 have hz8 : h₈.objs.size = h₅.objs.size + 1 := by rw [hs₈.1, hs₇.1, Heap.size_push]
 rw [hsz] at hz₈ hT₈ hz8
 refine wpAny_pure ⟨_, rfl, ?_⟩
 show Q (.ref h₅.objs.size) _
 rw [hsz]
 exact hQ h₈ hz₈ (up _ _ D.TOz hTO₅) (h1₅.at' λ o e => up _ o D.i1z e) (h2₅.at' λ o e => up _ o D.i2z e) hT₈ hz8 λ c o q1 q2 q3 q4 e => up c o q1 (hk₅ c o q1 q2 q3 q4 e)
theorem Em {z TI TO i1 i2 l1 l2 : Addr} {c1 c2 : Bool} {k1 k2 : Nat} {xs ys : Array Value} {a b : Value} {Q : PySem.Fin -> Shared -> Prop} (hh : A.handled = none) (D : ZA z TI TO i1 i2)
  (l1z : l1 ≠ z) (l2z : l2 ≠ z) (l2i1 : l2 ≠ i1) (l2TO : l2 ≠ TO)
  (hz : IsZip s.heap z TI TO .none) (hTI : IsPair s.heap TI (.ref i1) (.ref i2)) (hTO : IsPair s.heap TO a b)
  (h1 : gU c1 s.heap i1 l1 k1) (h2 : gU c2 s.heap i2 l2 k2) (hl1 : lg c1 s.heap l1 xs) (hl2 : lg c2 s.heap l2 ys) (hend : xs[k1]? = none ∨ ys[k2]? = none)
  (hE : ∀ h' e, (∀ c o, c ≠ z -> c ≠ TO -> c ≠ i1 -> c ≠ i2 -> s.heap.get? c = some o -> h'.get? c = some o) -> (∃ o, h'.get? e = some o /\ o.cls = .type "StopIteration") -> E (.ref e) { s with heap := h' }) :
  wpAny (model prog w) A (Builtin.«zip.__next__» ⟨[.ref z], []⟩) Q E s := by
 show wpAny _ _ (field (.ref z) 2 >>= _) _ _ _
 refine wpAny_bind (wpAny_field hz rfl (x := .bool false) rfl ?_)
 show wpAny _ _ (field (.ref z) 3 >>= _) _ _ _
 refine wpAny_bind (wpAny_field hz rfl (x := .ref TI) rfl ?_)
 refine wpAny_bind (wpAny_seqItems hTI rfl ?_)
 show wpAny _ _ (Builtin.SmallTypes.ownedTupleIsFree (.ref z) >>= _) _ _ _
 refine wpAny_bind ?_
 unfold Builtin.SmallTypes.ownedTupleIsFree
 refine wpAny_bind (wpAny_field hz rfl (x := .none) rfl (wpAny_pure ?_))
 simp only [if_true]
 refine wpAny_bind (wpAny_rule ?_)
 refine wpAny_bind (wpAny_field hz rfl (x := .ref TO) rfl ?_)
 refine wpAny_bind (wpAny_setField_rec hz (by simp) λ h₁ hz₁ hs₁ => ?_)
 replace hz₁ : IsZip h₁ z TI TO .ellipsis := hz₁
 refine wpAny_bind ?_
 simp only [List.zipIdx_cons, List.zipIdx_nil, List.forIn_cons, List.forIn_nil]
 refine wpAny_bind (wpAny_bind (wpAny_onRaise ?_))
 show wpAny _ _ (Builtin.SmallTypes.nextOf (.ref i1) >>= _) _ _ _
 cases hx : xs[k1]? with
 | none =>
  refine wpAny_bind (oR hh (h1.at' λ o e => hs₁.extBut _ _ D.i1z e) (hl1.at' λ o e => hs₁.extBut _ _ l1z e) hx λ h₂ e hs₂ he => ?_)
  obtain ⟨oe, hoe, hce⟩ := he
  have hz₂ : IsZip h₂ z TI TO .ellipsis := hs₂ _ _ D.i1z.symm hz₁
  have hez : e ≠ z := λ x => by subst x; rw [hz₂] at hoe; cases hoe; simp at hce
  exact wpAny_setField_rec hz₂ (by simp) λ h₃ _ hs₃ => hE h₃ e (λ c o q1 _ q3 _ x => hs₃.extBut _ _ q1 (hs₂ _ _ q3 (hs₁.extBut _ _ q1 x))) ⟨oe, hs₃.extBut _ _ hez hoe, hce⟩
 | some x =>
  have hy : ys[k2]? = none := by rcases hend with h | h; rw [hx] at h; cases h; exact h
  refine wpAny_bind (jO (h1.at' λ o e => hs₁.extBut _ _ D.i1z e) (hl1.at' λ o e => hs₁.extBut _ _ l1z e) hx λ h₂ h1₂ hs₂ => wpAny_pure ?_)
  have hTO₂ : IsPair h₂ TO a b := hs₂.extBut _ _ D.TOi1 (hs₁.extBut _ _ D.TOz hTO)
  refine wpAny_bind (wpAny_seqItems hTO₂ rfl ?_)
  refine wpAny_bind (wpAny_updateSeq_pair hTO₂ λ h₃ hTO₃ hs₃ => ?_)
  refine wpAny_bind (wpAny_letGo (wpAny_pure ?_))
  refine wpAny_bind (wpAny_bind (wpAny_onRaise ?_))
  show wpAny _ _ (Builtin.SmallTypes.nextOf (.ref i2) >>= _) _ _ _
  refine wpAny_bind (oR hh (h2.at' λ o e => hs₃.extBut _ _ D.TOi2.symm (hs₂.extBut _ _ D.i12.symm (hs₁.extBut _ _ D.i2z e))) (hl2.at' λ o e => hs₃.extBut _ _ l2TO (hs₂.extBut _ _ l2i1 (hs₁.extBut _ _ l2z e))) hy λ h₄ e hs₄ he => ?_)
  obtain ⟨oe, hoe, hce⟩ := he
  have hz₄ : IsZip h₄ z TI TO .ellipsis := hs₄ _ _ D.i2z.symm (hs₃.extBut _ _ D.TOz.symm (hs₂.extBut _ _ D.i1z.symm hz₁))
  have hez : e ≠ z := λ x => by subst x; rw [hz₄] at hoe; cases hoe; simp at hce
  exact wpAny_setField_rec hz₄ (by simp) λ h₅ _ hs₅ => hE h₅ e (λ c o q1 q2 q3 q4 x => hs₅.extBut _ _ q1 (hs₄ _ _ q4 (hs₃.extBut _ _ q2 (hs₂.extBut _ _ q3 (hs₁.extBut _ _ q1 x))))) ⟨oe, hs₅.extBut _ _ hez hoe, hce⟩
end
section
variable {prog : Program} {w : World} {A : Around} {E : Value -> Shared -> Prop} {s : Shared}
theorem qp {z TI TO i1 i2 l1 l2 : Addr} {c1 c2 : Bool} {k1 k2 : Nat} {xs ys : Array Value} {x y a b : Value} {Q : Option Value -> Shared -> Prop} (D : ZA z TI TO i1 i2)
  (l1z : l1 ≠ z) (l2z : l2 ≠ z) (l2i1 : l2 ≠ i1) (l2TO : l2 ≠ TO)
  (hz : IsZip s.heap z TI TO .none) (hTI : IsPair s.heap TI (.ref i1) (.ref i2)) (hTO : IsPair s.heap TO a b)
  (h1 : gU c1 s.heap i1 l1 k1) (h2 : gU c2 s.heap i2 l2 k2) (hl1 : lg c1 s.heap l1 xs) (hl2 : lg c2 s.heap l2 ys) (hx : xs[k1]? = some x) (hy : ys[k2]? = some y)
  (hQ : ∀ h', IsZip h' z TI TO (rawInt s.heap.objs.size) -> IsPair h' TO x y -> gU c1 h' i1 l1 (k1 + 1) -> gU c2 h' i2 l2 (k2 + 1) -> IsPair h' s.heap.objs.size x y -> h'.objs.size = s.heap.objs.size + 1 ->
   (∀ c o, c ≠ z -> c ≠ TO -> c ≠ i1 -> c ≠ i2 -> s.heap.get? c = some o -> h'.get? c = some o) -> Q (some (.ref s.heap.objs.size)) { s with heap := h' }) :
  wpAny (model prog w) A (pyNext (.ref z)) Q E s := by
 have hT : s.TypeIs (.ref z) "zip" := ⟨_, hz, rfl⟩
 unfold pyNext
 exact wpAny_bind (wpAny_attempt (wpAny_callSpecial?_slot (name := Str.ofString "__next__") hT F.slot_zip_next
  (wpAny_call_entry F.slot_zip_next hT F.entry_zip_next
   (BR D l1z l2z l2i1 l2TO hz hTI hTO h1 h2 hl1 hl2 hx hy λ h' a1 a2 a3 a4 a5 a6 a7 => wpAny_pure (hQ h' a1 a2 a3 a4 a5 a6 a7)) (F.args_zip_next_1 _))))
theorem rF {z TI TO i1 i2 l1 l2 : Addr} {c1 c2 : Bool} {k1 k2 : Nat} {xs ys : Array Value} {a b : Value} {Q : Option Value -> Shared -> Prop} (hh : A.handled = none) (D : ZA z TI TO i1 i2)
  (l1z : l1 ≠ z) (l2z : l2 ≠ z) (l2i1 : l2 ≠ i1) (l2TO : l2 ≠ TO)
  (hz : IsZip s.heap z TI TO .none) (hTI : IsPair s.heap TI (.ref i1) (.ref i2)) (hTO : IsPair s.heap TO a b)
  (h1 : gU c1 s.heap i1 l1 k1) (h2 : gU c2 s.heap i2 l2 k2) (hl1 : lg c1 s.heap l1 xs) (hl2 : lg c2 s.heap l2 ys) (hend : xs[k1]? = none ∨ ys[k2]? = none)
  (hQ : ∀ h', (∀ c o, c ≠ z -> c ≠ TO -> c ≠ i1 -> c ≠ i2 -> s.heap.get? c = some o -> h'.get? c = some o) -> Q none { s with heap := h' }) : wpAny (model prog w) A (pyNext (.ref z)) Q E s := by
 have hT : s.TypeIs (.ref z) "zip" := ⟨_, hz, rfl⟩
 unfold pyNext
 refine wpAny_bind (wpAny_attempt (wpAny_callSpecial?_slot (name := Str.ofString "__next__") hT F.slot_zip_next
  (wpAny_call_entry F.slot_zip_next hT F.entry_zip_next (Em hh D l1z l2z l2i1 l2TO hz hTI hTO h1 h2 hl1 hl2 hend λ h' e hk he => ?_) (F.args_zip_next_1 _))))
 obtain ⟨o, ho, hc⟩ := he
 refine wpAny_bind (wpAny_isInstance (T := "StopIteration") (b := true) ⟨o, ho, hc⟩ isSubtype_stop ?_)
 exact wpAny_pure (hQ _ hk)
def itTy (k : Bool) : String := if k = true then "tuple_iterator" else "list_iterator"
abbrev oJ (k : Bool) (l : Addr) : Obj := { cls := .type (itTy k), data := .fields #[.ref l, .int 0 0] }
theorem uN {k : Bool} {l : Addr} {xs : Array Value} {Q : Value -> Shared -> Prop} (hl : lg k s.heap l xs) (hQ : Q (.ref s.heap.objs.size) { s with heap := s.heap.push (oJ k l) }) : wpAny (model prog w) A (pyIter (.ref l)) Q E s := by
 cases k
 .exact wpAny_pyIter_list hl hQ
 .exact wpAny_pyIter_tuple hl hQ
end
abbrev zH2 (h : Heap) (c1 c2 : Bool) (l1 l2 : Addr) : Heap := (h.push (oJ c1 l1)).push (oJ c2 l2)
abbrev zH3 (h : Heap) (c1 c2 : Bool) (l1 l2 : Addr) : Heap := (zH2 h c1 c2 l1 l2).push { cls := .type "tuple", data := .seq #[.ref h.objs.size, .ref (h.push (oJ c1 l1)).objs.size] }
abbrev zH4 (h : Heap) (c1 c2 : Bool) (l1 l2 : Addr) : Heap := (zH3 h c1 c2 l1 l2).push { cls := .type "tuple", data := .seq #[.none, .none] }
abbrev zH5 (h : Heap) (c1 c2 : Bool) (l1 l2 : Addr) : Heap := (zH4 h c1 c2 l1 l2).push { cls := .type "zip", data := .fields #[.none, .bool false, .bool false, .ref (zH2 h c1 c2 l1 l2).objs.size, .ref (zH3 h c1 c2 l1 l2).objs.size] }
theorem DX (c1 c2 : Bool) (l1 l2 : Addr) (xs ys : Array Value) :
  Meets (Builtin.«zip.__new__» ⟨[.type "zip", .ref l1, .ref l2], []⟩) (λ _ R s => lg c1 s.heap l1 xs /\ lg c2 s.heap l2 ys /\
   R (.ok (.ret (.ref (zH4 s.heap c1 c2 l1 l2).objs.size))) { s with heap := zH5 s.heap c1 c2 l1 l2 }) :=
 .of_wp λ prog w A R s h => by
  obtain ⟨hp, g, d, tk, os⟩ := s; obtain ⟨hl1, hl2, h⟩ := h
  have hsub := sub_zip
  have hL1 : lg c1 (Shared.heap ⟨hp, g, d, tk, os⟩) l1 xs := hl1
  have hL2 : lg c2 (Shared.heap ⟨hp.push (oJ c1 l1), g, d, tk, os⟩) l2 ys := hl2.at' λ o e => Heap.get?_push_of_some _ e
  wp_walk using uN hL1, uN hL2
  exact ⟨_, rfl, h⟩
section
variable {prog : Program} {w : World} {A : Around} {E : Value -> Shared -> Prop} {s : Shared}
theorem gU.new (k : Bool) (h : Heap) (l : Addr) : gU k (h.push (oJ k l)) h.objs.size l 0 := by
 cases k
 .exact (⟨oJ false l, Heap.get?_push_size _ rfl, rfl, rfl⟩ : Heap.IsListIter _ _ _ 0)
 .exact (⟨oJ true l, Heap.get?_push_size _ rfl, rfl, rfl⟩ : Heap.IsTupleIter _ _ _ 0)
theorem Bx {c1 c2 : Bool} {l1 l2 : Addr} {xs ys : Array Value} {Q : Value -> Shared -> Prop} (hl1 : lg c1 s.heap l1 xs) (hl2 : lg c2 s.heap l2 ys)
  (h : ∀ h', IsZip h' (s.heap.objs.size + 4) (s.heap.objs.size + 2) (s.heap.objs.size + 3) .none -> IsPair h' (s.heap.objs.size + 2) (.ref s.heap.objs.size) (.ref (s.heap.objs.size + 1)) ->
   IsPair h' (s.heap.objs.size + 3) .none .none -> gU c1 h' s.heap.objs.size l1 0 -> gU c2 h' (s.heap.objs.size + 1) l2 0 -> h'.objs.size = s.heap.objs.size + 5 ->
   (∀ c o, s.heap.get? c = some o -> h'.get? c = some o) -> Q (.ref (s.heap.objs.size + 4)) { s with heap := h' }) :
  wpAny (model prog w) A (call (.type "zip") [.ref l1, .ref l2]) Q E s := by
 refine callType_new F.called_zip (by decide) (F.typeCall_zip_2 _ _) (F.newCall_zip_2 _ _) (λ obj => F.args_object_init_3 obj _ _) F.entry_zip_new
  (DX c1 c2 l1 l2 xs ys) ⟨hl1, hl2, ?_⟩
 have z1 : (s.heap.push (oJ c1 l1)).objs.size = s.heap.objs.size + 1 := Heap.size_push ..
 have z2 : (zH2 s.heap c1 c2 l1 l2).objs.size = s.heap.objs.size + 2 := by rw [Heap.size_push, z1]
 have z3 : (zH3 s.heap c1 c2 l1 l2).objs.size = s.heap.objs.size + 3 := by rw [Heap.size_push, z2]
 have z4 : (zH4 s.heap c1 c2 l1 l2).objs.size = s.heap.objs.size + 4 := by rw [Heap.size_push, z3]
 have z5 : (zH5 s.heap c1 c2 l1 l2).objs.size = s.heap.objs.size + 5 := by rw [Heap.size_push, z4]
 have g5 : (zH5 s.heap c1 c2 l1 l2).get? (zH4 s.heap c1 c2 l1 l2).objs.size = some _ := Heap.get?_push_size _ rfl
 have g4 : (zH5 s.heap c1 c2 l1 l2).get? (zH3 s.heap c1 c2 l1 l2).objs.size = some _ := Heap.get?_push_of_some _ (Heap.get?_push_size _ rfl)
 have g3 : (zH5 s.heap c1 c2 l1 l2).get? (zH2 s.heap c1 c2 l1 l2).objs.size = some _ := Heap.get?_push_of_some _ (Heap.get?_push_of_some _ (Heap.get?_push_size _ rfl))
 have g2 : gU c2 (zH5 s.heap c1 c2 l1 l2) (s.heap.push (oJ c1 l1)).objs.size l2 0 := (gU.new c2 _ l2).at' λ o e => Heap.get?_push_of_some _ (Heap.get?_push_of_some _ (Heap.get?_push_of_some _ e))
 have g1 : gU c1 (zH5 s.heap c1 c2 l1 l2) s.heap.objs.size l1 0 := (gU.new c1 _ l1).at' λ o e => Heap.get?_push_of_some _ (Heap.get?_push_of_some _ (Heap.get?_push_of_some _ (Heap.get?_push_of_some _ e)))
 show _ /\ _
 rw [z2, z3, z4] at g5
 rw [z1, z2] at g3
 rw [z3] at g4
 rw [z1] at g2
 rw [z4]
 exact ⟨⟨_, g5, rfl⟩, h _ g5 g3 g4 g1 g2 z5 λ c o x =>
  Heap.get?_push_of_some _ (Heap.get?_push_of_some _ (Heap.get?_push_of_some _ (Heap.get?_push_of_some _ (Heap.get?_push_of_some _ x))))⟩
end
def SqB (c : Bool) (K : PySem.W.Frag) (H : Hp) (a : Addr) (xs : List V) : Prop := if c = true then SqT K H a xs else SqL K H a xs
section
variable {X : Cx} {pins : List (Addr × Obj)} {σ : L2.St} {H H' : Hp} {s : Shared} {h' : Heap}
theorem Inv.sqB {c : Bool} {a : Addr} {xs : List V} (I : Inv X pins σ H s) (h : SqB c X.K H a xs) : ∃ its : List Value, Vals xs its /\ lg c s.heap a its.toArray /\ xs.length <= sizeLine := by
 cases c
 .obtain ⟨its, r, p, hz⟩ := I.list (show SqL X.K H a xs from h)
  exact ⟨its, r, p.isList, hz⟩
 .obtain ⟨its, r, p, hz⟩ := I.tuple (show SqT X.K H a xs from h)
  exact ⟨its, r, p, hz⟩
theorem Inv.sqB_inj {c : Bool} {a : Addr} {xs ys : List V} (I : Inv X pins σ H s) (h : SqB c X.K H a xs) (h' : SqB c X.K H a ys) : xs = ys := by
 cases c
 .exact I.list_inj (show SqL X.K H a xs from h) h'
 .exact I.tuple_inj (show SqT X.K H a xs from h) h'
theorem Inv.sqB_ne {c : Bool} {a b : Addr} {xs : List V} (I : Inv X pins σ H s) (h : SqB c X.K H a xs) (f : mz X pins H b) : a ≠ b := by
 have key : (∃ o, H a = some o) ∨ ∃ o, X.K.lookup a = some o := by
  cases c
  .rcases (show SqL X.K H a xs from h) with (h | ⟨o, h⟩) | ⟨o, _, _, h, _⟩
   .exact .inl ⟨_, h⟩
   .exact .inl ⟨_, h⟩
   .exact .inr ⟨_, h⟩
  .rcases (show SqT X.K H a xs from h) with (h | ⟨o, h⟩) | ⟨o, _, _, h, _⟩
   .exact .inl ⟨_, h⟩
   .exact .inl ⟨_, h⟩
   .exact .inr ⟨_, h⟩
 intro z
 subst z
 rcases key with ⟨o, e⟩ | ⟨o, e⟩
 .rw [f.1] at e; cases e
 .have e' := I.ok.mod.kin a o e
  rcases f.2.2.2.1 with q | q
  .exact I.ok.noex a o e' q
  .exact absurd (Nat.lt_of_lt_of_le (Heap.lt_size (I.ok.bs a o e').1) q) (Nat.lt_irrefl _)
theorem Inv.turnedL {t' : Nat} {fp : List Addr} (I : Inv X pins σ H s) (k : ∀ b o, b ∉ fp -> s.heap.get? b = some o -> h'.get? b = some o) (hf : ∀ b ∈ fp, mz X pins H b) : Inv X pins σ H { s with heap := h', toks := t' } := by
 have nit : ∀ b u, H b = some u -> b ∉ fp := λ b u e z => by rw [(hf b z).1] at e; cases e
 refine I.step (g' := s.gens) (d' := s.drawn) (ch := fp) (λ b hb => ?_) (λ b o _ _ hc e _ => k b o hc e) (λ b o _ _ hc e _ => ⟨o.slots, k b o hc e⟩) (λ _ _ _ _ n => n)
  (λ b o hc e => ⟨o, k b o hc e⟩) (λ _ _ e => e) (λ _ _ _ e => e) (λ b ps e => ⟨#[], by rw [e]; simp⟩) (λ m hm => ?_) (λ b u e => ?_) I.bare.again
 .obtain ⟨f0, f1, f2, f3, f4, f5⟩ := hf b hb
  exact ⟨f3, f1, f4, f5⟩
 .obtain ⟨o, es, ep, ho, r⟩ := hm
  exact ⟨o, es, ep, k _ o (λ z => (hf _ z).2.1 rfl) ho, r⟩
 .refine (I.hok b u e).stay (λ c v hc q => k c v ?_ q) (λ _ q => q) λ _ _ q => q
  rcases hc with z | z
  .rw [z]; exact nit b u e
  .exact nit c _ z
end
def Itz (K : PySem.W.Frag) (c1 c2 : Bool) (a1 a2 : Addr) : It :=
 ⟨λ i H => (∃ xs x, SqB c1 K H a1 xs /\ xs[i]? = some x) /\ ∃ ys y, SqB c2 K H a2 ys /\ ys[i]? = some y,
  λ i H v H' => ∃ p x y, v = .ref p /\ H p = none /\ H' = upd H p (.tup [x, y]) /\ (∀ xs, SqB c1 K H a1 xs -> xs[i]? = some x) /\ ∀ ys, SqB c2 K H a2 ys -> ys[i]? = some y,
  λ i H => ∃ xs ys, SqB c1 K H a1 xs /\ SqB c2 K H a2 ys /\ (xs.length <= i ∨ ys.length <= i)⟩
def ZSt (c1 c2 : Bool) (z TI TO i1 i2 a1 a2 : Addr) (i : Nat) (h : Heap) : Prop :=
 IsZip h z TI TO .none /\ IsPair h TI (.ref i1) (.ref i2) /\ (∃ a b, IsPair h TO a b) /\ gU c1 h i1 a1 i /\ gU c2 h i2 a2 i
theorem Do {h : Heap} {o u : Obj} {b : Addr} (e : (h.push o).get? b = some u) (hb : b ≠ h.objs.size) : h.get? b = some u := by
 unfold Heap.get? at e ⊢
 have hp : (h.push o).objs[b]? = h.objs[b]? := by
  show (h.objs.push o)[b]? = h.objs[b]?
  rw [Array.getElem?_push, if_neg hb]
 rw [hp] at e
 exact e
theorem Gb {P : Program} {w : World} {K : PySem.W.Frag} {elts : List Expr} {kk : Nat} {pos : Pos} (c1 c2 : Bool) (z TI TO i1 i2 a1 a2 : Addr) (D : ZA z TI TO i1 i2) :
  Turn P w K (.Tuple elts kk pos) (Itz K c1 c2 a1 a2) [z, TI, TO, i1, i2] z (ZSt c1 c2 z TI TO i1 i2 a1 a2) where
 mem := by simp
 obj := λ i h st b hb => by
  obtain ⟨hz, hTI, ⟨a, b', hTO⟩, h1, h2⟩ := st
  simp only [List.mem_cons, List.not_mem_nil, or_false] at hb
  rcases hb with rfl | rfl | rfl | rfl | rfl
  .exact ⟨_, hz, λ v q => by cases q⟩
  .exact ⟨_, hTI, λ v q => by cases q⟩
  .exact ⟨_, hTO, λ v q => by cases q⟩
  .obtain ⟨o, e, d, _⟩ := h1.obj; exact ⟨o, e, d⟩
  .obtain ⟨o, e, d, _⟩ := h2.obj; exact ⟨o, e, d⟩
 keep := λ i h h' st k => by
  obtain ⟨hz, hTI, ⟨a, b', hTO⟩, h1, h2⟩ := st
  exact ⟨k z (by simp) _ hz, k TI (by simp) _ hTI, ⟨a, b', k TO (by simp) _ hTO⟩, h1.at' λ o e => k i1 (by simp) o e, h2.at' λ o e => k i2 (by simp) o e⟩
 item := by
  intro X hP hw hK hc i pins s σ H E I hf st hg
  subst hP hw hK
  obtain ⟨hz, hTI, ⟨a, b', hTO⟩, h1, h2⟩ := st
  obtain ⟨⟨xs, x, hx, ex⟩, ys, y, hy, ey⟩ := hg
  obtain ⟨its1, r1, p1, z1⟩ := I.sqB hx
  obtain ⟨its2, r2, p2, z2⟩ := I.sqB hy
  obtain ⟨u1, eu1, ru1⟩ := r1.get ex
  obtain ⟨u2, eu2, ru2⟩ := r2.get ey
  have fz := hf z (by simp)
  have fTO := hf TO (by simp)
  have fi1 := hf i1 (by simp)
  have ltz : z < s.heap.objs.size := Heap.lt_size hz
  have ltTI : TI < s.heap.objs.size := Heap.lt_size hTI
  have ltTO : TO < s.heap.objs.size := Heap.lt_size hTO
  have lti1 : i1 < s.heap.objs.size := let ⟨_, e, _⟩ := h1.obj; Heap.lt_size e
  have lti2 : i2 < s.heap.objs.size := let ⟨_, e, _⟩ := h2.obj; Heap.lt_size e
  refine qp D (I.sqB_ne hx fz) (I.sqB_ne hy fz) (I.sqB_ne hy fi1) (I.sqB_ne hy fTO) hz hTI hTO h1 h2 p1 p2 (x := u1) (y := u2) (by simpa using eu1) (by simpa using eu2) λ h' q1 q2 q3 q4 q5 q6 q7 => ⟨_, rfl, ?_⟩
  refine wpAny_letOwnedTupleGo_zip q1 λ h2' y1 y2 => ?_
  have hpn : H s.heap.objs.size = none := I.hok.fresh (Nat.le_refl _)
  have IA : Inv X pins σ (upd H s.heap.objs.size (.tup [x, y])) { s with heap := s.heap.push { cls := .type "tuple", data := .seq #[u1, u2] } } :=
   I.laid (t' := s.toks) (o := .tup [x, y]) (λ b ob q => Heap.get?_push_of_some _ q) (Nat.le_refl _) ⟨by show 2 <= sizeLine; decide, [u1, u2], .cons ru1 (.cons ru2 .nil), IsTup.new _ _⟩
  have hne : ∀ b ∈ [z, TI, TO, i1, i2], b ≠ s.heap.objs.size := λ b hb => by
   simp only [List.mem_cons, List.not_mem_nil, or_false] at hb
   rcases hb with rfl | rfl | rfl | rfl | rfl
   .exact Nat.ne_of_lt ltz
   .exact Nat.ne_of_lt ltTI
   .exact Nat.ne_of_lt ltTO
   .exact Nat.ne_of_lt lti1
   .exact Nat.ne_of_lt lti2
  have hf' : ∀ b ∈ [z, TI, TO, i1, i2], mz X pins (upd H s.heap.objs.size (.tup [x, y])) b := λ b hb => by
   obtain ⟨f0, f1⟩ := hf b hb
   exact ⟨by rw [aV (hne b hb)]; exact f0, f1⟩
  have IB : Inv X pins σ (upd H s.heap.objs.size (.tup [x, y])) { s with heap := h2' } := by
   refine Inv.turnedL (s := { s with heap := s.heap.push { cls := .type "tuple", data := .seq #[u1, u2] } }) (t' := s.toks) (fp := [z, TI, TO, i1, i2]) IA (λ b o hb e => ?_) hf'
   simp only [List.mem_cons, List.not_mem_nil, or_false, not_or] at hb
   obtain ⟨b1, b2, b3, b4, b5⟩ := hb
   by_cases hs : b = s.heap.objs.size
   .subst hs
    have e' : some ({ cls := .type "tuple", data := .seq #[u1, u2] } : Obj) = some o := (Heap.get?_push_size s.heap rfl).symm.trans e
    cases e'
    exact y2.extBut _ _ b1 q5
   .exact y2.extBut _ _ b1 (q7 b o b1 b3 b4 b5 (Do e hs))
  refine ⟨.ref s.heap.objs.size, _, IB, rfl, ⟨_, x, y, rfl, hpn, rfl, λ zs hzs => by rw [I.sqB_inj hzs hx]; exact ex, λ zs hzs => by rw [I.sqB_inj hzs hy]; exact ey⟩, ?_, λ b hb => (hf' b hb).1⟩
  exact ⟨y1, y2.extBut _ _ D.TIz (q7 _ _ D.TIz D.TITO D.TIi1 D.TIi2 hTI), ⟨_, _, y2.extBut _ _ D.TOz q2⟩, q3.at' λ o e => y2.extBut _ _ D.i1z e, q4.at' λ o e => y2.extBut _ _ D.i2z e⟩
 done := by
  intro X hP hw hK hc i pins s σ H E I hf st hg
  subst hP hw hK
  obtain ⟨hz, hTI, ⟨a, b', hTO⟩, h1, h2⟩ := st
  obtain ⟨xs, ys, hx, hy, hend⟩ := hg
  obtain ⟨its1, r1, p1, z1⟩ := I.sqB hx
  obtain ⟨its2, r2, p2, z2⟩ := I.sqB hy
  have fz := hf z (by simp)
  have fTO := hf TO (by simp)
  have fi1 := hf i1 (by simp)
  have l1 := r1.length
  have l2 := r2.length
  refine rF (I.ok.hd hc) D (I.sqB_ne hx fz) (I.sqB_ne hy fz) (I.sqB_ne hy fi1) (I.sqB_ne hy fTO) hz hTI hTO h1 h2 p1 p2 ?_ λ h' q => ⟨rfl, I.turnedL (t' := s.toks) (fp := [z, TI, TO, i1, i2]) (λ b o hb e => ?_) hf⟩
  .rcases hend with h | h
   .exact .inl (by simp; omega)
   .exact .inr (by simp; omega)
  .simp only [List.mem_cons, List.not_mem_nil, or_false, not_or] at hb
   exact q b o hb.1 hb.2.2.1 hb.2.2.2.1 hb.2.2.2.2 e
 self := λ _ _ _ _ _ st h => wpAny_pyIter_zip st.1 h
def iZip (K : PySem.W.Frag) (ta : TA) : TI := λ σ H R => ta σ H λ vs H1 => ∃ a1 a2 c1 c2, vs = [.ref a1, .ref a2] /\ (∃ xs, SqB c1 K H1 a1 xs) /\ (∃ ys, SqB c2 K H1 a2 ys) /\ R (Itz K c1 c2 a1 a2) H1
section
variable {X : Cx}
theorem Mt {a b : Expr} {ta : TA} {p pos p' : Pos} {elts : List Expr} {kk : Nat} (hg : Gl X "zip") (hm : X.mg "zip" = none) (ha : PA X [a, b] ta) (hs : starEach [a, b] X.env = [(false, eval a X.env), (false, eval b X.env)] := by rfl) (hs2 : starEach [b] X.env = [(false, eval b X.env)] := by rfl) :
  PI X (.Tuple elts kk p') (.Call (.Name "zip" p) [a, b] [] pos) (iZip X.K ta) := by
 intro pins s σ H R I h
 refine Call_ (nF I hg hm boot_zip (PyProof.Rows.callWith_type1 (thn (ha pos pins s σ H _ I h) λ us s1 ⟨vs, H1, I1, r1, q1⟩ => ?_) (by rw [hs, hs2]) (by rw [hs2]; rfl)))
 obtain ⟨a1, a2, c1, c2, rfl, ⟨xs, hx⟩, ⟨ys, hy⟩, q⟩ := q1
 obtain ⟨u, v, rfl, ru, rv⟩ := vals2 r1
 cases ru
 cases rv
 obtain ⟨its1, _, p1, _⟩ := I1.sqB hx
 obtain ⟨its2, _, p2, _⟩ := I1.sqB hy
 refine Bx p1 p2 λ h' g1 g2 g3 g4 g5 g6 g7 => ?_
 refine wpAny_pyIter_zip g1 ?_
 refine ⟨_, [s1.heap.objs.size + 4, s1.heap.objs.size + 2, s1.heap.objs.size + 3, s1.heap.objs.size, s1.heap.objs.size + 1], _, _, H1, rfl, I1.kept (t' := s1.toks) g7, Gb c1 c2 _ _ _ _ _ a1 a2 ?_, ⟨g1, g2, ⟨_, _, g3⟩, g4, g5⟩, λ b hb => ?_, q⟩
 .constructor <;> first | exact Nat.ne_of_lt (by omega) | exact Nat.ne_of_gt (by omega)
 .have hb' : s1.heap.objs.size <= b := by
   simp only [List.mem_cons, List.not_mem_nil, or_false] at hb
   rcases hb with q | q | q | q | q <;> rw [q] <;> first | exact Nat.le_add_right _ _ | exact Nat.le_refl _
  exact I1.fpOk hb' (I1.hok.fresh hb')
end
end L2
namespace L3
open PySem PySem.Spec PyProof.Rows L2
def bQ : D -> Mu -> Option (List D)
 | .tup ds, _ => some ds
 | .lst ds, _ => some ds
 | .ro ds, _ => some ds
 | .cell n, μ => match μ[n]? with
  | some (some ds) => some ds
  | _ => none
 | _, _ => none
def sY : D -> Bool
 | .tup _ => true
 | _ => false
section
variable {K : PySem.W.Frag} {tb : List Addr}
theorem jc {W : Wd} {x : D} {v : V} {ds : List D} (ok : WOk K tb W) (h : Den K tb W x v) (e : bQ x W.mu = some ds) : ∃ a xs, v = .ref a /\ SqB (sY x) K W.H a xs /\ di K tb W ds xs := by
 cases x with
 | tup es => cases e; obtain ⟨a, xs, rfl, q, r⟩ := iU h; exact ⟨a, xs, rfl, SqT.fz q, r⟩
 | lst es => cases e; obtain ⟨a, xs, rfl, q, r⟩ := lZ h; exact ⟨a, xs, rfl, SqL.fz q, r⟩
 | ro es => cases e; obtain ⟨a, xs, rfl, q, r⟩ := yr h; exact ⟨a, xs, rfl, SqL.fz q, r⟩
 | cell n =>
  obtain ⟨a, rfl, q⟩ := jk h
  have e' : (match W.mu[n]? with | some (some ds) => some ds | _ => none) = some ds := e
  cases e2 : W.mu[n]? with
  | none => rw [e2] at e'; cases e'
  | some o =>
   cases o with
   | none => rw [e2] at e'; cases e'
   | some es =>
    rw [e2] at e'
    cases e'
    obtain ⟨xs, e3, r⟩ := ok.cont n a ds q e2
    exact ⟨a, xs, rfl, SqL.of e3, r⟩
 | _ => cases e
theorem SqB.or {c : Bool} {H : Hp} {a : Addr} {xs : List V} (h : SqB c K H a xs) : SqL K H a xs ∨ SqT K H a xs := by
 cases c
 .exact .inl h
 .exact .inr h
end
theorem Jm {K : PySem.W.Frag} {tb : List Addr} {W : Wd} {ds : List D} {xs : List V} {i : Int} {d : D} (r : di K tb W ds xs) (h : atI ds i = some d) : ∃ v, atI xs i = some v /\ Den K tb W d v := by
 unfold atI at h ⊢
 rw [<- aC.length r]
 cases e : ixN ds.length i with
 | none => rw [e] at h; cases h
 | some j =>
  rw [e] at h
  exact aC.get r h
def oIx : O2 := λ x y μ => match y with
 | .int i => (bQ x μ).bind λ ds => (atI ds i).map λ d => (d, μ)
 | _ => none
def cz : O1' := λ x μ => match x with
 | .str y => if y.length <= sizeLine then some (.int y.length, μ) else none
 | _ => (bQ x μ).map λ ds => (.int ds.length, μ)
def pD : O1' := λ x μ => match x with
 | .int i => some (.int (if i < 0 then -i else i), μ)
 | _ => none
def ir : O1' := λ x μ => match x with
 | .int i => some (.int (-i), μ)
 | _ => none
def qe (op : O2) : ON := λ xs μ => match xs with
 | [x, y] => op x y μ
 | _ => none
theorem yZ {op : O2} {xs : List D} {μ : Mu} {r : D × Mu} (h : qe op xs μ = some r) : ∃ x y, xs = [x, y] /\ op x y μ = some r := by
 unfold qe at h
 split at h
 .exact ⟨_, _, rfl, h⟩
 .cases h
def su : O2 := λ x y μ => match x, y with
 | .int i, .int j => some (.int (if j < i then j else i), μ)
 | _, _ => none
def iJ : ON := λ xs μ => match xs with
 | [x] => (bQ x μ).map λ ds => (.tup ds, μ)
 | _ => none
def zJ (T : String) : D -> Option Bool
 | .non => some false
 | .bl _ => some (T == "bool" || T == "int")
 | .int _ => some (T == "int")
 | .str _ => some (T == "str")
 | .tup _ => some (T == "tuple")
 | .lst _ => some (T == "list")
 | .ro _ => some (T == "list")
 | .dic _ => some (T == "dict")
 | .cell _ => none
def iW (T : String) : O1' := λ x μ => match x with
 | .cell n => match μ[n]? with
  | some (some _) => some (.bl (T == "list"), μ)
  | _ => none
 | _ => (zJ T x).map λ k => (.bl k, μ)
section
variable {X : Cx} {tb : List Addr} {a b e : Expr} {fa fb f : EF} {fs : AF} {p pos : Pos}
theorem bH (ha : PD X tb a fa) (hb : PD X tb b fb) (hs : Am b := by intro _ _; rfl) : PD X tb (.Subscript a b pos) (M2 fa fb oIx) :=
 yW (λ ta tb' ha hb => QB KN ha hb hs) (λ W x y v u d μ' Q ok dx dy ho h => by
  cases y with
  | int i =>
   obtain ⟨ds, e1, e2⟩ := Option.bind_eq_some_iff.mp (show ((bQ x W.mu).bind λ ds => (atI ds i).map λ d => (d, W.mu)) = some (d, μ') from ho)
   obtain ⟨d0, e3, e4⟩ := Option.map_eq_some_iff.mp e2
   cases e4
   rw [bF dy]
   obtain ⟨a, xs, rfl, q, r⟩ := jc ok dx e1
   obtain ⟨v, ev, dv⟩ := Jm r e3
   rcases SqB.or q with q | q
   .exact .inl ⟨a, xs, i, v, rfl, rfl, q, ev, put ok h dv⟩
   .exact .inr (.inl ⟨a, xs, i, v, rfl, rfl, q, ev, put ok h dv⟩)
  | _ => cases ho) ha hb
theorem gh (ha : PD X tb a fa) : PD X tb (.UnaryOp .USub a pos) (M1 fa ir) :=
 Ml (λ ta ha => JG Gk ha) (λ W x v d μ' Q ok dx ho h => by
  cases x with
  | int i => cases ho; rw [bF dx]; exact ⟨i, rfl, put ok h fB⟩
  | _ => cases ho) ha
def aZ (op : O1') : ON := λ xs μ => match xs with
 | [x] => op x μ
 | _ => none
theorem tW {op : O1'} {xs : List D} {μ : Mu} {r : D × Mu} (h : aZ op xs μ = some r) : ∃ x, xs = [x] /\ op x μ = some r := by
 unfold aZ at h
 split at h
 .exact ⟨_, rfl, h⟩
 .cases h
theorem xR {xs : List D} {μ : Mu} {r : D × Mu} (h : iJ xs μ = some r) : ∃ x, xs = [x] /\ iJ [x] μ = some r := by
 unfold iJ at h
 split at h
 .exact ⟨_, rfl, h⟩
 .cases h
theorem dH (hm : X.mg "len" = none) (ha : PAD X tb [a] fs) (hg : Gl X "len" := by rfl) (he : starEach [a] X.env = (false, eval a X.env) :: starEach [] X.env := by rfl) : PD X tb (.Call (.Name "len" p) [a] [] pos) (MC fs (aZ cz)) :=
 Bm (λ ta ha => pI (wA.or wW) hg hm PySem.boot_len ha (by decide) (by decide) he (by rfl)) (λ W xs vs d μ' Q ok r ho h => by
  obtain ⟨x, rfl, ho⟩ := tW ho
  obtain ⟨v, rfl, dv⟩ := aC.one r
  have gen : ∀ ds, bQ x W.mu = some ds -> some (D.int ds.length, W.mu) = some (d, μ') -> ((∃ p ys, [v] = [V.ref p] /\ (SqL X.K W.H p ys ∨ SqT X.K W.H p ys) /\ Q (.int ys.length) W.H) ∨ ∃ z, [v] = [V.str z] /\ z.length <= sizeLine /\ Q (.int z.length) W.H) := λ ds e1 e2 => by
   cases e2
   obtain ⟨a, xs, e, q, r⟩ := jc ok dv e1
   exact Or.inl ⟨a, xs, by rw [e], SqB.or q, by rw [<- aC.length r]; exact put ok h fB⟩
  cases x with
  | str y =>
   have ho' : (if y.length <= sizeLine then some (D.int y.length, W.mu) else none) = some (d, μ') := ho
   split at ho'
   .rename_i hz
    cases ho'
    rw [lY dv]
    exact .inr ⟨y, rfl, hz, put ok h fB⟩
   .cases ho'
  | tup ds => exact gen ds rfl ho
  | lst ds => exact gen ds rfl ho
  | ro ds => exact gen ds rfl ho
  | cell n =>
   obtain ⟨ds, e1, e2⟩ := Option.map_eq_some_iff.mp (show (bQ (.cell n) W.mu).map (λ ds => (D.int ds.length, W.mu)) = some (d, μ') from ho)
   exact gen ds e1 (congrArg some e2)
  | _ => cases ho) ha
theorem tH (hm : X.mg "abs" = none) (ha : PAD X tb [a] fs) (hg : Gl X "abs" := by rfl) (he : starEach [a] X.env = (false, eval a X.env) :: starEach [] X.env := by rfl) : PD X tb (.Call (.Name "abs" p) [a] [] pos) (MC fs (aZ pD)) :=
 Bm (λ ta ha => pI Ej hg hm PyProof.Rows.boot_abs ha (by decide) (by decide) he (by rfl)) (λ W xs vs d μ' Q ok r ho h => by
  obtain ⟨x, rfl, ho⟩ := tW ho
  obtain ⟨v, rfl, dv⟩ := aC.one r
  cases x with
  | int i => cases ho; rw [bF dv]; exact ⟨i, rfl, put ok h fB⟩
  | _ => cases ho) ha
theorem GJ (hc : X.calm = true) (hm : X.mg "min" = none) (ha : PAD X tb [a, b] fs) (hg : Gl X "min" := by rfl) (he : starEach [a, b] X.env = (false, eval a X.env) :: starEach [b] X.env := by rfl) (hpl : (backTo pos (starEach [b] X.env)).any (·.1) = false := by rfl) : PD X tb (.Call (.Name "min" p) [a, b] [] pos) (MC fs (qe su)) :=
 Bm (λ ta ha => pI (Bw hc) hg hm PyProof.Rows.boot_min ha (by decide) (by decide) he hpl) (λ W xs vs d μ' Q ok r ho h => by
  obtain ⟨x, y, rfl, ho⟩ := yZ ho
  obtain ⟨u, v, rfl, du, dv⟩ := aC.two r
  cases x with
  | int i =>
   cases y with
   | int j =>
    cases ho
    rw [bF du, bF dv]
    exact ⟨i, j, rfl, put ok h fB⟩
   | _ => cases ho
  | _ => cases ho) ha
theorem ue (hm : X.mg "tuple" = none) (ha : PAD X tb [a] fs) (hg : Gl X "tuple" := by rfl) (he : starEach [a] X.env = (false, eval a X.env) :: starEach [] X.env := by rfl) : PD X tb (.Call (.Name "tuple" p) [a] [] pos) (MC fs iJ) :=
 Bm (λ ta ha => uZ uv hg hm PyProof.Rows.boot_tuple ha (by decide) (by decide) he (by rfl)) (λ W xs vs d μ' Q ok r ho h => by
  obtain ⟨x, rfl, ho⟩ := xR ho
  obtain ⟨v, rfl, dv⟩ := aC.one r
  obtain ⟨ds, e1, e2⟩ := Option.map_eq_some_iff.mp (show (bQ x W.mu).map (λ ds => (D.tup ds, W.mu)) = some (d, μ') from ho)
  cases e2
  by_cases ht : ∃ es, x = .tup es
  .obtain ⟨es, rfl⟩ := ht
   cases e1
   obtain ⟨a, xs, rfl, q, r⟩ := iU dv
   exact ⟨a, xs, rfl, .inr ⟨SqT.fz q, put ok h dv⟩⟩
  .obtain ⟨a, xs, rfl, q, r⟩ := jc ok dv e1
   have hf : sY x = false := by cases x <;> first | rfl | exact absurd ⟨_, rfl⟩ ht
   rw [hf] at q
   exact ⟨a, xs, rfl, .inl ⟨q, λ l hl => my ok h r hl⟩⟩) ha
def lOf (fs : AF) : LF := λ δ μ => (fs δ μ).bind λ r => match r.1 with
 | [x] => (bQ x r.2).map λ ds => (ds, r.2)
 | _ => none
theorem pP (hm : X.mg "list" = none) (ha : PAD X tb [a] fs) (hg : Gl X "list" := by rfl) (he : starEach [a] X.env = (false, eval a X.env) :: starEach [] X.env := by rfl) : PDN X tb (.Call (.Name "list" p) [a] [] pos) (lOf fs) :=
 fJ (uZ wz hg hm PyProof.Rows.boot_list ha (by decide) (by decide) he (by rfl)) λ σ H Q zq1 => by
  obtain ⟨W, δ, ds, μ', e, ok, hd, hf, k⟩ := zq1
  unfold lOf at hf
  obtain ⟨⟨xs, μ1⟩, e1, e2⟩ := Option.bind_eq_some_iff.mp hf
  match xs, e1, e2 with
  | [x], e1, e2 =>
   obtain ⟨ds', e3, e4⟩ := Option.map_eq_some_iff.mp (show (bQ x μ1).map (λ ds => (ds, μ1)) = some (ds, μ') from e2)
   cases e4
   refine ⟨W, δ, [x], _, e, ok, hd, e1, λ vs W1 ok1 l1 m1 d1 => ?_⟩
   obtain ⟨v, rfl, dv⟩ := aC.one d1
   obtain ⟨a, xs, rfl, q, r⟩ := jc ok1 dv (by rw [m1]; exact e3)
   exact ⟨a, xs, rfl, SqB.or q, λ l hl => k l xs W1 ok1 l1 m1 hl r⟩
theorem iZ {T : Str} {tn : String} {pt : Pos} (hm : X.mg "isinstance" = none) (hmT : X.mg T = none) (hT : bootBuiltins T = some (.type tn)) (hmem : tn ∈ Hg) (ha : PD X tb a fa) (hg : Gl X "isinstance" := by rfl) (hgT : Gl X T := by rfl) (hn : T ≠ "__name__" := by decide) (hdb : (T == ("__debug__" : Str)) = false := by decide)
  (hs : starEach [a, .Name T pt] X.env = (false, eval a X.env) :: starEach [.Name T pt] X.env := by rfl) : PD X tb (.Call (.Name "isinstance" p) [a, .Name T pt] [] pos) (M1 fa (iW tn)) :=
 fJ (pI Dk hg hm PyProof.Rows.boot_isinstance (rK ha (rK (Hc hgT hmT hT (v := .ty tn) rfl hn hdb) zT) hs) (by decide) (by decide) hs (by rfl)) λ σ H Q zq2 => by
  obtain ⟨W, δ, d, μ', e, ok, hd, hf, h⟩ := zq2
  unfold M1 at hf
  obtain ⟨⟨x, μ1⟩, e1, e2⟩ := Option.bind_eq_some_iff.mp hf
  refine ⟨W, δ, x, μ1, e, ok, hd, e1, λ v W1 ok1 l1 m1 d1 => ?_⟩
  have fin : ∀ k, Ob X.K tn v W1.H k -> some (D.bl k, μ1) = some (d, μ') -> ∃ x T k, [v, V.ty tn] = [x, .ty T] /\ T ∈ Hg /\ Ob X.K T x W1.H k /\ Q (.bl k) W1.H := λ k hk e => by
   cases e
   exact ⟨v, tn, k, rfl, hmem, hk, h _ W1 ok1 l1 m1 fQ⟩
  cases x with
  | non => rw [pB d1] at fin ⊢; exact fin _ rfl e2
  | bl b => rw [jy d1] at fin ⊢; exact fin _ rfl e2
  | int b => rw [bF d1] at fin ⊢; exact fin _ rfl e2
  | str b => rw [lY d1] at fin ⊢; exact fin _ rfl e2
  | tup ds => obtain ⟨a, xs, rfl, q, r⟩ := iU d1; exact fin _ (.inr (.inl ⟨rfl, xs, SqT.fz q⟩)) e2
  | lst ds => obtain ⟨a, xs, rfl, q, r⟩ := lZ d1; exact fin _ (.inl ⟨rfl, xs, SqL.fz q⟩) e2
  | ro ds => obtain ⟨a, xs, rfl, q, r⟩ := yr d1; exact fin _ (.inl ⟨rfl, xs, SqL.fz q⟩) e2
  | dic ds => obtain ⟨a, xs, rfl, q, r⟩ := Mv d1; exact fin _ (.inr (.inr ⟨rfl, xs, (eU q).1⟩)) e2
  | cell n =>
   have e2' : (match μ1[n]? with | some (some _) => some (D.bl (tn == "list"), μ1) | _ => none) = some (d, μ') := e2
   obtain ⟨a, rfl, q⟩ := jk d1
   cases e4 : μ1[n]? with
   | none => rw [e4] at e2'; cases e2'
   | some o =>
    cases o with
    | none => rw [e4] at e2'; cases e2'
    | some ds =>
     rw [e4] at e2'
     obtain ⟨xs, ex, _⟩ := ok1.cont n a ds q (by rw [m1]; exact e4)
     exact fin _ (.inl ⟨rfl, xs, SqL.of ex⟩) e2'
def lr (μ : Mu) (n : Nat) : Bool := match μ[n]? with
 | some (some _) => true
 | _ => false
theorem xG {μ : Mu} {n : Nat} (h : lr μ n = true) : ∃ ds, μ[n]? = some (some ds) := by
 unfold lr at h
 split at h
 .exact ⟨_, by assumption⟩
 .cases h
def jz (fo : EF) (fs : AF) : EF := λ δ μ => (fo δ μ).bind λ r => (fs δ r.2).bind λ q => match r.1, q.1 with
 | .cell n, [y] => match q.2[n]? with
  | some (some ds) => if lr r.2 n = true /\ ds.length < sizeLine then some (.non, q.2.set n (some (ds ++ [y]))) else none
  | _ => none
 | _, _ => none
theorem gM {o : Expr} {fo : EF} {apos cpos : Pos} (ho : PD X tb o fo) (ha : PAD X tb [e] fs)
  (hbase : attributeBase o "append" X.env (eval o X.env) = eval o X.env := by rfl)
  (hfew : ((backTo cpos (starEach [e] X.env)).all (λ x => !x.1) && (backToKw cpos (keywordEach [] X.env)).all (λ x => x.1.isSome)
   && decide ([e].length + ([] : List Keyword).length + (if ([] : List Keyword).isEmpty then 0 else 1) < 30)) = true := by rfl)
  (hline : (apos.endLine == cpos.line) = true := by rfl) (hs : starEach [e] X.env = (false, eval e X.env) :: starEach [] X.env := by rfl) : PD X tb (.Call (.Attribute o "append" apos) [e] [] cpos) (jz fo fs) :=
 fJ (JD PySem.F.plainAttrs_list PySem.F.slot_list_append PySem.F.type_list_append Cj ho ha hbase hfew hline hs (by rfl)) λ σ H Q zq3 => by
  obtain ⟨W, δ, d, μ', e, ok, hd, hf, h⟩ := zq3
  unfold jz at hf
  obtain ⟨⟨x, μ1⟩, e1, hf⟩ := Option.bind_eq_some_iff.mp hf
  obtain ⟨⟨ys, μ2⟩, e2, hf⟩ := Option.bind_eq_some_iff.mp hf
  refine ⟨W, δ, x, μ1, e, ok, hd, e1, λ v W1 ok1 l1 m1 d1 => ?_⟩
  match x, ys, e1, e2, hf, d1 with
  | .cell n, [y], e1, e2, hf, d1 =>
   have hf' : (match μ2[n]? with | some (some ds) => if lr μ1 n = true /\ ds.length < sizeLine then some (D.non, μ2.set n (some (ds ++ [y]))) else none | _ => none) = some (d, μ') := hf
   cases e4 : μ2[n]? with
   | none => rw [e4] at hf'; cases hf'
   | some oo =>
    cases oo with
    | none => rw [e4] at hf'; cases hf'
    | some ds =>
     rw [e4] at hf'
     have hf'' : (if lr μ1 n = true /\ ds.length < sizeLine then some (D.non, μ2.set n (some (ds ++ [y]))) else none) = some (d, μ') := hf'
     split at hf''
     .rename_i hz
      cases hf''
      obtain ⟨a, rfl, q⟩ := jk d1
      obtain ⟨ds0, e5⟩ := xG hz.1
      obtain ⟨xs0, ex0, _⟩ := ok1.cont n a ds0 q (by rw [m1]; exact e5)
      refine ⟨.inl ⟨rfl, xs0, SqL.of ex0⟩, W1, δ, [y], μ2, rfl, ok1, hd.mono' l1, (by rw [m1]; exact e2), λ vs W2 ok2 l2 m2 d2 => ?_⟩
      obtain ⟨u, rfl, du⟩ := aC.one d2
      have q2 := l2.ad _ _ q
      have e6 : W2.mu[n]? = some (some ds) := by rw [m2]; exact e4
      obtain ⟨xs, ex, r⟩ := ok2.cont n a ds q2 e6
      refine ⟨a, xs, u, rfl, rfl, ex, by rw [<- aC.length r]; exact hz.2, ?_⟩
      obtain ⟨ok3, l3⟩ := ok2.write q2 e6 (aC.append r (aC.cons du aC.nil))
      exact h .non _ ok3 ((l1.trans l2).trans l3) (by rw [<- m2]) wC
     .cases hf''
def An (fo : EF) : EF := λ δ μ => (fo δ μ).bind λ r => match r.1 with
 | .cell n => match r.2[n]? with
  | some (some (y :: ds)) => some (y, r.2.set n (some ds))
  | _ => none
 | _ => none
theorem HQ {o : Expr} {fo : EF} {apos cpos p0 : Pos} {j} (ho : PD X tb o fo)
  (hbase : attributeBase o "pop" X.env (eval o X.env) = eval o X.env := by rfl)
  (hfew : ((backTo cpos (starEach [.Constant (.int 0) j p0] X.env)).all (λ x => !x.1) && (backToKw cpos (keywordEach [] X.env)).all (λ x => x.1.isSome)
   && decide ([Expr.Constant (.int 0) j p0].length + ([] : List Keyword).length + (if ([] : List Keyword).isEmpty then 0 else 1) < 30)) = true := by rfl)
  (hline : (apos.endLine == cpos.line) = true := by rfl) : PD X tb (.Call (.Attribute o "pop" apos) [.Constant (.int 0) j p0] [] cpos) (An fo) :=
 fJ (JD PySem.F.plainAttrs_list PySem.F.slot_list_pop PySem.F.type_list_pop Dg ho (rK zc zT) hbase hfew hline (by rfl) (by rfl)) λ σ H Q zq4 => by
  obtain ⟨W, δ, d, μ', e, ok, hd, hf, h⟩ := zq4
  unfold An at hf
  obtain ⟨⟨x, μ1⟩, e1, hf⟩ := Option.bind_eq_some_iff.mp hf
  refine ⟨W, δ, x, μ1, e, ok, hd, e1, λ v W1 ok1 l1 m1 d1 => ?_⟩
  cases x with
  | cell n =>
   have hf' : (match μ1[n]? with | some (some (y :: ds)) => some (y, μ1.set n (some ds)) | _ => none) = some (d, μ') := hf
   cases e4 : μ1[n]? with
   | none => rw [e4] at hf'; cases hf'
   | some oo =>
    match oo, e4 with
    | none, e4 => rw [e4] at hf'; cases hf'
    | some [], e4 => rw [e4] at hf'; cases hf'
    | some (y :: ds), e4 =>
     rw [e4] at hf'
     have hf'' : some (y, μ1.set n (some ds)) = some (d, μ') := hf'
     cases hf''
     obtain ⟨a, rfl, q⟩ := jk d1
     have e6 : W1.mu[n]? = some (some (d :: ds)) := by rw [m1]; exact e4
     obtain ⟨xs, ex, r⟩ := ok1.cont n a _ q e6
     have r' : aC _ _ _ _ _ := r
     unfold aC at r'
     obtain ⟨u, us, rfl, du, r2⟩ := r'
     refine ⟨.inl ⟨rfl, _, SqL.of ex⟩, a, u :: us, 0, 0, u, rfl, rfl, ex, by decide, by decide, ?_, rfl, ?_⟩
     .simp [seqIndex?]
     .obtain ⟨ok3, l3⟩ := ok1.write q e6 r2
      exact h u _ ok3 (l1.trans l3) (by rw [<- m1]) (Den.mono' du l3)
  | _ => cases hf
theorem pdv (i : Nat) {x : Str} (hN : X.N[i]? = some x := by rfl) (hv : Vis X.env.scope x := by first | exact Or.inl rfl | exact Or.inr (Or.inl rfl) | exact Or.inr (Or.inr rfl)) (hd : (x == ("__debug__" : Str)) = false := by decide) (hcd : (x == ("__classdict__" : Str)) = false := by decide) : PD X tb (.Name x pos) (aq i) := Lk hN hv hd hcd
end
section
variable {X : Cx} {tb : List Addr} {a b e : Expr} {es : List Expr} {fa fb f : EF} {fs : AF} {p pos : Pos}
def jV : List D -> List D -> List D
 | x :: xs, y :: ys => .tup [x, y] :: jV xs ys
 | _, _ => []
theorem xN : ∀ {xs ys : List D} {i : Nat} {d : D}, (jV xs ys)[i]? = some d -> ∃ x y, d = .tup [x, y] /\ xs[i]? = some x /\ ys[i]? = some y
 | [], ys, i, d, h => by simp [jV] at h
 | x :: xs, [], i, d, h => by simp [jV] at h
 | x :: xs, y :: ys, 0, d, h => by
  have h' : some (D.tup [x, y]) = some d := by simpa [jV] using h
  cases h'
  exact ⟨x, y, rfl, rfl, rfl⟩
 | x :: xs, y :: ys, i + 1, d, h => by
  obtain ⟨u, v, e, e1, e2⟩ := xN (xs := xs) (ys := ys) (i := i) (by simpa [jV] using h)
  exact ⟨u, v, e, by simpa using e1, by simpa using e2⟩
theorem yc : ∀ (xs ys : List D), (jV xs ys).length = min xs.length ys.length
 | [], ys => by simp [jV]
 | x :: xs, [] => by simp [jV]
 | x :: xs, y :: ys => by simp [jV, yc xs ys]
def iT : D -> Option (List D)
 | .tup ds => some ds
 | .lst ds => some ds
 | .ro ds => some ds
 | _ => none
theorem FJ {K : PySem.W.Frag} {W : Wd} {x : D} {v : V} {ds : List D} (h : Den K tb W x v) (e : iT x = some ds) : ∃ a xs, v = .ref a /\ SqB (sY x) K (W.fz tb) a xs /\ di K tb W ds xs := by
 cases x with
 | tup es => cases e; obtain ⟨a, xs, rfl, q, r⟩ := iU h; exact ⟨a, xs, rfl, q, r⟩
 | lst es => cases e; obtain ⟨a, xs, rfl, q, r⟩ := lZ h; exact ⟨a, xs, rfl, q, r⟩
 | ro es => cases e; obtain ⟨a, xs, rfl, q, r⟩ := yr h; exact ⟨a, xs, rfl, q, r⟩
 | _ => cases e
theorem mY {K : PySem.W.Frag} {c : Bool} {W0 W : Wd} {a : Addr} {xs : List V} (h : SqB c K (W0.fz tb) a xs) (l : Le tb W0 W) : SqB c K W.H a xs := by
 cases c
 .exact SqL.fz (SqL.mono l.same (show SqL K (W0.fz tb) a xs from h))
 .exact SqT.fz (SqT.mono l.same (show SqT K (W0.fz tb) a xs from h))
def rm (fs : AF) : IF := λ δ μ => (fs δ μ).bind λ r => match r.1 with
 | [x, y] => (iT x).bind λ xs => (iT y).map λ ys => (⟨jV xs ys, none⟩, r.2)
 | _ => none
theorem pO {p' : Pos} {elts : List Expr} {kk : Nat} (hm : X.mg "zip" = none) (ha : PAD X tb [a, b] fs) (hg : Gl X "zip" := by rfl) (hs : starEach [a, b] X.env = [(false, eval a X.env), (false, eval b X.env)] := by rfl) (hs2 : starEach [b] X.env = [(false, eval b X.env)] := by rfl) :
  PID X tb (.Tuple elts kk p') (.Call (.Name "zip" p) [a, b] [] pos) (rm fs) :=
 Dz (Mt hg hm ha hs hs2) λ σ H R zq4 => by
  obtain ⟨W, δ, S, μ', e, ok, hd, hf, h⟩ := zq4
  unfold rm at hf
  obtain ⟨⟨zs, μ1⟩, e1, hf⟩ := Option.bind_eq_some_iff.mp hf
  match zs, e1, hf with
  | [x, y], e1, hf =>
   obtain ⟨xs, e2, hf⟩ := Option.bind_eq_some_iff.mp (show ((iT x).bind λ xs => (iT y).map λ ys => ((⟨jV xs ys, none⟩ : Src), μ1)) = some (S, μ') from hf)
   obtain ⟨ys, e3, e4⟩ := Option.map_eq_some_iff.mp hf
   cases e4
   refine ⟨W, δ, [x, y], _, e, ok, hd, e1, λ vs W1 ok1 l1 m1 d1 => ?_⟩
   obtain ⟨u, v, rfl, du, dv⟩ := aC.two d1
   obtain ⟨a1, us, rfl, q1, r1⟩ := FJ du e2
   obtain ⟨a2, ws, rfl, q2, r2⟩ := FJ dv e3
   refine ⟨a1, a2, _, _, rfl, ⟨us, mY q1 (Le.refl _)⟩, ⟨ws, mY q2 (Le.refl _)⟩, h _ W1 ok1 l1 m1 ⟨λ i W2 d l ok2 _ ei => ?_, λ i W2 l ok2 _ hi => ?_⟩⟩
   .obtain ⟨x0, y0, rfl, ex, ey⟩ := xN ei
    obtain ⟨vx, evx, dvx⟩ := aC.get (di.mono' r1 l) ex
    obtain ⟨vy, evy, dvy⟩ := aC.get (di.mono' r2 l) ey
    refine ⟨⟨⟨us, vx, mY q1 l, evx⟩, ws, vy, mY q2 l, evy⟩, λ z H' ⟨p, x', y', ez, hp, eH, hx', hy'⟩ => ?_⟩
    have ex' := hx' us (mY q1 l)
    have ey' := hy' ws (mY q2 l)
    rw [evx] at ex'; cases ex'
    rw [evy] at ey'; cases ey'
    obtain ⟨ok3, l3, e3⟩ := ok2.alloc (o := .tup [vx, vy]) hp
    refine ⟨_, eH.symm, ok3, l3, rfl, ?_⟩
    rw [ez]
    show bu _ _ _ _ _
    unfold bu
    exact ⟨p, [vx, vy], rfl, .inl (.inl e3), di.mono' (aC.cons dvx (aC.cons dvy aC.nil)) l3⟩
   .have hi' : min xs.length ys.length <= i := by rw [<- yc]; exact hi
    have l1' := aC.length r1
    have l2' := aC.length r2
    refine ⟨us, ws, mY q1 l, mY q2 l, ?_⟩
    omega
end
theorem Bf {K : PySem.W.Frag} {F : Hp} {ad : List Addr} : ∀ (ns : List Int), aC K F ad (ns.map D.int) (ns.map V.int)
 | [] => aC.nil
 | n :: ns => aC.cons (by unfold bu; rfl) (Bf ns)
theorem BW {P : Program} {w : World} {K : PySem.W.Frag} {mg mb : Str -> Option Value} {k : Nat} {fa a : Addr} {fd : FuncData} {x : Str} {s₁ : Shared} {vs : List Value} {ns : List Int} {tb : List Addr} {φ : FF} {μ' : Mu}
  (KX : K.In s₁.heap) (hns : s₁.heap.Ns mainGlobals mg) (hb : s₁.heap.Ns builtinsNs mb) (hbb : ∀ x : Str, x ≠ "__name__" -> mb x = bootBuiltins x) (hlim : s₁.heap.NoLimit)
  (hbm : ∃ bm ob, mg "__builtins__" = some (.ref bm) /\ bm ≠ builtinsNs /\ s₁.heap.get? bm = some ob /\ ob.cls = .type "module" /\ ob.dict = some builtinsNs /\ ob.data = .plain) (hg : s₁.gens = #[])
  (ha : s₁.heap.get? a = some { cls := .type "list", data := .seq vs.toArray }) (hi : IntsAre vs ns) (hl : ns.length <= sizeLine) (hr : gQ k callerA)
  (htb : ∀ P ∈ tb, ∃ c, PySem.W.CodeHd s₁.heap c P /\ s₁.heap.get? P = some (PySem.W.tabObj #[])) (hnt : PySem.W.noTabs K = true)
  (F : ∀ base : Heap, K.In base -> base.Ns mainGlobals mg -> rD P w K mg base CX0 k fa fd [x] (spD K tb 1 φ)) (hbind : ∀ (s : Shared) (u : Value), BindsTo s fd ⟨[u], []⟩ [(x, u)])
  (hsp : φ [.ro (ns.map .int)] [] = some (.bl true, μ')) :
  codeAny (model P w) callerA (.call (.ref fa) ⟨[.ref a], []⟩) (λ r s' => r = .ok (.ret (.bool true)) /\ OldK s₁.heap s'.heap /\ s'.os = s₁.os /\ AllBare s'.gens) s₁ := by
 have rv := uH hi
 have lenV := hi.length
 have hat : a ∉ tb := λ z => by
  obtain ⟨c, _, e⟩ := htb a z
  rw [ha] at e; cases e
 have hKt : ∀ P ∈ tb, K.lookup P = none := λ P hP => by
  cases q : K.lookup P with
  | none => rfl
  | some o =>
   obtain ⟨c, _, e⟩ := htb P hP
   have e2 := KX P o q
   rw [e] at e2
   cases e2
   have h2 := List.all_eq_true.mp hnt (P, _) (PySem.W.mem_of_lookupK q)
   exact absurd (show false = true from h2) Bool.false_ne_true
 have core : ∀ H : Hp, (∀ b, H b = none ∨ (b = a /\ ∃ o xs, H b = some (.frz o (.lst xs))) ∨ (b ∈ tb /\ H b = some (.tbl #[]))) -> SqL K H a (ns.map V.int) -> HOk P w H s₁.heap -> (∀ P ∈ tb, H P = some (.tbl #[])) -> (H a ≠ none -> K.lookup a = none) ->
   codeAny (model P w) callerA (.call (.ref fa) ⟨[.ref a], []⟩) (λ r s' => r = .ok (.ret (.bool true)) /\ OldK s₁.heap s'.heap /\ s'.os = s₁.os /\ AllBare s'.gens) s₁ := by
  intro H hO hS hok hT hK
  have base_of : ∀ {b : Addr} {o : Obj}, s₁.heap.get? b = some o -> H b = none -> (wR s₁.heap H).get? b = some o := λ e n => Ez e n
  have noH : ∀ {b : Addr} {o : Obj}, s₁.heap.get? b = some o -> o.cls ≠ .type "list" -> o.cls ≠ .none -> H b = none := λ {b o} e d1 d2 => by
   rcases hO b with z | ⟨rfl, _⟩ | ⟨z, _⟩
   .exact z
   .rw [ha] at e; cases e; exact absurd rfl d1
   .obtain ⟨c, _, e2⟩ := htb b z
    rw [e2] at e; cases e; exact absurd rfl d2
  have noA : ∀ {b : Addr} {o : Obj} {es : Array DictEntry} {ep : Nat}, s₁.heap.get? b = some o -> o.data = .dict es ep -> H b = none := λ {b o es ep} e d => by
   rcases hO b with z | ⟨rfl, _⟩ | ⟨z, _⟩
   .exact z
   .rw [ha] at e; cases e; cases d
   .obtain ⟨c, _, e2⟩ := htb b z
    rw [e2] at e; cases e; cases d
  have nsK : ∀ {b : Addr} {m : Str -> Option Value}, s₁.heap.Ns b m -> (wR s₁.heap H).Ns b m := λ {b m} ⟨o, es, ep, e, d, r⟩ => ⟨o, es, ep, base_of e (noA e d), d, r⟩
  have hKb : K.In (wR s₁.heap H) := λ b o e => base_of (KX b o e) (by
   rcases hO b with z | ⟨rfl, _, _, z⟩ | ⟨z, _⟩
   .exact z
   .rw [hK (by rw [z]; simp)] at e; cases e
   .rw [hKt b z] at e; cases e)
  have hM : Mod K mg (wR s₁.heap H) := ⟨hKb, nsK hns, ⟨mb, nsK hb, hbb⟩, (let ⟨mc, h1, h2⟩ := hlim; ⟨mc, nsK h1, h2⟩), (let ⟨bm, ob, h1, h2, h3, h4, r⟩ := hbm; ⟨bm, ob, h1, h2, base_of h3 (noH h3 (by rw [h4]; decide) (by rw [h4]; decide)), h4, r⟩)⟩
  have e0 : Gw P w K mg (wR s₁.heap H) callerA [] s₁ H := ⟨rfl, hM, λ b o e => Ht e, Nat.le_of_eq (Cu _ _), trivial, λ b hb => absurd (show b ∈ ([] : List Addr) from hb) (by simp), hok, .of_eq hg⟩
  have okW : WOk K tb ⟨H, [], []⟩ := ⟨rfl, λ i a ds e => by simp at e, λ i j a ds es e => by simp at e, λ P hP => ⟨#[], hT P hP, TOk.nil⟩⟩
  have nlive : ∀ b, ¬ oh ([] : List Addr) ([] : Mu) b := λ b ⟨i, ds, e, _⟩ => by simp at e
  have fzA : Wd.fz tb ⟨H, [], []⟩ a = H a := pR (W := ⟨H, [], []⟩) (nlive a) hat
  have hden : Den K tb ⟨H, [], []⟩ (.ro (ns.map .int)) (.ref a) := by
   show bu _ _ _ _ _
   unfold bu
   refine ⟨a, _, rfl, ?_, Bf ns⟩
   rcases hS with (h | ⟨o, h⟩) | h
   .exact .inl (.inl (fzA.trans h))
   .exact .inl (.inr ⟨o, fzA.trans h⟩)
   .exact .inr h
  refine codeAny_mono ((F _ hKb (nsK hns)).run callerA [] s₁ H ⟨[.ref a], []⟩ [.ref a] [.ref a] (λ v _ => v = .bl true) (λ _ _ _ => False) hr e0 (hbind s₁ (.ref a)) (.cons rfl .nil)
   ⟨⟨H, [], []⟩, [.ro (ns.map .int)], _, _, rfl, okW, aC.cons hden aC.nil, rfl, hsp, λ v W' _ _ _ dv => jy dv⟩) λ r s' h => ?_
  cases r with
  | error e => exact False.elim h
  | ok fl =>
   cases fl with
   | next => exact False.elim h
   | brk => exact False.elim h
   | cont => exact False.elim h
   | ret u =>
    obtain ⟨v, H', os, bare, un, hok', r', q⟩ := h
    have q' : v = .bl true := q
    subst q'
    obtain rfl : u = Value.bool true := r'
    have old : ∀ b o, s₁.heap.get? b = some o -> asItWas s₁.heap s'.heap b o /\ ∃ o', s'.heap.get? b = some o' := λ b o e => by
     rcases hO b with z | ⟨rfl, ob, xs, z⟩ | ⟨hb, z⟩
     .have := un.keep b o e z (by intro z; exact absurd (show b ∈ ([] : List Addr) from z) (by simp)) (by simp)
      exact ⟨.inl this, o, this⟩
     .have z2 := un.frzs b ob _ z
      obtain ⟨e1, _⟩ := hok b _ z
      obtain ⟨e2, _⟩ := hok' b _ z2
      rw [e] at e1; cases e1
      exact ⟨.inl e2, _, e2⟩
     .obtain ⟨more, z2⟩ := un.tbls b _ z
      have e2 := hok' b _ z2
      obtain ⟨c, hd, hp⟩ := htb b hb
      rw [hp] at e; cases e
      have e3 : s'.heap.get? b = some { cls := .none, data := .fields (#[] ++ more) } := e2
      exact ⟨.inr (.inl ⟨(hd.tab hp).isCodeTable, rfl, #[], more, rfl, e3⟩), _, e3⟩
    exact ⟨rfl, ⟨λ b o e => (old b o e).1, λ b o e => (old b o e).2⟩, os, bare.bare⟩
 have tbOk : ∀ {H : Hp} {b : Addr}, b ∈ tb -> jJ P w H s₁.heap b (.tbl #[]) := λ {H b} hb => by
  obtain ⟨c, _, e⟩ := htb b hb
  exact e
 classical
 cases hk : K.lookup a with
 | some o =>
  have e := KX a o hk
  rw [ha] at e
  cases e
  refine core (λ b => if b ∈ tb then some (.tbl #[]) else none) (λ b => ?_) (.inr ⟨_, vs.toArray, _, hk, rfl, rfl, rfl, by rw [List.size_toArray, lenV]; exact hl, by simpa using rv⟩) (λ b u z => ?_) (λ P hP => if_pos hP) λ z => absurd (if_neg hat) z
  .by_cases hb : b ∈ tb
   .exact .inr (.inr ⟨hb, if_pos hb⟩)
   .exact .inl (if_neg hb)
  .by_cases hb : b ∈ tb
   .have z' := (if_pos hb).symm.trans z
    cases z'
    exact tbOk hb
   .have z' := (if_neg hb).symm.trans z
    cases z'
 | none =>
  refine core (λ b => if b = a then some (.frz { cls := .type "list", data := .seq vs.toArray } (.lst (ns.map V.int))) else if b ∈ tb then some (.tbl #[]) else none) (λ b => ?_) (.inl (.inr ⟨{ cls := .type "list", data := .seq vs.toArray }, if_pos rfl⟩)) (λ b u z => ?_) (λ P hP => ?_) λ _ => hk
  .by_cases hb : b = a
   .exact .inr (.inl ⟨hb, _, _, if_pos hb⟩)
   .by_cases hb' : b ∈ tb
    .exact .inr (.inr ⟨hb', (if_neg hb).trans (if_pos hb')⟩)
    .exact .inl ((if_neg hb).trans (if_neg hb'))
  .by_cases hb : b = a
   .have z' := (if_pos hb).symm.trans z
    cases z'
    subst hb
    exact ⟨ha, by rw [List.length_map]; exact hl, vs, _, rv, ha⟩
   .have z1 := (if_neg hb).symm.trans z
    by_cases hb' : b ∈ tb
    .have z' := (if_pos hb').symm.trans z1
     cases z'
     exact tbOk hb'
    .have z' := (if_neg hb').symm.trans z1
     cases z'
  .have hne : P ≠ a := λ z => hat (z ▸ hP)
   exact (if_neg hne).trans (if_pos hP)
theorem Ed {l : PySem.W.OpenLaw} {n k : Nat} {q : Program} {loose : List Str} {XP : (Str -> Option Value) -> Heap -> Prop} {YP : World -> Heap -> Prop} {d : DefRec} {K : Params -> PySem.W.Frag} {x : Str} {φ : FF}
  (hn : l.most = some n) (hn2 : n <= sizeLine) (hdf : d.params.defaults = []) (hr : gQ k callerA)
  (hY : ∀ (w : World) (h : Heap), YP w h -> (K w.params).In h)
  (F : ∀ (w : World) (mg mb : Str -> Option Value) (mean : ExcName -> Option Value) (lo : List Str) (fa : Addr) (h : Heap), (K w.params).In h -> Top q lo mean mg mb h -> mg d.name = some (.ref fa) ->
   ∃ (fd : FuncData) (tb : List Addr), (∀ (s : Shared) (u : Value), BindsTo s fd ⟨[u], []⟩ [(x, u)]) /\ (∀ P ∈ tb, ∃ c, PySem.W.CodeHd h c P /\ h.get? P = some (PySem.W.tabObj #[])) /\ PySem.W.noTabs (K w.params) = true /\
    ∀ base : Heap, (K w.params).In base -> base.Ns mainGlobals mg -> rD l.prog w (K w.params) mg base CX0 k fa fd [x] (spD (K w.params) tb 1 φ))
  (hsp : ∀ (ns : List Int), ns.length <= n -> ∃ μ', φ [.ro (ns.map .int)] [] = some (.bl true, μ')) :
  PySem.W.WalkO q loose XP YP l.row.toRowW d [] (λ f vs => PySem.call f vs) := by
 refine Att.attach_call hn hdf λ w s₀ s₁ mg mb fa o pm cd doc a vs ns G Y ho hd hcd hmg hobj hints hlen hg => ?_
 have KX := hY w _ Y
 obtain ⟨fd, tb, hb, htb, hnt, hF⟩ := F w mg mb _ _ fa _ KX G.T hmg
 obtain ⟨μ', hs⟩ := hsp ns hlen
 exact BW KX G.T.g G.T.b G.T.builtins G.T.nolimit G.T.bmain hg hobj hints (Nat.le_trans hlen hn2) hr htb hnt hF hb hs
end L3
namespace L2
open PySem PySem.Spec PyProof.Rows
section
variable {X : Cx} {tg iter elt : Expr} {ifs : List Expr} {wi : TI} {g : TG} {tt : TT} {te : TE} {own cap : List Str} {capI : List Nat} {scope : Scope} {pos : Pos}
theorem Jy {i₀ : Nat} {x₀ : Str} {px₀ spos : Pos} (hN : X.N.Nodup) (hi₀ : X.N[i₀]? = some x₀) (hx₀ : Loc X.env.scope x₀) (hc : X.calm = true) (B : gw X own cap capI scope) (hown : ∀ x ∈ own, (x, NameKind.free) ∉ scope.names) (hi : PI X tg iter wi)
  (hg : ∀ cs C fp s2 H2, PG (dD X own cap scope cs C fp s2 H2) tg g) (ht : ∀ cs C fp s2 H2, PIf (dD X own cap scope cs C fp s2 H2) ifs tt) (he : ∀ cs C fp s2 H2, PE (dD X own cap scope cs C fp s2 H2) elt te)
  (hs : ∀ x, foldedSetIterable iter X.env x = pure x := by intro _; rfl) (hsw : swapsWith (.ListComp elt [⟨tg, iter, ifs, 0⟩] scope pos) (some (.Name x₀ px₀)) spos.line X.env = pure true := by rfl)
  (hf₀ : X.fn x₀ = true ∨ X.env.scope.names.lookup x₀ = some .local := by first | exact .inl rfl | exact .inr rfl | assumption) :
  PS X (.Assign [.Name x₀ px₀] (.ListComp elt [⟨tg, iter, ifs, 0⟩] scope pos) spos) (Nq (tLC own capI wi g tt te) (Ff i₀)) := by
 intro pins s σ H D I h
 rw [exec_Assign_Name_used _ _ _ _ hsw]
 refine wpAny_bind (wpAny_standAt (wpAny_bind ?_))
 show wpAny _ X.A (do let _ <- comprehension (.ListComp elt [⟨tg, iter, ifs, 0⟩] scope pos) scope X.env _ (newList []) false (eval iter X.env) (some (assign (.Name x₀ px₀) X.env))) _ _ s
 refine wpAny_bind (wpAny_mono (wpAny_comprehension_free (use := some (assign (.Name x₀ px₀) X.env)) (Q := λ _ s' => SP X pins D .next s') (cl := cV X.env scope.names []) rfl hs (kZ (B.cells I)) B.kind (λ y hy e => eG B.nd (by rw [<- e]; exact hy)) ?_) (λ _ s' hq => wpAny_pure (wpAny_pure hq)) λ _ _ e => e)
 refine thn (hi pins s σ H _ I h) λ v s1 h1 => thn h1 λ itv s2 h2 => ?_
 obtain ⟨it, fp, tn, J, H2, e, I2, T, st2, f2, W, ⟨m0, w0⟩, turn⟩ := h2
 subst e
 refine wpAny_newObj_type (oK ?_)
 dsimp only
 generalize hl : s2.heap.objs.size = l
 generalize hh0 : s2.heap.push { cls := .type "list", dict := none, data := .seq ([] : List Value).toArray } = h0
 have hsz0 : h0.objs.size = l + 1 := by rw [<- hh0, Heap.size_push, hl]
 generalize hC : h0.objs.size = C
 generalize hh1 : pushCells (h0.push { cls := .type (if (some X.env).isSome = true then "dict" else "frame"), data := .dict #[] }) scope.names = h1
 have hl0 : h0.get? l = some (bN [] 0) := by rw [<- hh0, <- hl]; exact Heap.get?_push_size _ rfl
 have hk0 : ∀ b o, s2.heap.get? b = some o -> h0.get? b = some o := λ b o e => by rw [<- hh0]; exact Heap.get?_push_of_some _ e
 have hlC : l ≠ C := by rw [<- hC, hsz0]; exact Nat.ne_of_lt (Nat.lt_succ_self _)
 have hls : s2.heap.objs.size <= l := Nat.le_of_eq hl
 have hCs : s2.heap.objs.size <= C := by rw [<- hC, hsz0, hl]; exact Nat.le_succ _
 have ho2 : ∀ b ∈ fp, ∃ o, s2.heap.get? b = some o := λ b hb => let ⟨o, e, _⟩ := T.obj 0 _ st2 b hb; ⟨o, e⟩
 have hfl : ∀ b ∈ fp, b ≠ l /\ b ≠ C := λ b hb => let ⟨o, e⟩ := ho2 b hb; ⟨Nat.ne_of_lt (Nat.lt_of_lt_of_le (Heap.lt_size e) hls), Nat.ne_of_lt (Nat.lt_of_lt_of_le (Heap.lt_size e) hCs)⟩
 have hl1 : h1.get? l = some (bN [] 0) := by rw [<- hh1]; exact pushCells_keeps _ _ _ _ (Heap.get?_push_of_some _ hl0)
 have keep1 : ∀ b o, s2.heap.get? b = some o -> h1.get? b = some o := λ b o e => by rw [<- hh1]; exact pushCells_keeps _ _ _ _ (Heap.get?_push_of_some _ (hk0 b o e))
 generalize hcs : cellsFrom (C + 1) scope.names (cV X.env scope.names []) = cs
 have I0 : Inv (dD X own cap scope cs C fp s2 H2) [] (cU own σ capI) H2 { s2 with heap := h1 } := by
  have q := I2.comp (tk := s2.toks) B hown f2 ho2 hk0 (by rw [hsz0, hl]; exact Nat.le_succ _) hC.symm hh1.symm
  rw [hcs] at q
  exact q
 have henv : (newEnv scope C X.env.globals cs X.env.qual none .none (some X.env) builtinsNs) = { compEnvC scope cs C X.env with scope := scope } := rfl
 have henv2 : ({ newEnv scope C X.env.globals cs X.env.qual none .none (some X.env) builtinsNs with scope := relabel scope X.env } : Env) = (dD X own cap scope cs C fp s2 H2).env := rfl
 generalize hX' : dD X own cap scope cs C fp s2 H2 = X' at I0 henv2
 have eP : X'.prog = X.prog := by rw [<- hX']; rfl
 have eW : X'.w = X.w := by rw [<- hX']; rfl
 have eK : X'.K = X.K := by rw [<- hX']; rfl
 have eA : X'.A = X.A := by rw [<- hX']; rfl
 have eFs : X'.fs = frs X.stack := by rw [<- hX']; rfl
 have eEx : X'.ex = fp := by rw [<- hX']; rfl
 have eS : X'.s₀ = s2 := by rw [<- hX']; rfl
 have eH : X'.H₀ = H2 := by rw [<- hX']; rfl
 have eL : X'.env.locals = C := by rw [<- hX']; rfl
 have eC : X'.calm = true := by rw [<- hX']; exact hc
 have eX : X'.xe = λ _ _ => False := by rw [<- hX']; rfl
 have ePn : X'.pn = [] := by rw [<- hX']; rfl
 have hg' : PG X' tg g := by rw [<- hX']; exact hg cs C fp s2 H2
 have ht' : PIf X' ifs tt := by rw [<- hX']; exact ht cs C fp s2 H2
 have he' : PE X' elt te := by rw [<- hX']; exact he cs C fp s2 H2
 have stat : ∀ {H' : Hp} {P : List (Addr × Obj)}, X'.Ok -> (∀ b ∈ fp, H' b = none) -> (∀ p ∈ P, p.1 = l) -> ∀ b ∈ fp, mz X' P H' b := λ {H' P} ok hn hP b hb => by
  refine ⟨hn b hb, ?_, ?_, .inl (by rw [eEx]; exact hb), ?_, λ p hp => ?_⟩
  .exact (ok.exf b (by rw [eEx]; exact hb)).1
  .exact ok.exfs b (by rw [eEx]; exact hb)
  .exact (ok.exf b (by rw [eEx]; exact hb)).2
  .rw [ePn, List.nil_append] at hp
   rw [hP p hp]
   exact Ne.symm (hfl b hb).1
 have lfs : X'.Ok -> l ∉ X'.fs := λ ok hz => by
  rw [eFs] at hz
  exact (Inv.nofs (X := X) I2 hls) ((List.mem_cons.mp (I2.stkSub l hz)).elim (λ z => absurd I2.lt (by rw [<- z, hl]; exact Nat.lt_irrefl _)) id)
 have pinL : ∀ {σ' : St} {H' : Hp} {s' : Shared} {us : List Value} {k : Nat}, Inv X' [] σ' H' s' -> s'.heap.get? l = some (bN us k) -> H' l = none -> Inv X' [(l, bN us k)] σ' H' s' := λ {σ' H' s' us k} I' e n =>
  I'.pins_of λ p hp => by
   obtain rfl : p = (l, bN us k) := by simpa using hp
   exact ⟨e, n, by rw [eL]; exact hlC, lfs I'.ok, λ v z => by cases z⟩
 have loop : ∀ s3 : Shared, s3 = { s2 with heap := h1 } -> codeAny (model X.prog X.w) X.A (.compLoop (.ListComp elt [⟨tg, iter, ifs, 0⟩] scope pos) 0 (.ref it) (.ref l) X'.env) (compPost (model X.prog X.w) X.A X.xe (some (assign (.Name x₀ px₀) X.env)) (λ _ s' => SP X pins D .next s') (.ref l) C) s3 := by
  rintro s3 rfl
  refine vo (E' := λ _ _ => False) (λ n s' => ∃ i ys us k H', Inv X' [] (cU own σ capI) H' s' /\ tn i s'.heap /\ (∀ b ∈ fp, H' b = none) /\ W i n ys H' /\ Vals ys us /\ s'.heap.get? l = some (bN us k) /\ H' l = none /\ ys.length <= sizeLine) (λ _ _ z => z.elim) ?_ m0
   ⟨0, [], [], 0, H2, I0, T.keep _ _ _ st2 λ b _ o e => keep1 b o e, λ b hb => (f2 b hb).1, w0, .nil, hl1, I2.hok.fresh hls, Nat.zero_le _⟩
  rintro n s3 ⟨i, ys, us, k, H3, I3, st3, fr3, w3, v3, o3, n3, z3⟩
  have I3p := pinL I3 o3 n3
  have P1 : ∀ p ∈ [(l, bN us k)], p.1 = l := λ p hp => by
   obtain rfl : p = (l, bN us k) := by simpa using hp
   rfl
  rcases turn i n ys H3 w3 with ⟨stop, qn⟩ | ⟨go, hlt, step⟩
  .have q := T.done X' eP eW eK eC i _ s3 _ H3 (λ _ _ => False) I3p (stat I3.ok fr3 P1) st3 stop
   rw [eA] at q
   refine wpAny_mono q (λ r s4 ⟨hr, I4⟩ => ?_) λ _ _ z => z
   subst hr
   have pl := I4.pin (l, bN us k) (by simp)
   obtain ⟨m4, hn4, _⟩ := I4.loc
   rw [eL] at hn4
   have fC : H3 C = none := by have := I4.free; rw [eL] at this; exact this
   have IE : Inv X pins σ (upd H3 l (.lst ys)) s4 := by
    have := I2.compEnd f2 eP eW eFs eEx eS eH eL I4 hls hlC hCs pl.1 n3 v3 z3 (Heap.SameBut.refl C s4.heap)
    exact this
   show wpAny _ X.A (assign (.Name x₀ px₀) X.env (.ref l)) _ _ s4
   refine wpAny_assign_Name (uG IE hN hi₀ hx₀ (v := .ref l) rfl (λ s5 I5 ⟨a, sa, ha⟩ => ?_) hf₀)
   have hnL : C ≠ X.env.locals := Nat.ne_of_gt (Nat.lt_of_lt_of_le I2.lt hCs)
   have hnc : ∀ y c, X.env.cells.lookup y = some c -> c ≠ C := λ y c e => by
    obtain ⟨v, q⟩ := I2.cell y c e
    exact Nat.ne_of_lt (Nat.lt_of_lt_of_le q.lt hCs)
   have haC : C ≠ a := by
    rcases ha with q | q
    .rw [q]; exact hnL
    .exact Ne.symm (hnc _ _ q)
   obtain ⟨o4, es4, ep4, ho4, r4⟩ := hn4
   refine ⟨m4, ⟨o4, es4, ep4, (sa.2 C haC).trans ho4, r4⟩, λ h' sb => ⟨_, _, ?_, qn l n3⟩⟩
   refine I5.turned (t' := s5.toks) (it := C) (λ b o hb e => (sb.2 b hb).trans e) (by rw [aV (Ne.symm hlC)]; exact fC) hnL (.inr (Nat.le_trans I2.sz hCs)) hnc λ p hp => ?_
   exact Nat.ne_of_lt (Nat.lt_of_lt_of_le (Heap.lt_size (I2.pin p hp).1) hCs)
  .have q := T.item X' eP eW eK eC i _ s3 _ H3 (λ _ _ => False) I3p (stat I3.ok fr3 P1) st3 go
   rw [eA] at q
   refine wpAny_mono q (λ r s4 ⟨u, hr, h4⟩ => ?_) λ _ _ z => z
   subst hr
   refine wpAny_mono h4 (λ _ s5 ⟨x, H5, I5, r5, y5, st5, fr5⟩ => ?_) λ _ _ z => z
   have I5' := I5.pinned (stat I5.ok fr5 P1) (T.obj _ _ st5)
   have a1 := hg' _ s5 _ H5 x u _ I5' r5 (step x H5 y5)
   rw [eP, eW, eA, eX] at a1
   refine wpAny_mono a1 (λ _ s6 ⟨σ6, H6, I6, ft6, q6⟩ => ?_) λ _ _ z => z
   have a2 := ht' _ s6 σ6 H6 _ I6 q6
   rw [eP, eW, eA, eX] at a2
   refine wpAny_mono a2 (λ ok s7 ⟨H7, I7, q7⟩ => ?_) λ _ _ z => z
   have back : ∀ {H8 : Hp} {s8 : Shared}, Inv X' ([(l, bN us k)] ++ qM fp s5.heap) σ6 H8 s8 -> Inv X' [] (cU own σ capI) H8 s8 /\ tn (i + 1) s8.heap /\ (∀ b ∈ fp, H8 b = none) /\ s8.heap.get? l = some (bN us k) /\ H8 l = none := λ {H8 s8} I8 => by
    have pl := I8.pin (l, bN us k) (by simp)
    refine ⟨(I8.weak ft6.1.symm ft6.2).pins_of λ p hp => absurd hp (by simp), T.keep _ _ _ st5 λ b hb o e => ?_, λ b hb => ?_, pl.1, pl.2.1⟩
    .exact (I8.pin (b, o) (List.mem_append_right _ (List.mem_append_right _ (fZ hb e)))).1
    .obtain ⟨o, e, d⟩ := T.obj _ _ st5 b hb
     exact (I8.pin (b, o) (List.mem_append_right _ (List.mem_append_right _ (fZ hb e)))).2.1
   cases ok with
   | false =>
    rw [if_neg Bool.false_ne_true]
    rw [if_neg Bool.false_ne_true] at q7
    obtain ⟨m', hm, w7⟩ := q7
    obtain ⟨I8, st8, fr8, o8, n8⟩ := back I7
    exact ⟨m', hm, i + 1, ys, us, k, H7, I8, st8, fr8, w7, v3, o8, n8, z3⟩
   | true =>
    rw [if_pos rfl]
    rw [if_pos rfl] at q7
    have a3 := he' _ s7 σ6 H7 _ I7 q7
    rw [eP, eW, eA, eX] at a3
    refine wpAny_mono a3 (λ yv s8 ⟨y, H8, I8', r8, m', hm, w8⟩ => ?_) λ _ _ z => z
    obtain ⟨I8, st8, fr8, o8, n8⟩ := back I8'
    refine append_at (hsz := by show us.toArray.size <= sizeLine; rw [List.size_toArray, <- v3.length]; exact z3) o8 λ h9 sb9 o9 => ?_
    have I9 : Inv X' [] (cU own σ capI) H8 { s8 with heap := h9 } := I8.turned (t' := s8.toks) (λ b o hb e => (sb9.2 b hb).trans e) n8 (by rw [eL]; exact hlC) (.inr (by rw [eS]; exact hls)) (λ x c e => by
     rintro rfl
     obtain ⟨v', ho', hd', hd''⟩ := I8.cell x c e
     rw [o8] at hd'
     cases hd'
     cases hd'') (λ p hp => by rw [ePn] at hp; exact absurd hp (by simp))
    refine ⟨m', hm, i + 1, ys ++ [y], us ++ [yv], k + 1, H8, I9, T.keep _ _ _ st8 λ b hb o e => (sb9.2 b (hfl b hb).1).trans e, fr8, w8, v3.append (.cons r8 .nil), ?_, n8, ?_⟩
    .rw [o9]
     simp [bN]
    .rw [List.length_append]
     exact hlt
 have T0 := T.keep 0 s2.heap h1 st2 λ b _ o e => keep1 b o e
 rw [henv2]
 exact codeAny_compStart_list (loop _ rfl) (T.self X.A 0 _ _ _ T0 (loop _ rfl))
end
end L2
namespace L3
open PySem PySem.Spec PyProof.Rows L2
section
variable {X : Cx} {tb : List Addr} {e tg iter elt : Expr} {f : EF} {pos : Pos}
theorem Ba {fi : IF} {h : GF} {tt : TF} {fe : EF} {own : List Str} {capI ts : List Nat} {σ : SV} {H : Hp} {Q : VK} (hts : ∀ i ∈ ts, i < own.length) (hx : tDN X.K tb (lLC own capI fi h tt fe) σ H Q) :
  tLC own capI (tDI X.K tb fi) (tDG X.K tb ts h) (tDT X.K tb tt) (tD X.K tb fe) σ H Q := by
  obtain ⟨W, δ, ds, μ', e, ok, hd, hf, k⟩ := hx
  unfold lLC at hf
  obtain ⟨⟨S, μ1⟩, e1, e2⟩ := Option.bind_eq_some_iff.mp hf
  split at e2
  .rename_i hz
   refine ⟨W, δ, S, μ1, e, ok, hd, e1, λ J W1 ok1 l1 m1 io => ?_⟩
   refine ⟨λ i m ys H2 => m = S.items.length - i /\ i <= S.items.length /\ ys.length <= i /\ ∃ W2 zs rs, W2.H = H2 /\ WOk X.K tb W2 /\ Le tb W1 W2 /\ di X.K tb W2 zs ys /\ lcL S h tt fe (cT own δ capI) (S.items.drop i) W2.mu = some (rs, μ') /\ zs ++ rs = ds,
    ⟨S.items.length, rfl, Nat.zero_le _, Nat.zero_le _, W1, [], ds, rfl, ok1, Le.refl _, aC.nil, by rw [m1]; exact e2, rfl⟩, ?_⟩
   rintro i m ys H2 ⟨hm, hi', hy, W2, zs, rs, rfl, ok2, l2, d2, hn, hzs⟩
   by_cases hlt : i < S.items.length
   .right
    have hdr : S.items.drop i = S.items[i] :: S.items.drop (i + 1) := List.drop_eq_getElem_cons hlt
    rw [hdr] at hn
    unfold lcL at hn
    split at hn
    .rename_i hok
     obtain ⟨δ3, e3, hn⟩ := Option.bind_eq_some_iff.mp hn
     obtain ⟨⟨kk, μ4⟩, e4, hn⟩ := Option.bind_eq_some_iff.mp hn
     obtain ⟨go, yl⟩ := io.go i W2 S.items[i] l2 ok2 hok (by simp [hlt])
     refine ⟨go, Nat.lt_of_lt_of_le (Nat.lt_of_le_of_lt hy hlt) hz, λ x H' y => ?_⟩
     obtain ⟨W3, rfl, ok3, l3, m3, d3⟩ := yl x H' y
     refine ⟨W3, cT own δ capI, S.items[i], δ3, rfl, ok3, (wy hd).mono' ((l1.trans l2).trans l3), d3, (by rw [m3]; exact e3), λ σ3 d3' hl3 ht3 => ⟨fits_of hts hl3 ht3, ?_⟩⟩
     refine ⟨W3, δ3, kk, μ4, rfl, ok3, d3', (by rw [m3]; exact e4), λ W4 ok4 l4 m4 => ?_⟩
     cases kk with
     | false =>
      rw [if_neg Bool.false_ne_true]
      exact ⟨S.items.length - (i + 1), by omega, rfl, hlt, by omega, W4, zs, rs, rfl, ok4, (l2.trans l3).trans l4, di.mono' d2 (l3.trans l4), by rw [m4]; exact hn, hzs⟩
     | true =>
      rw [if_pos rfl]
      have hn' : ((fe δ3 μ4).bind λ y => (lcL S h tt fe (cT own δ capI) (S.items.drop (i + 1)) y.2).bind λ ys => some (y.1 :: ys.1, ys.2)) = some (rs, μ') := hn
      obtain ⟨⟨yd, μ5⟩, e5, hn'⟩ := Option.bind_eq_some_iff.mp hn'
      obtain ⟨⟨rs', μ6⟩, e6, e7⟩ := Option.bind_eq_some_iff.mp hn'
      cases e7
      refine ⟨W4, δ3, yd, μ5, rfl, ok4, d3'.mono' l4, (by rw [m4]; exact e5), λ v W5 ok5 l5 m5 d5 => ?_⟩
      refine ⟨S.items.length - (i + 1), by omega, rfl, hlt, by rw [List.length_append]; simp; omega, W5, zs ++ [yd], rs', rfl, ok5, ((l2.trans l3).trans l4).trans l5, aC.append (di.mono' d2 ((l3.trans l4).trans l5)) (aC.cons d5 aC.nil), by rw [m5]; exact e6, by rw [List.append_assoc]; exact hzs⟩
    .cases hn
   .left
    have hdr : S.items.drop i = [] := List.drop_of_length_le (by omega)
    rw [hdr] at hn
    unfold lcL at hn
    split at hn
    .rename_i hok
     cases hn
     rw [List.append_nil] at hzs
     subst hzs
     exact ⟨io.stop i W2 l2 ok2 hok (by omega), λ l hl => k l ys W2 ok2 (l1.trans l2) rfl hl d2⟩
    .cases hn
  .cases e2
theorem HS {i : Nat} {x : Str} {px spos : Pos} {ifs : List Expr} {fi : IF} {h : GF} {tt : TF} {fe : EF} {own cap : List Str} {capI ts : List Nat} {scope : Scope} (hN : X.N.Nodup) (hc : X.calm = true) (B : gw X own cap capI scope) (hown : ∀ x ∈ own, (x, NameKind.free) ∉ scope.names) (hi : PID X tb tg iter fi)
  (hg : ∀ cs C fp s2 H2, PGD (dD X own cap scope cs C fp s2 H2) tb tg ts h) (ht : ∀ cs C fp s2 H2, DK (dD X own cap scope cs C fp s2 H2) tb ifs tt) (he : ∀ cs C fp s2 H2, PD (dD X own cap scope cs C fp s2 H2) tb elt fe)
  (hts : ∀ i ∈ ts, i < own.length := by decide) (hs : ∀ x, foldedSetIterable iter X.env x = pure x := by intro _; rfl) (hi₀ : X.N[i]? = some x := by rfl) (hx₀ : Loc X.env.scope x := by first | exact Or.inl rfl | exact Or.inr rfl)
  (hsw : swapsWith (.ListComp elt [⟨tg, iter, ifs, 0⟩] scope pos) (some (.Name x px)) spos.line X.env = pure true := by rfl)
  (hf₀ : X.fn x = true ∨ X.env.scope.names.lookup x = some .local := by first | exact .inl rfl | exact .inr rfl | assumption) :
  PSD X tb (.Assign [.Name x px] (.ListComp elt [⟨tg, iter, ifs, 0⟩] scope pos) spos) (bz i (mFz (lLC own capI fi h tt fe))) :=
 kh (Jy (g := tDG X.K tb ts h) (tt := tDT X.K tb tt) (te := tD X.K tb fe) hN hi₀ hx₀ hc B hown hi hg ht he hs hsw hf₀) λ E σ H zq1 => by
  obtain ⟨W, δ, fl, δ', μ', e, ok, hd, hf, k⟩ := zq1
  unfold bz at hf
  obtain ⟨⟨d, μ1⟩, e1, e2⟩ := Option.bind_eq_some_iff.mp hf
  cases e2
  unfold mFz at e1
  obtain ⟨⟨ds, μ2⟩, e3, e4⟩ := Option.bind_eq_some_iff.mp e1
  cases e4
  refine Ba hts ⟨W, δ, ds, _, e, ok, hd, e3, λ p vs W1 ok1 l1 m1 hp r => ?_⟩
  exact jB (Q := λ v H => E.nx (σ.set i (some v)) H) ok1 (λ v W' ok' l' m' d' => k _ W' ok' (l1.trans l') (m'.trans m1) ((hd.mono' (l1.trans l')).set d')) r hp
theorem Il {i : Nat} {x : Str} {px spos : Pos} {ifs : List Expr} {fi : IF} {h : GF} {tt : TF} {fe : EF} {own cap : List Str} {capI ts : List Nat} {scope : Scope} (hN : X.N.Nodup) (hc : X.calm = true) (B : gw X own cap capI scope) (hown : ∀ x ∈ own, (x, NameKind.free) ∉ scope.names) (hi : PID X tb tg iter fi)
  (hg : ∀ cs C fp s2 H2, PGD (dD X own cap scope cs C fp s2 H2) tb tg ts h) (ht : ∀ cs C fp s2 H2, DK (dD X own cap scope cs C fp s2 H2) tb ifs tt) (he : ∀ cs C fp s2 H2, PD (dD X own cap scope cs C fp s2 H2) tb elt fe)
  (hts : ∀ i ∈ ts, i < own.length := by decide) (hs : ∀ x, foldedSetIterable iter X.env x = pure x := by intro _; rfl) (hi₀ : X.N[i]? = some x := by rfl) (hx₀ : Loc X.env.scope x := by first | exact Or.inl rfl | exact Or.inr rfl)
  (hsw : swapsWith (.ListComp elt [⟨tg, iter, ifs, 0⟩] scope pos) (some (.Name x px)) spos.line X.env = pure true := by rfl)
  (hf₀ : X.fn x = true ∨ X.env.scope.names.lookup x = some .local := by first | exact .inl rfl | exact .inr rfl | assumption) :
  PSD X tb (.Assign [.Name x px] (.ListComp elt [⟨tg, iter, ifs, 0⟩] scope pos) spos) (bz i (oA (lLC own capI fi h tt fe))) :=
 kh (Jy (g := tDG X.K tb ts h) (tt := tDT X.K tb tt) (te := tD X.K tb fe) hN hi₀ hx₀ hc B hown hi hg ht he hs hsw hf₀) λ E σ H zq2 => by
  obtain ⟨W, δ, fl, δ', μ', e, ok, hd, hf, k⟩ := zq2
  unfold bz at hf
  obtain ⟨⟨d, μ1⟩, e1, e2⟩ := Option.bind_eq_some_iff.mp hf
  cases e2
  unfold oA at e1
  obtain ⟨⟨ds, μ2⟩, e3, e4⟩ := Option.bind_eq_some_iff.mp e1
  cases e4
  refine Ba hts ⟨W, δ, ds, μ2, e, ok, hd, e3, λ p vs W1 ok1 l1 m1 hp r => ?_⟩
  obtain ⟨ok2, l2, d2⟩ := ok1.new hp r
  exact k _ _ ok2 (l1.trans l2) (by show W1.mu ++ [some ds] = _; rw [m1]) ((hd.mono' (l1.trans l2)).set (by rw [<- m1]; exact d2))
end
theorem GP {P : Program} {w : World} {K : PySem.W.Frag} {mg : Str -> Option Value} {base : Heap} {tb : List Addr} {x qual : Str} {st : Stmt} {f : Addr} {fd : FuncData} {T : Addr} {N ps : List Str} {n k : Nat} {g : SF} (F : fK K x qual st f fd T) (KB : K.In base) (S : bh N ps (aP st)) (hps : ps.length = n)
  (hbody : ∀ (c : Addr) (A : Around) (outer : List Env) (s : Shared) (H : Hp) (E : XK), PySem.W.CodeHd base c T -> gQ k (A.deeper (envOfC qual (aP st) s.heap.objs.size f (.ref c))) ->
   uw (zP CX0 P w K mg base N qual (aP st) f (.ref c) A outer s H E).nox tb (jE st) g) : rD P w K mg base CX0 (k + 1) f fd ps (spD K tb n (aJ N.length g)) := by
 obtain ⟨oc, od, kV, doc, pm, an, c, ct, osl, rfl, lk, hcd, hhd⟩ := F.ex
 refine JZ lk hcd S (λ vs H Q E ⟨W, ds, d, μ', e, ok, dl, hl, _⟩ => by rw [<- aC.length dl, hl, hps]) λ A outer s H vs Q E hr hsp => ?_
 obtain ⟨W, ds, d, μ', e, ok, dl, hl, hf, k⟩ := hsp
 refine ⟨_, (hbody c A outer s H E (hhd base KB) hr).nox, ?_⟩
 unfold aJ at hf
 obtain ⟨⟨fl, δ', μ1⟩, e1, e2⟩ := Option.bind_eq_some_iff.mp hf
 refine ⟨W, _, fl, δ', μ1, e, ok, ?_, e1, λ σ' W' ok' l' m' d' => ?_⟩
 .have hlen := aC.length dl
  refine ⟨by unfold L2.start; simp [hlen], λ i y q => ?_⟩
  unfold L2.start
  by_cases hi : i < ds.length
  .rw [List.getElem?_append_left (by simpa using hi), List.getElem?_map] at q
   cases q2 : ds[i]? with
   | none => rw [q2] at q; cases q
   | some z =>
    rw [q2] at q
    cases q
    obtain ⟨v, ev, dv⟩ := aC.get dl q2
    exact ⟨v, by rw [List.getElem?_append_left (by rw [List.length_map, <- hlen]; exact hi), List.getElem?_map, ev]; rfl, dv⟩
  .rw [List.getElem?_append_right (by simpa using hi), List.getElem?_replicate] at q
   split at q <;> cases q
 .cases fl with
  | nx => cases e2; exact k .non W' ok' l' m' wC
  | rt d0 => cases e2; exact λ v dv => k v W' ok' l' m' dv
  | bk => cases e2
  | ct => cases e2
def wF (vs : Array Value) : Bool := (match vs.getD 18 .none with | .str _ _ => true | _ => false) && (match vs.getD 7 .none with | .int _ _ => true | _ => false) &&
 (match vs.getD 9 .none with | .bool _ => true | _ => false) && (match vs.getD 10 .none with | .int _ _ => true | _ => false)
theorem Cq {K : PySem.W.Frag} {c P : Addr} {dd : Option Addr} {vs : Array Value} {sl : Array (Option Value)} (lc : K.lookup c = some ⟨.type "code", dd, .fields vs, sl⟩) (p : vs[11]? = some (.ref P)) (q : wF vs = true) (ne : (c != P) = true) : PySem.W.codeHdIn K c P = true := by
 unfold PySem.W.codeHdIn
 rw [lc]
 unfold wF at q
 simp only [Bool.and_eq_true] at q ⊢
 obtain ⟨⟨⟨q1, q2⟩, q3⟩, q4⟩ := q
 refine ⟨⟨⟨⟨⟨?_, q1⟩, q2⟩, q3⟩, q4⟩, ne⟩
 rw [p]
 exact beq_self_eq_true P
theorem Hr {K : PySem.W.Frag} {x qual : Str} {st : Stmt} {f c P : Addr} {oc : Value} {od an : Option Addr} {osl : Array (Option Value)} {kV doc pm ct : Value} {dd : Option Addr} {vs : Array Value} {sl : Array (Option Value)}
  (l : K.lookup f = some ⟨oc, od, .func (PySem.W.fnOf x qual (lR st) (jE st) (aP st) .none kV doc pm an (.ref c) ct), osl⟩) (hc : PySem.W.codeIn K (.ref c) qual = true) (k : PySem.W.keepIn K (.ref f) = true)
  (lc : K.lookup c = some ⟨.type "code", dd, .fields vs, sl⟩) (p : vs[11]? = some (.ref P)) (q : wF vs = true) (ne : (c != P) = true) : fK K x qual st f (PySem.W.fnOf x qual (lR st) (jE st) (aP st) .none kV doc pm an (.ref c) ct) P :=
 ⟨⟨oc, od, kV, doc, pm, an, c, ct, osl, rfl, l, hc, λ h X => PySem.W.codeHd_of_K X (Cq lc p q ne)⟩, k⟩
theorem Nb {K : PySem.W.Frag} {x : Str} {f c P : Addr} {oc oc' : Value} {od dd : Option Addr} {fd : FuncData} {osl sl : Array (Option Value)} {vs : Array Value} (a : PySem.W.nsIn K mainGlobals x = some (some (.ref f))) (l : K.lookup f = some ⟨oc, od, .func fd, osl⟩) (hc : fd.code = .ref c)
  (lc : K.lookup c = some ⟨oc', dd, .fields vs, sl⟩) (p : vs[11]? = some (.ref P)) : PySem.W.tabIn K x = some (c, P) := by
 unfold PySem.W.tabIn
 rw [a]
 simp only [l, hc, lc, p]
theorem qH {q : Program} {lo : List Str} {mean : ExcName -> Option Value} {mg mb : Str -> Option Value} {h : Heap} {K : PySem.W.Frag} {x : Str} {c P : Addr} (T : Top q lo mean mg mb h) (X : K.In h) (hr : ((recsOf q).find? (λ e => e.name == x)).isSome = true) (ht : PySem.W.tabIn K x = some (c, P)) : PySem.W.CodeHd h c P /\ h.get? P = some (PySem.W.tabObj #[]) := by
 obtain ⟨d, hd⟩ := Option.isSome_iff_exists.mp hr
 exact PySem.W.tab_of T X hd ht
end L3
namespace L2
open PySem PySem.Spec PyProof.Rows HT
section
variable {prog : Program} {w : World} {A : Around} {E : Value -> Shared -> Prop} {s : Shared}
theorem ou {t sl : Addr} {items : Array Value} {vl vu : Value} {lo hi : Option Int} {Q : Value -> Shared -> Prop} (ht : IsTup s.heap t items) (hs : s.heap.IsSliceOf sl vl vu .none) (pl : IsPart vl lo) (pu : IsPart vu hi)
  (hw : sIx items.size 0 lo = 0 /\ sIx items.size items.size hi = items.size) (h : Q (.ref t) s) : wpAny (model prog w) A (getItem (.ref t) (.ref sl)) Q E s := by
 obtain ⟨os, hos, hcs, hds⟩ := id hs
 have hTs : s.TypeIs (.ref sl) "slice" := ⟨os, hos, hcs⟩
 unfold getItem
 try with_reducible refine wpAny_holding ?_
 first | refine wpAny_bind (wpAny_pure ?_) | skip
 refine wpAny_bind (wpAny_sequenceKey ht.typeIs (by decide) ?_)
 refine wpAny_bind (wpAny_callSpecial?_slot (name := Str.ofString "__getitem__") ht.typeIs PyProof.Rows.slot_tuple_getitem
  (wpAny_call_entry PyProof.Rows.slot_tuple_getitem ht.typeIs entry_tuple_getitem ?_ (args_tuple_getitem _ _)))
 show wpAny _ _ (Builtin.Tuple.tupleItemsOf (.ref t) >>= _) _ _ s
 refine wpAny_bind (tupleItemsOf_ ht ?_)
 refine wpAny_bind (wpAny_typeOf hTs ?_)
 rw [if_pos (by decide)]
 refine wpAny_bind (lB hs pl pu ?_)
 have hyes : (((sIx items.size 0 lo : Nat) : Int) == 0 && (1 : Int) == 1 && (sIx items.size items.size hi - sIx items.size 0 lo) == items.size) = true := by
  rw [hw.1, hw.2]
  simp
 show wpAny _ _ (if (((sIx items.size 0 lo : Nat) : Int) == 0 && (1 : Int) == 1 && (sIx items.size items.size hi - sIx items.size 0 lo) == items.size) = true then _ else _) _ _ s
 rw [if_pos hyes]
 refine wpAny_bind (m := Builtin.Tuple.tupleIsExact (.ref t)) (wpAny_bind (wpAny_typeOf ht.typeIs (wpAny_pure ?_)))
 rw [if_pos (by decide)]
 refine wpAny_bind (wpAny_rule ?_)
 first
  | exact wpAny_pure ⟨_, rfl, wpAny_pure h⟩
  | exact wpAny_bind (wpAny_pure (wpAny_pure ⟨_, rfl, wpAny_pure h⟩))
  | exact wpAny_pure (wpAny_pure h)
end
section
variable {X : Cx}
def rSlW (K : PySem.W.Frag) : V -> Option Int -> Option Int -> Hp -> VK -> Prop := λ x lo hi H Q => ∃ a xs, x = .ref a /\ SqT K H a xs /\
 (HT.sIx xs.length 0 lo = 0 /\ HT.sIx xs.length xs.length hi = xs.length) /\ Q (.ref a) H
theorem GC : SlR X (rSlW X.K) := by
 intro pins s σ H x v vl vu lo hi sl Q I rx hs pl pu h
 obtain ⟨a, xs, rfl, hx, hw, q⟩ := h
 cases rx
 obtain ⟨its, r, ht, hz⟩ := I.tuple hx
 have hlen : its.toArray.size = xs.length := by rw [List.size_toArray]; exact r.length.symm
 refine ⟨"tuple", _, PyProof.Rows.slot_tuple_getitem.lookup, ht.typeIs, ?_⟩
 exact ou ht hs pl pu (by rw [hlen]; exact hw) ⟨.ref a, H, I, rfl, q⟩
end
end L2
namespace L3
open PySem PySem.Spec PyProof.Rows L2
abbrev PF := En -> Mu -> Option (Option Int × Mu)
def tDO (K : PySem.W.Frag) (tb : List Addr) (f : PF) : TO := λ σ H Q => ∃ W δ i μ', W.H = H /\ WOk K tb W /\ jw K tb W δ σ /\ f δ W.mu = some (i, μ') /\ ∀ W', WOk K tb W' -> Le tb W W' -> W'.mu = μ' -> Q i W'.H
def POD (X : Cx) (tb : List Addr) (e : Option Expr) (f : PF) : Prop := PO X e (tDO X.K tb f)
theorem JW {X : Cx} {e : Option Expr} {t t' : TO} (h : PO X e t) (k : ∀ σ H Q, t' σ H Q -> t σ H Q) : PO X e t' := λ pins s σ H Q I hq => h pins s σ H Q I (k σ H Q hq)
def fNo : PF := λ _ μ => some (none, μ)
def fAt (f : EF) : PF := λ δ μ => (f δ μ).bind λ r => match r.1 with
 | .int i => some (some i, r.2)
 | _ => none
def cutD (ds : List D) (lo hi : Option Int) : List D := (ds.drop (HT.sIx ds.length 0 lo)).take (HT.sIx ds.length ds.length hi - HT.sIx ds.length 0 lo)
def oSl (x : D) (lo hi : Option Int) (μ : Mu) : Option (D × Mu) := match x with
 | .tup ds => some (.tup (cutD ds lo hi), μ)
 | .lst ds => some (.lst (cutD ds lo hi), μ)
 | .ro ds => some (.lst (cutD ds lo hi), μ)
 | .cell n => match μ[n]? with
  | some (some ds) => some (.lst (cutD ds lo hi), μ)
  | _ => none
 | _ => none
def mSl (f : EF) (fl fh : PF) : EF := λ δ μ => (f δ μ).bind λ r => (fl δ r.2).bind λ l => (fh δ l.2).bind λ u => oSl r.1 l.1 u.1 u.2
section
variable {X : Cx} {tb : List Addr} {e : Expr} {lo hi : Option Expr} {f : EF} {fl fh : PF} {pos p2 : Pos}
theorem dR : POD X tb none fNo := JW Hb λ σ H Q zq1 => by
 obtain ⟨W, δ, i, μ', e, ok, hd, hf, h⟩ := zq1
 subst e; cases hf
 exact h W ok (Le.refl _) rfl
theorem dY (h : PD X tb e f) : POD X tb (some e) (fAt f) := JW (Im h) λ σ H Q zq2 => by
 obtain ⟨W, δ, i, μ', e, ok, hd, hf, h⟩ := zq2
 unfold fAt at hf
 obtain ⟨⟨x, μ1⟩, e1, e2⟩ := Option.bind_eq_some_iff.mp hf
 cases x with
 | int j =>
  cases e2
  exact ⟨W, δ, _, _, e, ok, hd, e1, λ v W1 ok1 l1 m1 d1 => ⟨j, bF d1, h W1 ok1 l1 m1⟩⟩
 | _ => cases e2
theorem rM {K : PySem.W.Frag} {W : Wd} {ds : List D} {vs : List V} {l h : Option Int} (r : di K tb W ds vs) : di K tb W (cutD ds l h) (yj vs l h) := by
 unfold cutD yj
 rw [<- aC.length r]
 exact aC.take _ (aC.drop _ r)
theorem dX (he : PD X tb e f) (hl : POD X tb lo fl) (hh : POD X tb hi fh) : PD X tb (.Subscript e (.Slice lo hi none p2) pos) (mSl f fl fh) :=
 fJ (Ec (KD.or (GC.or IW)) he hl hh) λ σ H Q zq3 => by
  obtain ⟨W, δ, d, μ', e, ok, hd, hf, h⟩ := zq3
  unfold mSl at hf
  obtain ⟨⟨x, μ1⟩, e1, hf⟩ := Option.bind_eq_some_iff.mp hf
  obtain ⟨⟨l, μ2⟩, e2, hf⟩ := Option.bind_eq_some_iff.mp hf
  obtain ⟨⟨u, μ3⟩, e3, hf⟩ := Option.bind_eq_some_iff.mp hf
  refine ⟨W, δ, x, μ1, e, ok, hd, e1, λ v W1 ok1 l1 m1 d1 => ⟨W1, δ, l, μ2, rfl, ok1, hd.mono' l1, (by rw [m1]; exact e2), λ W2 ok2 l2 m2 => ⟨W2, δ, u, μ3, rfl, ok2, hd.mono' (l1.trans l2), (by rw [m2]; exact e3), λ W3 ok3 l3 m3 => ?_⟩⟩⟩
  have d3 := Den.mono' d1 (l2.trans l3)
  have k : ∀ v W', WOk X.K tb W' -> Le tb W3 W' -> W'.mu = W3.mu -> Den X.K tb W' d v -> W3.mu = μ' -> Q v W'.H := λ v W' ok' l' m' d' q => h v W' ok' (((l1.trans l2).trans l3).trans l') (m'.trans q) d'
  cases x with
  | tup ds =>
   obtain ⟨a, xs, rfl, q, r⟩ := iU d3
   cases hf
   by_cases hw : HT.sIx ds.length 0 l = 0 /\ HT.sIx ds.length ds.length u = ds.length
   .have e : cutD ds l u = ds := by unfold cutD; rw [hw.1, hw.2]; simp
    exact .inr (.inl ⟨a, xs, rfl, SqT.fz q, by rw [<- aC.length r]; exact hw, k (.ref a) W3 ok3 (Le.refl _) rfl (by rw [e]; exact d3) m3⟩)
   .exact .inl ⟨a, xs, rfl, SqT.fz q, by rw [<- aC.length r]; exact hw, λ p hp => my ok3 (λ v W' ok' l' m' d' => k v W' ok' l' m' d' m3) (rM r) hp⟩
  | lst ds =>
   obtain ⟨a, xs, rfl, q, r⟩ := lZ d3
   cases hf
   exact .inr (.inr ⟨a, xs, rfl, SqL.fz q, λ p hp => jB ok3 (λ v W' ok' l' m' d' => k v W' ok' l' m' d' m3) (rM r) hp⟩)
  | ro ds =>
   obtain ⟨a, xs, rfl, q, r⟩ := yr d3
   cases hf
   exact .inr (.inr ⟨a, xs, rfl, SqL.fz q, λ p hp => jB ok3 (λ v W' ok' l' m' d' => k v W' ok' l' m' d' m3) (rM r) hp⟩)
  | cell n =>
   obtain ⟨a, rfl, q⟩ := jk d3
   have hf : (match μ3[n]? with | some (some ds) => some (D.lst (cutD ds l u), μ3) | _ => none) = some (d, μ') := hf
   cases e4 : μ3[n]? with
   | none => rw [e4] at hf; cases hf
   | some o =>
    rw [e4] at hf
    cases o with
    | none => cases hf
    | some ds =>
     cases hf
     obtain ⟨xs, ex, r⟩ := ok3.cont n a ds q (by rw [m3]; exact e4)
     exact .inr (.inr ⟨a, xs, rfl, SqL.of ex, λ p hp => jB ok3 (λ v W' ok' l' m' d' => k v W' ok' l' m' d' m3) (rM r) hp⟩)
  | _ => cases hf
end
section
variable {X : Cx} {tb : List Addr} {e : Expr} {es : List Expr} {f : EF} {fs fk : AF} {x : Str} {n k : Nat} {φ : FF} {p pos kpos : Pos} {kws : List Keyword} {ks : List Str} {π : List Nat} {nm : Option Str}
def MK (fs fk : AF) (π : List Nat) (φ : FF) : EF := λ δ μ => (fs δ μ).bind λ r => (fk δ r.2).bind λ q => φ (r.1 ++ π.map λ i => q.1.getD i .non) q.2
end
end L3
namespace L2
open PySem PySem.Spec PyProof.Rows
abbrev VV : List (V × V) -> List (Value × Value) -> Prop := Paired λ p q => RelV p.1 q.1 /\ RelV p.2 q.2
end L2
namespace L3
open PySem PySem.Spec PyProof.Rows L2
def uD (f : EF) : EF := λ δ μ => (f δ μ).bind λ r => match r.1 with
 | .cell n => (r.2.getD n none).map λ ds => (.lst ds, r.2.set n none)
 | d => some (d, r.2)
theorem qz {X : Cx} {tb : List Addr} {e : Expr} {f : EF} (h : PD X tb e f) : PD X tb e (uD f) :=
 fJ h λ σ H Q zq1 => by
  obtain ⟨W, δ, d, μ', e, ok, hd, hf, k⟩ := zq1
  unfold uD at hf
  obtain ⟨⟨x, μ1⟩, e1, e2⟩ := Option.bind_eq_some_iff.mp hf
  refine ⟨W, δ, x, μ1, e, ok, hd, e1, λ v W1 ok1 l1 m1 d1 => ?_⟩
  cases x with
  | cell n =>
   obtain ⟨ds, e3, e4⟩ := Option.map_eq_some_iff.mp e2
   cases e4
   obtain ⟨a, rfl, ea⟩ := jk d1
   have em : W1.mu[n]? = some (some ds) := by
    rw [m1]
    rw [List.getD_eq_getElem?_getD] at e3
    cases q : μ1[n]? with
    | none => rw [q] at e3; cases e3
    | some z => rw [q] at e3; exact congrArg some e3
   obtain ⟨ok2, l2, d2⟩ := ok1.freeze ea em
   exact k _ ⟨W1.H, W1.ad, W1.mu.set n none⟩ ok2 (l1.trans l2) (by show W1.mu.set n none = _; rw [m1]) d2
  | _ => cases e2; exact k v W1 ok1 l1 m1 d1
mutual
def cLt (m : Nat) : D -> Bool
 | .tup ds => ni m ds
 | .lst ds => ni m ds
 | .ro ds => ni m ds
 | .dic kvs => yq m kvs
 | .cell n => decide (n < m)
 | _ => true
def ni (m : Nat) : List D -> Bool
 | [] => true
 | d :: ds => cLt m d && ni m ds
def yq (m : Nat) : List (Key × D) -> Bool
 | [] => true
 | p :: ds => cLt m p.2 && yq m ds
end
section
variable {K : PySem.W.Frag} {F F' : Hp} {ad : List Addr} {m : Nat}
mutual
theorem bu.cut (s : mK F F') : ∀ (d : D) (v : V), cLt m d = true -> bu K F ad d v -> bu K F' (ad.take m) d v
 | .non, v, _, h => by unfold bu at h ⊢; exact h
 | .bl _, v, _, h => by unfold bu at h ⊢; exact h
 | .int _, v, _, h => by unfold bu at h ⊢; exact h
 | .str _, v, _, h => by unfold bu at h ⊢; exact h
 | .tup ds, v, c, h => by
  unfold bu at h ⊢; unfold cLt at c
  obtain ⟨a, xs, e, q, r⟩ := h
  exact ⟨a, xs, e, SqT.mono s q, aC.cut s ds xs c r⟩
 | .lst ds, v, c, h => by
  unfold bu at h ⊢; unfold cLt at c
  obtain ⟨a, xs, e, q, r⟩ := h
  exact ⟨a, xs, e, s _ _ q, aC.cut s ds xs c r⟩
 | .ro ds, v, c, h => by
  unfold bu at h ⊢; unfold cLt at c
  obtain ⟨a, xs, e, q, r⟩ := h
  exact ⟨a, xs, e, SqL.mono s q, aC.cut s ds xs c r⟩
 | .dic kvs, v, c, h => by
  unfold bu at h ⊢; unfold cLt at c
  obtain ⟨a, ps, e, q, r⟩ := h
  exact ⟨a, ps, e, s _ _ q, ju.cut s kvs ps c r⟩
 | .cell n, v, c, h => by
  unfold bu at h ⊢; unfold cLt at c
  obtain ⟨a, e, q⟩ := h
  exact ⟨a, e, by rw [List.getElem?_take_of_lt (by simpa using c)]; exact q⟩
theorem aC.cut (s : mK F F') : ∀ (ds : List D) (vs : List V), ni m ds = true -> aC K F ad ds vs -> aC K F' (ad.take m) ds vs
 | [], vs, _, h => by unfold aC at h ⊢; exact h
 | d :: ds, vs, c, h => by
  unfold aC at h ⊢; unfold ni at c
  have c := (Bool.and_eq_true _ _).mp c
  obtain ⟨u, us, e, p, r⟩ := h
  exact ⟨u, us, e, bu.cut s d u c.1 p, aC.cut s ds us c.2 r⟩
theorem ju.cut (s : mK F F') : ∀ (ds : List (Key × D)) (vs : List (Key × V)), yq m ds = true -> ju K F ad ds vs -> ju K F' (ad.take m) ds vs
 | [], vs, _, h => by unfold ju at h ⊢; exact h
 | p :: ds, vs, c, h => by
  unfold ju at h ⊢; unfold yq at c
  have c := (Bool.and_eq_true _ _).mp c
  obtain ⟨u, us, e, ⟨p1, p2⟩, r⟩ := h
  exact ⟨u, us, e, ⟨p1, bu.cut s p.2 u.2 c.1 p2⟩, ju.cut s ds us c.2 r⟩
end
end
def cOk (m : Nat) (μ : Mu) : Bool := μ.all λ o => match o with
 | some ds => ni m ds
 | none => true
theorem WOk.cut {K : PySem.W.Frag} {tb : List Addr} {W : Wd} {m : Nat} (ok : WOk K tb W) (c : cOk m (W.mu.take m) = true) :
  WOk K tb ⟨W.H, W.ad.take m, W.mu.take m⟩ /\ mK (W.fz tb) (Wd.fz tb ⟨W.H, W.ad.take m, W.mu.take m⟩) := by
 have lv : ∀ b, oh (W.ad.take m) (W.mu.take m) b -> oh W.ad W.mu b := λ b zq2 => by
  obtain ⟨i, es, e1, e2⟩ := zq2
  have h1 : i < m := by have := (List.getElem?_eq_some_iff.mp e1).1; simp at this; omega
  rw [List.getElem?_take_of_lt h1] at e1 e2
  exact ⟨i, es, e1, e2⟩
 have sm : mK (W.fz tb) (Wd.fz tb ⟨W.H, W.ad.take m, W.mu.take m⟩) := λ b u e => by
  obtain ⟨e1, e2, e3⟩ := eU e
  have q := pR (tb := tb) (W := ⟨W.H, W.ad.take m, W.mu.take m⟩) (b := b) (λ z => e2 (lv b z)) e3
  rw [q]; exact e1
 refine ⟨⟨by simp [ok.len], λ i a ds e1 e2 => ?_, λ i j a ds es e1 e2 e3 e4 => ?_, ok.tab⟩, sm⟩
 .have h1 : i < m := by have := (List.getElem?_eq_some_iff.mp e1).1; simp at this; omega
  have cd : ni m ds = true := by
   have := List.all_eq_true.mp c (some ds) (List.mem_of_getElem? e2)
   exact this
  have e1' : (W.ad.take m)[i]? = some a := e1
  have e2' : (W.mu.take m)[i]? = some (some ds) := e2
  rw [List.getElem?_take_of_lt h1] at e1' e2'
  obtain ⟨xs, e, r⟩ := ok.cont i a ds e1' e2'
  exact ⟨xs, e, aC.cut sm ds xs cd r⟩
 .have h1 : i < m := by have := (List.getElem?_eq_some_iff.mp e1).1; simp at this; omega
  have h2 : j < m := by have := (List.getElem?_eq_some_iff.mp e2).1; simp at this; omega
  have e1' : (W.ad.take m)[i]? = some a := e1
  have e2' : (W.ad.take m)[j]? = some a := e2
  have e3' : (W.mu.take m)[i]? = some (some ds) := e3
  have e4' : (W.mu.take m)[j]? = some (some es) := e4
  rw [List.getElem?_take_of_lt h1] at e1' e3'
  rw [List.getElem?_take_of_lt h2] at e2' e4'
  exact ok.inj i j a ds es e1' e2' e3' e4'
def trunc (φ : FF) : FF := λ ds μ => (φ ds μ).bind λ r => if (cLt μ.length r.1 && cOk μ.length (r.2.take μ.length)) = true then some (r.1, r.2.take μ.length) else some r
theorem FI.trunc {P : Program} {w : World} {K : PySem.W.Frag} {mg : Str -> Option Value} {base : Heap} {tb : List Addr} {x : Str} {n k : Nat} {φ : FF} (F : FI P w K mg base tb x n k φ) : FI P w K mg base tb x n k (trunc φ) := by
 obtain ⟨f, fd, ps, h1, h2⟩ := F.is
 refine ⟨f, fd, ps, h1.imp λ vs H Q E ⟨W, ds, d, μ', e, ok, dl, hl, hf, k⟩ => ?_, h2⟩
 unfold L3.trunc at hf
 obtain ⟨⟨d1, μ1⟩, e1, e2⟩ := Option.bind_eq_some_iff.mp hf
 split at e2
 .rename_i hc
  have hc := (Bool.and_eq_true _ _).mp hc
  cases e2
  refine ⟨W, ds, d1, μ1, e, ok, dl, hl, e1, λ v W' ok' l' m' d' => ?_⟩
  obtain ⟨ok2, sm⟩ := ok'.cut (m := W.mu.length) (by rw [m']; exact hc.2)
  exact k v ⟨W'.H, W'.ad.take W.mu.length, W'.mu.take W.mu.length⟩ ok2 ⟨l'.same.trans sm, λ i x q => by
   have hi : i < W.mu.length := by rw [<- ok.len]; exact (List.getElem?_eq_some_iff.mp q).1
   show (W'.ad.take W.mu.length)[i]? = some x
   rw [List.getElem?_take_of_lt hi]; exact l'.ad i x q⟩ (by show W'.mu.take _ = _; rw [m']) (bu.cut sm d1 v hc.1 d')
 .cases e2
  exact ⟨W, ds, d, μ', e, ok, dl, hl, e1, k⟩
theorem NP {K : PySem.W.Frag} {mg : Str -> Option Value} {x : Str} {i : Int} {t : Tok} (h : mg x = some (.int i t)) : GD K mg x (.int i) := ⟨_, .int i, h, ⟨t, rfl⟩, λ F ad => by unfold bu; rfl⟩
theorem qJ {φ : FF} {ds : List D} {μ μ' : Mu} {d : D} (h : φ ds μ = some (d, μ')) (hl : μ'.length = μ.length) : trunc φ ds μ = some (d, μ') := by
 unfold trunc
 rw [h]
 simp only [Option.bind_some]
 rw [<- hl, List.take_length]
 split <;> rfl
theorem gn {φ : FF} {ds : List D} {μ : Mu} {d : D} (h : φ ds μ = some (d, μ)) : trunc φ ds μ = some (d, μ) := qJ h rfl
end L3
namespace HT
open PySem PySem.Spec PyProof.Rows
section
variable {prog : Program} {w : World} {A : Around} {E : Value -> Shared -> Prop} {s : Shared}
theorem zx (n : Nat) : Builtin.Slice.sliceAdjust none none (-1) (n : Int) = ((n : Int) - 1, -1) := rfl
theorem zm (n : Nat) : Builtin.Slice.slicePlaces ((n : Int) - 1) (-1) (-1) = n := by
 unfold Builtin.Slice.slicePlaces
 rw [if_neg (by decide)]
 split
 .simp
 .simp; omega
theorem sJ {α β : Type} {f g : α -> Option β} : ∀ {l : List α}, (∀ x ∈ l, f x = g x) -> l.filterMap f = l.filterMap g
 | [], _ => rfl
 | x :: l, h => by
  rw [List.filterMap_cons, List.filterMap_cons, h x (by simp), sJ λ y hy => h y (by simp [hy])]
theorem vd (xs : Array Value) : ((List.range xs.size).filterMap λ (m : Nat) => xs[(((xs.size : Int) - 1) + (m : Int) * (-1)).toNat]?).toArray = xs.toList.reverse.toArray := by
 congr 1
 have e : ((List.range xs.size).filterMap λ (m : Nat) => xs[(((xs.size : Int) - 1) + (m : Int) * (-1)).toNat]?) = (List.range xs.size).filterMap λ (m : Nat) => xs.toList.reverse.toArray[((0 : Nat) : Int).toNat + m]? := by
  refine sJ λ m hm => ?_
  have hm := List.mem_range.mp hm
  have e : (((xs.size : Int) - 1) + (m : Int) * (-1)).toNat = xs.size - 1 - m := by omega
  rw [e]
  simp [List.getElem?_reverse (l := xs.toList) (show m < xs.toList.length by simpa using hm)]
 rw [e]
 have := pick_run xs.toList.reverse.toArray 0 xs.size
 rw [List.filterMap_map] at this
 have e2 : (((λ x => xs.toList.reverse.toArray[x]?) ∘ λ x => 0 + x)) = λ (m : Nat) => xs.toList.reverse.toArray[((0 : Nat) : Int).toNat + m]? := rfl
 rw [e2] at this
 rw [this]
 simp [List.take_of_length_le]
theorem qw {sl : Addr} {t : Tok} {n : Nat} {Q : Int × Int × Nat -> Shared -> Prop} (hs : s.heap.IsSliceOf sl .none .none (.int (-1) t))
  (h : Q ((n : Int) - 1, -1, n) s) : wpAny (model prog w) A (Builtin.Slice.sliceApplied (.ref sl) (pure (n : Int))) Q E s := by
 obtain ⟨os, hos, hcs, hds⟩ := id hs
 unfold Builtin.Slice.sliceApplied Builtin.Slice.sliceFields
 refine wpAny_bind (wpAny_bind (wpAny_field hos hds (x := .none) rfl (wpAny_bind (wpAny_field hos hds (x := .none) rfl (wpAny_bind (wpAny_field hos hds (x := .int (-1) t) rfl (wpAny_pure ?_)))))))
 refine wpAny_bind (slicePart_int ?_)
 show wpAny _ _ (if ((-1 : Int) == 0) = true then _ else _) _ _ s
 rw [if_neg (by decide)]
 refine wpAny_bind (slicePart_none (wpAny_bind (slicePart_none (wpAny_bind (wpAny_pure ?_)))))
 show wpAny _ _ (match Builtin.Slice.sliceAdjust none none (-1) (n : Int) with | (lo, hi) => pure (lo, (-1 : Int), Builtin.Slice.slicePlaces lo hi (-1))) _ _ s
 rw [zx n]
 show wpAny _ _ (pure ((n : Int) - 1, (-1 : Int), Builtin.Slice.slicePlaces ((n : Int) - 1) (-1) (-1))) _ _ s
 rw [zm]
 exact wpAny_pure h
theorem getItem_tuple_back {t sl : Addr} {items : Array Value} {tk : Tok} {Q : Value -> Shared -> Prop} (ht : IsTup s.heap t items) (hs : s.heap.IsSliceOf sl .none .none (.int (-1) tk))
  (h : Q (.ref s.heap.objs.size) { s with heap := s.heap.push { cls := .type "tuple", data := .seq items.toList.reverse.toArray } })
  (hsz : items.size <= sizeLine) : wpAny (model prog w) A (getItem (.ref t) (.ref sl)) Q E s := by
 have htake : sizeOk (.seq items.toList.reverse.toArray) := by
  show items.toList.reverse.toArray.size <= sizeLine
  simpa using hsz
 obtain ⟨os, hos, hcs, hds⟩ := id hs
 have hTs : s.TypeIs (.ref sl) "slice" := ⟨os, hos, hcs⟩
 unfold getItem
 try with_reducible refine wpAny_holding ?_
 first | refine wpAny_bind (wpAny_pure ?_) | skip
 refine wpAny_bind (wpAny_sequenceKey ht.typeIs (by decide) ?_)
 refine wpAny_bind (wpAny_callSpecial?_slot (name := Str.ofString "__getitem__") ht.typeIs PyProof.Rows.slot_tuple_getitem
  (wpAny_call_entry PyProof.Rows.slot_tuple_getitem ht.typeIs entry_tuple_getitem ?_ (args_tuple_getitem _ _)))
 show wpAny _ _ (Builtin.Tuple.tupleItemsOf (.ref t) >>= _) _ _ s
 refine wpAny_bind (tupleItemsOf_ ht ?_)
 refine wpAny_bind (wpAny_typeOf hTs ?_)
 rw [if_pos (by decide)]
 refine wpAny_bind (qw hs ?_)
 have hno : ¬ ((((items.size : Int) - 1) == 0 && (-1 : Int) == 1 && items.size == items.size) = true) := by
  intro q
  rw [Bool.and_eq_true, Bool.and_eq_true] at q
  exact absurd q.1.2 (by decide)
 show wpAny _ _ (if ((((items.size : Int) - 1) == 0 && (-1 : Int) == 1 && items.size == items.size) = true) then _ else _) _ _ s
 rw [if_neg hno, vd]
 first
  | exact wpAny_bind (m := Builtin.Tuple.tupleExact _) (wpAny_newObj_type (wpAny_pure ⟨_, rfl, wpAny_pure h⟩) htake)
  | exact wpAny_bind (m := Builtin.Tuple.tupleExact _) (wpAny_newObj_type (wpAny_bind (wpAny_pure (wpAny_pure ⟨_, rfl, wpAny_pure h⟩))) htake)
  | exact wpAny_bind (wpAny_bind (m := Builtin.Tuple.tupleExact _) (wpAny_newObj_type (wpAny_pure (wpAny_pure ⟨_, rfl, wpAny_pure h⟩)) htake))
  | exact wpAny_bind (wpAny_bind (m := Builtin.Tuple.tupleExact _) (wpAny_newObj_type (wpAny_pure ⟨_, rfl, wpAny_pure h⟩) htake))
theorem slicePick_back (its : List Value) : slicePick its.toArray none none (some (-1)) = its.reverse.toArray := by
 unfold slicePick
 have e1 : (sliceBounds none none (some (-1)) its.toArray.size) = ((its.toArray.size : Int) - 1, -1, -1) := rfl
 rw [e1]
 have := vd its.toArray
 simp only at this
 rw [<- this]
 congr 1
 unfold sliceRange
 have e2 : (if ((-1 : Int)) > 0 then (if ((its.toArray.size : Int) - 1) < -1 then (-1 - ((its.toArray.size : Int) - 1) + -1 - 1) / -1 else 0) else (if ((its.toArray.size : Int) - 1) > -1 then ((its.toArray.size : Int) - 1 - -1 - -1 - 1) / -(-1) else 0)).toNat = its.toArray.size := by
  rw [if_neg (by decide)]
  split
  .simp
  .simp; simp at *; omega
 simp only [e2, List.filterMap_map]
 refine sJ λ m hm => ?_
 show its.toArray[(((its.toArray.size : Int) - 1) + -1 * (m : Int)).toNat]? = its.toArray[(((its.toArray.size : Int) - 1) + (m : Int) * -1).toNat]?
 rw [Int.mul_comm]
end
end HT
namespace L2
open PySem PySem.Spec PyProof.Rows
def Pg (K : PySem.W.Frag) : V -> Hp -> VK -> Prop := λ x H Q => ∃ a xs, x = .ref a /\ ((SqT K H a xs /\ ∀ p, H p = none -> Q (.ref p) (upd H p (.tup xs.reverse))) ∨ (SqL K H a xs /\ ∀ p, H p = none -> Q (.ref p) (upd H p (.lst xs.reverse))))
def Qw (K : PySem.W.Frag) (te : TE) : TE := λ σ H Q => te σ H λ x H1 => Pg K x H1 Q
theorem Ju {X : Cx} {e : Expr} {te : TE} {pos p2 p3 p4 : Pos} {j} (he : PE X e te) (hstep : PE X (.UnaryOp .USub (.Constant (.int 1) j p3) p4) (λ _ H Q => Q (.int (-1)) H)) : PE X (.Subscript e (.Slice none none (some (.UnaryOp .USub (.Constant (.int 1) j p3) p4)) p2) pos) (Qw X.K te) := by
 intro pins s σ H Q I h
 refine Subscript_ (thn (he pins s σ H _ I h) λ v s1 zq1 => ?_)
 obtain ⟨x, H1, I1, r1, q1⟩ := zq1
 refine wpAny_Slice ?_
 rw [evalPart_none]
 refine wpAny_pure (wpAny_pure ?_)
 rw [evalPart_some]
 refine thn (hstep pins s1 σ H1 (λ x H2 => x = .int (-1) /\ H2 = H1) I1 ⟨rfl, rfl⟩) λ u s3 zq2 => ?_
 obtain ⟨y, H3, I3, ry, ey, eH⟩ := zq2
 subst ey eH
 obtain ⟨tk, rfl⟩ := ry
 have I4 : Inv X pins σ H3 { s3 with heap := s3.heap.push { cls := .type "slice", data := .fields #[.none, .none, .int (-1) tk] } } := I3.kept (t' := s3.toks) λ b ob q => Heap.get?_push_of_some _ q
 have hs : (s3.heap.push { cls := .type "slice", data := .fields #[.none, .none, .int (-1) tk] }).IsSliceOf s3.heap.objs.size .none .none (.int (-1) tk) := Heap.IsSliceOf.new ..
 obtain ⟨a, xs, rfl, q⟩ := q1
 cases r1
 rcases q with ⟨hx, q⟩ | ⟨hx, q⟩
 .obtain ⟨its, r, ht, hz⟩ := I4.tuple hx
  have hg : wpAny (model X.prog X.w) X.A (getItem (.ref a) (.ref s3.heap.objs.size)) (EP X pins σ Q) X.xe { s3 with heap := s3.heap.push { cls := .type "slice", data := .fields #[.none, .none, .int (-1) tk] } } := by
   refine HT.getItem_tuple_back ht hs ?_ (by rw [List.size_toArray, <- r.length]; exact hz)
   exact ⟨.ref _, _, I4.laid (t' := s3.toks) (o := .tup xs.reverse) (λ b ob q => Heap.get?_push_of_some _ q) (Nat.le_refl _) ⟨by simpa using hz, _, r.reverse, IsTup.new _ _⟩, rfl, q _ (I4.hok.fresh (Nat.le_refl _))⟩
  exact tail_any (ops := [.ref a, .ref s3.heap.objs.size]) ht.typeIs PyProof.Rows.slot_tuple_getitem.lookup hg (by with_unfolding_all rfl)
 .obtain ⟨its, r, ht, hz⟩ := I4.list hx
  have hg : wpAny (model X.prog X.w) X.A (getItem (.ref a) (.ref s3.heap.objs.size)) (EP X pins σ Q) X.xe { s3 with heap := s3.heap.push { cls := .type "slice", data := .fields #[.none, .none, .int (-1) tk] } } := by
   refine wpAny_getItem_list_slice ht.isList hs .none .none (.int (-1) tk) (by decide) ?_ (by rw [List.size_toArray, <- r.length]; exact hz)
   rw [HT.slicePick_back]
   exact ⟨.ref _, _, I4.laid (t' := s3.toks) (o := .lst xs.reverse) (λ b ob q => Heap.get?_push_of_some _ q) (Nat.le_refl _) ⟨by simpa using hz, _, 0, r.reverse, Heap.get?_push_size _ rfl⟩, rfl, q _ (I4.hok.fresh (Nat.le_refl _))⟩
  exact tail_any (ops := [.ref a, .ref s3.heap.objs.size]) ht.isList.typeIs slot_list_getitem.lookup hg (by with_unfolding_all rfl)
end L2
namespace L3
open PySem PySem.Spec PyProof.Rows L2
def Jg (x : D) (μ : Mu) : Option (D × Mu) := (bQ x μ).map λ ds => (if sY x then .tup ds.reverse else .lst ds.reverse, μ)
def DW (f : EF) : EF := M1 f Jg
theorem NB {X : Cx} {tb : List Addr} {e : Expr} {f : EF} {pos p2 p3 p4 : Pos} {j} (he : PD X tb e f) : PD X tb (.Subscript e (.Slice none none (some (.UnaryOp .USub (.Constant (.int 1) j p3) p4)) p2) pos) (DW f) :=
 fJ (Ju he (fJ (JG Gk zc) λ σ H Q h => ⟨1, rfl, h⟩)) λ σ H Q zq3 => by
  obtain ⟨W, δ, d, μ', e, ok, hd, hf, h⟩ := zq3
  unfold DW M1 at hf
  obtain ⟨⟨x, μ1⟩, e1, e2⟩ := Option.bind_eq_some_iff.mp hf
  obtain ⟨ds, e3, e4⟩ := Option.map_eq_some_iff.mp e2
  refine ⟨W, δ, x, μ1, e, ok, hd, e1, λ v W1 ok1 l1 m1 d1 => ?_⟩
  have e3 : bQ x W1.mu = some ds := by rw [m1]; exact e3
  obtain ⟨a, xs, rfl, q, r⟩ := jc ok1 d1 e3
  refine ⟨a, xs, rfl, ?_⟩
  cases hx : sY x with
  | true =>
   rw [hx] at q e4
   cases e4
   exact .inl ⟨q, λ p hp => my ok1 (λ v W' ok' l' m' d' => h v W' ok' (l1.trans l') (m'.trans m1) d') (aC.reverse r) hp⟩
  | false =>
   rw [hx] at q e4
   cases e4
   exact .inr ⟨q, λ p hp => jB ok1 (λ v W' ok' l' m' d' => h v W' ok' (l1.trans l') (m'.trans m1) d') (aC.reverse r) hp⟩
theorem xY {K : PySem.W.Frag} {F : Hp} {ad : List Addr} : ∀ {ds : List D} {vs : List V} {d : D} {v : V} (j : Nat), aC K F ad ds vs -> bu K F ad d v -> aC K F ad (ds.set j d) (vs.set j v)
 | [], vs, d, v, j, r, h => by
  unfold aC at r
  subst r
  exact aC.nil
 | x :: ds, vs, d, v, j, r, h => by
  unfold aC at r
  obtain ⟨u, us, rfl, p, r⟩ := r
  cases j with
  | zero => exact aC.cons h r
  | succ j => exact aC.cons p (xY j r h)
def Cg (x o i : D) (μ : Mu) : Option Mu := match o, i with
 | .cell n, .int k => match μ[n]? with
  | some (some ds) => (ixN ds.length k).map λ j => μ.set n (some (ds.set j x))
  | _ => none
 | _, _ => none
def zE (f fo fi : EF) : SF := λ δ μ => (f δ μ).bind λ r => (fo δ r.2).bind λ o => (fi δ o.2).bind λ i => (Cg r.1 o.1 i.1 i.2).map λ μ' => (.nx, δ, μ')
theorem Bc {X : Cx} {tb : List Addr} {o i e : Expr} {f fo fi : EF} {pos pos' : Pos} (he : PD X tb e f) (ho : PD X tb o fo) (hi : PD X tb i fi)
  (ha : ∀ v, assign (.Subscript o i pos') X.env v = (do
   let ov <- holding [v] (eval o X.env)
   let iv <- holding [v, ov] (eval i X.env)
   standAt pos'
   holding [v, ov, iv] (setItem ov iv v)
   release [v, ov, iv] []) := by intro _; rfl)
  (hs : swapsWithSole [.Subscript o i pos'] e pos.line X.env = pure false := by rfl) (hw : swappedStores [.Subscript o i pos'] e X.env = pure none := by rfl)
  (h1 : (assignEach [.Subscript o i pos'] X.env).map (·.2) = [assign (.Subscript o i pos') X.env] := by rfl) : PSD X tb (.Assign [.Subscript o i pos'] e pos) (zE f fo fi) :=
 kh (Du he (Kp ho hi set_list ha) hs hw h1) λ E σ H zq1 => by
  obtain ⟨W, δ, fl, δ', μ', e, ok, hd, hf, h⟩ := zq1
  unfold zE at hf
  obtain ⟨⟨x, μ1⟩, e1, hf⟩ := Option.bind_eq_some_iff.mp hf
  obtain ⟨⟨c, μ2⟩, e2, hf⟩ := Option.bind_eq_some_iff.mp hf
  obtain ⟨⟨k, μ3⟩, e3, hf⟩ := Option.bind_eq_some_iff.mp hf
  obtain ⟨μ4, e4, e5⟩ := Option.map_eq_some_iff.mp hf
  cases e5
  refine ⟨W, δ, x, μ1, e, ok, hd, e1, λ v W1 ok1 l1 m1 d1 => ⟨W1, δ, c, μ2, rfl, ok1, hd.mono' l1, (by rw [m1]; exact e2), λ u W2 ok2 l2 m2 d2 => ⟨W2, δ, k, μ3, rfl, ok2, hd.mono' (l1.trans l2), (by rw [m2]; exact e3), λ y W3 ok3 l3 m3 d3 => ?_⟩⟩⟩
  have d2 := Den.mono' d2 l3
  have d1 := Den.mono' d1 (l2.trans l3)
  cases c with
  | cell n =>
   cases k with
   | int k =>
    have e4' : (match μ3[n]? with | some (some ds) => (ixN ds.length k).map λ j => μ3.set n (some (ds.set j x)) | _ => none) = some μ' := e4
    cases e6 : μ3[n]? with
    | none => rw [e6] at e4'; cases e4'
    | some oo =>
     cases oo with
     | none => rw [e6] at e4'; cases e4'
     | some ds =>
      rw [e6] at e4'
      obtain ⟨j, e7, e8⟩ := Option.map_eq_some_iff.mp e4'
      obtain ⟨a, rfl, q⟩ := jk d2
      have e6 : W3.mu[n]? = some (some ds) := by rw [m3]; exact e6
      obtain ⟨xs, ex, r⟩ := ok3.cont n a ds q e6
      refine ⟨a, xs, k, j, rfl, bF d3, ex, by rw [<- aC.length r]; exact e7, ?_⟩
      obtain ⟨ok4, l4⟩ := ok3.write q e6 (xY j r d1)
      exact h _ _ ok4 (((l1.trans l2).trans l3).trans l4) (by rw [<- e8, <- m3]) (hd.mono' (((l1.trans l2).trans l3).trans l4))
   | _ => cases e4
  | _ => cases e4
def Bu (i : Nat) (f : EF) (op : O2) : SF := λ δ μ => match δ[i]? with
 | some (some x) => (f δ μ).bind λ r => (op x r.1 r.2).map λ z => (.nx, δ.set i (some z.1), z.2)
 | _ => none
def Ql : O2
 | .int i, .int j, μ => some (.int (i + j), μ)
 | _, _, _ => none
def Ax : O2
 | .int i, .int j, μ => if jA i j <= 134217728 then some (.int (i * j), μ) else none
 | _, _, _ => none
theorem Jk {X : Cx} : PIp X .Mult (λ x y H Q => ∃ i j, x = .int i /\ y = .int j /\ jA i j <= 134217728 /\ Q (.int (i * j)) H) := by
 intro pins s σ H x y v u Q I r1 r2 h
 obtain ⟨i, j, e1, e2, hb, q⟩ := h
 subst e1; subst e2
 obtain ⟨t, rfl⟩ := r1
 obtain ⟨t', rfl⟩ := r2
 exact imul_int ⟨.int _, H, I.tok _, ⟨_, rfl⟩, q⟩ (IntMulOk.of_le (Nat.le_refl _) (Nat.le_refl _) hb)
section
variable {X : Cx} {tb : List Addr} {e : Expr} {f : EF} {pos pos' : Pos} {i : Nat} {x : Str}
theorem Lx {op : Operator} {o : O2} {ti : TIp} (hN : X.N.Nodup) (he : PD X tb e f) (hip : PIp X op ti) (hi : X.N[i]? = some x) (hx : Loc X.env.scope x) (hf : X.fn x = true ∨ X.env.scope.names.lookup x = some .local)
  (ho : ∀ x y μ d μ', o x y μ = some (d, μ') -> μ' = μ /\ ∃ a b c, x = .int a /\ y = .int b /\ d = .int c /\ ∀ H Q, Q (.int c) H -> ti (.int a) (.int b) H Q) : PSD X tb (.AugAssign (.Name x pos') op e pos) (Bu i f o) :=
 kh (My hN hi hx he hip hf) λ E σ H zq2 => by
  obtain ⟨W, δ, fl, δ', μ', e, ok, hd, hf, h⟩ := zq2
  unfold Bu at hf
  cases e0 : δ[i]? with
  | none => rw [e0] at hf; cases hf
  | some oo =>
   cases oo with
   | none => rw [e0] at hf; cases hf
   | some z =>
    rw [e0] at hf
    obtain ⟨⟨y, μ1⟩, e1, hf⟩ := Option.bind_eq_some_iff.mp hf
    obtain ⟨⟨d, μ2⟩, e2, e3⟩ := Option.map_eq_some_iff.mp hf
    obtain ⟨rfl, a, b, c, rfl, rfl, rfl, q⟩ := ho _ _ _ _ _ e2
    cases e3
    obtain ⟨v, ev, dv⟩ := hd.2 i _ e0
    rw [bF dv] at ev
    refine ⟨.int a, ev, W, δ, _, _, e, ok, hd, e1, λ u W1 ok1 l1 m1 d1 => ?_⟩
    rw [bF d1]
    exact q _ _ (h _ W1 ok1 l1 m1 ((hd.mono' l1).set fB))
theorem zY (hN : X.N.Nodup) (he : PD X tb e f) (hi : X.N[i]? = some x := by rfl) (hx : Loc X.env.scope x := by first | exact Or.inl rfl | exact Or.inr rfl) (hf : X.fn x = true ∨ X.env.scope.names.lookup x = some .local := by first | exact .inl rfl | exact .inr rfl | assumption) : PSD X tb (.AugAssign (.Name x pos') .Mult e pos) (Bu i f Ax) :=
 Lx hN he Jk hi hx hf λ x y μ d μ' h => by
  unfold Ax at h
  split at h
  .split at h
   .rename_i hb
    cases h
    exact ⟨rfl, _, _, _, rfl, rfl, rfl, λ H Q q => ⟨_, _, rfl, rfl, hb, q⟩⟩
   .cases h
  .cases h
end
def sH : D -> Bool
 | .non => true
 | .bl _ => true
 | .int _ => true
 | .str _ => true
 | _ => false
def eqF : D -> D -> Bool
 | .non, .non => true
 | .bl a, .bl b => a == b
 | .bl a, .int b => (if a then 1 else 0) == b
 | .int a, .bl b => a == (if b then 1 else 0)
 | .int a, .int b => a == b
 | .str a, .str b => a == b
 | _, _ => false
def inF (x : D) (ds : List D) : Bool := ds.any λ y => eqF y x
def oIn (neg : Bool) : O2 := λ x y μ => (bQ y μ).bind λ ds => if sH x = true /\ ds.all sH = true then some (.bl (if neg then !inF x ds else inF x ds), μ) else none
section
variable {K : PySem.W.Frag} {tb : List Addr} {W : Wd}
theorem tL {x : D} {v : V} (h : Den K tb W x v) (f : sH x = true) : oH v = true /\ (∀ y u, Den K tb W y u -> sH y = true -> eqV v u = eqF x y) := by
 cases x with
 | non => rw [pB h]; refine ⟨rfl, λ y u d g => ?_⟩; cases y <;> first | (rw [pB d]; rfl) | (rw [jy d]; rfl) | (rw [bF d]; rfl) | (rw [lY d]; rfl) | cases g
 | bl b => rw [jy h]; refine ⟨rfl, λ y u d g => ?_⟩; cases y <;> first | (rw [pB d]; rfl) | (rw [jy d]; rfl) | (rw [bF d]; rfl) | (rw [lY d]; rfl) | cases g
 | int b => rw [bF h]; refine ⟨rfl, λ y u d g => ?_⟩; cases y <;> first | (rw [pB d]; rfl) | (rw [jy d]; rfl) | (rw [bF d]; rfl) | (rw [lY d]; rfl) | cases g
 | str b => rw [lY h]; refine ⟨rfl, λ y u d g => ?_⟩; cases y <;> first | (rw [pB d]; rfl) | (rw [jy d]; rfl) | (rw [bF d]; rfl) | (rw [lY d]; rfl) | cases g
 | _ => cases f
theorem qF {x : D} {v : V} (h : Den K tb W x v) (f : sH x = true) : ∀ {ds : List D} {vs : List V}, di K tb W ds vs -> ds.all sH = true -> vs.all oH = true /\ inV v vs = inF x ds
 | [], vs, r, _ => by
  have r' : aC _ _ _ _ _ := r
  unfold aC at r'
  subst r'
  exact ⟨rfl, rfl⟩
 | d :: ds, vs, r, g => by
  have r' : aC _ _ _ _ _ := r
  unfold aC at r'
  obtain ⟨u, us, rfl, p, r2⟩ := r'
  rw [List.all_cons, Bool.and_eq_true] at g
  obtain ⟨h1, h2⟩ := qF h f (show di K tb W ds us from r2) g.2
  obtain ⟨h3, h4⟩ := tL (show Den K tb W d u from p) g.1
  refine ⟨by rw [List.all_cons, h3, h1]; rfl, ?_⟩
  show (eqV u v || inV v us) = (eqF d x || inF x ds)
  rw [h4 x v h f, h2]
end
theorem Qf {X : Cx} {tb : List Addr} : OpD X tb (compareOp .In) (oIn false) := ⟨_, Bt, λ W x y v u d μ' Q ok dx dy ho h => by
 unfold oIn at ho
 obtain ⟨ds, e1, e2⟩ := Option.bind_eq_some_iff.mp ho
 split at e2
 .rename_i hf
  cases e2
  obtain ⟨a, xs, rfl, q, r⟩ := jc ok dy e1
  obtain ⟨h1, h2⟩ := qF dx hf.1 r hf.2
  refine ⟨a, xs, rfl, SqB.or q, (tL dx hf.1).1, h1, ?_⟩
  rw [h2]
  exact put ok h fQ
 .cases e2⟩
theorem Fj {X : Cx} {tb : List Addr} : OpD X tb (compareOp .NotIn) (oIn true) := ⟨_, vZ, λ W x y v u d μ' Q ok dx dy ho h => by
 unfold oIn at ho
 obtain ⟨ds, e1, e2⟩ := Option.bind_eq_some_iff.mp ho
 split at e2
 .rename_i hf
  cases e2
  obtain ⟨a, xs, rfl, q, r⟩ := jc ok dy e1
  obtain ⟨h1, h2⟩ := qF dx hf.1 r hf.2
  refine ⟨a, xs, rfl, SqB.or q, (tL dx hf.1).1, h1, ?_⟩
  rw [h2]
  exact put ok h fQ
 .cases e2⟩
open PySem.SeqAt
theorem CQ {X : Cx} {k : Nat} (hr : gQ k X.A) : OpR X (compareOp .NotEq) (λ v u H Q => ∃ a b xs ys, v = .ref a /\ u = .ref b /\ SqL X.K H a xs /\ SqL X.K H b ys /\ xs.length ≠ ys.length /\ Q (.bl true) H) := by
 intro pins s σ H v u vv uu Q I rv ru h
 obtain ⟨a, b, xs, ys, rfl, rfl, hx, hy, hl, q⟩ := h
 have hun := hr.un
 cases rv
 cases ru
 obtain ⟨its0, iv0, pl0, hz0⟩ := I.list hx
 obtain ⟨its1, iv1, pl1, hz1⟩ := I.list hy
 have hl' : its0.length ≠ its1.length := by rw [<- iv0.length, <- iv1.length]; exact hl
 exact RcNeAt.lists_lengths (A := X.A) pl0.isList pl1.isList (by simpa using hl') (by omega) X.prog X.w X.xe _ ⟨.bl true, H, I, rfl, q⟩
def By : O2 := λ x y μ => match x, y with
 | .lst ds, .lst [] => some (.bl (!ds.isEmpty), μ)
 | x, y => oNe x y μ
theorem zH {x y : D} {μ : Mu} : By x y μ = oNe x y μ ∨ ∃ d ds, x = .lst (d :: ds) /\ y = .lst [] /\ By x y μ = some (.bl true, μ) := by
 unfold By
 split
 .rename_i ds
  cases ds with
  | nil => left; unfold oNe rsv; simp [cH, fG, fV, iV, eqD, jC]
  | cons d ds => exact .inr ⟨d, ds, rfl, rfl, rfl⟩
 .exact .inl rfl
theorem KZ {X : Cx} {tb : List Addr} {k : Nat} (hr : gQ k X.A) : OpD X tb (compareOp .NotEq) By := ⟨_, (Fq hr).or (CQ hr), λ W x y v u d μ' Q ok dx dy ho h => by
 rcases zH (x := x) (y := y) (μ := W.mu) with e | ⟨d', ds, rfl, rfl, e⟩
 .rw [e] at ho
  unfold oNe at ho
  split at ho
  .rename_i hc
   cases ho
   rw [Bool.and_eq_true] at hc
   exact .inl ⟨_, _, nj ok dx hc.1.1, nj ok dy hc.1.2, hc.2, put ok h fQ⟩
  .cases ho
 .rw [e] at ho
  cases ho
  obtain ⟨a, xs, rfl, q, r⟩ := lZ dx
  obtain ⟨b, ys, rfl, q2, r2⟩ := lZ dy
  refine .inr ⟨a, b, xs, ys, rfl, rfl, SqL.fz q, SqL.fz q2, ?_, put ok h fQ⟩
  have h1 := aC.length r
  have h2 := aC.length r2
  simp at h1 h2
  omega⟩
def zZ (fa fb : EF) : LF := λ δ μ => (fa δ μ).bind λ r => (fb δ r.2).bind λ q => match r.1, q.1 with
 | .lst xs, .int k => if -(2 ^ 63) <= k /\ k < 2 ^ 63 /\ xs.length * k.toNat <= sizeLine then some ((List.replicate k.toNat xs).flatten, q.2) else none
 | _, _ => none
theorem Hw {X : Cx} {tb : List Addr} {a b : Expr} {fa fb : EF} {pos : Pos} (ha : PD X tb a fa) (hb : PD X tb b fb) : PDN X tb (.BinOp a .Mult b pos) (zZ fa fb) :=
 fJ (JH FP ha hb) λ σ H Q zq2 => by
  obtain ⟨W, δ, ds, μ', e, ok, hd, hf, h⟩ := zq2
  unfold zZ at hf
  obtain ⟨⟨x, μ1⟩, e1, hf⟩ := Option.bind_eq_some_iff.mp hf
  obtain ⟨⟨y, μ2⟩, e2, hf⟩ := Option.bind_eq_some_iff.mp hf
  refine ⟨W, δ, x, μ1, e, ok, hd, e1, λ v W1 ok1 l1 m1 d1 => ⟨W1, δ, y, μ2, rfl, ok1, hd.mono' l1, (by rw [m1]; exact e2), λ u W2 ok2 l2 m2 d2 => ?_⟩⟩
  have d1 := Den.mono' d1 l2
  cases x with
  | lst xs =>
   cases y with
   | int k =>
    have hf' : (if -(2 ^ 63) <= k /\ k < 2 ^ 63 /\ xs.length * k.toNat <= sizeLine then some ((List.replicate k.toNat xs).flatten, μ2) else none) = some (ds, μ') := hf
    split at hf'
    .rename_i hz
     cases hf'
     obtain ⟨c, us, rfl, q1, r1⟩ := pW d1
     rw [bF d2]
     exact ⟨c, k, us, rfl, rfl, (eU q1).1, hz.1, hz.2.1, by rw [<- aC.length r1]; exact hz.2.2, λ p hp => h p _ W2 ok2 (l1.trans l2) m2 hp (rN r1 _)⟩
    .cases hf'
   | _ => cases hf
  | _ => cases y <;> cases hf
end L3
namespace L2
open PySem PySem.Spec PyProof.Rows
section
variable {X : Cx} {pos : Pos}
def QK (i j k : Nat) (ta : TA) : TS := λ D σ H => ta σ H λ vs H1 => ∃ v w z, vs = [v, w, z] /\ D.nx (((σ.set i (some v)).set j (some w)).set k (some z)) H1
theorem Hd {i j k : Nat} {x y z : Str} {a b c : Expr} {ta : TA} {px py pz pt : Pos} {kt k2 pt2} (hc : X.calm = true) (hN : X.N.Nodup) (hi : X.N[i]? = some x) (hj : X.N[j]? = some y) (hk : X.N[k]? = some z) (hij : i ≠ j) (hik : i ≠ k) (hjk : j ≠ k)
  (hx : X.env.scope.names.lookup x = some .local) (hy : X.env.scope.names.lookup y = some .local) (hz : X.env.scope.names.lookup z = some .local) (ha : PA X [a, b, c] ta)
  (hw : swappedStores [.Tuple [.Name x px, .Name y py, .Name z pz] kt pt] (.Tuple [a, b, c] k2 pt2) X.env = pure (some [x, y, z]))
  (hs : swapsWithSole [.Tuple [.Name x px, .Name y py, .Name z pz] kt pt] (.Tuple [a, b, c] k2 pt2) pos.line X.env = pure false := by rfl) :
  PS X (.Assign [.Tuple [.Name x px, .Name y py, .Name z pz] kt pt] (.Tuple [a, b, c] k2 pt2) pos) (QK i j k ta) := by
 intro pins s σ H D I h
 rw [exec_Assign_arm]
 refine wpAny_bind (wpAny_standAt ?_)
 rw [hs]
 refine wpAny_bind (wpAny_pure ?_)
 rw [if_neg (by decide)]
 refine wpAny_bind (Tuple_ (thn (ha _ pins s σ H _ I h) λ us s1 zq4 => ?_))
 obtain ⟨vs, H1, I1, r1, q1⟩ := zq4
 obtain ⟨v, w, t, e1, q1⟩ := q1
 subst e1
 obtain ⟨u1, u2, u3, rfl, rv, rw', rt⟩ : ∃ u1 u2 u3, us = [u1, u2, u3] /\ RelV v u1 /\ RelV w u2 /\ RelV t u3 := by
  cases r1 with
  | cons p q =>
   cases q with
   | cons p' q' =>
    cases q' with
    | cons p'' q'' =>
     cases q''
     exact ⟨_, _, _, rfl, p, p', p''⟩
 refine wpAny_newObj_type ?_ (by show 3 <= sizeLine; decide)
 have I2 : Inv X pins σ H1 { s1 with heap := s1.heap.push { cls := .type "tuple", data := .seq [u1, u2, u3].toArray } } := I1.kept (t' := s1.toks) λ b o e => Heap.get?_push_of_some _ e
 rw [hw]
 refine wpAny_bind (wpAny_pure ?_)
 show wpAny (model X.prog X.w) X.A (do rule "assign.swapped-stores"; let items <- unpackItems (.ref s1.heap.objs.size) 3 none; assignInOrder [λ v => bindName X.env z v, λ v => bindName X.env y v, λ v => bindName X.env x v] items.reverse; pure Flow.next) _ _ _
 refine wpAny_bind (wpAny_rule (wpAny_bind (unpackItems_tuple (items := #[u1, u2, u3]) (I.ok.hd hc) (IsTup.new s1.heap _) λ h' hx' => ?_)))
 have I3 := I2.kept (h' := h') (t' := s1.toks) λ b o e => hx' b o (Nat.ne_of_lt (Heap.lt_size e)) e
 show wpAny _ _ (assignInOrder [λ v => bindName X.env z v, λ v => bindName X.env y v, λ v => bindName X.env x v] [u3, u2, u1] >>= λ _ => pure Flow.next) _ _ _
 refine wpAny_bind (assignInOrder_cons (wpAny_bindName (jn I3 hN hk (.inl hz) rt (λ s2 I4 => ?_) (.inr hz))))
 refine assignInOrder_cons (wpAny_bindName (jn I4 hN hj (.inl hy) rw' (λ s3 I5 => ?_) (.inr hy)))
 refine assignInOrder_cons (wpAny_bindName (jn I5 hN hi (.inl hx) rv (λ s4 I6 => assignInOrder_nil (wpAny_pure ?_)) (.inr hx)))
 have e : ((σ.set k (some t)).set j (some w)).set i (some v) = ((σ.set i (some v)).set j (some w)).set k (some t) := by
  rw [List.set_comm _ _ (Ne.symm hij), List.set_comm _ _ (Ne.symm hik), List.set_comm (l := σ.set i (some v)) _ _ (Ne.symm hjk)]
 rw [e] at I6
 exact ⟨_, H1, I6, q1⟩
end
end L2
namespace L3
open PySem PySem.Spec PyProof.Rows L2
def Ay (i j k : Nat) (fs : AF) : SF := λ δ μ => (fs δ μ).bind λ r => match r.1 with
 | [x, y, z] => some (.nx, ((δ.set i (some x)).set j (some y)).set k (some z), r.2)
 | _ => none
theorem Gq {X : Cx} {tb : List Addr} {pos : Pos} {i j k : Nat} {x y z : Str} {a b c : Expr} {fs : AF} {px py pz pt : Pos} {kt k2 pt2} (hc : X.calm = true) (hN : X.N.Nodup) (ha : PAD X tb [a, b, c] fs) (hij : i ≠ j := by decide) (hik : i ≠ k := by decide) (hjk : j ≠ k := by decide) (hi : X.N[i]? = some x := by rfl) (hj : X.N[j]? = some y := by rfl) (hk : X.N[k]? = some z := by rfl)
  (hx : X.env.scope.names.lookup x = some .local := by rfl) (hy : X.env.scope.names.lookup y = some .local := by rfl) (hz : X.env.scope.names.lookup z = some .local := by rfl)
  (hw : swappedStores [.Tuple [.Name x px, .Name y py, .Name z pz] kt pt] (.Tuple [a, b, c] k2 pt2) X.env = pure (some [x, y, z]) := by rfl)
  (hs : swapsWithSole [.Tuple [.Name x px, .Name y py, .Name z pz] kt pt] (.Tuple [a, b, c] k2 pt2) pos.line X.env = pure false := by rfl) :
  PSD X tb (.Assign [.Tuple [.Name x px, .Name y py, .Name z pz] kt pt] (.Tuple [a, b, c] k2 pt2) pos) (Ay i j k fs) :=
 kh (Hd hc hN hi hj hk hij hik hjk hx hy hz ha hw hs) λ E σ H zq5 => by
  obtain ⟨W, δ, fl, δ', μ', e, ok, hd, hf, h⟩ := zq5
  unfold Ay at hf
  obtain ⟨⟨xs, μ1⟩, e1, e2⟩ := Option.bind_eq_some_iff.mp hf
  match xs, e1, e2 with
  | [x, y, z], e1, e2 =>
   cases e2
   refine ⟨W, δ, _, _, e, ok, hd, e1, λ vs W1 ok1 l1 m1 d1 => ?_⟩
   unfold di aC at d1
   obtain ⟨u, us, rfl, du, d1⟩ := d1
   obtain ⟨v, w, rfl, dv, dw⟩ := aC.two d1
   exact ⟨u, v, w, rfl, h _ W1 ok1 l1 m1 ((((hd.mono' l1).set du).set dv).set dw)⟩
theorem us1 {α : Type} {P : List α -> Prop} (h : ∀ a, P [a]) : ∀ us : List α, us.length = 1 -> P us
 | [a], _ => h a
theorem us2 {α : Type} {P : List α -> Prop} (h : ∀ a b, P [a, b]) : ∀ us : List α, us.length = 2 -> P us
 | [a, b], _ => h a b
theorem us3 {α : Type} {P : List α -> Prop} (h : ∀ a b c, P [a, b, c]) : ∀ us : List α, us.length = 3 -> P us
 | [a, b, c], _ => h a b c
theorem us4 {α : Type} {P : List α -> Prop} (h : ∀ a b c d, P [a, b, c, d]) : ∀ us : List α, us.length = 4 -> P us
 | [a, b, c, d], _ => h a b c d
structure Got (K : PySem.W.Frag) (x : Str) (st : Stmt) (f c P : Addr) (fd : FuncData) : Prop where
 F : fK K x x st f fd P
 m : PySem.W.nsIn K mainGlobals x = some (some (.ref f))
 t : PySem.W.tabIn K x = some (c, P)
 e : ∃ kV dc pm an ct, fd = PySem.W.fnOf x x (lR st) (jE st) (aP st) .none kV dc pm an (.ref c) ct
theorem MT {K : PySem.W.Frag} {x : Str} {st : Stmt} {f c P : Addr} {oc : Value} {od an : Option Addr} {osl : Array (Option Value)} {kV doc pm ct : Value} {dd : Option Addr} {vs : Array Value} {sl : Array (Option Value)} (a : PySem.W.nsIn K mainGlobals x = some (some (.ref f)))
  (l : K.lookup f = some ⟨oc, od, .func (PySem.W.fnOf x x (lR st) (jE st) (aP st) .none kV doc pm an (.ref c) ct), osl⟩) (hc : PySem.W.codeIn K (.ref c) x = true) (k : PySem.W.keepIn K (.ref f) = true)
  (lc : K.lookup c = some ⟨.type "code", dd, .fields vs, sl⟩) (p : vs[11]? = some (.ref P)) (q : wF vs = true) (ne : (c != P) = true) : ∃ f c P fd, Got K x st f c P fd :=
 ⟨f, c, P, _, Hr l hc k lc p q ne, a, Nb a l rfl lc p, kV, doc, pm, an, ct, rfl⟩
open PySem.SeqAt
theorem NK {X : Cx} {k : Nat} (hr : gQ k X.A) : OpR X (compareOp .Eq) (λ v u H Q => ∃ a b xs, v = .ref a /\ u = .ref b /\ SqT X.K H a xs /\ SqT X.K H b [] /\ Q (.bl xs.isEmpty) H) := by
 intro pins s σ H v u vv uu Q I rv ru h
 obtain ⟨a, b, xs, rfl, rfl, hx, hy, q⟩ := h
 have hun := hr.un
 cases rv
 cases ru
 obtain ⟨its0, iv0, pl0, hz0⟩ := I.tuple hx
 obtain ⟨its1, iv1, pl1, hz1⟩ := I.tuple hy
 have e1 : its1 = [] := List.eq_nil_of_length_eq_zero (by rw [<- iv1.length]; rfl)
 subst e1
 have rc := RcAt.tuples (A := X.A) (e := λ _ => true) pl0 pl1 (by omega) (λ j h1 h2 => absurd h2 (by simp))
 have e2 : ((List.range (min its0.toArray.size ([] : List Value).toArray.size)).all (λ _ => true) && its0.toArray.size == ([] : List Value).toArray.size) = xs.isEmpty := by
  have hl := iv0.length
  cases xs with
  | nil =>
   have : its0 = [] := List.eq_nil_of_length_eq_zero hl.symm
   subst this; rfl
  | cons x xs =>
   cases its0 with
   | nil => cases hl
   | cons y ys => simp
 rw [e2] at rc
 exact rc X.prog X.w X.xe _ ⟨.bl xs.isEmpty, H, I, rfl, q⟩
def zX : O2 := λ x y μ => match x, y with
 | .tup ds, .tup [] => some (.bl ds.isEmpty, μ)
 | x, y => oEq x y μ
theorem zL {x y : D} {μ : Mu} : zX x y μ = oEq x y μ ∨ ∃ ds, x = .tup ds /\ y = .tup [] /\ zX x y μ = some (.bl ds.isEmpty, μ) := by
 unfold zX
 split
 .exact .inr ⟨_, rfl, rfl, rfl⟩
 .exact .inl rfl
theorem LK {X : Cx} {tb : List Addr} {k : Nat} (hr : gQ k X.A) : OpD X tb (compareOp .Eq) zX := ⟨_, (Fz hr).or (NK hr), λ W x y v u d μ' Q ok dx dy ho h => by
 rcases zL (x := x) (y := y) (μ := W.mu) with e | ⟨ds, rfl, rfl, e⟩
 .rw [e] at ho
  unfold oEq at ho
  split at ho
  .rename_i hc
   cases ho
   rw [Bool.and_eq_true] at hc
   exact .inl ⟨_, _, nj ok dx hc.1.1, nj ok dy hc.1.2, hc.2, put ok h fQ⟩
  .cases ho
 .rw [e] at ho
  cases ho
  obtain ⟨a, xs, rfl, q, r⟩ := iU dx
  obtain ⟨b, ys, rfl, q2, r2⟩ := iU dy
  have e1 : ys = [] := List.eq_nil_of_length_eq_zero (aC.length r2).symm
  subst e1
  have e2 : xs.isEmpty = ds.isEmpty := by
   have := aC.length r
   cases ds <;> cases xs <;> first | rfl | cases this
  refine .inr ⟨a, b, xs, rfl, rfl, SqT.fz q, SqT.fz q2, ?_⟩
  rw [e2]
  exact put ok h fQ⟩
end L3
set_option maxHeartbeats 4000000
namespace LG
open PySem PySem.Spec PyProof.Rows L2 L3
noncomputable def gb : SF := bI (km (M1 (aq 0) (iW "int")) (vH (M1 (aq 0) (iW "bool"))))
noncomputable def dq (dO : FF) : SF := bI (km (M1 (aq 0) (iW "tuple")) (wG (mW ["part"] [] (gk (aq 0)) (hName 0) (MC (ao (aq 0) (aD)) dO))))
noncomputable def cM : SF := aQ (wU 0 1 (ao (MC (ao (aq 0) (aD)) (aZ pD)) (ao (MC (ao (aq 1) (aD)) (aZ pD)) (aD)))) (aQ (mx (toB (M2 (aq 1) (mC (.int 0)) oNe)) (wU 0 1 (ao (aq 1) (ao (M2 (aq 0) (aq 1) oMod) (aD))))) (bI (aq 0)))
noncomputable def bO (aW : FF) : SF := aQ (bz 1 (mC (.int 0))) (aQ (iC (gk (aq 0)) (hName 2) (aQ (bz 1 (MC (ao (aq 1) (ao (aq 2) (aD))) aW)) (sIf (toB (M2 (aq 1) (mC (.int 1)) oEq)) (sW) (bM)))) (bI (aq 1)))
noncomputable def fM (bC aU : FF) : SF := aQ (sIf (jY (fX (jM (MC (ao (aq 0) (aD)) bC))) (fX (toB (MCh (mC (.int 2)) (MC (ao (aq 0) (aD)) (aZ cz)) (M2 (mC (.int 3)) (mC (.int 1)) bJ) oLe oLe)))) (bI (mC (.bl false))) (bM)) (bI (km (M2 (M2 (aq 0) (M1 (mC (.int 1)) ir) oIx) (mC (.int 1)) oGe) (M2 (MC (ao (aq 0) (aD)) aU) (mC (.int 1)) oEq)))
noncomputable def jl : SF := aQ (bz 2 (M2 (M2 (M2 (M2 (M2 (aq 0) (mC (.int 2147483647)) oMod) (mC (.int 48271)) eO) (M2 (M2 (mC (.int 7919)) (aq 1) eO) (aq 1) eO) bJ) (mC (.int 104729)) bJ) (mC (.int 2147483647)) oMod)) (bI (M2 (M2 (aq 2) (aq 2) eO) (mC (.int 2147483629)) oMod))
noncomputable def mQ (bA : FF) : SF := aQ (bz 1 (oA (sI (aD)))) (aQ (iC (cC (ao (MC (ao (MC (ao (aq 0) (aD)) (aZ cz)) (ao (mC (.int 63)) (aD))) (qe su)) (aD))) (hName 2) (aQ (bz 3 (MC (ao (M2 (aq 0) (aq 2) oIx) (aD)) (aZ pD))) (aQ (sIf (toB (M2 (aq 3) (M2 (mC (.int 10)) (mC (.int 18)) xT) oLt)) (iC (cC (ao (mC (.int 12)) (aD))) (hName 4) (gP (jz (aq 1) (ao (MC (ao (MC (ao (aq 3) (ao (M2 (M2 (mC (.int 3)) (aq 4) eO) (mC (.int 1)) bJ) (aD))) bA) (ao (M2 (M2 (aq 4) (aq 2) bJ) (mC (.int 2)) bJ) (aD))) bA) (aD))))) (bM)) (aQ (mx (qd (toB (M2 (aq 3) (M2 (mC (.int 10)) (mC (.int 18)) xT) oGe)) (toB (M2 (MC (ao (aq 1) (aD)) (aZ cz)) (mC (.int 900)) oLt))) (aQ (gP (jz (aq 1) (ao (M2 (aq 3) (mC (.int 2147483629)) oMod) (aD)))) (bz 3 (M2 (aq 3) (mC (.int 2147483629)) oDiv)))) (sIf (toB (M2 (aq 3) (mC (.int 2147483629)) oGe)) (gP (jz (aq 1) (ao (M2 (aq 3) (mC (.int 2147483629)) oMod) (aD)))) (bM)))))) (bI (aq 1)))
noncomputable def mq : SF := aQ (sIf (toB (M2 (aq 0) (MC (aD) oLst) oEq)) (bI (mC (.int 0))) (bM)) (bI (An (aq 0)))
noncomputable def pF : SF := aQ (mx (toB (M2 (aq 1) (mC (.int 0)) oNe)) (wU 0 1 (ao (aq 1) (ao (M2 (aq 0) (aq 1) oMod) (aD))))) (bI (MC (ao (aq 0) (aD)) (aZ pD)))
noncomputable def dM (eQ : FF) : SF := aQ (bz 2 (aq 1)) (aQ (iC (gk (aq 0)) (hName 3) (bz 2 (MC (ao (aq 2) (ao (aq 3) (aD))) eQ))) (aQ (sIf (toB (M2 (aq 1) (mC (.int 0)) oLt)) (bz 2 (M2 (mC (.int 0)) (MC (ao (aq 2) (aD)) (aZ pD)) jh)) (bM)) (bI (M2 (MC (ao (mFz (lLC ["_law_number"] [2] (gk (aq 0)) (hName 0) (dh) (M2 (aq 0) (aq 1) oDiv))) (aD)) iJ) (MC (ao (M2 (aq 1) (aq 2) oDiv) (aD)) oTup) bJ))))
noncomputable def lK : SF := bI (km (M1 (aq 0) (iW "int")) (vH (M1 (aq 0) (iW "bool"))))
noncomputable def nW : SF := bI (km (M1 (aq 0) (iW "bool")) (M2 (aq 0) (aq 1) oEq))
noncomputable def Ar (φ_Lput φ_Lodd : FF) : SF := aQ (bz 2 (M2 (M2 (aq 1) (mC (.int 16)) oDiv) (MC (ao (aq 0) (aD)) (aZ cz)) oMod)) (aQ (bz 3 (MC (ao (mSl (aq 0) (fNo) (fAt (M1 (mC (.int 1)) ir))) (ao (mSl (aq 0) (fAt (mC (.int 1))) (fNo)) (ao (M2 (aq 0) (MC (ao (mC (.int 1)) (aD)) oTup) bJ) (ao (M2 (aq 0) (MC (ao (mC (.int 0)) (aD)) oTup) bJ) (ao (mFz (lOf (ao (aq 0) (aD)))) (ao (MC (ao (mFz (lLC ["_law_one"] [] (gk (aq 0)) (hName 0) (dh) (M2 (mC (.int 3)) (aq 0) eO))) (aD)) iJ) (ao (MC (ao (aq 0) (aD)) oTup) (aD)))))))) oLst)) (aQ (bz 3 (M2 (aq 3) (MC (ao (MC (ao (mFz (lLC ["_law_one"] [] (gk (aq 0)) (hName 0) (dh) (M2 (mC (.int 0)) (aq 0) jh))) (aD)) iJ) (ao (M2 (mSl (aq 0) (fNo) (fAt (M1 (mC (.int 1)) ir))) (MC (ao (mC (.int 0)) (aD)) oTup) bJ) (ao (M2 (mSl (aq 0) (fNo) (fAt (M1 (mC (.int 1)) ir))) (MC (ao (M2 (mC (.int 0)) (M2 (aq 0) (M1 (mC (.int 1)) ir) oIx) jh) (aD)) oTup) bJ) (ao (M2 (mSl (aq 0) (fNo) (fAt (M1 (mC (.int 1)) ir))) (MC (ao (mC (.bl true)) (aD)) oTup) bJ) (aD))))) oLst) bJ)) (aQ (bz 3 (M2 (aq 3) (MC (ao (MC (ao (mFz (lLC ["_law_one"] [] (gk (aq 0)) (hName 0) (dh) (M2 (mC (.int 2)) (aq 0) eO))) (aD)) iJ) (ao (DW (aq 0)) (ao (MC (ao (mFz (lLC ["_law_one"] [0] (gk (aq 0)) (hName 0) (dh) (M2 (M2 (aq 1) (M1 (mC (.int 1)) ir) oIx) (aq 0) eO))) (aD)) iJ) (aD)))) oLst) bJ)) (bI (M2 (M2 (aq 3) (MC (ao (MC (ao (aq 0) (ao (aq 2) (ao (MC (ao (M2 (aq 1) (mC (.int 64)) oDiv) (aD)) φ_Lodd) (aD)))) φ_Lput) (ao (MC (ao (aq 0) (ao (aq 2) (ao (M2 (aq 1) (mC (.int 64)) oDiv) (aD)))) φ_Lput) (aD))) oLst) bJ) (M2 (aq 1) (mC (.int 16)) oMod) oIx)))))
noncomputable def gV : SF := aQ (sIf (toB (M2 (aq 1) (mC (.int 0)) oEq)) (bI (MC (ao (M2 (M2 (aq 0) (mC (.int 20001)) oMod) (mC (.int 10000)) jh) (ao (M2 (mC (.int 1)) (M2 (M2 (aq 0) (mC (.int 20001)) oDiv) (mC (.int 60)) oMod) bJ) (aD))) oTup)) (bM)) (aQ (sIf (toB (M2 (aq 1) (mC (.int 1)) oEq)) (bI (MC (ao (M2 (M2 (aq 0) (mC (.int 5)) oMod) (mC (.int 2)) jh) (ao (mC (.int 1)) (aD))) oTup)) (bM)) (aQ (sIf (toB (M2 (aq 1) (mC (.int 2)) oEq)) (bI (MC (ao (M2 (M2 (aq 0) (mC (.int 11)) oMod) (mC (.int 5)) jh) (ao (M2 (mC (.int 1)) (M2 (M2 (aq 0) (mC (.int 11)) oDiv) (mC (.int 3)) oMod) bJ) (aD))) oTup)) (bM)) (aQ (sIf (toB (M2 (aq 1) (mC (.int 3)) oEq)) (bI (MC (ao (M2 (aq 2) (M2 (MC (ao (mC (.int 0)) (ao (mC (.int 0)) (ao (mC (.int 1)) (ao (mC (.int 40)) (aD))))) oLst) (M2 (aq 0) (mC (.int 4)) oMod) oIx) bJ) (ao (mC (.int 1)) (aD))) oTup)) (bM)) (bI (MC (ao (M2 (M2 (aq 0) (mC (.int 2)) oMod) (M2 (mC (.int 1)) (M2 (aq 2) (mC (.int 7)) oMod) bJ) eO) (ao (mC (.int 1)) (aD))) oTup)))))
noncomputable def lH (bA iz aL : FF) : SF := aQ (bz 4 (oA (sI (aD)))) (aQ (bz 5 (mC (.int 1))) (aQ (iC (cC (ao (aq 1) (aD))) (hName 6) (aQ (ut (MC (ao (MC (ao (aq 0) (ao (M2 (aq 6) (mC (.int 1)) bJ) (aD))) bA) (ao (aq 2) (ao (M2 (aq 3) (aq 6) bJ) (aD)))) iz) (iw 2 (bj (hName 7) (bj (hName 8) (gZ))))) (aQ (sIf (toB (M2 (aq 6) (mC (.int 0)) oEq)) (bz 5 (aq 8)) (bM)) (gP (jz (aq 4) (ao (aq 7) (aD))))))) (bI (MC (ao (uD (aq 4)) (ao (aq 5) (aD))) aL))))
noncomputable def jg (aU : FF) : SF := aQ (bz 1 (MC (ao (aq 0) (aD)) aU)) (bI (ym (mW ["number"] [1] (gk (aq 0)) (hName 0) (M2 (aq 0) (aq 1) oDiv))))
noncomputable def eN (bC : FF) : SF := aQ (sIf (jY (fX (jM (MC (ao (aq 1) (aD)) bC))) (toB (M2 (MC (ao (aq 1) (aD)) (aZ cz)) (mC (.int 2)) oNe))) (bI (mC (.bl false))) (bM)) (bI (km (MCh (mC (.int 0)) (M2 (aq 1) (mC (.int 0)) oIx) (aq 0) oLe oLt) (M2 (M2 (aq 1) (mC (.int 1)) oIx) (mC (.int 1)) oGe)))
noncomputable def dF (fu : FF) : SF := aQ (sIf (jY (fX (jM (M1 (aq 1) (iW "tuple")))) (toB (M2 (MC (ao (aq 1) (aD)) (aZ cz)) (mC (.int 0)) oEq))) (bI (mC (.bl false))) (bM)) (aQ (sIf (fX (jM (wG (mW ["part"] [0] (gk (aq 1)) (hName 0) (MC (ao (aq 1) (ao (aq 0) (aD))) fu))))) (bI (mC (.bl false))) (bM)) (bI (wG (mW ["one", "other"] [] (rm (ao (aq 1) (ao (mSl (aq 1) (fAt (mC (.int 1))) (fNo)) (aD)))) (iw 2 (bj (hName 0) (bj (hName 1) (gZ)))) (M2 (M2 (aq 0) (mC (.int 0)) oIx) (M2 (aq 1) (mC (.int 0)) oIx) oLt)))))
noncomputable def cW (aW : FF) : SF := aQ (bz 1 (mC (.int 1))) (aQ (iC (gk (aq 0)) (hName 2) (Bu 1 (M2 (aq 2) (MC (ao (aq 1) (ao (aq 2) (aD))) aW) oDiv) Ax)) (bI (aq 1)))
noncomputable def cY : SF := bI (Hh (mW ["one", "other"] [] (rm (ao (aq 0) (ao (aq 1) (aD)))) (iw 2 (bj (hName 0) (bj (hName 1) (gZ)))) (M2 (aq 0) (aq 1) eO)))
noncomputable def jF (bW : FF) : SF := bI (mFz (lLC ["at"] [1, 0] (cC (ao (MC (ao (M2 (aq 0) (mC (.int 0)) oIx) (aD)) (aZ cz)) (aD))) (hName 0) (dh) (MC (ao (aq 1) (ao (mFz (lLC ["row"] [0] (gk (aq 2)) (hName 0) (dh) (M2 (aq 0) (aq 1) oIx))) (aD))) bW)))
noncomputable def eY (bY : FF) : SF := aQ (bz 2 (MC (ao (mFz (lLC ["point"] [] (gk (aq 0)) (hName 0) (dh) (M2 (aq 0) (M1 (mC (.int 1)) ir) oIx))) (aD)) bY)) (bI (mFz (lLC ["number", "point"] [2] (rm (ao (aq 1) (ao (aq 0) (aD)))) (iw 2 (bj (hName 0) (bj (hName 1) (gZ)))) (dh) (M2 (aq 0) (M2 (aq 2) (M2 (aq 1) (M1 (mC (.int 1)) ir) oIx) oDiv) eO))))
noncomputable def nQ (dg il fj : FF) : SF := aQ (bz 2 (mFz (lLC ["k", "share"] [0] (gk (aq 1)) (iw 2 (bj (hName 0) (bj (hName 1) (gZ)))) (dh) (M2 (aq 2) (aq 0) oIx)))) (aQ (bz 3 (MC (ao (aq 2) (ao (mFz (lLC ["k", "share"] [] (gk (aq 1)) (iw 2 (bj (hName 0) (bj (hName 1) (gZ)))) (dh) (aq 1))) (aD))) dg)) (bI (MC (ao (MC (ao (aq 2) (ao (aq 3) (aD))) il) (aD)) fj)))
noncomputable def Ek (eQ aL : FF) : SF := aQ (bz 2 (mC (.int 1))) (aQ (iC (gk (aq 1)) (iw 2 (bj (hName 3) (bj (hName 4) (gZ)))) (bz 2 (M2 (M2 (aq 2) (M2 (M2 (aq 0) (aq 3) oIx) (M1 (mC (.int 1)) ir) oIx) eO) (MC (ao (aq 2) (ao (M2 (M2 (aq 0) (aq 3) oIx) (M1 (mC (.int 1)) ir) oIx) (aD))) eQ) oDiv))) (aQ (bz 5 (oA (zZ (MC (ao (mC (.int 0)) (aD)) oLst) (M2 (MC (ao (M2 (aq 0) (M2 (M2 (aq 1) (mC (.int 0)) oIx) (mC (.int 0)) oIx) oIx) (aD)) (aZ cz)) (mC (.int 1)) jh)))) (aQ (bz 6 (mC (.int 0))) (aQ (iC (gk (aq 1)) (iw 2 (bj (hName 3) (bj (hName 4) (gZ)))) (aQ (bz 6 (M2 (aq 6) (aq 4) bJ)) (iC (cC (ao (MC (ao (aq 5) (aD)) (aZ cz)) (aD))) (hName 7) (aQ (bz 8 (M2 (M2 (aq 4) (M2 (M2 (aq 0) (aq 3) oIx) (aq 7) oIx) eO) (M2 (aq 2) (M2 (M2 (aq 0) (aq 3) oIx) (M1 (mC (.int 1)) ir) oIx) oDiv) eO)) (zE (M2 (M2 (aq 5) (aq 7) oIx) (aq 8) bJ) (aq 5) (aq 7)))))) (bI (MC (ao (uD (aq 5)) (ao (M2 (aq 2) (aq 6) eO) (aD))) aL))))))
noncomputable def jH : SF := bI (km (M1 (aq 1) (iW "tuple")) (M2 (MC (ao (aq 1) (aD)) (aZ cz)) (aq 0) oEq))
noncomputable def cB (dZ : FF) : SF := bI (km (MC (ao (MC (ao (aq 0) (aD)) (aZ cz)) (ao (aq 2) (aD))) dZ) (wG (mW ["k", "share"] [1] (gk (aq 2)) (iw 2 (bj (hName 0) (bj (hName 1) (gZ)))) (M2 (aq 0) (aq 2) (oIn false)))))
noncomputable def gA (bV jm : FF) : SF := bI (km (MC (ao (aq 0) (ao (aq 1) (ao (aq 3) (aD)))) bV) (M2 (MC (ao (aq 0) (ao (aq 3) (aD))) jm) (aq 2) oEq))
noncomputable def bL (iB gj gC : FF) : SF := aQ (sIf (fX (jM (MC (ao (mC (.int 2)) (ao (aq 2) (aD))) iB))) (bI (mC (.bl false))) (bM)) (aQ (ut (aq 2) (iw 2 (bj (hName 3) (bj (hName 4) (gZ))))) (aQ (sIf (jY (fX (jM (MC (ao (aq 3) (aD)) gj))) (fX (jM (MC (ao (MC (ao (aq 1) (aD)) (aZ cz)) (ao (aq 4) (aD))) iB)))) (bI (mC (.bl false))) (bM)) (bI (wG (mW ["group", "row"] [0, 3] (rm (ao (aq 1) (ao (aq 4) (aD)))) (iw 2 (bj (hName 0) (bj (hName 1) (gZ)))) (MC (ao (aq 2) (ao (aq 0) (ao (aq 3) (ao (aq 1) (aD))))) gC))))))
noncomputable def xJ (φ_Larrow_mix φ_mix_of φ_Lsame : FF) : SF := aQ (bz 2 (MC (ao (aq 0) (ao (aq 1) (aD))) φ_Larrow_mix)) (aQ (bz 3 (MC (ao (mFz (lLC ["_law_k", "_law_share"] [] (gk (aq 1)) (iw 2 (bj (hName 0) (bj (hName 1) (gZ)))) (dh) (MC (ao (aq 0) (ao (M2 (mC (.int 12)) (aq 1) eO) (aD))) oTup))) (aD)) iJ)) (bI (km (MC (ao (MK (aD) (ao (aq 0) (ao (aq 1) (aD))) [0, 1] φ_mix_of) (ao (aq 2) (aD))) φ_Lsame) (MC (ao (MC (ao (aq 0) (ao (aq 3) (aD))) φ_mix_of) (ao (aq 2) (aD))) φ_Lsame))))
noncomputable def nG (aL : FF) : SF := aQ (bz 2 (M2 (aq 1) (M2 (MC (ao (aq 0) (aD)) (aZ cz)) (mC (.int 1)) jh) oMod)) (aQ (bz 3 (M2 (MC (ao (mC (.int 1000)) (ao (mC (.int 1)) (ao (mC (.int 3)) (ao (mC (.int 1000000)) (aD))))) oLst) (M2 (M2 (aq 1) (mC (.int 3)) oDiv) (mC (.int 4)) oMod) oIx)) (aQ (bz 4 (oA (lLC ["_law_one"] [3] (gk (mSl (aq 0) (fNo) (fAt (M1 (mC (.int 1)) ir)))) (hName 0) (dh) (M2 (aq 0) (aq 1) eO)))) (aQ (zE (M2 (M2 (aq 4) (aq 2) oIx) (M2 (M2 (MC (ao (mC (.int 1)) (ao (M1 (mC (.int 1)) ir) (aD))) oLst) (M2 (M2 (aq 1) (mC (.int 12)) oDiv) (mC (.int 2)) oMod) oIx) (M2 (aq 0) (M1 (mC (.int 1)) ir) oIx) eO) bJ) (aq 4) (aq 2)) (bI (MC (ao (uD (aq 4)) (ao (M2 (M2 (aq 0) (M1 (mC (.int 1)) ir) oIx) (aq 3) eO) (aD))) aL)))))
noncomputable def jQ (eQ aL : FF) : SF := aQ (bz 2 (mC (.int 1))) (aQ (iC (gk (aq 1)) (iw 2 (bj (hName 3) (bj (hName 4) (gZ)))) (bz 2 (M2 (M2 (aq 2) (M2 (M2 (aq 0) (aq 3) oIx) (M1 (mC (.int 1)) ir) oIx) eO) (MC (ao (aq 2) (ao (M2 (M2 (aq 0) (aq 3) oIx) (M1 (mC (.int 1)) ir) oIx) (aD))) eQ) oDiv))) (aQ (bz 5 (oA (zZ (MC (ao (mC (.int 0)) (aD)) oLst) (M2 (MC (ao (M2 (aq 0) (M2 (M2 (aq 1) (mC (.int 0)) oIx) (mC (.int 0)) oIx) oIx) (aD)) (aZ cz)) (mC (.int 1)) jh)))) (aQ (bz 6 (mC (.int 0))) (aQ (iC (gk (aq 1)) (iw 2 (bj (hName 3) (bj (hName 4) (gZ)))) (aQ (bz 6 (M2 (aq 6) (aq 4) bJ)) (iC (cC (ao (MC (ao (aq 5) (aD)) (aZ cz)) (aD))) (hName 7) (aQ (bz 8 (M2 (aq 4) (M2 (M2 (aq 0) (aq 3) oIx) (aq 7) oIx) eO)) (zE (M2 (M2 (aq 5) (aq 7) oIx) (M2 (aq 8) (M2 (aq 2) (M2 (M2 (aq 0) (aq 3) oIx) (M1 (mC (.int 1)) ir) oIx) oDiv) eO) bJ) (aq 5) (aq 7)))))) (bI (MC (ao (uD (aq 5)) (ao (M2 (aq 2) (aq 6) eO) (aD))) aL))))))
noncomputable def aY (cN aL dG lX : FF) : SF := aQ (sIf (jY (fX (jM (M1 (aq 2) (iW "tuple")))) (jY (toB (M2 (MC (ao (aq 2) (aD)) (aZ cz)) (mC (.int 2)) oNe)) (fX (jM (M1 (M2 (aq 2) (mC (.int 0)) oIx) (iW "tuple")))))) (bI (mC (.bl false))) (bM)) (aQ (ut (aq 2) (iw 2 (bj (hName 3) (bj (hName 4) (gZ))))) (aQ (sIf (jY (toB (M2 (MC (ao (aq 3) (aD)) (aZ cz)) (MC (ao (M2 (aq 0) (mC (.int 0)) oIx) (aD)) (aZ cz)) oNe)) (jY (fX (jM (wG (Ag (mFz (lLC ["_law_one"] [] (gk (aq 3)) (hName 0) (dh) (MC (ao (aq 0) (aD)) cN))))))) (toB (M2 (M2 (aq 3) (M1 (mC (.int 1)) ir) oIx) (mC (.int 1)) oLt)))) (bI (mC (.bl false))) (bM)) (aQ (sIf (jY (toB (M2 (MC (ao (mSl (aq 3) (fNo) (fAt (M1 (mC (.int 1)) ir))) (ao (M2 (aq 3) (M1 (mC (.int 1)) ir) oIx) (aD))) aL) (aq 3) oNe)) (jY (fX (jM (M1 (aq 4) (iW "tuple")))) (toB (M2 (MC (ao (aq 4) (aD)) (aZ cz)) (MC (ao (aq 1) (aD)) (aZ cz)) oNe)))) (bI (mC (.bl false))) (bM)) (aQ (iC (rm (ao (aq 1) (ao (aq 4) (aD)))) (iw 2 (bj (hName 5) (bj (hName 6) (gZ)))) (aQ (sIf (jY (fX (jM (MC (ao (MC (ao (aq 0) (aD)) (aZ cz)) (ao (aq 6) (aD))) dG))) (toB (M2 (mFz (lLC ["_law_k", "_law_share"] [5] (gk (aq 6)) (iw 2 (bj (hName 0) (bj (hName 1) (gZ)))) (toB (M2 (aq 0) (aq 2) (oIn true))) (aq 0))) (MC (aD) oLst) By))) (bI (mC (.bl false))) (bM)) (sIf (toB (M2 (MC (ao (aq 0) (ao (aq 6) (aD))) lX) (aq 3) oNe)) (bI (mC (.bl false))) (bM)))) (bI (mC (.bl true)))))))
noncomputable def cA (cN : FF) : SF := aQ (sIf (jY (fX (jM (M1 (aq 1) (iW "tuple")))) (toB (M2 (aq 1) (MC (aD) oTup) zX))) (bI (mC (.bl false))) (bM)) (aQ (bz 2 (M1 (mC (.int 1)) ir)) (aQ (iC (gk (aq 1)) (hName 3) (aQ (sIf (jY (fX (jM (M1 (aq 3) (iW "tuple")))) (jY (toB (M2 (MC (ao (aq 3) (aD)) (aZ cz)) (mC (.int 2)) oNe)) (jY (fX (jM (MC (ao (M2 (aq 3) (mC (.int 0)) oIx) (aD)) cN))) (fX (jM (MC (ao (M2 (aq 3) (mC (.int 1)) oIx) (aD)) cN)))))) (bI (mC (.bl false))) (bM)) (aQ (sIf (jY (toB (M2 (M2 (aq 3) (mC (.int 0)) oIx) (aq 2) oLe)) (jY (toB (M2 (M2 (aq 3) (mC (.int 0)) oIx) (aq 0) oGe)) (toB (M2 (M2 (aq 3) (mC (.int 1)) oIx) (mC (.int 1)) oLt)))) (bI (mC (.bl false))) (bM)) (bz 2 (M2 (aq 3) (mC (.int 0)) oIx))))) (bI (mC (.bl true)))))
noncomputable def dN (cF bA aL fO : FF) : SF := aQ (bz 3 (mFz (lLC ["_law_k"] [0] (cC (ao (aq 1) (aD))) (hName 0) (dh) (M2 (M2 (MC (ao (aq 1) (aD)) cF) (mC (.int 21)) oMod) (mC (.int 10)) jh)))) (aQ (Ay 4 5 6 (ao (oA (sI (aD))) (ao (oA (sI (aD))) (ao (oA (sI (aD))) (aD))))) (aQ (iC (cC (ao (aq 2) (aD))) (hName 7) (aQ (bz 8 (MC (ao (aq 0) (aD)) cF)) (aQ (bz 9 (mFz (lLC ["_law_k"] [8] (cC (ao (aq 1) (aD))) (hName 0) (dh) (M2 (M2 (MC (ao (aq 1) (ao (M2 (aq 0) (mC (.int 1)) bJ) (aD))) bA) (mC (.int 9)) oMod) (mC (.int 4)) jh)))) (aQ (ut (MC (ao (M2 (mC (.int 1)) (M2 (aq 8) (mC (.int 3)) oMod) bJ) (ao (M2 (mC (.int 1)) (M2 (M2 (aq 8) (mC (.int 3)) oDiv) (mC (.int 3)) oMod) bJ) (aD))) oTup) (iw 2 (bj (hName 10) (bj (hName 11) (gZ))))) (aQ (bz 12 (MC (ao (aq 4) (aD)) (aZ cz))) (aQ (gP (jz (aq 4) (ao (MC (ao (mFz (lLC ["_law_k"] [3, 11, 9] (cC (ao (aq 1) (aD))) (hName 0) (dh) (M2 (M2 (aq 1) (aq 0) oIx) (M2 (aq 2) (M2 (aq 3) (aq 0) oIx) eO) bJ))) (ao (mC (.int 1)) (aD))) aL) (aD)))) (aQ (gP (jz (aq 4) (ao (MC (ao (mFz (lLC ["_law_k"] [3, 10, 9] (cC (ao (aq 1) (aD))) (hName 0) (dh) (M2 (M2 (aq 1) (aq 0) oIx) (M2 (aq 2) (M2 (aq 3) (aq 0) oIx) eO) jh))) (ao (mC (.int 1)) (aD))) aL) (aD)))) (aQ (bz 13 (MC (aD) oTup)) (aQ (sIf (toB (M2 (M2 (M2 (aq 8) (mC (.int 9)) oDiv) (mC (.int 3)) oMod) (mC (.int 0)) oEq)) (aQ (gP (jz (aq 4) (ao (MC (ao (M2 (aq 8) (mC (.int 27)) oDiv) (ao (aq 1) (ao (mC (.int 1)) (ao (mC (.int 0)) (aD))))) fO) (aD)))) (bz 13 (MC (ao (M2 (aq 12) (mC (.int 2)) bJ) (aD)) oTup))) (bM)) (aQ (gP (jz (aq 5) (ao (M2 (MC (ao (aq 12) (ao (M2 (aq 12) (mC (.int 1)) bJ) (aD))) oTup) (aq 13) bJ) (aD)))) (gP (jz (aq 6) (ao (MC (ao (MC (ao (aq 12) (ao (aq 10) (aD))) oTup) (ao (MC (ao (M2 (aq 12) (mC (.int 1)) bJ) (ao (aq 11) (aD))) oTup) (aD))) oTup) (aD)))))))))))))) (bI (MC (ao (uD (aq 4)) (ao (uD (aq 5)) (ao (MC (ao (MC (ao (aq 3) (ao (mC (.int 1)) (aD))) aL) (ao (MC (ao (uD (aq 6)) (aD)) iJ) (aD))) oTup) (aD)))) oTup))))
noncomputable def nM (gG : FF) : SF := aQ (ut (aq 0) (iw 2 (bj (hName 2) (bj (hName 3) (gZ))))) (aQ (bz 4 (M2 (M2 (aq 1) (mC (.int 16)) oDiv) (MC (ao (aq 3) (aD)) (aZ cz)) oMod)) (aQ (bz 5 (M2 (aq 3) (aq 4) oIx)) (aQ (ut (M2 (aq 5) (M2 (M2 (aq 1) (mC (.int 64)) oDiv) (MC (ao (aq 5) (aD)) (aZ cz)) oMod) oIx) (iw 2 (bj (hName 6) (bj (hName 7) (gZ))))) (aQ (bz 8 (M2 (aq 1) (mC (.int 16)) oMod)) (aQ (sIf (toB (M2 (aq 8) (mC (.int 4)) oLt)) (aQ (bz 9 (MC (ao (MC (ao (aq 2) (ao (M2 (aq 1) (mC (.int 64)) oDiv) (aD))) gG) (ao (mFz (lOf (ao (aq 2) (aD)))) (ao (M2 (aq 2) (MC (ao (mC (.int 0)) (aD)) oTup) bJ) (ao (MC (ao (mFz (lLC ["_law_one"] [] (gk (aq 2)) (hName 0) (dh) (M2 (aq 0) (mC (.int 2)) eO))) (aD)) iJ) (aD))))) oLst)) (bI (MC (ao (M2 (aq 9) (aq 8) oIx) (ao (aq 3) (aD))) oTup))) (bM)) (aQ (bz 10 (MC (ao (M2 (MC (ao (MC (ao (aq 6) (ao (M2 (aq 7) (mC (.int 1)) bJ) (aD))) oTup) (aD)) oTup) (mSl (aq 5) (fAt (mC (.int 1))) (fNo)) bJ) (ao (mSl (aq 5) (fNo) (fAt (M1 (mC (.int 1)) ir))) (ao (DW (aq 5)) (ao (mFz (lOf (ao (aq 5) (aD)))) (ao (MC (aD) oTup) (ao (M2 (aq 5) (mSl (aq 5) (fAt (M1 (mC (.int 1)) ir)) (fNo)) bJ) (ao (M2 (MC (ao (MC (ao (aq 6) (ao (mC (.int 0)) (aD))) oTup) (aD)) oTup) (mSl (aq 5) (fAt (mC (.int 1))) (fNo)) bJ) (aD)))))))) oLst)) (aQ (sIf (toB (M2 (aq 8) (mC (.int 11)) oLt)) (bI (MC (ao (aq 2) (ao (M2 (M2 (mSl (aq 3) (fNo) (fAt (aq 4))) (MC (ao (M2 (aq 10) (M2 (aq 8) (mC (.int 4)) jh) oIx) (aD)) oTup) bJ) (mSl (aq 3) (fAt (M2 (aq 4) (mC (.int 1)) bJ)) (fNo)) bJ) (aD))) oTup)) (bM)) (aQ (sIf (toB (M2 (aq 8) (mC (.int 14)) oLt)) (bI (MC (ao (aq 2) (ao (M2 (MC (ao (mSl (aq 3) (fAt (mC (.int 1))) (fNo)) (ao (M2 (aq 3) (mSl (aq 3) (fNo) (fAt (mC (.int 1)))) bJ) (ao (mFz (lOf (ao (aq 3) (aD)))) (aD)))) oLst) (M2 (aq 8) (mC (.int 11)) jh) oIx) (aD))) oTup)) (bM)) (bI (M2 (MC (ao (MC (ao (aq 2) (ao (aq 3) (aD))) oLst) (ao (M2 (MC (ao (aq 2) (aD)) oTup) (aq 3) bJ) (aD))) oLst) (M2 (aq 8) (mC (.int 14)) jh) oIx))))))))))
noncomputable def lU (bf cG jr : FF) : SF := bI (MC (ao (MC (ao (aq 0) (ao (aq 1) (ao (aq 2) (aD)))) cG) (ao (MC (ao (aq 0) (ao (aq 1) (ao (aq 2) (aD)))) bf) (aD))) jr)
noncomputable def qO (iy cF bZ bf fL iQ : FF) : SF := aQ (bz 1 (MC (ao (aq 0) (aD)) iy)) (aQ (iC (cC (ao (mC (.int 3)) (aD))) (hName 2) (aQ (ut (MC (ao (aq 1) (ao (M2 (mC (.int 1)) (M2 (MC (ao (aq 1) (aD)) cF) (mC (.int 3)) oMod) bJ) (ao (M2 (mC (.int 1)) (M2 (MC (ao (aq 1) (aD)) cF) (mC (.int 5)) oMod) bJ) (aD)))) bZ) (iw 3 (bj (hName 3) (bj (hName 4) (bj (hName 5) (gZ)))))) (aQ (bz 6 (mFz (lOf (ao (aq 3) (aD))))) (aQ (sIf (jY (fX (jM (MC (ao (aq 3) (ao (aq 4) (ao (aq 5) (aD)))) bf))) (fX (jM (MC (ao (aq 3) (ao (aq 4) (ao (aq 5) (aD)))) fL)))) (bI (mC (.bl false))) (bM)) (aQ (iC (cC (ao (mC (.int 8)) (aD))) (hName 7) (sIf (fX (jM (MC (ao (aq 3) (ao (aq 4) (ao (MC (ao (aq 5) (ao (MC (ao (aq 1) (aD)) cF) (aD))) iQ) (aD)))) fL))) (bI (mC (.bl false))) (bM))) (aQ (bz 8 (MC (ao (aq 1) (aD)) cF)) (aQ (bz 9 (M2 (aq 8) (MC (ao (aq 4) (aD)) (aZ cz)) oMod)) (aQ (bz 10 (M2 (MC (ao (mSl (M2 (aq 4) (aq 9) oIx) (fNo) (fAt (M1 (mC (.int 1)) ir))) (ao (M2 (aq 4) (M2 (aq 9) (mC (.int 1)) jh) oIx) (aD))) oLst) (M2 (M2 (aq 8) (mC (.int 5)) oDiv) (mC (.int 2)) oMod) oIx)) (aQ (sIf (fX (jM (MC (ao (aq 3) (ao (M2 (M2 (mSl (aq 4) (fNo) (fAt (aq 9))) (MC (ao (aq 10) (aD)) oLst) bJ) (mSl (aq 4) (fAt (M2 (aq 9) (mC (.int 1)) bJ)) (fNo)) bJ) (ao (aq 5) (aD)))) fL))) (bI (mC (.bl false))) (bM)) (sIf (toB (M2 (aq 3) (aq 6) oNe)) (bI (mC (.bl false))) (bM))))))))))) (bI (mC (.bl true))))
end LG
namespace Lk32
open PySem PySem.Spec PyProof.Rows L2 L3 LG
def top (i : Nat) : Stmt := PySem.Challenge.pw_heapsmeet_k32_shared_by_clauses.main.body.getD i (.Pass ⟨0, 0, 0, 0⟩)
structure BI (K : PySem.W.Frag) (mg : Str -> Option Value) : Prop where
 b_abs : mg "abs" = none
 b_all : mg "all" = none
 b_bool : mg "bool" = none
 b_int : mg "int" = none
 b_isinstance : mg "isinstance" = none
 b_len : mg "len" = none
 b_list : mg "list" = none
 b_min : mg "min" = none
 b_range : mg "range" = none
 b_sum : mg "sum" = none
 b_tuple : mg "tuple" = none
 b_zip : mg "zip" = none
 c_MOST_DIRECTIONS : GD K mg "MOST_DIRECTIONS" (.int 3)
variable {P : Program} {w : World} {K : PySem.W.Frag} {mg : Str -> Option Value} {base : Heap} {tb : List Addr} {f Tb : Addr} {fd : FuncData}
abbrev sO : Stmt := top 23
theorem vz : bh ["_law_cell", "_law_k", "_law_number"] ["_law_cell", "_law_k"] (aP sO) := ⟨rfl, rfl, rfl, by decide +kernel, rfl, by decide +kernel, by decide +kernel⟩
theorem BJ (T : BI K mg) (F : fK K "_law_mixed" "_law_mixed" sO f fd Tb) (KB : K.In base) (hmg : mg "_law_mixed" = some (.ref f)) : FI P w K mg base tb "_law_mixed" 2 (0 + 1) (aJ 3 (jl)) :=
 dm F KB hmg vz rfl (λ _ _ _ _ _ _ => us2 λ _ _ => rfl) λ c A outer s H E hcd hr => by
  have nd := vz.nd
  refine aA ?_ (aF (aM (aG cu (aG fW (pdv 2) (pdv 2)) az)))
  refine aX (i := 2) nd ?_
  refine aG cu ?_ az
  refine aG bG ?_ az
  exact aG bG (aG fW (aG cu (pdv 0) az) az) (aG fW (aG fW az (pdv 1)) (pdv 1))
abbrev tE : Stmt := top 24
theorem vA : bh ["_law_script", "_law_drawn", "_law_k", "_law_cell", "_law_j"] ["_law_script"] (aP tE) := ⟨rfl, rfl, rfl, by decide +kernel, rfl, by decide +kernel, by decide +kernel⟩
theorem Cz {bA : FF} (T : BI K mg) (F : fK K "_law_draws" "_law_draws" tE f fd Tb) (KB : K.In base) (hmg : mg "_law_draws" = some (.ref f)) (F_Lmixed : FI P w K mg base tb "_law_mixed" 2 1 bA) : FI P w K mg base tb "_law_draws" 1 (1 + 1) (aJ 5 (mQ bA)) :=
 dm F KB hmg vA rfl (λ _ _ _ _ _ _ => us1 λ _ => rfl) λ c A outer s H E hcd hr => by
  have nd := vA.nd
  refine aA (aX (i := 1) nd (nY (pK au))) ?_
  refine aA ?_ (aF (aM (pdv 1)))
  refine fY (ts := [2]) PassesOwn.never rfl ?_ (aH (i := 2) nd) ?_
  refine cZ T.b_range ?_
  refine aa ?_ au
  refine GJ rfl T.b_min ?_
  exact aa (dH T.b_len (aa (pdv 0) au)) (aa az au)
  refine aA (aX (i := 3) nd (tH T.b_abs (aa (bH (pdv 0) (pdv 2)) au))) ?_
  refine aA ?_ ?_
  refine bR (bx oF (pdv 3) (aG El az az)) ?_ bc
  refine aF ?_
  refine fY (ts := [4]) PassesOwn.never rfl (cZ T.b_range (aa az au)) (aH (i := 4) nd) ?_
  refine aF ?_
  refine iH ?_
  refine gM (pdv 1) ?_
  refine aa ?_ au
  refine aN F_Lmixed (hr.mono (by decide)) ?_ (aB (aB aO))
  refine aa ?_ (aa (aG bG (aG bG (pdv 4) (pdv 2)) az) au)
  refine aN F_Lmixed (hr.mono (by decide)) ?_ (aB (aB aO))
  exact aa (pdv 3) (aa (aG bG (aG fW az (pdv 4)) az) au)
  refine aA ?_ ?_
  refine qG PassesOwn.never ?_ ?_
  refine jf ?_
  exact HW (bx ye (pdv 3) (aG El az az)) (Fi (bx oF (dH T.b_len (aa (pdv 1) au)) az))
  refine aA ?_ (aF (aX (i := 3) nd (aG fH (pdv 3) az)))
  exact iH (gM (pdv 1) (aa (aG cu (pdv 3) az) au))
  refine aF ?_
  refine bR (bx ye (pdv 3) az) ?_ bc
  refine aF ?_
  exact iH (gM (pdv 1) (aa (aG cu (pdv 3) az) au))
abbrev wX : Stmt := top 25
theorem xP : bh ["_law_drawn"] ["_law_drawn"] (aP wX) := ⟨rfl, rfl, rfl, by decide +kernel, rfl, by decide +kernel, by decide +kernel⟩
theorem FZ (T : BI K mg) (F : fK K "_law_next" "_law_next" wX f fd Tb) (KB : K.In base) (hmg : mg "_law_next" = some (.ref f)) : FI P w K mg base tb "_law_next" 1 (0 + 1) (aJ 1 (mq)) :=
 dm F KB hmg xP rfl (λ _ _ _ _ _ _ => us1 λ _ => rfl) λ c A outer s H E hcd hr => by
  have nd := xP.nd
  refine aA ?_ (aF (aM (HQ (pdv 0))))
  exact bR (bx (lz hr) (pdv 0) (ji au)) (aF (aM az)) bc
abbrev zN : Stmt := top 26
theorem Bd : bh ["_law_one", "_law_other"] ["_law_one", "_law_other"] (aP zN) := ⟨rfl, rfl, rfl, by decide +kernel, rfl, by decide +kernel, by decide +kernel⟩
theorem Hm (T : BI K mg) (F : fK K "_law_gcd" "_law_gcd" zN f fd Tb) (KB : K.In base) (hmg : mg "_law_gcd" = some (.ref f)) : FI P w K mg base tb "_law_gcd" 2 (0 + 1) (aJ 2 (pF)) :=
 dm F KB hmg Bd rfl (λ _ _ _ _ _ _ => us2 λ _ _ => rfl) λ c A outer s H E hcd hr => by
  have nd := Bd.nd
  refine aA ?_ (aF (aM (tH T.b_abs (aa (pdv 0) au))))
  refine qG PassesOwn.never (bx (oO hr) (pdv 1) az) ?_
  refine aF ?_
  exact wV (i := 0) (j := 1) rfl nd (aa (pdv 1) (aa (aG cu (pdv 0) (pdv 1)) au))
abbrev qK : Stmt := top 27
theorem sy : bh ["_law_numbers", "_law_bottom", "_law_common", "_law_number"] ["_law_numbers", "_law_bottom"] (aP qK) := ⟨rfl, rfl, rfl, by decide +kernel, rfl, by decide +kernel, by decide +kernel⟩
theorem zK {eQ : FF} (T : BI K mg) (F : fK K "_law_lowest" "_law_lowest" qK f fd Tb) (KB : K.In base) (hmg : mg "_law_lowest" = some (.ref f)) (F_Lgcd : FI P w K mg base tb "_law_gcd" 2 1 eQ) : FI P w K mg base tb "_law_lowest" 2 (1 + 1) (aJ 4 (dM eQ)) :=
 dm F KB hmg sy rfl (λ _ _ _ _ _ _ => us2 λ _ _ => rfl) λ c A outer s H E hcd hr => by
  have nd := sy.nd
  refine aA (aX (i := 2) nd (pdv 1)) ?_
  refine aA ?_ ?_
  refine fY (ts := [3]) PassesOwn.never rfl (dC (pdv 0)) (aH (i := 3) nd) ?_
  refine aF ?_
  exact aX (i := 2) nd (aN F_Lgcd (hr.mono (by decide)) (aa (pdv 2) (aa (pdv 3) au)) (aB (aB aO)))
  refine aA ?_ ?_
  refine bR (bx oF (pdv 1) az) ?_ bc
  exact aF (aX (i := 2) nd (aG iY az (tH T.b_abs (aa (pdv 2) au))))
  refine aF ?_
  refine aM ?_
  refine aG bG ?_ (cO (aa (aG fH (pdv 1) (pdv 2)) au))
  refine ue T.b_tuple ?_
  refine aa ?_ au
  refine gB ?_
  refine jb (own := ["_law_number"]) (cap := ["_law_common"]) (capI := [2]) (ts := [0]) rfl ⟨rfl, by decide +kernel, ⟨⟨rfl, by first | exact Or.inl rfl | exact Or.inr rfl⟩, trivial⟩, by decide +kernel, by decide +kernel⟩ (by decide +kernel) (dC (pdv 0)) (λ cs C fp s2 H2 => aH (i := 0) (show (["_law_number", "_law_common"] : List Str).Nodup by decide +kernel)) ?_ ?_
  intro cs C fp s2 H2
  exact eF
  intro cs C fp s2 H2
  exact aG fH (pdv 0) (pdv 1)
abbrev rT : Stmt := top 28
theorem vI : bh ["_law_number", "_law_kind", "_law_base"] ["_law_number", "_law_kind", "_law_base"] (aP rT) := ⟨rfl, rfl, rfl, by decide +kernel, rfl, by decide +kernel, by decide +kernel⟩
theorem BX (T : BI K mg) (F : fK K "_law_place" "_law_place" rT f fd Tb) (KB : K.In base) (hmg : mg "_law_place" = some (.ref f)) : FI P w K mg base tb "_law_place" 3 (0 + 1) (aJ 3 (gV)) :=
 dm F KB hmg vI rfl (λ _ _ _ _ _ _ => us3 λ _ _ _ => rfl) λ c A outer s H E hcd hr => by
  have nd := vI.nd
  refine aA ?_ ?_
  refine bR (bx (lz hr) (pdv 1) az) ?_ bc
  refine aF ?_
  refine aM ?_
  refine cO ?_
  refine aa (aG iY (aG cu (pdv 0) az) az) ?_
  exact aa (aG bG az (aG cu (aG fH (pdv 0) az) az)) au
  refine aA ?_ ?_
  refine bR (bx (lz hr) (pdv 1) az) ?_ bc
  refine aF ?_
  refine aM ?_
  refine cO ?_
  exact aa (aG iY (aG cu (pdv 0) az) az) (aa az au)
  refine aA ?_ ?_
  refine bR (bx (lz hr) (pdv 1) az) ?_ bc
  refine aF ?_
  refine aM ?_
  refine cO ?_
  refine aa (aG iY (aG cu (pdv 0) az) az) ?_
  exact aa (aG bG az (aG cu (aG fH (pdv 0) az) az)) au
  refine aA ?_ ?_
  refine bR (bx (lz hr) (pdv 1) az) ?_ bc
  refine aF ?_
  refine aM ?_
  refine cO ?_
  refine aa ?_ (aa az au)
  refine aG bG (pdv 2) ?_
  refine bH ?_ (aG cu (pdv 0) az)
  refine ji ?_
  exact aa az (aa az (aa az (aa az au)))
  refine aF ?_
  refine aM ?_
  refine cO ?_
  refine aa ?_ (aa az au)
  exact aG fW (aG cu (pdv 0) az) (aG bG az (aG cu (pdv 2) az))
abbrev tG : Stmt := top 29
theorem uJ : bh ["_law_number", "_law_directions", "_law_kind", "_law_base", "_law_numbers", "_law_bottom", "_law_k", "_law_top", "_law_under"] ["_law_number", "_law_directions", "_law_kind", "_law_base"] (aP tG) := ⟨rfl, rfl, rfl, by decide +kernel, rfl, by decide +kernel, by decide +kernel⟩
theorem Br {bA iz aL : FF} (T : BI K mg) (F : fK K "_law_point" "_law_point" tG f fd Tb) (KB : K.In base) (hmg : mg "_law_point" = some (.ref f)) (F_Lmixed : FI P w K mg base tb "_law_mixed" 2 1 bA) (F_Lplace : FI P w K mg base tb "_law_place" 3 1 iz) (F_Llowest : FI P w K mg base tb "_law_lowest" 2 2 aL) : FI P w K mg base tb "_law_point" 4 (2 + 1) (aJ 9 (lH bA iz aL)) :=
 dm F KB hmg uJ rfl (λ _ _ _ _ _ _ => us4 λ _ _ _ _ => rfl) λ c A outer s H E hcd hr => by
  have nd := uJ.nd
  refine aA (aX (i := 4) nd (nY (pK au))) ?_
  refine aA (aX (i := 5) nd az) ?_
  refine aA ?_ ?_
  refine fY (ts := [6]) PassesOwn.never rfl (cZ T.b_range (aa (pdv 1) au)) (aH (i := 6) nd) ?_
  refine aA ?_ ?_
  refine lO (ts := [7, 8]) ?_ (dI rfl (aR (aH (i := 7) nd) (aR (aH (i := 8) nd) cJ)))
  refine aN F_Lplace (hr.mono (by decide)) ?_ (aB (aB (aB aO)))
  refine aa ?_ (aa (pdv 2) (aa (aG bG (pdv 3) (pdv 6)) au))
  exact aN F_Lmixed (hr.mono (by decide)) (aa (pdv 0) (aa (aG bG (pdv 6) az) au)) (aB (aB aO))
  refine aA ?_ (aF (iH (gM (pdv 4) (aa (pdv 7) au))))
  exact bR (bx (lz hr) (pdv 6) az) (aF (aX (i := 5) nd (pdv 8))) bc
  refine aF ?_
  exact aM (aN F_Llowest (hr.mono (by decide)) (aa (qz (pdv 4)) (aa (pdv 5) au)) (aB (aB aO)))
abbrev jx : Stmt := top 36
theorem lD : bh ["_law_drawn", "_law_directions", "_law_many", "_law_spot", "_law_points", "_law_groups", "_law_rows", "_law_j", "_law_number", "_law_by", "_law_first", "_law_second", "_law_at", "_law_extra"] ["_law_drawn", "_law_directions", "_law_many"] (aP jx) := ⟨rfl, rfl, rfl, by decide +kernel, rfl, by decide +kernel, by decide +kernel⟩
theorem qI {cF bA aL fO : FF} (T : BI K mg) (F : fK K "_law_round_a_spot" "_law_round_a_spot" jx f fd Tb) (KB : K.In base) (hmg : mg "_law_round_a_spot" = some (.ref f)) (F_Lnext : FI P w K mg base tb "_law_next" 1 1 cF) (F_Lmixed : FI P w K mg base tb "_law_mixed" 2 1 bA) (F_Llowest : FI P w K mg base tb "_law_lowest" 2 2 aL) (F_Lpoint : FI P w K mg base tb "_law_point" 4 3 fO) : FI P w K mg base tb "_law_round_a_spot" 3 (3 + 1) (aJ 14 (dN cF bA aL fO)) :=
 dm F KB hmg lD rfl (λ _ _ _ _ _ _ => us3 λ _ _ _ => rfl) λ c A outer s H E hcd hr => by
  have nd := lD.nd
  refine aA ?_ ?_
  refine aX (i := 3) nd ?_
  refine gB ?_
  refine jb (own := ["_law_k"]) (cap := ["_law_drawn"]) (capI := [0]) (ts := [0]) rfl ⟨rfl, by decide +kernel, ⟨⟨rfl, by first | exact Or.inl rfl | exact Or.inr rfl⟩, trivial⟩, by decide +kernel, by decide +kernel⟩ (by decide +kernel) (cZ T.b_range (aa (pdv 1) au)) (λ cs C fp s2 H2 => aH (i := 0) (show (["_law_k", "_law_drawn"] : List Str).Nodup by decide +kernel)) ?_ ?_
  intro cs C fp s2 H2
  exact eF
  intro cs C fp s2 H2
  refine aG iY ?_ az
  exact aG cu (aN F_Lnext (hr.mono (by decide)) (aa (pdv 1) au) (aB aO)) az
  refine aA ?_ ?_
  refine Gq (i := 4) (j := 5) (k := 6) rfl nd ?_
  refine aa (nY (pK au)) ?_
  exact aa (nY (pK au)) (aa (nY (pK au)) au)
  refine aA ?_ ?_
  refine fY (ts := [7]) PassesOwn.never rfl (cZ T.b_range (aa (pdv 2) au)) (aH (i := 7) nd) ?_
  refine aA ?_ ?_
  exact aX (i := 8) nd (aN F_Lnext (hr.mono (by decide)) (aa (pdv 0) au) (aB aO))
  refine aA ?_ ?_
  refine aX (i := 9) nd ?_
  refine gB ?_
  refine jb (own := ["_law_k"]) (cap := ["_law_number"]) (capI := [8]) (ts := [0]) rfl ⟨rfl, by decide +kernel, ⟨⟨rfl, by first | exact Or.inl rfl | exact Or.inr rfl⟩, trivial⟩, by decide +kernel, by decide +kernel⟩ (by decide +kernel) (cZ T.b_range (aa (pdv 1) au)) (λ cs C fp s2 H2 => aH (i := 0) (show (["_law_k", "_law_number"] : List Str).Nodup by decide +kernel)) ?_ ?_
  intro cs C fp s2 H2
  exact eF
  intro cs C fp s2 H2
  refine aG iY ?_ az
  refine aG cu ?_ az
  exact aN F_Lmixed (hr.mono (by decide)) (aa (pdv 1) (aa (aG bG (pdv 0) az) au)) (aB (aB aO))
  refine aA ?_ ?_
  refine lO (ts := [10, 11]) ?_ (dI rfl (aR (aH (i := 10) nd) (aR (aH (i := 11) nd) cJ)))
  refine cO ?_
  refine aa (aG bG az (aG cu (pdv 8) az)) ?_
  exact aa (aG bG az (aG cu (aG fH (pdv 8) az) az)) au
  refine aA (aX (i := 12) nd (dH T.b_len (aa (pdv 4) au))) ?_
  refine aA ?_ ?_
  refine iH ?_
  refine gM (pdv 4) ?_
  refine aa ?_ au
  refine aN F_Llowest (hr.mono (by decide)) ?_ (aB (aB aO))
  refine aa ?_ (aa az au)
  refine gB ?_
  refine jb (own := ["_law_k"]) (cap := ["_law_spot", "_law_second", "_law_by"]) (capI := [3, 11, 9]) (ts := [0]) rfl ⟨rfl, by decide +kernel, ⟨⟨rfl, by first | exact Or.inl rfl | exact Or.inr rfl⟩, ⟨⟨rfl, by first | exact Or.inl rfl | exact Or.inr rfl⟩, ⟨⟨rfl, by first | exact Or.inl rfl | exact Or.inr rfl⟩, trivial⟩⟩⟩, by decide +kernel, by decide +kernel⟩ (by decide +kernel) (cZ T.b_range (aa (pdv 1) au)) (λ cs C fp s2 H2 => aH (i := 0) (show (["_law_k", "_law_spot", "_law_second", "_law_by"] : List Str).Nodup by decide +kernel)) ?_ ?_
  intro cs C fp s2 H2
  exact eF
  intro cs C fp s2 H2
  exact aG bG (bH (pdv 1) (pdv 0)) (aG fW (pdv 2) (bH (pdv 3) (pdv 0)))
  refine aA ?_ ?_
  refine iH ?_
  refine gM (pdv 4) ?_
  refine aa ?_ au
  refine aN F_Llowest (hr.mono (by decide)) ?_ (aB (aB aO))
  refine aa ?_ (aa az au)
  refine gB ?_
  refine jb (own := ["_law_k"]) (cap := ["_law_spot", "_law_first", "_law_by"]) (capI := [3, 10, 9]) (ts := [0]) rfl ⟨rfl, by decide +kernel, ⟨⟨rfl, by first | exact Or.inl rfl | exact Or.inr rfl⟩, ⟨⟨rfl, by first | exact Or.inl rfl | exact Or.inr rfl⟩, ⟨⟨rfl, by first | exact Or.inl rfl | exact Or.inr rfl⟩, trivial⟩⟩⟩, by decide +kernel, by decide +kernel⟩ (by decide +kernel) (cZ T.b_range (aa (pdv 1) au)) (λ cs C fp s2 H2 => aH (i := 0) (show (["_law_k", "_law_spot", "_law_first", "_law_by"] : List Str).Nodup by decide +kernel)) ?_ ?_
  intro cs C fp s2 H2
  exact eF
  intro cs C fp s2 H2
  exact aG iY (bH (pdv 1) (pdv 0)) (aG fW (pdv 2) (bH (pdv 3) (pdv 0)))
  refine aA (aX (i := 13) nd (cO au)) ?_
  refine aA ?_ ?_
  refine bR (bx (lz hr) (aG cu (aG fH (pdv 8) az) az) az) ?_ bc
  refine aA ?_ ?_
  refine iH ?_
  refine gM (pdv 4) ?_
  refine aa ?_ au
  refine aN F_Lpoint (hr.mono (by decide)) ?_ (aB (aB (aB (aB aO))))
  exact aa (aG fH (pdv 8) az) (aa (pdv 1) (aa az (aa az au)))
  exact aF (aX (i := 13) nd (cO (aa (aG bG (pdv 12) az) au)))
  refine aA ?_ ?_
  refine iH ?_
  refine gM (pdv 5) ?_
  refine aa ?_ au
  refine aG bG ?_ (pdv 13)
  exact cO (aa (pdv 12) (aa (aG bG (pdv 12) az) au))
  refine aF ?_
  refine iH ?_
  refine gM (pdv 6) ?_
  refine aa ?_ au
  refine cO ?_
  refine aa (cO (aa (pdv 12) (aa (pdv 10) au))) ?_
  refine aa ?_ au
  exact cO (aa (aG bG (pdv 12) az) (aa (pdv 11) au))
  refine aF ?_
  refine aM ?_
  refine cO ?_
  refine aa (qz (pdv 4)) ?_
  refine aa (qz (pdv 5)) ?_
  refine aa ?_ au
  refine cO ?_
  exact aa (aN F_Llowest (hr.mono (by decide)) (aa (pdv 3) (aa az au)) (aB (aB aO))) (aa (ue T.b_tuple (aa (qz (pdv 6)) au)) au)
abbrev tO : Stmt := top 32
theorem uY : bh ["_law_thing"] ["_law_thing"] (aP tO) := ⟨rfl, rfl, rfl, by decide +kernel, rfl, by decide +kernel, by decide +kernel⟩
theorem Cr (T : BI K mg) (F : fK K "_law_whole" "_law_whole" tO f fd Tb) (KB : K.In base) (hmg : mg "_law_whole" = some (.ref f)) : FI P w K mg base tb "_law_whole" 1 (0 + 1) (aJ 1 (lK)) :=
 dm F KB hmg uY rfl (λ _ _ _ _ _ _ => us1 λ _ => rfl) λ c A outer s H E hcd hr => by
  have nd := uY.nd
  refine aF ?_
  refine aM ?_
  refine lV ?_ ?_
  exact iZ T.b_isinstance T.b_int PyProof.Rows.boot_int (by decide) (pdv 0)
  refine jD ?_
  refine Dt ?_
  exact iZ T.b_isinstance T.b_bool PyProof.Rows.boot_bool (by decide) (pdv 0)
abbrev lu : Stmt := top 35
theorem mZ : bh ["_law_many", "_law_thing", "_law_before", "_law_row"] ["_law_many", "_law_thing"] (aP lu) := ⟨rfl, rfl, rfl, by decide +kernel, rfl, by decide +kernel, by decide +kernel⟩
theorem rQ {cN : FF} (T : BI K mg) (F : fK K "_law_are_shares" "_law_are_shares" lu f fd Tb) (KB : K.In base) (hmg : mg "_law_are_shares" = some (.ref f)) (F_Lwhole : FI P w K mg base tb "_law_whole" 1 1 cN) : FI P w K mg base tb "_law_are_shares" 2 (1 + 1) (aJ 4 (cA cN)) :=
 dm F KB hmg mZ rfl (λ _ _ _ _ _ _ => us2 λ _ _ => rfl) λ c A outer s H E hcd hr => by
  have nd := mZ.nd
  refine aA ?_ ?_
  refine bR ?_ (aF (aM gW)) bc
  refine jf ?_
  refine fP ?_ (gY (bx (LK hr) (pdv 1) (cO au)))
  refine cR ?_
  refine cX ?_
  exact iZ T.b_isinstance T.b_tuple PyProof.Rows.boot_tuple (by decide) (pdv 1)
  refine aA (aX (i := 2) nd (gh az)) ?_
  refine aA ?_ (aF (aM gW))
  refine fY (ts := [3]) PassesOwn.never rfl (dC (pdv 1)) (aH (i := 3) nd) ?_
  refine aA ?_ ?_
  refine bR ?_ (aF (aM gW)) bc
  refine jf ?_
  refine fP ?_ ?_
  refine cR ?_
  refine cX ?_
  exact iZ T.b_isinstance T.b_tuple PyProof.Rows.boot_tuple (by decide) (pdv 3)
  refine fP (bx (oO hr) (dH T.b_len (aa (pdv 3) au)) az) ?_
  refine fP ?_ ?_
  refine cR ?_
  exact cX (aN F_Lwhole (hr.mono (by decide)) (aa (bH (pdv 3) az) au) (aB aO))
  refine gY ?_
  refine cR ?_
  exact cX (aN F_Lwhole (hr.mono (by decide)) (aa (bH (pdv 3) az) au) (aB aO))
  refine aA ?_ (aF (aX (i := 2) nd (bH (pdv 3) az)))
  refine bR ?_ (aF (aM gW)) bc
  refine jf ?_
  refine fP (bx Ac (bH (pdv 3) az) (pdv 2)) ?_
  exact fP (bx ye (bH (pdv 3) az) (pdv 0)) (gY (bx oF (bH (pdv 3) az) az))
abbrev zz : Stmt := top 30
theorem Af : bh ["_law_points", "_law_shares", "_law_bottom", "_law_k", "_law_share", "_law_numbers", "_law_total", "_law_i", "_law_more"] ["_law_points", "_law_shares"] (aP zz) := ⟨rfl, rfl, rfl, by decide +kernel, rfl, by decide +kernel, by decide +kernel⟩
theorem Ig {eQ aL : FF} (T : BI K mg) (F : fK K "_law_mix" "_law_mix" zz f fd Tb) (KB : K.In base) (hmg : mg "_law_mix" = some (.ref f)) (F_Lgcd : FI P w K mg base tb "_law_gcd" 2 1 eQ) (F_Llowest : FI P w K mg base tb "_law_lowest" 2 2 aL) : FI P w K mg base tb "_law_mix" 2 (2 + 1) (aJ 9 (jQ eQ aL)) :=
 dm F KB hmg Af rfl (λ _ _ _ _ _ _ => us2 λ _ _ => rfl) λ c A outer s H E hcd hr => by
  have nd := Af.nd
  refine aA (aX (i := 2) nd az) ?_
  refine aA ?_ ?_
  refine fY (ts := [3, 4]) PassesOwn.never rfl (dC (pdv 1)) (dI rfl (aR (aH (i := 3) nd) (aR (aH (i := 4) nd) cJ))) ?_
  refine aF ?_
  refine aX (i := 2) nd ?_
  refine aG fH ?_ ?_
  exact aG fW (pdv 2) (bH (bH (pdv 0) (pdv 3)) (gh az))
  refine aN F_Lgcd (hr.mono (by decide)) ?_ (aB (aB aO))
  refine aa (pdv 2) ?_
  exact aa (bH (bH (pdv 0) (pdv 3)) (gh az)) au
  refine aA ?_ ?_
  refine aX (i := 5) nd ?_
  refine nY ?_
  refine Hw (ji (aa az au)) ?_
  refine aG iY ?_ az
  refine dH T.b_len ?_
  exact aa (bH (pdv 0) (bH (bH (pdv 1) az) az)) au
  refine aA (aX (i := 6) nd az) ?_
  refine aA ?_ ?_
  refine fY (ts := [3, 4]) PassesOwn.never rfl (dC (pdv 1)) (dI rfl (aR (aH (i := 3) nd) (aR (aH (i := 4) nd) cJ))) ?_
  refine aA (aX (i := 6) nd (aG bG (pdv 6) (pdv 4))) ?_
  refine aF ?_
  refine fY (ts := [7]) PassesOwn.never rfl (cZ T.b_range (aa (dH T.b_len (aa (pdv 5) au)) au)) (aH (i := 7) nd) ?_
  refine aA ?_ ?_
  exact aX (i := 8) nd (aG fW (pdv 4) (bH (bH (pdv 0) (pdv 3)) (pdv 7)))
  refine aF ?_
  refine Bc ?_ (pdv 5) (pdv 7)
  refine aG bG (bH (pdv 5) (pdv 7)) ?_
  refine aG fW (pdv 8) ?_
  exact aG fH (pdv 2) (bH (bH (pdv 0) (pdv 3)) (gh az))
  refine aF ?_
  refine aM ?_
  refine aN F_Llowest (hr.mono (by decide)) ?_ (aB (aB aO))
  exact aa (qz (pdv 5)) (aa (aG fW (pdv 2) (pdv 6)) au)
abbrev jG : Stmt := top 34
theorem mJ : bh ["_law_points", "_law_groups", "_law_thing", "_law_spot", "_law_rows", "_law_group", "_law_row"] ["_law_points", "_law_groups", "_law_thing"] (aP jG) := ⟨rfl, rfl, rfl, by decide +kernel, rfl, by decide +kernel, by decide +kernel⟩
theorem rn {cN aL dG lX : FF} (T : BI K mg) (F : fK K "_law_shares_spot" "_law_shares_spot" jG f fd Tb) (KB : K.In base) (hmg : mg "_law_shares_spot" = some (.ref f)) (F_Lwhole : FI P w K mg base tb "_law_whole" 1 1 cN) (F_Llowest : FI P w K mg base tb "_law_lowest" 2 2 aL) (F_Lare_shares : FI P w K mg base tb "_law_are_shares" 2 2 dG) (F_Lmix : FI P w K mg base tb "_law_mix" 2 3 lX) : FI P w K mg base tb "_law_shares_spot" 3 (3 + 1) (aJ 7 (aY cN aL dG lX)) :=
 dm F KB hmg mJ rfl (λ _ _ _ _ _ _ => us3 λ _ _ _ => rfl) λ c A outer s H E hcd hr => by
  have nd := mJ.nd
  refine aA ?_ ?_
  refine bR ?_ (aF (aM gW)) bc
  refine jf ?_
  refine fP ?_ ?_
  refine cR ?_
  refine cX ?_
  exact iZ T.b_isinstance T.b_tuple PyProof.Rows.boot_tuple (by decide) (pdv 2)
  refine fP (bx (oO hr) (dH T.b_len (aa (pdv 2) au)) az) ?_
  refine gY ?_
  refine cR ?_
  refine cX ?_
  exact iZ T.b_isinstance T.b_tuple PyProof.Rows.boot_tuple (by decide) (bH (pdv 2) az)
  refine aA (lO (ts := [3, 4]) (pdv 2) (dI rfl (aR (aH (i := 3) nd) (aR (aH (i := 4) nd) cJ)))) ?_
  refine aA ?_ ?_
  refine bR ?_ (aF (aM gW)) bc
  refine jf ?_
  refine fP ?_ ?_
  exact bx (oO hr) (dH T.b_len (aa (pdv 3) au)) (dH T.b_len (aa (bH (pdv 0) az) au))
  refine fP ?_ (gY (bx oF (bH (pdv 3) (gh az)) az))
  refine cR ?_
  refine cX ?_
  refine qx rfl T.b_all ?_
  refine CG rfl ?_
  refine gB ?_
  refine jb (own := ["_law_one"]) (cap := []) (capI := []) (ts := [0]) rfl ⟨rfl, by decide +kernel, trivial, by decide +kernel, by decide +kernel⟩ (by decide +kernel) (dC (pdv 3)) (λ cs C fp s2 H2 => aH (i := 0) (show (["_law_one"] : List Str).Nodup by decide +kernel)) ?_ ?_
  intro cs C fp s2 H2
  exact eF
  intro cs C fp s2 H2
  exact aN F_Lwhole (hr.mono (by decide)) (aa (pdv 0) au) (aB aO)
  refine aA ?_ ?_
  refine bR ?_ (aF (aM gW)) bc
  refine jf ?_
  refine fP ?_ ?_
  refine bx (oO hr) ?_ (pdv 3)
  refine aN F_Llowest (hr.mono (by decide)) ?_ (aB (aB aO))
  exact aa (dX (pdv 3) dR (dY (gh az))) (aa (bH (pdv 3) (gh az)) au)
  refine fP ?_ ?_
  refine cR ?_
  refine cX ?_
  exact iZ T.b_isinstance T.b_tuple PyProof.Rows.boot_tuple (by decide) (pdv 4)
  refine gY ?_
  exact bx (oO hr) (dH T.b_len (aa (pdv 4) au)) (dH T.b_len (aa (pdv 1) au))
  refine aA ?_ (aF (aM gW))
  refine fY (ts := [5, 6]) PassesOwn.never rfl (pO T.b_zip (aa (pdv 1) (aa (pdv 4) au))) (dI rfl (aR (aH (i := 5) nd) (aR (aH (i := 6) nd) cJ))) ?_
  refine aA ?_ ?_
  refine bR ?_ (aF (aM gW)) bc
  refine jf ?_
  refine fP ?_ ?_
  refine cR ?_
  refine cX ?_
  refine aN F_Lare_shares (hr.mono (by decide)) ?_ (aB (aB aO))
  exact aa (dH T.b_len (aa (pdv 0) au)) (aa (pdv 6) au)
  refine gY ?_
  refine bx (KZ hr) ?_ (ji au)
  refine gB ?_
  refine jb (own := ["_law_k", "_law_share"]) (cap := ["_law_group"]) (capI := [5]) (ts := [0, 1]) rfl ⟨rfl, by decide +kernel, ⟨⟨rfl, by first | exact Or.inl rfl | exact Or.inr rfl⟩, trivial⟩, by decide +kernel, by decide +kernel⟩ (by decide +kernel) (dC (pdv 6)) (λ cs C fp s2 H2 => dI rfl (aR (aH (i := 0) (show (["_law_k", "_law_share", "_law_group"] : List Str).Nodup by decide +kernel)) (aR (aH (i := 1) (show (["_law_k", "_law_share", "_law_group"] : List Str).Nodup by decide +kernel)) cJ))) ?_ ?_
  intro cs C fp s2 H2
  exact Eg (bx Fj (pdv 0) (pdv 2))
  intro cs C fp s2 H2
  exact pdv 0
  refine aF ?_
  refine bR ?_ (aF (aM gW)) bc
  exact bx (oO hr) (aN F_Lmix (hr.mono (by decide)) (aa (pdv 0) (aa (pdv 6) au)) (aB (aB aO))) (pdv 3)
abbrev sX : Stmt := top 2
theorem vh : bh ["many", "thing"] ["many", "thing"] (aP sX) := ⟨rfl, rfl, rfl, by decide +kernel, rfl, by decide +kernel, by decide +kernel⟩
theorem Cd (T : BI K mg) (F : fK K "is_row" "is_row" sX f fd Tb) (KB : K.In base) (hmg : mg "is_row" = some (.ref f)) : FI P w K mg base tb "is_row" 2 (0 + 1) (aJ 2 (jH)) :=
 dm F KB hmg vh rfl (λ _ _ _ _ _ _ => us2 λ _ _ => rfl) λ c A outer s H E hcd hr => by
  have nd := vh.nd
  refine aF ?_
  refine aM ?_
  refine lV ?_ (jD (nH (lz hr) (dH T.b_len (aa (pdv 1) au)) (pdv 0)))
  exact iZ T.b_isinstance T.b_tuple PyProof.Rows.boot_tuple (by decide) (pdv 1)
abbrev mU : Stmt := top 1
theorem pX : bh ["thing"] ["thing"] (aP mU) := ⟨rfl, rfl, rfl, by decide +kernel, rfl, by decide +kernel, by decide +kernel⟩
theorem wY (T : BI K mg) (F : fK K "is_number" "is_number" mU f fd Tb) (KB : K.In base) (hmg : mg "is_number" = some (.ref f)) : FI P w K mg base tb "is_number" 1 (0 + 1) (aJ 1 (gb)) :=
 dm F KB hmg pX rfl (λ _ _ _ _ _ _ => us1 λ _ => rfl) λ c A outer s H E hcd hr => by
  have nd := pX.nd
  refine aF ?_
  refine aM ?_
  refine lV ?_ ?_
  exact iZ T.b_isinstance T.b_int PyProof.Rows.boot_int (by decide) (pdv 0)
  refine jD ?_
  refine Dt ?_
  exact iZ T.b_isinstance T.b_bool PyProof.Rows.boot_bool (by decide) (pdv 0)
abbrev lW : Stmt := top 3
theorem oM : bh ["thing"] ["thing"] (aP lW) := ⟨rfl, rfl, rfl, by decide +kernel, rfl, by decide +kernel, by decide +kernel⟩
theorem uz {dO : FF} (T : BI K mg) (F : fK K "is_numbers" "is_numbers" lW f fd Tb) (KB : K.In base) (hmg : mg "is_numbers" = some (.ref f)) (F_is_number : FI P w K mg base tb "is_number" 1 1 dO) (hT : Tb ∈ tb) : FI P w K mg base tb "is_numbers" 1 (2 + 1) (aJ 1 (dq dO)) :=
 dm F KB hmg oM rfl (λ _ _ _ _ _ _ => us1 λ _ => rfl) λ c A outer s H E hcd hr => by
  have nd := oM.nd
  refine aF ?_
  refine aM ?_
  refine lV ?_ ?_
  exact iZ T.b_isinstance T.b_tuple PyProof.Rows.boot_tuple (by decide) (pdv 0)
  refine jD ?_
  refine qx rfl T.b_all ?_
  refine lJ ?_
  refine jd (own := ["part"]) (cap := []) (capI := []) (ts := [0]) rfl hr ⟨rfl, by decide +kernel, trivial, by decide +kernel, by decide +kernel⟩ (by decide +kernel) (by decide +kernel) hT ⟨c, rfl, hcd⟩ (dC (pdv 0)) (λ AG cs C code fp s2 H2 => aH (i := 0) (show (["part"] : List Str).Nodup by decide +kernel)) ?_
  intro AG cs C code fp s2 H2 hm
  have hg1 := hm _ hr
  exact aN F_is_number (hg1.mono (by decide)) (aa (pdv 0) au) (aB aO)
abbrev je : Stmt := top 4
theorem kO : bh ["one", "other"] ["one", "other"] (aP je) := ⟨rfl, rfl, rfl, by decide +kernel, rfl, by decide +kernel, by decide +kernel⟩
theorem qg (T : BI K mg) (F : fK K "divisor_of_two" "divisor_of_two" je f fd Tb) (KB : K.In base) (hmg : mg "divisor_of_two" = some (.ref f)) : FI P w K mg base tb "divisor_of_two" 2 (0 + 1) (aJ 2 (cM)) :=
 dm F KB hmg kO rfl (λ _ _ _ _ _ _ => us2 λ _ _ => rfl) λ c A outer s H E hcd hr => by
  have nd := kO.nd
  refine aA ?_ ?_
  refine wV (i := 0) (j := 1) rfl nd ?_
  exact aa (tH T.b_abs (aa (pdv 0) au)) (aa (tH T.b_abs (aa (pdv 1) au)) au)
  refine aA ?_ (aF (aM (pdv 0)))
  refine qG PassesOwn.never (bx (oO hr) (pdv 1) az) ?_
  refine aF ?_
  exact wV (i := 0) (j := 1) rfl nd (aa (pdv 1) (aa (aG cu (pdv 0) (pdv 1)) au))
abbrev jj : Stmt := top 5
theorem kj : bh ["numbers", "found", "number"] ["numbers"] (aP jj) := ⟨rfl, rfl, rfl, by decide +kernel, rfl, by decide +kernel, by decide +kernel⟩
theorem pJ {aW : FF} (T : BI K mg) (F : fK K "common_divisor" "common_divisor" jj f fd Tb) (KB : K.In base) (hmg : mg "common_divisor" = some (.ref f)) (F_divisor_of_two : FI P w K mg base tb "divisor_of_two" 2 1 aW) : FI P w K mg base tb "common_divisor" 1 (1 + 1) (aJ 3 (bO aW)) :=
 dm F KB hmg kj rfl (λ _ _ _ _ _ _ => us1 λ _ => rfl) λ c A outer s H E hcd hr => by
  have nd := kj.nd
  refine aA (aX (i := 1) nd az) ?_
  refine aA ?_ (aF (aM (pdv 1)))
  refine fY (ts := [2]) PassesOwn.never rfl (dC (pdv 0)) (aH (i := 2) nd) ?_
  refine aA ?_ ?_
  exact aX (i := 1) nd (aN F_divisor_of_two (hr.mono (by decide)) (aa (pdv 1) (aa (pdv 2) au)) (aB (aB aO)))
  exact aF (bR (bx (lz hr) (pdv 1) az) (aF Cp) bc)
abbrev qD : Stmt := top 17
theorem tu : bh ["thing"] ["thing"] (aP qD) := ⟨rfl, rfl, rfl, by decide +kernel, rfl, by decide +kernel, by decide +kernel⟩
theorem yS {bC aU : FF} (T : BI K mg) (F : fK K "is_spot" "is_spot" qD f fd Tb) (KB : K.In base) (hmg : mg "is_spot" = some (.ref f)) (F_is_numbers : FI P w K mg base tb "is_numbers" 1 3 bC) (F_common_divisor : FI P w K mg base tb "common_divisor" 1 2 aU) : FI P w K mg base tb "is_spot" 1 (3 + 1) (aJ 1 (fM bC aU)) :=
 dm F KB hmg tu rfl (λ _ _ _ _ _ _ => us1 λ _ => rfl) λ c A outer s H E hcd hr => by
  have nd := tu.nd
  refine aA ?_ ?_
  refine bR ?_ (aF (aM gW)) bc
  refine jf ?_
  refine fP ?_ ?_
  refine cR ?_
  exact cX (aN F_is_numbers (hr.mono (by decide)) (aa (pdv 0) au) (aB aO))
  refine gY ?_
  refine cR ?_
  exact Cw Ac Ac az (dH T.b_len (aa (pdv 0) au)) (aG bG (Hl T.c_MOST_DIRECTIONS rfl) az)
  refine aF ?_
  refine aM ?_
  refine lV (nH ye (bH (pdv 0) (gh az)) az) ?_
  refine jD ?_
  exact nH (lz hr) (aN F_common_divisor (hr.mono (by decide)) (aa (pdv 0) au) (aB aO)) az
abbrev oU : Stmt := top 11
theorem qX : bh ["many", "thing"] ["many", "thing"] (aP oU) := ⟨rfl, rfl, rfl, by decide +kernel, rfl, by decide +kernel, by decide +kernel⟩
theorem xZ {bC : FF} (T : BI K mg) (F : fK K "is_share" "is_share" oU f fd Tb) (KB : K.In base) (hmg : mg "is_share" = some (.ref f)) (F_is_numbers : FI P w K mg base tb "is_numbers" 1 3 bC) : FI P w K mg base tb "is_share" 2 (3 + 1) (aJ 2 (eN bC)) :=
 dm F KB hmg qX rfl (λ _ _ _ _ _ _ => us2 λ _ _ => rfl) λ c A outer s H E hcd hr => by
  have nd := qX.nd
  refine aA ?_ ?_
  refine bR ?_ (aF (aM gW)) bc
  refine jf ?_
  refine fP ?_ (gY (bx (oO hr) (dH T.b_len (aa (pdv 1) au)) az))
  refine cR ?_
  exact cX (aN F_is_numbers (hr.mono (by decide)) (aa (pdv 1) au) (aB aO))
  refine aF ?_
  refine aM ?_
  exact lV (Fv Ac oF az (bH (pdv 1) az) (pdv 0)) (jD (nH ye (bH (pdv 1) az) az))
abbrev mR : Stmt := top 12
theorem qb : bh ["many", "thing"] ["many", "thing"] (aP mR) := ⟨rfl, rfl, rfl, by decide +kernel, rfl, by decide +kernel, by decide +kernel⟩
theorem wu {fu : FF} (T : BI K mg) (F : fK K "is_shares" "is_shares" mR f fd Tb) (KB : K.In base) (hmg : mg "is_shares" = some (.ref f)) (F_is_share : FI P w K mg base tb "is_share" 2 4 fu) (hT : Tb ∈ tb) : FI P w K mg base tb "is_shares" 2 (5 + 1) (aJ 2 (dF fu)) :=
 dm F KB hmg qb rfl (λ _ _ _ _ _ _ => us2 λ _ _ => rfl) λ c A outer s H E hcd hr => by
  have nd := qb.nd
  refine aA ?_ ?_
  refine bR ?_ (aF (aM gW)) bc
  refine jf ?_
  refine fP ?_ (gY (bx (lz hr) (dH T.b_len (aa (pdv 1) au)) az))
  refine cR ?_
  refine cX ?_
  exact iZ T.b_isinstance T.b_tuple PyProof.Rows.boot_tuple (by decide) (pdv 1)
  refine aA ?_ ?_
  refine bR ?_ (aF (aM gW)) bc
  refine cR ?_
  refine cX ?_
  refine qx rfl T.b_all ?_
  refine lJ ?_
  refine jd (own := ["part"]) (cap := ["many"]) (capI := [0]) (ts := [0]) rfl hr ⟨rfl, by decide +kernel, ⟨⟨rfl, by first | exact Or.inl rfl | exact Or.inr rfl⟩, trivial⟩, by decide +kernel, by decide +kernel⟩ (by decide +kernel) (by decide +kernel) hT ⟨c, rfl, hcd⟩ (dC (pdv 1)) (λ AG cs C code fp s2 H2 => aH (i := 0) (show (["part", "many"] : List Str).Nodup by decide +kernel)) ?_
  intro AG cs C code fp s2 H2 hm
  have hg1 := hm _ hr
  exact aN F_is_share (hg1.mono (by decide)) (aa (pdv 1) (aa (pdv 0) au)) (aB (aB aO))
  refine aF ?_
  refine aM ?_
  refine qx rfl T.b_all ?_
  refine lJ ?_
  refine jd (own := ["one", "other"]) (cap := []) (capI := []) (ts := [0, 1]) rfl hr ⟨rfl, by decide +kernel, trivial, by decide +kernel, by decide +kernel⟩ (by decide +kernel) (by decide +kernel) hT ⟨c, rfl, hcd⟩ ?_ (λ AG cs C code fp s2 H2 => dI rfl (aR (aH (i := 0) (show (["one", "other"] : List Str).Nodup by decide +kernel)) (aR (aH (i := 1) (show (["one", "other"] : List Str).Nodup by decide +kernel)) cJ))) ?_
  refine pO T.b_zip ?_
  exact aa (pdv 1) (aa (dX (pdv 1) (dY az) dR) au)
  intro AG cs C code fp s2 H2 hm
  have hg1 := hm _ hr
  exact nH oF (bH (pdv 0) az) (bH (pdv 1) az)
abbrev iR : Stmt := top 19
theorem jX : bh ["points", "group", "thing"] ["points", "group", "thing"] (aP iR) := ⟨rfl, rfl, rfl, by decide +kernel, rfl, by decide +kernel, by decide +kernel⟩
theorem oV {dZ : FF} (T : BI K mg) (F : fK K "is_group_shares" "is_group_shares" iR f fd Tb) (KB : K.In base) (hmg : mg "is_group_shares" = some (.ref f)) (F_is_shares : FI P w K mg base tb "is_shares" 2 6 dZ) (hT : Tb ∈ tb) : FI P w K mg base tb "is_group_shares" 3 (7 + 1) (aJ 3 (cB dZ)) :=
 dm F KB hmg jX rfl (λ _ _ _ _ _ _ => us3 λ _ _ _ => rfl) λ c A outer s H E hcd hr => by
  have nd := jX.nd
  refine aF ?_
  refine aM ?_
  refine lV ?_ ?_
  refine aN F_is_shares (hr.mono (by decide)) ?_ (aB (aB aO))
  exact aa (dH T.b_len (aa (pdv 0) au)) (aa (pdv 2) au)
  refine jD ?_
  refine qx rfl T.b_all ?_
  refine lJ ?_
  refine jd (own := ["k", "share"]) (cap := ["group"]) (capI := [1]) (ts := [0, 1]) rfl hr ⟨rfl, by decide +kernel, ⟨⟨rfl, by first | exact Or.inl rfl | exact Or.inr rfl⟩, trivial⟩, by decide +kernel, by decide +kernel⟩ (by decide +kernel) (by decide +kernel) hT ⟨c, rfl, hcd⟩ (dC (pdv 2)) (λ AG cs C code fp s2 H2 => dI rfl (aR (aH (i := 0) (show (["k", "share", "group"] : List Str).Nodup by decide +kernel)) (aR (aH (i := 1) (show (["k", "share", "group"] : List Str).Nodup by decide +kernel)) cJ))) ?_
  intro AG cs C code fp s2 H2 hm
  have hg1 := hm _ hr
  exact nH Qf (pdv 0) (pdv 2)
abbrev iG : Stmt := top 6
theorem jN : bh ["numbers", "found", "number"] ["numbers"] (aP iG) := ⟨rfl, rfl, rfl, by decide +kernel, rfl, by decide +kernel, by decide +kernel⟩
theorem oY {aW : FF} (T : BI K mg) (F : fK K "common_multiple" "common_multiple" iG f fd Tb) (KB : K.In base) (hmg : mg "common_multiple" = some (.ref f)) (F_divisor_of_two : FI P w K mg base tb "divisor_of_two" 2 1 aW) : FI P w K mg base tb "common_multiple" 1 (1 + 1) (aJ 3 (cW aW)) :=
 dm F KB hmg jN rfl (λ _ _ _ _ _ _ => us1 λ _ => rfl) λ c A outer s H E hcd hr => by
  have nd := jN.nd
  refine aA (aX (i := 1) nd az) ?_
  refine aA ?_ (aF (aM (pdv 1)))
  refine fY (ts := [2]) PassesOwn.never rfl (dC (pdv 0)) (aH (i := 2) nd) ?_
  refine aF ?_
  refine zY (i := 1) nd ?_
  exact aG fH (pdv 2) (aN F_divisor_of_two (hr.mono (by decide)) (aa (pdv 1) (aa (pdv 2) au)) (aB (aB aO)))
abbrev jP : Stmt := top 13
theorem mF : bh ["points", "numbers", "whole"] ["points", "numbers"] (aP jP) := ⟨rfl, rfl, rfl, by decide +kernel, rfl, by decide +kernel, by decide +kernel⟩
theorem rE {bY : FF} (T : BI K mg) (F : fK K "over_bottoms" "over_bottoms" jP f fd Tb) (KB : K.In base) (hmg : mg "over_bottoms" = some (.ref f)) (F_common_multiple : FI P w K mg base tb "common_multiple" 1 2 bY) : FI P w K mg base tb "over_bottoms" 2 (2 + 1) (aJ 3 (eY bY)) :=
 dm F KB hmg mF rfl (λ _ _ _ _ _ _ => us2 λ _ _ => rfl) λ c A outer s H E hcd hr => by
  have nd := mF.nd
  refine aA ?_ ?_
  refine aX (i := 2) nd ?_
  refine aN F_common_multiple (hr.mono (by decide)) ?_ (aB aO)
  refine aa ?_ au
  refine gB ?_
  refine jb (own := ["point"]) (cap := []) (capI := []) (ts := [0]) rfl ⟨rfl, by decide +kernel, trivial, by decide +kernel, by decide +kernel⟩ (by decide +kernel) (dC (pdv 0)) (λ cs C fp s2 H2 => aH (i := 0) (show (["point"] : List Str).Nodup by decide +kernel)) ?_ ?_
  intro cs C fp s2 H2
  exact eF
  intro cs C fp s2 H2
  exact bH (pdv 0) (gh az)
  refine aF ?_
  refine aM ?_
  refine gB ?_
  refine jb (own := ["number", "point"]) (cap := ["whole"]) (capI := [2]) (ts := [0, 1]) rfl ⟨rfl, by decide +kernel, ⟨⟨rfl, by first | exact Or.inl rfl | exact Or.inr rfl⟩, trivial⟩, by decide +kernel, by decide +kernel⟩ (by decide +kernel) (pO T.b_zip (aa (pdv 1) (aa (pdv 0) au))) (λ cs C fp s2 H2 => dI rfl (aR (aH (i := 0) (show (["number", "point", "whole"] : List Str).Nodup by decide +kernel)) (aR (aH (i := 1) (show (["number", "point", "whole"] : List Str).Nodup by decide +kernel)) cJ))) ?_ ?_
  intro cs C fp s2 H2
  exact eF
  intro cs C fp s2 H2
  exact aG fW (pdv 0) (aG fH (pdv 2) (bH (pdv 1) (gh az)))
abbrev iM : Stmt := top 8
theorem jL : bh ["ones", "others"] ["ones", "others"] (aP iM) := ⟨rfl, rfl, rfl, by decide +kernel, rfl, by decide +kernel, by decide +kernel⟩
theorem oZ (T : BI K mg) (F : fK K "sum_of_products" "sum_of_products" iM f fd Tb) (KB : K.In base) (hmg : mg "sum_of_products" = some (.ref f)) (hT : Tb ∈ tb) : FI P w K mg base tb "sum_of_products" 2 (1 + 1) (aJ 2 (cY)) :=
 dm F KB hmg jL rfl (λ _ _ _ _ _ _ => us2 λ _ _ => rfl) λ c A outer s H E hcd hr => by
  have nd := jL.nd
  refine aF ?_
  refine aM ?_
  refine Mp rfl T.b_sum ?_
  refine lJ ?_
  refine jd (own := ["one", "other"]) (cap := []) (capI := []) (ts := [0, 1]) rfl hr ⟨rfl, by decide +kernel, trivial, by decide +kernel, by decide +kernel⟩ (by decide +kernel) (by decide +kernel) hT ⟨c, rfl, hcd⟩ (pO T.b_zip (aa (pdv 0) (aa (pdv 1) au))) (λ AG cs C code fp s2 H2 => dI rfl (aR (aH (i := 0) (show (["one", "other"] : List Str).Nodup by decide +kernel)) (aR (aH (i := 1) (show (["one", "other"] : List Str).Nodup by decide +kernel)) cJ))) ?_
  intro AG cs C code fp s2 H2 hm
  have hg1 := hm _ hr
  exact aG fW (pdv 0) (pdv 1)
abbrev qC : Stmt := top 9
theorem sZ : bh ["rows", "weights"] ["rows", "weights"] (aP qC) := ⟨rfl, rfl, rfl, by decide +kernel, rfl, by decide +kernel, by decide +kernel⟩
theorem zR {bW : FF} (T : BI K mg) (F : fK K "weighed" "weighed" qC f fd Tb) (KB : K.In base) (hmg : mg "weighed" = some (.ref f)) (F_sum_of_products : FI P w K mg base tb "sum_of_products" 2 2 bW) : FI P w K mg base tb "weighed" 2 (2 + 1) (aJ 2 (jF bW)) :=
 dm F KB hmg sZ rfl (λ _ _ _ _ _ _ => us2 λ _ _ => rfl) λ c A outer s H E hcd hr => by
  have nd := sZ.nd
  refine aF ?_
  refine aM ?_
  refine gB ?_
  refine jb (own := ["at"]) (cap := ["weights", "rows"]) (capI := [1, 0]) (ts := [0]) rfl ⟨rfl, by decide +kernel, ⟨⟨rfl, by first | exact Or.inl rfl | exact Or.inr rfl⟩, ⟨⟨rfl, by first | exact Or.inl rfl | exact Or.inr rfl⟩, trivial⟩⟩, by decide +kernel, by decide +kernel⟩ (by decide +kernel) ?_ (λ cs C fp s2 H2 => aH (i := 0) (show (["at", "weights", "rows"] : List Str).Nodup by decide +kernel)) ?_ ?_
  refine cZ T.b_range ?_
  exact aa (dH T.b_len (aa (bH (pdv 0) az) au)) au
  intro cs C fp s2 H2
  exact eF
  intro cs C fp s2 H2
  refine aN F_sum_of_products (hr.mono (by decide)) ?_ (aB (aB aO))
  refine aa (pdv 1) ?_
  refine aa ?_ au
  refine gB ?_
  refine jb (own := ["row"]) (cap := ["at"]) (capI := [0]) (ts := [0]) rfl ⟨rfl, by decide +kernel, ⟨⟨rfl, by first | exact Or.inl rfl | exact Or.inr rfl⟩, trivial⟩, by decide +kernel, by decide +kernel⟩ (by decide +kernel) (dC (pdv 2)) (λ cs C fp s2 H2 => aH (i := 0) (show (["row", "at"] : List Str).Nodup by decide +kernel)) ?_ ?_
  intro cs C fp s2 H2
  exact eF
  intro cs C fp s2 H2
  exact bH (pdv 0) (pdv 1)
abbrev pq : Stmt := top 7
theorem qT : bh ["numbers", "common"] ["numbers"] (aP pq) := ⟨rfl, rfl, rfl, by decide +kernel, rfl, by decide +kernel, by decide +kernel⟩
theorem xx {aU : FF} (T : BI K mg) (F : fK K "lessened" "lessened" pq f fd Tb) (KB : K.In base) (hmg : mg "lessened" = some (.ref f)) (F_common_divisor : FI P w K mg base tb "common_divisor" 1 2 aU) (hT : Tb ∈ tb) : FI P w K mg base tb "lessened" 1 (3 + 1) (aJ 2 (jg aU)) :=
 dm F KB hmg qT rfl (λ _ _ _ _ _ _ => us1 λ _ => rfl) λ c A outer s H E hcd hr => by
  have nd := qT.nd
  refine aA ?_ ?_
  exact aX (i := 1) nd (aN F_common_divisor (hr.mono (by decide)) (aa (pdv 0) au) (aB aO))
  refine aF ?_
  refine aM ?_
  refine Jt rfl T.b_tuple ?_
  refine jd (own := ["number"]) (cap := ["common"]) (capI := [1]) (ts := [0]) rfl hr ⟨rfl, by decide +kernel, ⟨⟨rfl, by first | exact Or.inl rfl | exact Or.inr rfl⟩, trivial⟩, by decide +kernel, by decide +kernel⟩ (by decide +kernel) (by decide +kernel) hT ⟨c, rfl, hcd⟩ (dC (pdv 0)) (λ AG cs C code fp s2 H2 => aH (i := 0) (show (["number", "common"] : List Str).Nodup by decide +kernel)) ?_
  intro AG cs C code fp s2 H2 hm
  have hg1 := hm _ hr
  exact aG fH (pdv 0) (pdv 1)
abbrev wk : Stmt := top 14
theorem yK : bh ["points", "shares", "shared", "weights"] ["points", "shares"] (aP wk) := ⟨rfl, rfl, rfl, by decide +kernel, rfl, by decide +kernel, by decide +kernel⟩
theorem Gg {dg il fj : FF} (T : BI K mg) (F : fK K "mixed" "mixed" wk f fd Tb) (KB : K.In base) (hmg : mg "mixed" = some (.ref f)) (F_over_bottoms : FI P w K mg base tb "over_bottoms" 2 3 dg) (F_weighed : FI P w K mg base tb "weighed" 2 3 il) (F_lessened : FI P w K mg base tb "lessened" 1 4 fj) : FI P w K mg base tb "mixed" 2 (4 + 1) (aJ 4 (nQ dg il fj)) :=
 dm F KB hmg yK rfl (λ _ _ _ _ _ _ => us2 λ _ _ => rfl) λ c A outer s H E hcd hr => by
  have nd := yK.nd
  refine aA ?_ ?_
  refine HS (i := 2) nd (own := ["k", "share"]) (cap := ["points"]) (capI := [0]) (ts := [0, 1]) rfl ⟨rfl, by decide +kernel, ⟨⟨rfl, by first | exact Or.inl rfl | exact Or.inr rfl⟩, trivial⟩, by decide +kernel, by decide +kernel⟩ (by decide +kernel) (dC (pdv 1)) (λ cs C fp s2 H2 => dI rfl (aR (aH (i := 0) (show (["k", "share", "points"] : List Str).Nodup by decide +kernel)) (aR (aH (i := 1) (show (["k", "share", "points"] : List Str).Nodup by decide +kernel)) cJ))) ?_ ?_
  intro cs C fp s2 H2
  exact eF
  intro cs C fp s2 H2
  exact bH (pdv 2) (pdv 0)
  refine aA ?_ ?_
  refine aX (i := 3) nd ?_
  refine aN F_over_bottoms (hr.mono (by decide)) ?_ (aB (aB aO))
  refine aa (pdv 2) ?_
  refine aa ?_ au
  refine gB ?_
  refine jb (own := ["k", "share"]) (cap := []) (capI := []) (ts := [0, 1]) rfl ⟨rfl, by decide +kernel, trivial, by decide +kernel, by decide +kernel⟩ (by decide +kernel) (dC (pdv 1)) (λ cs C fp s2 H2 => dI rfl (aR (aH (i := 0) (show (["k", "share"] : List Str).Nodup by decide +kernel)) (aR (aH (i := 1) (show (["k", "share"] : List Str).Nodup by decide +kernel)) cJ))) ?_ ?_
  intro cs C fp s2 H2
  exact eF
  intro cs C fp s2 H2
  exact pdv 1
  refine aF ?_
  refine aM ?_
  refine aN F_lessened (hr.mono (by decide)) ?_ (aB aO)
  exact aa (aN F_weighed (hr.mono (by decide)) (aa (pdv 2) (aa (pdv 3) au)) (aB (aB aO))) au
abbrev pA : Stmt := top 20
theorem qR : bh ["points", "group", "spot", "thing"] ["points", "group", "spot", "thing"] (aP pA) := ⟨rfl, rfl, rfl, by decide +kernel, rfl, by decide +kernel, by decide +kernel⟩
theorem xu {bV jm : FF} (T : BI K mg) (F : fK K "leads_to" "leads_to" pA f fd Tb) (KB : K.In base) (hmg : mg "leads_to" = some (.ref f)) (F_is_group_shares : FI P w K mg base tb "is_group_shares" 3 8 bV) (F_mixed : FI P w K mg base tb "mixed" 2 5 jm) : FI P w K mg base tb "leads_to" 4 (8 + 1) (aJ 4 (gA bV jm)) :=
 dm F KB hmg qR rfl (λ _ _ _ _ _ _ => us4 λ _ _ _ _ => rfl) λ c A outer s H E hcd hr => by
  have nd := qR.nd
  refine aF ?_
  refine aM ?_
  refine lV ?_ ?_
  exact aN F_is_group_shares (hr.mono (by decide)) (aa (pdv 0) (aa (pdv 1) (aa (pdv 3) au))) (aB (aB (aB aO)))
  refine jD ?_
  exact nH (lz hr) (aN F_mixed (hr.mono (by decide)) (aa (pdv 0) (aa (pdv 3) au)) (aB (aB aO))) (pdv 2)
abbrev jT : Stmt := top 21
theorem mG : bh ["points", "groups", "thing", "spot", "rows"] ["points", "groups", "thing"] (aP jT) := ⟨rfl, rfl, rfl, by decide +kernel, rfl, by decide +kernel, by decide +kernel⟩
theorem rA {iB gj gC : FF} (T : BI K mg) (F : fK K "shared_holds" "shared_holds" jT f fd Tb) (KB : K.In base) (hmg : mg "shared_holds" = some (.ref f)) (F_is_row : FI P w K mg base tb "is_row" 2 1 iB) (F_is_spot : FI P w K mg base tb "is_spot" 1 4 gj) (F_leads_to : FI P w K mg base tb "leads_to" 4 9 gC) (hT : Tb ∈ tb) : FI P w K mg base tb "shared_holds" 3 (10 + 1) (aJ 5 (bL iB gj gC)) :=
 dm F KB hmg mG rfl (λ _ _ _ _ _ _ => us3 λ _ _ _ => rfl) λ c A outer s H E hcd hr => by
  have nd := mG.nd
  refine aA ?_ ?_
  refine bR ?_ (aF (aM gW)) bc
  refine cR ?_
  exact cX (aN F_is_row (hr.mono (by decide)) (aa az (aa (pdv 2) au)) (aB (aB aO)))
  refine aA (lO (ts := [3, 4]) (pdv 2) (dI rfl (aR (aH (i := 3) nd) (aR (aH (i := 4) nd) cJ)))) ?_
  refine aA ?_ ?_
  refine bR ?_ (aF (aM gW)) bc
  refine jf ?_
  refine fP ?_ ?_
  refine cR ?_
  exact cX (aN F_is_spot (hr.mono (by decide)) (aa (pdv 3) au) (aB aO))
  refine gY ?_
  refine cR ?_
  refine cX ?_
  refine aN F_is_row (hr.mono (by decide)) ?_ (aB (aB aO))
  exact aa (dH T.b_len (aa (pdv 1) au)) (aa (pdv 4) au)
  refine aF ?_
  refine aM ?_
  refine qx rfl T.b_all ?_
  refine lJ ?_
  refine jd (own := ["group", "row"]) (cap := ["points", "spot"]) (capI := [0, 3]) (ts := [0, 1]) rfl hr ⟨rfl, by decide +kernel, ⟨⟨rfl, by first | exact Or.inl rfl | exact Or.inr rfl⟩, ⟨⟨rfl, by first | exact Or.inl rfl | exact Or.inr rfl⟩, trivial⟩⟩, by decide +kernel, by decide +kernel⟩ (by decide +kernel) (by decide +kernel) hT ⟨c, rfl, hcd⟩ (pO T.b_zip (aa (pdv 1) (aa (pdv 4) au))) (λ AG cs C code fp s2 H2 => dI rfl (aR (aH (i := 0) (show (["group", "row", "points", "spot"] : List Str).Nodup by decide +kernel)) (aR (aH (i := 1) (show (["group", "row", "points", "spot"] : List Str).Nodup by decide +kernel)) cJ))) ?_
  intro AG cs C code fp s2 H2 hm
  have hg1 := hm _ hr
  refine aN F_leads_to (hg1.mono (by decide)) ?_ (aB (aB (aB (aB aO))))
  exact aa (pdv 2) (aa (pdv 0) (aa (pdv 3) (aa (pdv 1) au)))
abbrev wI : Stmt := top 33
theorem yF : bh ["_law_found", "_law_due"] ["_law_found", "_law_due"] (aP wI) := ⟨rfl, rfl, rfl, by decide +kernel, rfl, by decide +kernel, by decide +kernel⟩
theorem DP (T : BI K mg) (F : fK K "_law_says" "_law_says" wI f fd Tb) (KB : K.In base) (hmg : mg "_law_says" = some (.ref f)) : FI P w K mg base tb "_law_says" 2 (0 + 1) (aJ 2 (nW)) :=
 dm F KB hmg yF rfl (λ _ _ _ _ _ _ => us2 λ _ _ => rfl) λ c A outer s H E hcd hr => by
  have nd := yF.nd
  refine aF ?_
  refine aM ?_
  refine lV ?_ (jD (nH (lz hr) (pdv 0) (pdv 1)))
  exact iZ T.b_isinstance T.b_bool PyProof.Rows.boot_bool (by decide) (pdv 0)
abbrev tQ : Stmt := top 38
theorem uR : bh ["_law_points", "_law_groups", "_law_thing"] ["_law_points", "_law_groups", "_law_thing"] (aP tQ) := ⟨rfl, rfl, rfl, by decide +kernel, rfl, by decide +kernel, by decide +kernel⟩
theorem Ce {bf cG jr : FF} (T : BI K mg) (F : fK K "_law_asked" "_law_asked" tQ f fd Tb) (KB : K.In base) (hmg : mg "_law_asked" = some (.ref f)) (F_Lshares_spot : FI P w K mg base tb "_law_shares_spot" 3 4 bf) (F_shared_holds : FI P w K mg base tb "shared_holds" 3 11 cG) (F_Lsays : FI P w K mg base tb "_law_says" 2 1 jr) : FI P w K mg base tb "_law_asked" 3 (11 + 1) (aJ 3 (lU bf cG jr)) :=
 dm F KB hmg uR rfl (λ _ _ _ _ _ _ => us3 λ _ _ _ => rfl) λ c A outer s H E hcd hr => by
  have nd := uR.nd
  refine aF ?_
  refine aM ?_
  refine aN F_Lsays (hr.mono (by decide)) ?_ (aB (aB aO))
  refine aa ?_ ?_
  exact aN F_shared_holds (hr.mono (by decide)) (aa (pdv 0) (aa (pdv 1) (aa (pdv 2) au))) (aB (aB (aB aO)))
  refine aa ?_ au
  exact aN F_Lshares_spot (hr.mono (by decide)) (aa (pdv 0) (aa (pdv 1) (aa (pdv 2) au))) (aB (aB (aB aO)))
abbrev sS : Stmt := top 31
theorem uV : bh ["_law_spot", "_law_number", "_law_at", "_law_size", "_law_numbers"] ["_law_spot", "_law_number"] (aP sS) := ⟨rfl, rfl, rfl, by decide +kernel, rfl, by decide +kernel, by decide +kernel⟩
theorem BK {aL : FF} (T : BI K mg) (F : fK K "_law_moved" "_law_moved" sS f fd Tb) (KB : K.In base) (hmg : mg "_law_moved" = some (.ref f)) (F_Llowest : FI P w K mg base tb "_law_lowest" 2 2 aL) : FI P w K mg base tb "_law_moved" 2 (2 + 1) (aJ 5 (nG aL)) :=
 dm F KB hmg uV rfl (λ _ _ _ _ _ _ => us2 λ _ _ => rfl) λ c A outer s H E hcd hr => by
  have nd := uV.nd
  refine aA ?_ ?_
  refine aX (i := 2) nd ?_
  exact aG cu (pdv 1) (aG iY (dH T.b_len (aa (pdv 0) au)) az)
  refine aA ?_ ?_
  refine aX (i := 3) nd ?_
  refine bH ?_ (aG cu (aG fH (pdv 1) az) az)
  refine ji ?_
  exact aa az (aa az (aa az (aa az au)))
  refine aA ?_ ?_
  refine Il (i := 4) nd (own := ["_law_one"]) (cap := ["_law_size"]) (capI := [3]) (ts := [0]) rfl ⟨rfl, by decide +kernel, ⟨⟨rfl, by first | exact Or.inl rfl | exact Or.inr rfl⟩, trivial⟩, by decide +kernel, by decide +kernel⟩ (by decide +kernel) (dC (dX (pdv 0) dR (dY (gh az)))) (λ cs C fp s2 H2 => aH (i := 0) (show (["_law_one", "_law_size"] : List Str).Nodup by decide +kernel)) ?_ ?_
  intro cs C fp s2 H2
  exact eF
  intro cs C fp s2 H2
  exact aG fW (pdv 0) (pdv 1)
  refine aA ?_ ?_
  refine Bc ?_ (pdv 4) (pdv 2)
  refine aG bG (bH (pdv 4) (pdv 2)) ?_
  refine aG fW ?_ (bH (pdv 0) (gh az))
  exact bH (ji (aa az (aa (gh az) au))) (aG cu (aG fH (pdv 1) az) az)
  refine aF ?_
  refine aM ?_
  refine aN F_Llowest (hr.mono (by decide)) ?_ (aB (aB aO))
  refine aa (qz (pdv 4)) ?_
  exact aa (aG fW (bH (pdv 0) (gh az)) (pdv 3)) au
abbrev vN : Stmt := top 37
theorem xj : bh ["_law_paper", "_law_number", "_law_spot", "_law_rows", "_law_at", "_law_row", "_law_k", "_law_share", "_law_way", "_law_others", "_law_menu"] ["_law_paper", "_law_number"] (aP vN) := ⟨rfl, rfl, rfl, by decide +kernel, rfl, by decide +kernel, by decide +kernel⟩
theorem Ei {gG : FF} (T : BI K mg) (F : fK K "_law_bent" "_law_bent" vN f fd Tb) (KB : K.In base) (hmg : mg "_law_bent" = some (.ref f)) (F_Lmoved : FI P w K mg base tb "_law_moved" 2 3 gG) : FI P w K mg base tb "_law_bent" 2 (3 + 1) (aJ 11 (nM gG)) :=
 dm F KB hmg xj rfl (λ _ _ _ _ _ _ => us2 λ _ _ => rfl) λ c A outer s H E hcd hr => by
  have nd := xj.nd
  refine aA (lO (ts := [2, 3]) (pdv 0) (dI rfl (aR (aH (i := 2) nd) (aR (aH (i := 3) nd) cJ)))) ?_
  refine aA ?_ ?_
  refine aX (i := 4) nd ?_
  exact aG cu (aG fH (pdv 1) az) (dH T.b_len (aa (pdv 3) au))
  refine aA (aX (i := 5) nd (bH (pdv 3) (pdv 4))) ?_
  refine aA ?_ ?_
  refine lO (ts := [6, 7]) ?_ (dI rfl (aR (aH (i := 6) nd) (aR (aH (i := 7) nd) cJ)))
  refine bH (pdv 5) ?_
  exact aG cu (aG fH (pdv 1) az) (dH T.b_len (aa (pdv 5) au))
  refine aA (aX (i := 8) nd (aG cu (pdv 1) az)) ?_
  refine aA ?_ ?_
  refine bR (bx oF (pdv 8) az) ?_ bc
  refine aA ?_ ?_
  refine aX (i := 9) nd ?_
  refine ji ?_
  refine aa ?_ ?_
  exact aN F_Lmoved (hr.mono (by decide)) (aa (pdv 2) (aa (aG fH (pdv 1) az) au)) (aB (aB aO))
  refine aa (gB (pP T.b_list (aa (pdv 2) au))) ?_
  refine aa (aG bG (pdv 2) (cO (aa az au))) ?_
  refine aa ?_ au
  refine ue T.b_tuple ?_
  refine aa ?_ au
  refine gB ?_
  refine jb (own := ["_law_one"]) (cap := []) (capI := []) (ts := [0]) rfl ⟨rfl, by decide +kernel, trivial, by decide +kernel, by decide +kernel⟩ (by decide +kernel) (dC (pdv 2)) (λ cs C fp s2 H2 => aH (i := 0) (show (["_law_one"] : List Str).Nodup by decide +kernel)) ?_ ?_
  intro cs C fp s2 H2
  exact eF
  intro cs C fp s2 H2
  exact aG fW (pdv 0) az
  refine aF ?_
  refine aM ?_
  exact cO (aa (bH (pdv 9) (pdv 8)) (aa (pdv 3) au))
  refine aA ?_ ?_
  refine aX (i := 10) nd ?_
  refine ji ?_
  refine aa ?_ ?_
  refine aG bG ?_ (dX (pdv 5) (dY az) dR)
  refine cO ?_
  refine aa ?_ au
  exact cO (aa (pdv 6) (aa (aG bG (pdv 7) az) au))
  refine aa (dX (pdv 5) dR (dY (gh az))) ?_
  refine aa (NB (pdv 5)) ?_
  refine aa (gB (pP T.b_list (aa (pdv 5) au))) ?_
  refine aa (cO au) ?_
  refine aa ?_ ?_
  exact aG bG (pdv 5) (dX (pdv 5) (dY (gh az)) dR)
  refine aa ?_ au
  refine aG bG ?_ (dX (pdv 5) (dY az) dR)
  refine cO ?_
  exact aa (cO (aa (pdv 6) (aa az au))) au
  refine aA ?_ ?_
  refine bR (bx oF (pdv 8) az) ?_ bc
  refine aF ?_
  refine aM ?_
  refine cO ?_
  refine aa (pdv 2) ?_
  refine aa ?_ au
  refine aG bG ?_ (dX (pdv 3) (dY (aG bG (pdv 4) az)) dR)
  refine aG bG (dX (pdv 3) dR (dY (pdv 4))) ?_
  exact cO (aa (bH (pdv 10) (aG iY (pdv 8) az)) au)
  refine aA ?_ ?_
  refine bR (bx oF (pdv 8) az) ?_ bc
  refine aF ?_
  refine aM ?_
  refine cO ?_
  refine aa (pdv 2) ?_
  refine aa ?_ au
  refine bH ?_ (aG iY (pdv 8) az)
  refine ji ?_
  refine aa (dX (pdv 3) (dY az) dR) ?_
  exact aa (aG bG (pdv 3) (dX (pdv 3) dR (dY az))) (aa (gB (pP T.b_list (aa (pdv 3) au))) au)
  refine aF ?_
  refine aM ?_
  refine bH ?_ (aG iY (pdv 8) az)
  refine ji ?_
  refine aa (ji (aa (pdv 2) (aa (pdv 3) au))) ?_
  exact aa (aG bG (cO (aa (pdv 2) au)) (pdv 3)) au
abbrev uE : Stmt := top 39
theorem FT : bh ["_law_script", "_law_drawn", "_law_k", "_law_points", "_law_groups", "_law_paper", "_law_kept", "_law_j", "_law_number", "_law_at", "_law_others"] ["_law_script"] (aP uE) := ⟨rfl, rfl, rfl, by decide +kernel, rfl, by decide +kernel, by decide +kernel⟩
theorem Ko {iy cF bZ bf fL iQ : FF} (T : BI K mg) (F : fK K "law" "law" uE f fd Tb) (KB : K.In base) (F_Ldraws : FI P w K mg base tb "_law_draws" 1 2 iy) (F_Lnext : FI P w K mg base tb "_law_next" 1 1 cF) (F_Lround_a_spot : FI P w K mg base tb "_law_round_a_spot" 3 4 bZ) (F_Lshares_spot : FI P w K mg base tb "_law_shares_spot" 3 4 bf) (F_Lasked : FI P w K mg base tb "_law_asked" 3 12 fL) (F_Lbent : FI P w K mg base tb "_law_bent" 2 4 iQ) : rD P w K mg base CX0 (12 + 1) f fd ["_law_script"] (spD K tb 1 (aJ 11 (qO iy cF bZ bf fL iQ))) :=
 GP F KB FT rfl λ c A outer s H E hcd hr => by
  have nd := FT.nd
  refine aA ?_ ?_
  exact aX (i := 1) nd (aN F_Ldraws (hr.mono (by decide)) (aa (pdv 0) au) (aB aO))
  refine aA ?_ (aF (aM gW))
  refine fY (ts := [2]) PassesOwn.never rfl (cZ T.b_range (aa az au)) (aH (i := 2) nd) ?_
  refine aA ?_ ?_
  refine lO (ts := [3, 4, 5]) ?_ (dI rfl (aR (aH (i := 3) nd) (aR (aH (i := 4) nd) (aR (aH (i := 5) nd) cJ))))
  refine aN F_Lround_a_spot (hr.mono (by decide)) ?_ (aB (aB (aB aO)))
  refine aa (pdv 1) ?_
  refine aa ?_ ?_
  refine aG bG az ?_
  exact aG cu (aN F_Lnext (hr.mono (by decide)) (aa (pdv 1) au) (aB aO)) az
  refine aa ?_ au
  refine aG bG az ?_
  exact aG cu (aN F_Lnext (hr.mono (by decide)) (aa (pdv 1) au) (aB aO)) az
  refine aA (aX (i := 6) nd (gB (pP T.b_list (aa (pdv 3) au)))) ?_
  refine aA ?_ ?_
  refine bR ?_ (aF (aM gW)) bc
  refine jf ?_
  refine fP ?_ ?_
  refine cR ?_
  refine cX ?_
  exact aN F_Lshares_spot (hr.mono (by decide)) (aa (pdv 3) (aa (pdv 4) (aa (pdv 5) au))) (aB (aB (aB aO)))
  refine gY ?_
  refine cR ?_
  refine cX ?_
  exact aN F_Lasked (hr.mono (by decide)) (aa (pdv 3) (aa (pdv 4) (aa (pdv 5) au))) (aB (aB (aB aO)))
  refine aA ?_ ?_
  refine fY (ts := [7]) PassesOwn.never rfl (cZ T.b_range (aa az au)) (aH (i := 7) nd) ?_
  refine aF ?_
  refine bR ?_ (aF (aM gW)) bc
  refine cR ?_
  refine cX ?_
  refine aN F_Lasked (hr.mono (by decide)) ?_ (aB (aB (aB aO)))
  refine aa (pdv 3) ?_
  refine aa (pdv 4) ?_
  refine aa ?_ au
  refine aN F_Lbent (hr.mono (by decide)) ?_ (aB (aB aO))
  refine aa (pdv 5) ?_
  exact aa (aN F_Lnext (hr.mono (by decide)) (aa (pdv 1) au) (aB aO)) au
  refine aA ?_ ?_
  exact aX (i := 8) nd (aN F_Lnext (hr.mono (by decide)) (aa (pdv 1) au) (aB aO))
  refine aA (aX (i := 9) nd (aG cu (pdv 8) (dH T.b_len (aa (pdv 4) au)))) ?_
  refine aA ?_ ?_
  refine aX (i := 10) nd ?_
  refine bH ?_ (aG cu (aG fH (pdv 8) az) az)
  refine ji ?_
  refine aa ?_ (aa (bH (pdv 4) (aG iY (pdv 9) az)) au)
  exact dX (bH (pdv 4) (pdv 9)) dR (dY (gh az))
  refine aA ?_ ?_
  refine bR ?_ (aF (aM gW)) bc
  refine cR ?_
  refine cX ?_
  refine aN F_Lasked (hr.mono (by decide)) ?_ (aB (aB (aB aO)))
  refine aa (pdv 3) ?_
  refine aa ?_ (aa (pdv 5) au)
  refine aG bG ?_ (dX (pdv 4) (dY (aG bG (pdv 9) az)) dR)
  exact aG bG (dX (pdv 4) dR (dY (pdv 9))) (ji (aa (pdv 10) au))
  refine aF ?_
  exact bR (bx (oO hr) (pdv 3) (pdv 6)) (aF (aM gW)) bc
noncomputable def bA : FF := trunc (aJ 3 (jl))
noncomputable def iy : FF := aJ 5 (mQ bA)
noncomputable def cF : FF := trunc (aJ 1 (mq))
noncomputable def eQ : FF := trunc (aJ 2 (pF))
noncomputable def aL : FF := trunc (aJ 4 (dM eQ))
noncomputable def iz : FF := trunc (aJ 3 (gV))
noncomputable def fO : FF := trunc (aJ 9 (lH bA iz aL))
noncomputable def bZ : FF := trunc (aJ 14 (dN cF bA aL fO))
noncomputable def cN : FF := trunc (aJ 1 (lK))
noncomputable def dG : FF := trunc (aJ 4 (cA cN))
noncomputable def lX : FF := trunc (aJ 9 (jQ eQ aL))
noncomputable def bf : FF := trunc (aJ 7 (aY cN aL dG lX))
noncomputable def iB : FF := trunc (aJ 2 (jH))
noncomputable def dO : FF := trunc (aJ 1 (gb))
noncomputable def bC : FF := trunc (aJ 1 (dq dO))
noncomputable def aW : FF := trunc (aJ 2 (cM))
noncomputable def aU : FF := trunc (aJ 3 (bO aW))
noncomputable def gj : FF := trunc (aJ 1 (fM bC aU))
noncomputable def fu : FF := trunc (aJ 2 (eN bC))
noncomputable def dZ : FF := trunc (aJ 2 (dF fu))
noncomputable def bV : FF := trunc (aJ 3 (cB dZ))
noncomputable def bY : FF := trunc (aJ 3 (cW aW))
noncomputable def dg : FF := trunc (aJ 3 (eY bY))
noncomputable def bW : FF := trunc (aJ 2 (cY))
noncomputable def il : FF := trunc (aJ 2 (jF bW))
noncomputable def fj : FF := trunc (aJ 2 (jg aU))
noncomputable def jm : FF := trunc (aJ 4 (nQ dg il fj))
noncomputable def gC : FF := trunc (aJ 4 (gA bV jm))
noncomputable def cG : FF := trunc (aJ 5 (bL iB gj gC))
noncomputable def jr : FF := trunc (aJ 2 (nW))
noncomputable def fL : FF := trunc (aJ 3 (lU bf cG jr))
noncomputable def gG : FF := trunc (aJ 5 (nG aL))
noncomputable def iQ : FF := trunc (aJ 11 (nM gG))
noncomputable def zU : FF := aJ 11 (qO iy cF bZ bf fL iQ)
abbrev Gt (K : PySem.W.Frag) (x : Str) (s : Stmt) : Prop := ∃ f c P fd, Got K x s f c P fd
abbrev Nn (K : PySem.W.Frag) (x : Str) : Prop := PySem.W.nsIn K mainGlobals x = some none
abbrev Rq (q : Program) (x : Str) : Prop := ((recsOf q).find? (λ e => e.name == x)).isSome = true
theorem Kc {l : PySem.W.OpenLaw} {q : Program} {lo : List Str} {mean : ExcName -> Option Value} {w : World} {K : PySem.W.Frag} {h : Heap} {mg mb : Str -> Option Value} {fa : Addr}
  {t_MOST_DIRECTIONS : Tok}
  (X : K.In h) (G : Top q lo mean mg mb h) (hfa : mg "law" = some (.ref fa))
  (d0 : Gt K "_law_mixed" sO)
  (d1 : Gt K "_law_draws" tE)
  (d2 : Gt K "_law_next" wX)
  (d3 : Gt K "_law_gcd" zN)
  (d4 : Gt K "_law_lowest" qK)
  (d5 : Gt K "_law_place" rT)
  (d6 : Gt K "_law_point" tG)
  (d7 : Gt K "_law_round_a_spot" jx)
  (d8 : Gt K "_law_whole" tO)
  (d9 : Gt K "_law_are_shares" lu)
  (d10 : Gt K "_law_mix" zz)
  (d11 : Gt K "_law_shares_spot" jG)
  (d12 : Gt K "is_row" sX)
  (d13 : Gt K "is_number" mU)
  (d14 : Gt K "is_numbers" lW)
  (d15 : Gt K "divisor_of_two" je)
  (d16 : Gt K "common_divisor" jj)
  (d17 : Gt K "is_spot" qD)
  (d18 : Gt K "is_share" oU)
  (d19 : Gt K "is_shares" mR)
  (d20 : Gt K "is_group_shares" iR)
  (d21 : Gt K "common_multiple" iG)
  (d22 : Gt K "over_bottoms" jP)
  (d23 : Gt K "sum_of_products" iM)
  (d24 : Gt K "weighed" qC)
  (d25 : Gt K "lessened" pq)
  (d26 : Gt K "mixed" wk)
  (d27 : Gt K "leads_to" pA)
  (d28 : Gt K "shared_holds" jT)
  (d29 : Gt K "_law_says" wI)
  (d30 : Gt K "_law_asked" tQ)
  (d31 : Gt K "_law_moved" sS)
  (d32 : Gt K "_law_bent" vN)
  (d33 : Gt K "law" uE)
  (z_abs : Nn K "abs")
  (z_all : Nn K "all")
  (z_bool : Nn K "bool")
  (z_int : Nn K "int")
  (z_isinstance : Nn K "isinstance")
  (z_len : Nn K "len")
  (z_list : Nn K "list")
  (z_min : Nn K "min")
  (z_range : Nn K "range")
  (z_sum : Nn K "sum")
  (z_tuple : Nn K "tuple")
  (z_zip : Nn K "zip")
  (y_MOST_DIRECTIONS : PySem.W.nsIn K mainGlobals "MOST_DIRECTIONS" = some (some (.int 3 t_MOST_DIRECTIONS)))
  (r_is_numbers : Rq q "is_numbers")
  (r_is_shares : Rq q "is_shares")
  (r_is_group_shares : Rq q "is_group_shares")
  (r_sum_of_products : Rq q "sum_of_products")
  (r_lessened : Rq q "lessened")
  (r_shared_holds : Rq q "shared_holds")
  (hnt : PySem.W.noTabs K = true) :
  ∃ (fd : FuncData) (tb : List Addr), (∀ (s : Shared) (u : Value), BindsTo s fd ⟨[u], []⟩ [("_law_script", u)]) /\ (∀ P ∈ tb, ∃ c, PySem.W.CodeHd h c P /\ h.get? P = some (PySem.W.tabObj #[])) /\ PySem.W.noTabs K = true /\
   ∀ base : Heap, K.In base -> base.Ns mainGlobals mg -> rD l.prog w K mg base CX0 13 fa fd ["_law_script"] (spD K tb 1 zU) := by
 have N := λ {n : Str} (h : Nn K n) => PySem.W.mg_none_of X G.g h
 have M := λ {n : Str} {v : Value} (e : PySem.W.nsIn K mainGlobals n = some (some v)) => PySem.W.mg_of X G.g e
 have T : BI K mg := ⟨N z_abs, N z_all, N z_bool, N z_int, N z_isinstance, N z_len, N z_list, N z_min, N z_range, N z_sum, N z_tuple, N z_zip, NP (M y_MOST_DIRECTIONS)⟩
 obtain ⟨f0, c0, P0, _, G0⟩ := d0
 obtain ⟨f1, c1, P1, _, G1⟩ := d1
 obtain ⟨f2, c2, P2, _, G2⟩ := d2
 obtain ⟨f3, c3, P3, _, G3⟩ := d3
 obtain ⟨f4, c4, P4, _, G4⟩ := d4
 obtain ⟨f5, c5, P5, _, G5⟩ := d5
 obtain ⟨f6, c6, P6, _, G6⟩ := d6
 obtain ⟨f7, c7, P7, _, G7⟩ := d7
 obtain ⟨f8, c8, P8, _, G8⟩ := d8
 obtain ⟨f9, c9, P9, _, G9⟩ := d9
 obtain ⟨f10, c10, P10, _, G10⟩ := d10
 obtain ⟨f11, c11, P11, _, G11⟩ := d11
 obtain ⟨f12, c12, P12, _, G12⟩ := d12
 obtain ⟨f13, c13, P13, _, G13⟩ := d13
 obtain ⟨f14, c14, P14, _, G14⟩ := d14
 obtain ⟨f15, c15, P15, _, G15⟩ := d15
 obtain ⟨f16, c16, P16, _, G16⟩ := d16
 obtain ⟨f17, c17, P17, _, G17⟩ := d17
 obtain ⟨f18, c18, P18, _, G18⟩ := d18
 obtain ⟨f19, c19, P19, _, G19⟩ := d19
 obtain ⟨f20, c20, P20, _, G20⟩ := d20
 obtain ⟨f21, c21, P21, _, G21⟩ := d21
 obtain ⟨f22, c22, P22, _, G22⟩ := d22
 obtain ⟨f23, c23, P23, _, G23⟩ := d23
 obtain ⟨f24, c24, P24, _, G24⟩ := d24
 obtain ⟨f25, c25, P25, _, G25⟩ := d25
 obtain ⟨f26, c26, P26, _, G26⟩ := d26
 obtain ⟨f27, c27, P27, _, G27⟩ := d27
 obtain ⟨f28, c28, P28, _, G28⟩ := d28
 obtain ⟨f29, c29, P29, _, G29⟩ := d29
 obtain ⟨f30, c30, P30, _, G30⟩ := d30
 obtain ⟨f31, c31, P31, _, G31⟩ := d31
 obtain ⟨f32, c32, P32, _, G32⟩ := d32
 obtain ⟨f33, c33, P33, _, G33⟩ := d33
 have m_law := M G33.m
 have e := hfa.symm.trans m_law
 cases e
 obtain ⟨kV, dc, pm, an, ct, rfl⟩ := G33.e
 refine ⟨PySem.W.fnOf "law" "law" (lR uE) (jE uE) (aP uE) .none kV dc pm an (.ref c33) ct, [P14, P19, P20, P23, P25, P28], λ s u => .of_eq rfl, λ P hP => ?_, hnt, λ base kb nb => ?_⟩
 .have hP : P = P14 ∨ P = P19 ∨ P = P20 ∨ P = P23 ∨ P = P25 ∨ P = P28 := by simpa using hP
  rcases hP with rfl | rfl | rfl | rfl | rfl | rfl
  .exact ⟨c14, qH G X r_is_numbers G14.t⟩
  .exact ⟨c19, qH G X r_is_shares G19.t⟩
  .exact ⟨c20, qH G X r_is_group_shares G20.t⟩
  .exact ⟨c23, qH G X r_sum_of_products G23.t⟩
  .exact ⟨c25, qH G X r_lessened G25.t⟩
  .exact ⟨c28, qH G X r_shared_holds G28.t⟩
 .have U {φ nm n k} (h : FI l.prog w K mg base [P14, P19, P20, P23, P25, P28] nm n k φ) := h
  have jl := U (φ := bA) (BJ T G0.F kb (M G0.m)).trunc
  have mQ := U (φ := iy) (Cz T G1.F kb (M G1.m) jl)
  have mq := U (φ := cF) (FZ T G2.F kb (M G2.m)).trunc
  have pF := U (φ := eQ) (Hm T G3.F kb (M G3.m)).trunc
  have dM := U (φ := aL) (zK T G4.F kb (M G4.m) pF).trunc
  have gV := U (φ := iz) (BX T G5.F kb (M G5.m)).trunc
  have lH := U (φ := fO) (Br T G6.F kb (M G6.m) jl gV dM).trunc
  have dN := U (φ := bZ) (qI T G7.F kb (M G7.m) mq jl dM lH).trunc
  have lK := U (φ := cN) (Cr T G8.F kb (M G8.m)).trunc
  have cA := U (φ := dG) (rQ T G9.F kb (M G9.m) lK).trunc
  have Ek := U (φ := lX) (Ig T G10.F kb (M G10.m) pF dM).trunc
  have aY := U (φ := bf) (rn T G11.F kb (M G11.m) lK dM cA Ek).trunc
  have jH := U (φ := iB) (Cd T G12.F kb (M G12.m)).trunc
  have gb := U (φ := dO) (wY T G13.F kb (M G13.m)).trunc
  have dq := U (φ := bC) (uz T G14.F kb (M G14.m) gb (by simp)).trunc
  have cM := U (φ := aW) (qg T G15.F kb (M G15.m)).trunc
  have bO := U (φ := aU) (pJ T G16.F kb (M G16.m) cM).trunc
  have fM := U (φ := gj) (yS T G17.F kb (M G17.m) dq bO).trunc
  have eN := U (φ := fu) (xZ T G18.F kb (M G18.m) dq).trunc
  have dF := U (φ := dZ) (wu T G19.F kb (M G19.m) eN (by simp)).trunc
  have cB := U (φ := bV) (oV T G20.F kb (M G20.m) dF (by simp)).trunc
  have cW := U (φ := bY) (oY T G21.F kb (M G21.m) cM).trunc
  have eY := U (φ := dg) (rE T G22.F kb (M G22.m) cW).trunc
  have cY := U (φ := bW) (oZ T G23.F kb (M G23.m) (by simp)).trunc
  have jF := U (φ := il) (zR T G24.F kb (M G24.m) cY).trunc
  have jg := U (φ := fj) (xx T G25.F kb (M G25.m) bO (by simp)).trunc
  have nQ := U (φ := jm) (Gg T G26.F kb (M G26.m) eY jF jg).trunc
  have g_leads_to := U (φ := gC) (xu T G27.F kb (M G27.m) cB nQ).trunc
  have bL := U (φ := cG) (rA T G28.F kb (M G28.m) jH fM g_leads_to (by simp)).trunc
  have nW := U (φ := jr) (DP T G29.F kb (M G29.m)).trunc
  have xJ := U (φ := fL) (Ce T G30.F kb (M G30.m) aY bL nW).trunc
  have nG := U (φ := gG) (BK T G31.F kb (M G31.m) dM).trunc
  have Ar := U (φ := iQ) (Ei T G32.F kb (M G32.m) nG).trunc
  exact Ko T G33.F kb mQ mq dN aY xJ Ar
end Lk32
namespace LG
open PySem PySem.Spec PyProof.Rows L2 L3
theorem Ex (a b : Int) : Int.gcd b (a.fmod b) = Int.gcd a b := by
 have h : a.fmod b = a - b * a.fdiv b := by have := Int.mul_fdiv_add_fmod a b; omega
 rw [h, Int.gcd_comm]
 have : a - b * a.fdiv b = a + b * (- a.fdiv b) := by rw [Int.mul_neg]; omega
 rw [this, Int.gcd_add_mul_left_left]
theorem Jo (a b : Int) (h : b ≠ 0) : (a.fmod b).natAbs < b.natAbs := by
 rw [Int.fmod_eq_emod]
 have h1 := Int.emod_nonneg a h
 have h2 := Int.emod_lt a h
 by_cases hd : 0 <= b ∨ b ∣ a
 .rw [if_pos hd]; omega
 .rw [if_neg hd]
  have h3 : a % b ≠ 0 := λ z => hd (.inr (Int.dvd_of_emod_eq_zero z))
  omega
abbrev eucC : TF := toB (M2 (aq 1) (mC (.int 0)) oNe)
abbrev eucB : SF := wU 0 1 (ao (aq 1) (ao (M2 (aq 0) (aq 1) oMod) (aD)))
theorem ne_int (a b : Int) (μ : Mu) : oNe (.int a) (.int b) μ = some (.bl (!(a == b)), μ) := by
 unfold oNe rsv
 simp [cH, fV, eqD]
theorem Bg (a b : Int) (μ : Mu) : oEq (.int a) (.int b) μ = some (.bl (a == b), μ) := by
 unfold oEq rsv
 simp [cH, fV, eqD]
theorem euc : ∀ (n : Nat) (a b : Int) (μ : Mu), b.natAbs <= n -> ∃ a', fU eucC eucB (n + 1) [some (.int a), some (.int b)] μ = some (.nx, [some (.int a'), some (.int 0)], μ) /\ a'.natAbs = Int.gcd a b /\ (0 <= a -> 0 <= b -> 0 <= a')
 | n, a, b, μ, h => by
  by_cases hb : b = 0
  .subst hb
   refine ⟨a, ?_, by simp, λ h _ => h⟩
   unfold fU
   simp [toB, M2, aq, mC, ne_int]
  .cases n with
   | zero => omega
   | succ n =>
    obtain ⟨a', e, hg, hs⟩ := euc n b (a.fmod b) μ (by have := Jo a b hb; omega)
    refine ⟨a', ?_, by rw [hg, Ex], λ h0 h1 => hs h1 (Int.fmod_nonneg_of_pos a (by omega))⟩
    unfold fU
    simp [toB, M2, aq, mC, ne_int, hb, wU, ao, aD, oMod, e]
def mH (φ : FF) : Prop := ∀ (a b : Int) (μ : Mu), φ [.int a, .int b] μ = some (.int (Int.gcd a b), μ)
theorem Ji : mH (aJ 2 cM) := λ a b μ => by
 obtain ⟨a', e, hg, hs⟩ := euc _ (if a < 0 then -a else a) (if b < 0 then -b else b) μ (Nat.le_refl _)
 have ea : (0 : Int) <= if a < 0 then -a else a := by split <;> omega
 have eb : (0 : Int) <= if b < 0 then -b else b := by split <;> omega
 have h0 := hs ea eb
 have hga : Int.gcd (if a < 0 then -a else a) (if b < 0 then -b else b) = Int.gcd a b := by split <;> split <;> simp
 rw [hga] at hg
 have hv : a' = (Int.gcd a b : Int) := by omega
 subst hv
 have ew := qu e
 unfold aJ cM
 simp [aQ, wU, ao, aD, MC, aq, aZ, pD, ew, bI]
theorem HY : mH (aJ 2 pF) := λ a b μ => by
 obtain ⟨a', e, hg, hs⟩ := euc _ a b μ (Nat.le_refl _)
 have ew := qu e
 unfold aJ pF
 have hv : (if a' < 0 then -a' else a') = (Int.gcd a b : Int) := by split <;> omega
 simp [aQ, ew, bI, ao, aD, MC, aq, aZ, pD, hv]
def bw (g : Nat) (ns : List Int) : Nat := ns.foldl (λ g n => Int.gcd g n) g
theorem qj : ∀ ns : List Int, bw 1 ns = 1
 | [] => rfl
 | n :: ns => by
  show bw (Int.gcd (1 : Nat) n) ns = 1
  have : Int.gcd ((1 : Nat) : Int) n = 1 := by simp
  rw [this]; exact qj ns
theorem bT (items : List D) (μ : Mu) : Src.ok ⟨items, none⟩ μ := λ n e => by cases e
theorem wO {φ : FF} (hφ : mH φ) (x : D) (all : List D) : ∀ (ns : List Int) (g : Nat) (o : Option D) (μ : Mu), ∃ o',
  forL ⟨all, none⟩ (hName 2) (aQ (bz 1 (MC (ao (aq 1) (ao (aq 2) (aD))) φ)) (sIf (toB (M2 (aq 1) (mC (.int 1)) oEq)) (sW) (bM))) (ns.map D.int) [some x, some (.int g), o] μ = some (.nx, [some x, some (.int (bw g ns : Nat)), o'], μ)
 | [], g, o, μ => ⟨o, by unfold forL; simp [bT, bw]⟩
 | n :: ns, g, o, μ => by
  by_cases h1 : Int.gcd g n = 1
  .refine ⟨some (.int n), ?_⟩
   rw [List.map_cons]
   unfold forL
   have h2 : bw g (n :: ns) = 1 := by show bw (Int.gcd g n) ns = 1; rw [h1]; exact qj ns
   simp [bT, hName, aQ, bz, MC, ao, aD, aq, hφ g n, h1, h2, sIf, toB, M2, mC, Bg, sW]
  .obtain ⟨o', e⟩ := wO hφ x all ns (Int.gcd g n) (some (.int n)) μ
   refine ⟨o', ?_⟩
   rw [List.map_cons]
   unfold forL
   have h3 : ((Int.gcd g n : Nat) : Int) ≠ 1 := by omega
   have h2 : bw g (n :: ns) = bw (Int.gcd g n) ns := rfl
   simp [bT, hName, aQ, bz, MC, ao, aD, aq, hφ g n, h3, sIf, toB, M2, mC, Bg, bM, e, h2]
def tX (φ : FF) : Prop := ∀ (ns : List Int) (μ : Mu), φ [.lst (ns.map .int)] μ = some (.int (bw 0 ns : Nat), μ)
theorem yR {φ : FF} (hφ : mH φ) : tX (aJ 3 (bO φ)) := λ ns μ => by
 obtain ⟨o', e⟩ := wO hφ (.lst (ns.map .int)) (ns.map .int) ns 0 none μ
 unfold aJ bO
 have e' := e
 simp at e'
 simp [aQ, bz, mC, iC, gk, aq, srcOf, e', bI]
theorem xF {th : D -> iI} {f : D -> D} {μ : Mu} : ∀ (items : List D), (∀ d ∈ items, th d μ = some (f d, μ)) -> yt (items.map th) μ = some (items.map f, μ)
 | [], _ => rfl
 | d :: r, h => by
  have h1 := h d (by simp)
  have h2 := xF r λ x hx => h x (by simp [hx])
  rw [List.map_cons, List.map_cons]
  unfold yt
  simp [h1, h2]
theorem xf {all : List D} {h : GF} {fe : EF} {δb : En} {f : D -> D} {μ : Mu} : ∀ (items : List D), (∀ d ∈ items, ∃ δ1, h d δb μ = some δ1 /\ fe δ1 μ = some (f d, μ)) -> lcL ⟨all, none⟩ h dh fe δb items μ = some (items.map f, μ)
 | [], _ => by unfold lcL; simp [bT]
 | d :: r, hd => by
  obtain ⟨δ1, h1, h2⟩ := hd d (by simp)
  have h3 := xf (all := all) r λ x hx => hd x (by simp [hx])
  unfold lcL
  simp [bT, h1, dh, h2, h3]
def Sm (b : Nat) (n : Int) : Prop := n.natAbs < 2 ^ b
theorem bits_le {b : Nat} {n : Int} (h : Sm b n) : Builtin.Int.intBits n <= b + 1 := by
 unfold Builtin.Int.intBits
 split
 .exact Nat.zero_le _
 .rename_i h'
  have hz : n ≠ 0 := by simpa using h'
  have hn : n.natAbs ≠ 0 := by omega
  have := (Nat.log2_lt hn).mpr h
  omega
theorem Df {b : Nat} {n : Int} (h : Sm b n) : n.natAbs.log2 < b + 1 := by
 by_cases h0 : n.natAbs = 0
 .rw [h0]; simp
 .have := (Nat.log2_lt h0).mpr h
  omega
theorem yP {a b : Nat} {x y : Int} (hx : Sm a x) (hy : Sm b y) (h : a + b + 2 <= 134217728) : jA x y <= 134217728 := by
 have := bits_le hx
 have := bits_le hy
 unfold jA
 omega
theorem dj {a b : Nat} {x y : Int} (μ : Mu) (hx : Sm a x) (hy : Sm b y) (h : a + b + 2 <= 134217728) : eO (.int x) (.int y) μ = some (.int (x * y), μ) := by
 unfold eO
 simp [yP hx hy h]
theorem gR {b : Nat} {x y : Int} (μ : Mu) (h0 : y ≠ 0) (hy : Sm b y) (h : b + 1 <= 9000) : oDiv (.int x) (.int y) μ = some (.int (x.fdiv y), μ) := by
 unfold oDiv
 have := Df hy
 simp [h0, show y.natAbs.log2 < 9000 by omega]
theorem jt {x y : Int} (μ : Mu) (h0 : y ≠ 0) : oMod (.int x) (.int y) μ = some (.int (x.fmod y), μ) := by
 unfold oMod
 simp [h0]
theorem lw : ∀ (ns : List Int) (g : Nat), (∀ n ∈ ns, ((bw g ns : Nat) : Int) ∣ n) /\ bw g ns ∣ g
 | [], g => ⟨λ n h => by simp at h, Nat.dvd_refl _⟩
 | n :: ns, g => by
  obtain ⟨h1, h2⟩ := lw ns (Int.gcd g n)
  have e : bw g (n :: ns) = bw (Int.gcd g n) ns := rfl
  rw [e]
  refine ⟨λ m hm => ?_, ?_⟩
  .rcases List.mem_cons.mp hm with z | z
   .subst z
    exact Int.dvd_trans (Int.ofNat_dvd.mpr h2) (Int.gcd_dvd_right _ _)
   .exact h1 m z
  .refine Nat.dvd_trans h2 ?_
   have := Int.gcd_dvd_left (g : Int) n
   exact Int.ofNat_dvd.mp this
theorem lA {ns : List Int} {g : Nat} (h : g ≠ 0 ∨ ∃ n ∈ ns, n ≠ 0) : bw g ns ≠ 0 := λ z => by
 obtain ⟨h1, h2⟩ := lw ns g
 rw [z] at h1 h2
 rcases h with h | ⟨n, hn, h⟩
 .exact h (Nat.eq_zero_of_zero_dvd h2)
 .have := h1 n hn
  exact h (by simpa using this)
theorem Gy {ns : List Int} {g : Nat} {n : Int} (hn : n ∈ ns) (h : n ≠ 0) : bw g ns <= n.natAbs := by
 have h1 := (lw ns g).1 n hn
 have h2 : bw g ns ∣ n.natAbs := by
  have := Int.natAbs_dvd_natAbs.mpr h1
  simpa using this
 exact Nat.le_of_dvd (by omega) h2
def Aa (φ : FF) : Prop := ∀ (ns : List Int) (μ : Mu), bw 0 ns ≠ 0 -> Sm 8000 (bw 0 ns : Nat) -> ns.length <= 100 -> φ [.lst (ns.map .int)] μ = some (.tup (ns.map λ n => .int (n.fdiv (bw 0 ns : Nat))), μ)
theorem Ih {φ : FF} (hφ : tX φ) : Aa (aJ 2 (jg φ)) := λ ns μ h0 hs hl => by
 have e : yt ((ns.map D.int).map (thG (hName 0) (M2 (aq 0) (aq 1) oDiv) (cT ["number"] [some (.lst (ns.map .int)), some (.int (bw 0 ns : Nat))] [1]))) μ = some ((ns.map D.int).map (λ d => match d with | .int n => .int (n.fdiv (bw 0 ns : Nat)) | _ => .non), μ) := by
  refine xF _ λ d hd => ?_
  obtain ⟨n, _, rfl⟩ := List.mem_map.mp hd
  have := gR (x := n) μ (show ((bw 0 ns : Nat) : Int) ≠ 0 by omega) hs (by decide)
  simp [thG, hName, cT, M2, aq, this]
 unfold aJ jg
 have hz : ns.length <= sizeLine := Nat.le_trans hl (by decide)
 rw [List.map_map, List.map_map] at e
 simp [aQ, bz, MC, ao, aD, aq, hφ ns μ, bI, ym, mW, gk, srcOf, hz, e]
def sgn (b : Int) : Int := if b > 0 then 1 else -1
theorem NZ {b : Nat} {n s : Int} (hs : s = 1 ∨ s = -1) (h : Sm b n) : Sm b (s * n) := by
 unfold Sm at *
 rw [Int.natAbs_mul]
 rcases hs with rfl | rfl <;> simpa using h
theorem Mx (b : Int) : sgn b = 1 ∨ sgn b = -1 := by unfold sgn; split <;> simp
theorem yw {φ : FF} (hφ : mH φ) (x y : D) (all : List D) : ∀ (ns : List Int) (c : Int) (o : Option D) (μ : Mu), ∃ (c' : Int) (o' : Option D),
  forL ⟨all, none⟩ (hName 3) (bz 2 (MC (ao (aq 2) (ao (aq 3) (aD))) φ)) (ns.map D.int) [some x, some y, some (.int c), o] μ = some (.nx, [some x, some y, some (.int c'), o'], μ) /\ c'.natAbs = bw c.natAbs ns /\ (0 <= c ∨ ns ≠ [] -> 0 <= c')
 | [], c, o, μ => ⟨c, o, by unfold forL; simp [bT], rfl, λ h => h.elim id λ z => absurd rfl z⟩
 | n :: ns, c, o, μ => by
  obtain ⟨c', o', e, hc, hn0⟩ := yw hφ x y all ns (Int.gcd c n) (some (.int n)) μ
  refine ⟨c', o', ?_, ?_, λ _ => hn0 (.inl (Int.natCast_nonneg _))⟩
  .rw [List.map_cons]
   unfold forL
   simp [bT, hName, bz, MC, ao, aD, aq, hφ c n, e]
  .rw [hc]
   show _ = bw (Int.gcd (c.natAbs : Nat) n) ns
   congr 1
def uW (φ : FF) : Prop := ∀ (ns : List Int) (b : Int) (μ : Mu), b ≠ 0 -> Sm 4000 b -> ns.length <= 50 -> ns ≠ [] ->
 φ [.lst (ns.map .int), .int b] μ = some (.tup ((ns ++ [b]).map λ n => .int (n.fdiv (sgn b * (bw b.natAbs ns : Nat)))), μ)
theorem Oe {φ : FF} (hφ : mH φ) : uW (aJ 4 (dM φ)) := λ ns b μ hb hs hl hne => by
 obtain ⟨c', o', e, hc, hc0⟩ := yw hφ (.lst (ns.map .int)) (.int b) (ns.map .int) ns b none μ
 have hsg := Mx b
 have hg0 : bw b.natAbs ns ≠ 0 := lA (.inl (by omega))
 have hgle : bw b.natAbs ns <= b.natAbs := Nat.le_of_dvd (by omega) (lw ns b.natAbs).2
 have hdiv : ∀ δo, ∃ δ', sIf (toB (M2 (aq 1) (mC (.int 0)) oLt)) (bz 2 (M2 (mC (.int 0)) (MC (ao (aq 2) (aD)) (aZ pD)) jh)) bM [some (.lst (ns.map .int)), some (.int b), some (.int c'), δo] μ = some (.nx, δ', μ) /\ (0 <= c' -> δ' = [some (.lst (ns.map .int)), some (.int b), some (.int (sgn b * (bw b.natAbs ns : Nat))), δo]) := λ δo => by
  by_cases hn : b < 0
  .refine ⟨[some (.lst (ns.map .int)), some (.int b), some (.int (0 - if c' < 0 then -c' else c')), δo], by simp [sIf, toB, M2, aq, mC, oLt, hn, bz, MC, ao, aD, aZ, pD, jh], λ hc0 => ?_⟩
   have h1 : sgn b = -1 := by unfold sgn; rw [if_neg (by omega)]
   rw [h1, if_neg (by omega)]
   have : c' = (bw b.natAbs ns : Nat) := by omega
   rw [this]
   simp
  .refine ⟨[some (.lst (ns.map .int)), some (.int b), some (.int c'), δo], by simp [sIf, toB, M2, aq, mC, oLt, hn, bM], λ hc0 => ?_⟩
   have h1 : sgn b = 1 := by unfold sgn; rw [if_pos (by omega)]
   have : c' = (bw b.natAbs ns : Nat) := by omega
   rw [h1, this]
   simp
 obtain ⟨δ', e3, e4⟩ := hdiv o'
 have e5 := e4 (hc0 (.inr hne))
 subst e5
 have hd0 : sgn b * ((bw b.natAbs ns : Nat) : Int) ≠ 0 := by rcases hsg with h | h <;> rw [h] <;> omega
 have hds : Sm 4000 (sgn b * ((bw b.natAbs ns : Nat) : Int)) := NZ hsg (by unfold Sm at *; simp only [Int.natAbs_natCast]; omega)
 have eL : lcL ⟨ns.map D.int, none⟩ (hName 0) dh (M2 (aq 0) (aq 1) oDiv) (cT ["_law_number"] [some (.lst (ns.map .int)), some (.int b), some (.int (sgn b * (bw b.natAbs ns : Nat))), o'] [2]) (ns.map D.int) μ = some ((ns.map D.int).map (λ d => match d with | .int n => .int (n.fdiv (sgn b * (bw b.natAbs ns : Nat))) | _ => .non), μ) := by
  refine xf _ λ d hd => ?_
  obtain ⟨n, _, rfl⟩ := List.mem_map.mp hd
  have := gR (x := n) μ hd0 hds (by decide)
  exact ⟨_, rfl, by simp [hName, cT, M2, aq, this]⟩
 rw [List.map_map] at eL
 have eL2 : lcL ⟨ns.map D.int, none⟩ (hName 0) dh (M2 (aq 0) (aq 1) oDiv) (cT ["_law_number"] [some (.lst (ns.map .int)), some (.int b), some (.int (sgn b * (bw b.natAbs ns : Nat))), o'] [2]) (ns.map D.int) μ = some (ns.map (λ n => D.int (n.fdiv (sgn b * (bw b.natAbs ns : Nat)))), μ) := eL
 have eD := gR (x := b) μ hd0 hds (by decide)
 have hz : ns.length <= sizeLine := Nat.le_trans hl (by decide)
 have hz2 : ns.length + 1 <= sizeLine := Nat.le_trans (by omega : ns.length + 1 <= 100) (by decide)
 have h1s : 1 <= sizeLine := by decide
 unfold aJ dM
 simp [aQ, bz, aq, iC, gk, srcOf, e, e3, bI, M2, MC, ao, aD, mFz, lLC, hz, eL2, iJ, bQ, eD, oTup, h1s, bJ, hz2]
theorem dW {a b : Nat} {x : Int} (h : Sm a x) (hab : a <= b) : Sm b x := Nat.lt_of_lt_of_le h (Nat.pow_le_pow_right (by decide) hab)
theorem lQ {a b : Nat} {x y : Int} (hx : Sm a x) (hy : Sm b y) : Sm (a + b) (x * y) := by
 unfold Sm at *
 rw [Int.natAbs_mul, Nat.pow_add]
 exact Nat.mul_lt_mul'' hx hy
theorem Fe {a : Nat} {x y : Int} (hx : Sm a x) (hy : Sm a y) : Sm (a + 1) (x + y) := by
 unfold Sm at *
 rw [Nat.pow_succ]
 have := Int.natAbs_add_le x y
 omega
theorem HN {a : Nat} {x y : Int} (hx : Sm a x) (h0 : 0 <= x) (hy : 0 < y) : Sm a (x.fdiv y) /\ 0 <= x.fdiv y := by
 rw [Int.fdiv_eq_ediv_of_nonneg x (by omega)]
 have h1 : 0 <= x / y := Int.ediv_nonneg h0 (by omega)
 have h2 : x / y <= x := Int.ediv_le_self y h0
 unfold Sm at *
 omega
def Dr (x : Int) : Prop := 0 <= x /\ x < 2147483648
theorem Dr.sm {x : Int} (h : Dr x) : Sm 31 x := by
 unfold Sm
 have := h.1
 have := h.2
 have e : (2 : Nat) ^ 31 = 2147483648 := by decide
 omega
theorem lM : ∀ (L : List Int), fG (L.map D.int) = true
 | [] => by unfold fG; rfl
 | x :: L => by
  rw [List.map_cons]
  unfold fG
  rw [lM L]
  simp [cH]
theorem nJ : ∀ (L : List Int), iV (L.map D.int) = 0
 | [] => by unfold iV; rfl
 | x :: L => by
  rw [List.map_cons]
  unfold iV
  rw [nJ L]
  simp [fV]
theorem jZ {ds : List D} {i : Int} (h0 : 0 <= i) (h1 : i < ds.length) : ∃ d, d ∈ ds /\ atI ds i = some d := by
 have hi : i.toNat < ds.length := by omega
 refine ⟨ds[i.toNat], List.getElem_mem hi, ?_⟩
 unfold atI ixN
 rw [if_pos h0, if_pos h1]
 simp [hi]
theorem bB {x m : Int} (hm : 0 < m) : 0 <= x.fmod m /\ x.fmod m < m := ⟨Int.fmod_nonneg_of_pos x hm, Int.fmod_lt_of_pos x hm⟩
def ud (φ : FF) : Prop := ∀ (x k : Int) (μ : Mu), 0 <= k -> k < 1000 -> ∃ r, φ [.int x, .int k] μ = some (.int r, μ) /\ Dr r
theorem Lh : ud (aJ 3 jl) := λ x k μ h0 h1 => by
 obtain ⟨a0, a1⟩ := bB (x := x) (m := 2147483647) (by decide)
 have w1 := jt (x := x) (y := 2147483647) μ (by decide)
 have sa : Sm 31 (x.fmod 2147483647) := by unfold Sm; have e : (2 : Nat) ^ 31 = 2147483648 := by decide
                                           omega
 have m1 := dj (x := x.fmod 2147483647) (y := 48271) μ sa (show Sm 16 48271 by unfold Sm; decide) (by decide)
 have sk : Sm 10 k := by unfold Sm; have e : (2 : Nat) ^ 10 = 1024 := by decide
                         omega
 have m2 := dj (x := 7919) (y := k) μ (show Sm 13 7919 by unfold Sm; decide) sk (by decide)
 have m3 := dj (x := 7919 * k) (y := k) μ (lQ (show Sm 13 7919 by unfold Sm; decide) sk) sk (by decide)
 have w2 := jt (x := x.fmod 2147483647 * 48271 + 7919 * k * k + 104729) (y := 2147483647) μ (by decide)
 obtain ⟨b0, b1⟩ := bB (x := x.fmod 2147483647 * 48271 + 7919 * k * k + 104729) (m := 2147483647) (by decide)
 generalize hn : (x.fmod 2147483647 * 48271 + 7919 * k * k + 104729).fmod 2147483647 = n at *
 have sn : Sm 31 n := by unfold Sm; have e : (2 : Nat) ^ 31 = 2147483648 := by decide
                         omega
 have m4 := dj (x := n) (y := n) μ sn sn (by decide)
 have w3 := jt (x := n * n) (y := 2147483629) μ (by decide)
 obtain ⟨c0, c1⟩ := bB (x := n * n) (m := 2147483629) (by decide)
 refine ⟨(n * n).fmod 2147483629, ?_, c0, by omega⟩
 unfold aJ jl
 simp [aQ, bz, M2, aq, mC, w1, m1, m2, m3, bJ, w2, bI, m4, w3]
theorem vV {δ : En} {L : List Int} {y : Int} {fs : AF} (h1 : δ[1]? = some (some (.cell 0))) (h2 : fs δ [some (L.map .int)] = some ([.int y], [some (L.map .int)])) (hl : L.length < 10000) :
  jz (aq 1) fs δ [some (L.map .int)] = some (.non, [some ((L ++ [y]).map .int)]) := by
 have hz : L.length < sizeLine := Nat.lt_of_lt_of_le hl (by decide)
 unfold jz
 simp [aq, h1, h2, lr, hz]
theorem Py {φ : FF} (hφ : ud φ) (s : D) (k c : Int) (hk : 0 <= k /\ k < 100) (all : List D) : ∀ (js : List Int), (∀ j ∈ js, 0 <= j /\ j < 12) -> ∀ (L : List Int) (o : Option D), (∀ x ∈ L, Dr x) -> L.length + js.length < 10000 -> ∃ (L' : List Int) (o' : Option D),
  forL ⟨all, none⟩ (hName 4) (gP (jz (aq 1) (ao (MC (ao (MC (ao (aq 3) (ao (M2 (M2 (mC (.int 3)) (aq 4) eO) (mC (.int 1)) bJ) (aD))) φ) (ao (M2 (M2 (aq 4) (aq 2) bJ) (mC (.int 2)) bJ) (aD))) φ) (aD)))) (js.map D.int)
   [some s, some (.cell 0), some (.int k), some (.int c), o] [some (L.map .int)] = some (.nx, [some s, some (.cell 0), some (.int k), some (.int c), o'], [some (L'.map .int)]) /\ (∀ x ∈ L', Dr x) /\ L'.length = L.length + js.length
 | [], _, L, o, hL, _ => ⟨L, o, by unfold forL; simp [bT], hL, rfl⟩
 | j :: js, hj, L, o, hL, hlen => by
  have hj0 := hj j (by simp)
  obtain ⟨r1, e1, d1⟩ := hφ c (3 * j + 1) [some (L.map .int)] (by omega) (by omega)
  obtain ⟨r2, e2, d2⟩ := hφ r1 (j + k + 2) [some (L.map .int)] (by omega) (by omega)
  have m1 := dj (x := 3) (y := j) [some (L.map D.int)] (show Sm 2 3 by unfold Sm; decide) (show Sm 4 j by unfold Sm; omega) (by decide)
  obtain ⟨L', o', e, hd, hl⟩ := Py hφ s k c hk all js (λ x hx => hj x (by simp [hx])) (L ++ [r2]) (some (.int j)) (λ x hx => by
   rcases List.mem_append.mp hx with z | z
   .exact hL x z
   .simp at z; subst z; exact d2) (by simp at hlen ⊢; omega)
  refine ⟨L', o', ?_, hd, by rw [hl]; simp; omega⟩
  rw [List.map_cons]
  unfold forL
  have ea := vV (δ := [some s, some (.cell 0), some (.int k), some (.int c), some (.int j)]) (L := L) (y := r2) (fs := ao (MC (ao (MC (ao (aq 3) (ao (M2 (M2 (mC (.int 3)) (aq 4) eO) (mC (.int 1)) bJ) (aD))) φ) (ao (M2 (M2 (aq 4) (aq 2) bJ) (mC (.int 2)) bJ) (aD))) φ) (aD)) rfl
   (by simp [ao, aD, MC, M2, aq, mC, m1, bJ, e1, e2]) (by simp at hlen; omega)
  simp only [List.map_append, List.map_cons, List.map_nil] at ea e
  simp [bT, hName, gP, ea, e]
abbrev drC : TF := qd (toB (M2 (aq 3) (M2 (mC (.int 10)) (mC (.int 18)) xT) oGe)) (toB (M2 (MC (ao (aq 1) (aD)) (aZ cz)) (mC (.int 900)) oLt))
abbrev drB : SF := aQ (gP (jz (aq 1) (ao (M2 (aq 3) (mC (.int 2147483629)) oMod) (aD)))) (bz 3 (M2 (aq 3) (mC (.int 2147483629)) oDiv))
theorem xm (s k o : Option D) : ∀ (n : Nat) (c : Int) (L : List Int), 0 <= c -> (∀ x ∈ L, Dr x) -> 900 - L.length <= n -> ∃ (c' : Int) (L' : List Int),
  fU drC drB (n + 1) [s, some (.cell 0), k, some (.int c), o] [some (L.map .int)] = some (.nx, [s, some (.cell 0), k, some (.int c'), o], [some (L'.map .int)]) /\ 0 <= c' /\ (∀ x ∈ L', Dr x) /\ L'.length <= max L.length 900
 | n, c, L, hc, hL, hn => by
  have ep : xT (.int 10) (.int 18) [some (L.map D.int)] = some (.int 1000000000000000000, [some (L.map .int)]) := rfl
  by_cases ht : (1000000000000000000 : Int) <= c /\ L.length < 900
  .cases n with
   | zero => omega
   | succ n =>
    obtain ⟨m0, m1⟩ := bB (x := c) (m := 2147483629) (by decide)
    have w1 := jt (x := c) (y := 2147483629) [some (L.map D.int)] (by decide)
    have w2 := gR (x := c) (y := 2147483629) [some ((L ++ [c.fmod 2147483629]).map D.int)] (by decide) (show Sm 31 2147483629 by unfold Sm; decide) (by decide)
    have q0 : 0 <= c.fdiv 2147483629 := by rw [Int.fdiv_eq_ediv_of_nonneg c (by decide)]; exact Int.ediv_nonneg hc (by decide)
    obtain ⟨c', L', e, h1, h2, h3⟩ := xm s k o n (c.fdiv 2147483629) (L ++ [c.fmod 2147483629]) q0 (λ x hx => by
     rcases List.mem_append.mp hx with z | z
     .exact hL x z
     .simp at z; subst z; exact ⟨m0, by omega⟩) (by simp; omega)
    refine ⟨c', L', ?_, h1, h2, by simp at h3; omega⟩
    unfold fU
    have ea := vV (δ := [s, some (.cell 0), k, some (.int c), o]) (L := L) (y := c.fmod 2147483629) (fs := ao (M2 (aq 3) (mC (.int 2147483629)) oMod) (aD)) rfl (by simp [ao, aD, M2, aq, mC, w1]) (by omega)
    simp only [List.map_append, List.map_cons, List.map_nil] at ea e w2
    have hlen : ((L.length : Nat) : Int) < 900 := by omega
    have ht1 := ht.1
    simp [qd, toB, M2, aq, mC, ep, oGe, ht1, MC, ao, aD, aZ, cz, bQ, oLt, hlen, aQ, gP] at ea ⊢
    simp [ea, bz, M2, aq, mC, w2, e]
  .refine ⟨c, L, ?_, hc, hL, by omega⟩
   unfold fU
   by_cases h1 : (1000000000000000000 : Int) <= c
   .have h2 : ¬ ((L.length : Nat) : Int) < 900 := by omega
    simp [qd, toB, M2, aq, mC, ep, oGe, h1, MC, ao, aD, aZ, cz, bQ, oLt, h2]
   .simp [qd, toB, M2, aq, mC, ep, oGe, h1]
theorem yO (n : Nat) : gm 0 n = ((List.range n).map λ (k : Nat) => (k : Int)).map D.int := by
 unfold gm
 rw [List.map_map]
 apply List.map_congr_left
 intro k _
 simp
noncomputable abbrev vJ (φ : FF) : SF := (aQ (bz 3 (MC (ao (M2 (aq 0) (aq 2) oIx) (aD)) (aZ pD))) (aQ (sIf (toB (M2 (aq 3) (M2 (mC (.int 10)) (mC (.int 18)) xT) oLt)) (iC (cC (ao (mC (.int 12)) (aD))) (hName 4) (gP (jz (aq 1) (ao (MC (ao (MC (ao (aq 3) (ao (M2 (M2 (mC (.int 3)) (aq 4) eO) (mC (.int 1)) bJ) (aD))) φ) (ao (M2 (M2 (aq 4) (aq 2) bJ) (mC (.int 2)) bJ) (aD))) φ) (aD))))) (bM)) (aQ (mx drC drB) (sIf (toB (M2 (aq 3) (mC (.int 2147483629)) oGe)) (gP (jz (aq 1) (ao (M2 (aq 3) (mC (.int 2147483629)) oMod) (aD)))) (bM)))))
theorem HB {φ : FF} (hφ : ud φ) (ns : List Int) (k : Nat) (hk : k < ns.length) (hk2 : k < 100) (L : List Int) (o3 o4 : Option D) (hL : ∀ x ∈ L, Dr x) (hlen : L.length < 9000) : ∃ (L' : List Int) (o3' o4' : Option D),
  vJ φ [some (.ro (ns.map .int)), some (.cell 0), some (.int k), o3, o4] [some (L.map .int)] = some (.nx, [some (.ro (ns.map .int)), some (.cell 0), some (.int k), o3', o4'], [some (L'.map .int)]) /\ (∀ x ∈ L', Dr x) /\ L'.length <= max (L.length + 12) 900 + 1 := by
 have hat : atI (ns.map D.int) (k : Int) = some (.int ns[k]) := Ir (by simp [hk])
 generalize hc : (if ns[k] < 0 then -ns[k] else ns[k]) = c
 have hc0 : 0 <= c := by rw [<- hc]; split <;> omega
 have ep : xT (.int 10) (.int 18) [some (L.map D.int)] = some (.int 1000000000000000000, [some (L.map .int)]) := rfl
 obtain ⟨L1, o1, e1, h1, l1⟩ : ∃ (L1 : List Int) (o1 : Option D), sIf (toB (M2 (aq 3) (M2 (mC (.int 10)) (mC (.int 18)) xT) oLt)) (iC (cC (ao (mC (.int 12)) (aD))) (hName 4) (gP (jz (aq 1) (ao (MC (ao (MC (ao (aq 3) (ao (M2 (M2 (mC (.int 3)) (aq 4) eO) (mC (.int 1)) bJ) (aD))) φ) (ao (M2 (M2 (aq 4) (aq 2) bJ) (mC (.int 2)) bJ) (aD))) φ) (aD))))) (bM)
   [some (.ro (ns.map .int)), some (.cell 0), some (.int k), some (.int c), o4] [some (L.map .int)] = some (.nx, [some (.ro (ns.map .int)), some (.cell 0), some (.int k), some (.int c), o1], [some (L1.map .int)]) /\ (∀ x ∈ L1, Dr x) /\ L1.length <= L.length + 12 := by
  by_cases hs : c < 1000000000000000000
  .obtain ⟨L1, o1, e, h, l⟩ := Py hφ (.ro (ns.map .int)) k c (by omega) (gm 0 12) ((List.range 12).map λ (k : Nat) => (k : Int)) (λ j hj => by simp at hj; omega) L o4 hL (by simp; omega)
   refine ⟨L1, o1, ?_, h, by rw [l]; simp⟩
   rw [<- yO] at e
   simp [sIf, toB, M2, aq, mC, ep, oLt, hs, iC, cC, ao, aD]
   exact e
  .exact ⟨L, o4, by simp [sIf, toB, M2, aq, mC, ep, oLt, hs, bM], hL, by omega⟩
 obtain ⟨c', L2, e2, hc', h2, l2⟩ := xm (some (.ro (ns.map .int))) (some (.int k)) o1 _ c L1 hc0 h1 (Nat.le_refl _)
 have ew := qu e2
 have hab : pD (.int ns[k]) [some (L.map D.int)] = some (.int c, [some (L.map D.int)]) := by rw [<- hc]; rfl
 by_cases hb : (2147483629 : Int) <= c'
 .obtain ⟨m0, m1⟩ := bB (x := c') (m := 2147483629) (by decide)
  have w1 := jt (x := c') (y := 2147483629) [some (L2.map D.int)] (by decide)
  have ea := vV (δ := [some (.ro (ns.map .int)), some (.cell 0), some (.int k), some (.int c'), o1]) (L := L2) (y := c'.fmod 2147483629) (fs := ao (M2 (aq 3) (mC (.int 2147483629)) oMod) (aD)) rfl (by simp [ao, aD, M2, aq, mC, w1]) (by omega)
  refine ⟨L2 ++ [c'.fmod 2147483629], some (.int c'), o1, ?_, λ x hx => by
   rcases List.mem_append.mp hx with z | z
   .exact h2 x z
   .simp at z; subst z; exact ⟨m0, by omega⟩, by simp; omega⟩
  have e0 : bz 3 (MC (ao (M2 (aq 0) (aq 2) oIx) (aD)) (aZ pD)) [some (.ro (ns.map .int)), some (.cell 0), some (.int k), o3, o4] [some (L.map .int)] = some (.nx, [some (.ro (ns.map .int)), some (.cell 0), some (.int k), some (.int c), o4], [some (L.map .int)]) := by
   simp [bz, MC, ao, aD, M2, aq, oIx, bQ, hat, aZ, hab]
  have e3 : sIf (toB (M2 (aq 3) (mC (.int 2147483629)) oGe)) (gP (jz (aq 1) (ao (M2 (aq 3) (mC (.int 2147483629)) oMod) (aD)))) (bM) [some (.ro (ns.map .int)), some (.cell 0), some (.int k), some (.int c'), o1] [some (L2.map .int)] = some (.nx, [some (.ro (ns.map .int)), some (.cell 0), some (.int k), some (.int c'), o1], [some ((L2 ++ [c'.fmod 2147483629]).map .int)]) := by
   simp only [sIf, toB, M2, aq, mC, oGe, gP] at ea ⊢
   simp [hb] at ea ⊢
   simp [ea]
  unfold vJ aQ
  rw [e0]
  simp only [Option.bind_some]
  rw [e1]
  simp only [Option.bind_some]
  rw [ew]
  simp only [Option.bind_some]
  exact e3
 .refine ⟨L2, some (.int c'), o1, ?_, h2, by omega⟩
  have e0 : bz 3 (MC (ao (M2 (aq 0) (aq 2) oIx) (aD)) (aZ pD)) [some (.ro (ns.map .int)), some (.cell 0), some (.int k), o3, o4] [some (L.map .int)] = some (.nx, [some (.ro (ns.map .int)), some (.cell 0), some (.int k), some (.int c), o4], [some (L.map .int)]) := by
   simp [bz, MC, ao, aD, M2, aq, oIx, bQ, hat, aZ, hab]
  have e3 : sIf (toB (M2 (aq 3) (mC (.int 2147483629)) oGe)) (gP (jz (aq 1) (ao (M2 (aq 3) (mC (.int 2147483629)) oMod) (aD)))) (bM) [some (.ro (ns.map .int)), some (.cell 0), some (.int k), some (.int c'), o1] [some (L2.map .int)] = some (.nx, [some (.ro (ns.map .int)), some (.cell 0), some (.int k), some (.int c'), o1], [some (L2.map .int)]) := by
   simp [sIf, toB, M2, aq, mC, oGe, hb, bM]
  unfold vJ aQ
  rw [e0]
  simp only [Option.bind_some]
  rw [e1]
  simp only [Option.bind_some]
  rw [ew]
  simp only [Option.bind_some]
  exact e3
theorem Be {φ : FF} (hφ : ud φ) (ns : List Int) (all : List D) : ∀ (ks : List Nat), (∀ k ∈ ks, k < ns.length /\ k < 100) -> ∀ (L : List Int) (o2 o3 o4 : Option D), (∀ x ∈ L, Dr x) -> max L.length 900 + 13 * ks.length <= 5000 -> ∃ (L' : List Int) (o2' o3' o4' : Option D),
  forL ⟨all, none⟩ (hName 2) (vJ φ) ((ks.map λ (k : Nat) => (k : Int)).map D.int) [some (.ro (ns.map .int)), some (.cell 0), o2, o3, o4] [some (L.map .int)] = some (.nx, [some (.ro (ns.map .int)), some (.cell 0), o2', o3', o4'], [some (L'.map .int)]) /\ (∀ x ∈ L', Dr x)
 | [], _, L, o2, o3, o4, hL, _ => ⟨L, o2, o3, o4, by simp only [List.map_nil]; unfold forL; simp [bT], hL⟩
 | k :: ks, hk, L, o2, o3, o4, hL, hlen => by
  have hk0 := hk k (by simp)
  simp only [List.length_cons] at hlen
  obtain ⟨L1, a3, a4, e1, h1, l1⟩ := HB hφ ns k hk0.1 hk0.2 L o3 o4 hL (by omega)
  obtain ⟨L', b2, b3, b4, e, h⟩ := Be hφ ns all ks (λ x hx => hk x (by simp [hx])) L1 (some (.int k)) a3 a4 h1 (by omega)
  refine ⟨L', b2, b3, b4, ?_, h⟩
  rw [List.map_cons, List.map_cons]
  unfold forL
  simp only [hName, List.set_cons_succ, List.set_cons_zero, Option.bind_some]
  rw [if_pos (bT _ _), e1]
  exact e
def wH (φ : FF) : Prop := ∀ (ns : List Int), ns.length <= 63 -> ∃ L : List Int, φ [.ro (ns.map .int)] [] = some (.cell 0, [some (L.map .int)]) /\ ∀ x ∈ L, Dr x
theorem Dh {φ : FF} (hφ : ud φ) : wH (aJ 5 (mQ φ)) := λ ns hn => by
 obtain ⟨L, o2, o3, o4, e, h⟩ := Be hφ ns (gm 0 ns.length) (List.range ns.length) (λ k hk => by simp at hk; omega) [] none none none (λ x hx => by simp at hx) (by simp; omega)
 refine ⟨L, ?_, h⟩
 rw [<- yO] at e
 have hmin : (if (63 : Int) < (ns.length : Int) then (63 : Int) else (ns.length : Int)) = (ns.length : Int) := by rw [if_neg (by omega)]
 have hr : (-(2 ^ 62) <= (ns.length : Int) /\ (ns.length : Int) < 2 ^ 62) := by omega
 have hz : 0 <= sizeLine := Nat.zero_le _
 have eS : ∀ δ : En, δ[0]? = some (some (.ro (ns.map .int))) -> ∀ μ, cC (ao (MC (ao (MC (ao (aq 0) (aD)) (aZ cz)) (ao (mC (.int 63)) (aD))) (qe su)) (aD)) δ μ = some (⟨gm 0 ns.length, none⟩, μ) := λ δ h0 μ => by
  simp only [cC, ao, MC, aq, h0, aD, aZ, cz, bQ, mC, qe, su, Option.bind_some, Option.map_some, List.length_map]
  rw [hmin]
  rw [if_pos hr]
  simp
 have e0 : bz 1 (oA (sI aD)) [some (.ro (ns.map .int)), none, none, none, none] [] = some (.nx, [some (.ro (ns.map .int)), some (.cell 0), none, none, none], [some []]) := by
  simp [bz, oA, sI, aD]
 have e1 : iC (cC (ao (MC (ao (MC (ao (aq 0) (aD)) (aZ cz)) (ao (mC (.int 63)) (aD))) (qe su)) (aD))) (hName 2) (vJ φ) [some (.ro (ns.map .int)), some (.cell 0), none, none, none] [some []] = some (.nx, [some (.ro (ns.map .int)), some (.cell 0), o2, o3, o4], [some (L.map .int)]) := by
  unfold iC
  rw [eS _ rfl]
  exact e
 show (aQ (bz 1 (oA (sI aD))) (aQ (iC (cC (ao (MC (ao (MC (ao (aq 0) (aD)) (aZ cz)) (ao (mC (.int 63)) (aD))) (qe su)) (aD))) (hName 2) (vJ φ)) (bI (aq 1))) [some (.ro (ns.map .int)), none, none, none, none] []).bind _ = _
 unfold aQ
 rw [e0]
 simp only [Option.bind_some]
 rw [e1]
 simp [bI, aq]
theorem lL : ∀ (ns : List Int) (g d : Nat), d ∣ bw g ns ↔ d ∣ g /\ ∀ n ∈ ns, d ∣ n.natAbs
 | [], g, d => by simp [bw]
 | n :: ns, g, d => by
  have e : bw g (n :: ns) = bw (Int.gcd g n) ns := rfl
  rw [e, lL ns (Int.gcd g n) d]
  have h : d ∣ Int.gcd g n ↔ d ∣ g /\ d ∣ n.natAbs := by
   show d ∣ Nat.gcd (Int.natAbs g) (Int.natAbs n) ↔ _
   rw [Nat.dvd_gcd_iff]
   simp
  rw [h]
  simp only [List.mem_cons, forall_eq_or_imp]
  constructor
  .rintro ⟨⟨h1, h2⟩, h3⟩; exact ⟨h1, h2, h3⟩
  .rintro ⟨h1, h2, h3⟩; exact ⟨⟨h1, h2⟩, h3⟩
theorem Jl {s b : Int} {ns : List Int} (hs : s = 1 ∨ s = -1) : bw 0 ((ns ++ [b]).map (s * ·)) = bw b.natAbs ns := by
 have hab : ∀ n : Int, (s * n).natAbs = n.natAbs := λ n => by rw [Int.natAbs_mul]; rcases hs with h | h <;> rw [h] <;> simp
 apply Nat.dvd_antisymm
 .have h := (lL ((ns ++ [b]).map (s * ·)) 0 _).mp (Nat.dvd_refl _)
  refine (lL ns b.natAbs _).mpr ⟨?_, λ n hn => ?_⟩
  .have := h.2 (s * b) (List.mem_map.mpr ⟨b, by simp, rfl⟩)
   rwa [hab] at this
  .have := h.2 (s * n) (List.mem_map.mpr ⟨n, by simp [hn], rfl⟩)
   rwa [hab] at this
 .have h := (lL ns b.natAbs _).mp (Nat.dvd_refl _)
  refine (lL _ 0 _).mpr ⟨Nat.dvd_zero _, λ m hm => ?_⟩
  obtain ⟨n, hn, rfl⟩ := List.mem_map.mp hm
  rw [hab]
  rcases List.mem_append.mp hn with z | z
  .exact h.2 n z
  .simp at z; subst z; exact h.1
theorem pG (f : Int) : ∀ (ns : List Int) (g : Nat), bw (f.natAbs * g) (ns.map (f * ·)) = f.natAbs * bw g ns
 | [], g => rfl
 | n :: ns, g => by
  show bw (Int.gcd ((f.natAbs * g : Nat) : Int) (f * n)) (ns.map (f * ·)) = f.natAbs * bw (Int.gcd g n) ns
  have : Int.gcd ((f.natAbs * g : Nat) : Int) (f * n) = f.natAbs * Int.gcd g n := by
   show Nat.gcd (Int.natAbs ((f.natAbs * g : Nat) : Int)) (Int.natAbs (f * n)) = _
   rw [Int.natAbs_natCast, Int.natAbs_mul, Nat.gcd_mul_left]
   rfl
  rw [this, pG f ns]
end LG
namespace L3
open PySem PySem.Spec PyProof.Rows L2
class Post (α : Type) where
 run : α -> Prop
@[simp] theorem sG {α : Type} {f : α -> Prop} {r : α} : @Post.run α ⟨f⟩ r = f r := rfl
def OkI {α : Type} (o : Option α) [Q : Post α] : Prop := ∃ r, o = some r /\ Q.run r
abbrev Ok {α : Type} (o : Option α) (Q : α -> Prop) : Prop := @OkI α o ⟨Q⟩
section
variable {α β : Type} {Q : Post α}
@[simp] theorem pQ {r : α} : OkI (some r) (Q := Q) = Q.run r := by
 apply propext
 exact ⟨λ ⟨q, e, h⟩ => by cases e; exact h, λ h => ⟨r, rfl, h⟩⟩
@[simp] theorem QQ : OkI (none : Option α) (Q := Q) = False := by
 apply propext
 exact ⟨λ ⟨q, e, h⟩ => (by cases e), λ h => h.elim⟩
@[simp] theorem gJ {o : Option β} {k : β -> Option α} : OkI (o.bind k) (Q := Q) = OkI o (Q := ⟨λ r => OkI (k r) (Q := Q)⟩) := by
 apply propext
 constructor
 .rintro ⟨q, e, h⟩
  obtain ⟨r, e1, e2⟩ := Option.bind_eq_some_iff.mp e
  exact ⟨r, e1, q, e2, h⟩
 .rintro ⟨r, e1, q, e2, h⟩
  exact ⟨q, by rw [e1]; exact e2, h⟩
@[simp] theorem RC {o : Option β} {k : β -> α} : OkI (o.map k) (Q := Q) = OkI o (Q := ⟨λ r => Q.run (k r)⟩) := by
 apply propext
 constructor
 .rintro ⟨q, e, h⟩
  obtain ⟨r, e1, e2⟩ := Option.map_eq_some_iff.mp e
  exact ⟨r, e1, by subst e2; exact h⟩
 .rintro ⟨r, e1, h⟩
  exact ⟨_, by rw [e1]; rfl, h⟩
theorem OkI.mono {o : Option α} {Q' : Post α} (h : OkI o (Q := Q)) (k : ∀ r, Q.run r -> Q'.run r) : OkI o (Q := Q') := let ⟨r, e, q⟩ := h; ⟨r, e, k r q⟩
end
class Two where
 t : Prop
 f : Prop
def uy (b : Bool) [T : Two] : Prop := if b = true then T.t else T.f
@[simp] theorem Ot {P R : Prop} : uy true (T := ⟨P, R⟩) = P := rfl
@[simp] theorem Nt {P R : Prop} : uy false (T := ⟨P, R⟩) = R := rfl
def asB (r : D × Mu) : Option (Bool × Mu) := match r.1 with
 | .bl k => some (k, r.2)
 | _ => none
@[simp] theorem RT {k : Bool} {μ : Mu} : asB (.bl k, μ) = some (k, μ) := rfl
def JK (r : List D × Mu) : Option (Src × Mu) := match r.1 with
 | [.int j] => if -(2 ^ 62) <= j /\ j < 2 ^ 62 then some (⟨gm 0 j.toNat, none⟩, r.2) else none
 | _ => none
theorem Cy {j : Int} {μ : Mu} (h0 : -(2 ^ 62) <= j) (h1 : j < 2 ^ 62) : JK ([.int j], μ) = some (⟨gm 0 j.toNat, none⟩, μ) := if_pos ⟨h0, h1⟩
def Qp (r : List D × Mu) : Option (Src × Mu) := match r.1 with
 | [x, y] => (iT x).bind λ xs => (iT y).map λ ys => (⟨jV xs ys, none⟩, r.2)
 | _ => none
@[simp] theorem QM {x y : D} {μ : Mu} : Qp ([x, y], μ) = (iT x).bind λ xs => (iT y).map λ ys => (⟨jV xs ys, none⟩, μ) := rfl
@[simp] theorem Rp {ds : List D} : iT (.tup ds) = some ds := rfl
@[simp] theorem Rv {ds : List D} : iT (.lst ds) = some ds := rfl
def PX (th : D -> iI) (r : Src × Mu) : Option (List iI × Mu) := match r.1.cel with
 | none => some (r.1.items.map th, r.2)
 | some _ => none
@[simp] theorem Om {th : D -> iI} {items : List D} {μ : Mu} : PX th (⟨items, none⟩, μ) = some (items.map th, μ) := rfl
def Mm (r : D × Mu) : Option (List iI × Mu) := match r.1 with
 | .tup ds => some (ds.map thE, r.2)
 | .lst ds => some (ds.map thE, r.2)
 | _ => none
@[simp] theorem Ow {ds : List D} {μ : Mu} : Mm (.tup ds, μ) = some (ds.map thE, μ) := rfl
@[simp] theorem Qm {ds : List D} {μ : Mu} : Mm (.lst ds, μ) = some (ds.map thE, μ) := rfl
def Ox (r : D × Mu) : Option (D × Mu) := match r.1 with
 | .cell n => (r.2.getD n none).map λ ds => (.lst ds, r.2.set n none)
 | d => some (d, r.2)
@[simp] theorem Oq {n : Nat} {μ : Mu} : Ox (.cell n, μ) = (μ.getD n none).map λ ds => (.lst ds, μ.set n none) := rfl
section
variable {Q : Post (D × Mu)} {QT : Post (Bool × Mu)} {QS : Post (Fl × En × Mu)} {δ : En} {μ : Mu} {f fa fb fc : EF} {fs : AF} {t ta tc : TF} {g h : SF} {op op' : O2}
@[simp] theorem wJ {d : D} : aq 0 (some d :: δ) μ = some (d, μ) := rfl
@[simp] theorem wZ {i : Nat} {o : Option D} : aq (i + 1) (o :: δ) μ = aq i δ μ := rfl
@[simp] theorem w_c {d : D} : mC d δ μ = some (d, μ) := rfl
@[simp] theorem w_m1 {op : O1'} : M1 fa op δ μ = (fa δ μ).bind λ r => op r.1 r.2 := rfl
@[simp] theorem Qi : M2 fa fb op δ μ = (fa δ μ).bind λ r => (fb δ r.2).bind λ q => op r.1 q.1 q.2 := rfl
@[simp] theorem Ea : aD δ μ = some ([], μ) := rfl
@[simp] theorem za : ao f fs δ μ = (f δ μ).bind λ r => (fs δ r.2).bind λ q => some (r.1 :: q.1, q.2) := rfl
@[simp] theorem Pa {op : ON} : MC fs op δ μ = (fs δ μ).bind λ r => op r.1 r.2 := rfl
@[simp] theorem w_mk {fk : AF} {π : List Nat} {φ : FF} : MK fs fk π φ δ μ = (fs δ μ).bind λ r => (fk δ r.2).bind λ q => φ (r.1 ++ π.map λ i => q.1.getD i .non) q.2 := rfl
@[simp] theorem RK : jM f δ μ = (f δ μ).bind λ r => (yI r.1 r.2).map λ k => (k, r.2) := rfl
@[simp] theorem w_toB : toB f δ μ = (f δ μ).bind asB := rfl
@[simp] theorem w_ch : OkI (MCh fa fb fc op op' δ μ) (Q := Q) = OkI (fa δ μ) (Q := ⟨λ r => OkI (fb δ r.2) (Q := ⟨λ q => OkI ((op r.1 q.1 q.2).bind asB) (Q := ⟨λ z => uy z.1 (T := ⟨OkI ((fc δ z.2).bind λ t => op' q.1 t.1 t.2) (Q := Q), Q.run (.bl false, z.2)⟩)⟩)⟩)⟩) := by
 unfold MCh; rw [gJ]; congr 2; funext r; rw [gJ]; congr 2; funext q; rw [gJ, gJ]; congr 2; funext z; obtain ⟨d, μ'⟩ := z
 cases d <;> simp [asB]
 rename_i b
 cases b <;> simp
@[simp] theorem w_and : OkI (qd ta tc δ μ) (Q := QT) = OkI (ta δ μ) (Q := ⟨λ r => uy r.1 (T := ⟨OkI (tc δ r.2) (Q := QT), QT.run (false, r.2)⟩)⟩) := by
 unfold qd; rw [gJ]; congr 2; funext r; unfold uy; split <;> simp [*]
@[simp] theorem w_or : OkI (jY ta tc δ μ) (Q := QT) = OkI (ta δ μ) (Q := ⟨λ r => uy r.1 (T := ⟨QT.run (true, r.2), OkI (tc δ r.2) (Q := QT)⟩)⟩) := by
 unfold jY; rw [gJ]; congr 2; funext r; unfold uy; split <;> simp [*]
@[simp] theorem w_not : fX ta δ μ = (ta δ μ).bind λ r => some (!r.1, r.2) := rfl
@[simp] theorem Rx : OkI (km fa fb δ μ) (Q := Q) = OkI ((fa δ μ).bind asB) (Q := ⟨λ k => uy k.1 (T := ⟨OkI (fb δ k.2) (Q := Q), Q.run (.bl false, k.2)⟩)⟩) := by
 unfold km; rw [gJ, gJ]; congr 2; funext r; obtain ⟨d, μ'⟩ := r
 cases d <;> simp [asB]
 rename_i b
 cases b <;> simp
@[simp] theorem Rw : vH fa δ μ = ((fa δ μ).bind asB).bind λ r => some (.bl !r.1, r.2) := by
 unfold vH
 cases fa δ μ with
 | none => rfl
 | some r => obtain ⟨d, μ'⟩ := r; cases d <;> rfl
@[simp] theorem w_next : bM δ μ = some (.nx, δ, μ) := rfl
@[simp] theorem QZ : sW δ μ = some (.bk, δ, μ) := rfl
@[simp] theorem w_ret : bI f δ μ = (f δ μ).bind λ r => some (.rt r.1, δ, r.2) := rfl
@[simp] theorem RX : gP f δ μ = (f δ μ).bind λ r => some (.nx, δ, r.2) := rfl
@[simp] theorem Er {i : Nat} : bz i f δ μ = (f δ μ).bind λ r => some (.nx, δ.set i (some r.1), r.2) := rfl
@[simp] theorem w_if : OkI (sIf t g h δ μ) (Q := QS) = OkI (t δ μ) (Q := ⟨λ r => uy r.1 (T := ⟨OkI (g δ r.2) (Q := QS), OkI (h δ r.2) (Q := QS)⟩)⟩) := by
 unfold sIf; rw [gJ]; congr 2; funext r; unfold uy; split <;> simp [*]
def vm (h : SF) (QS : Post (Fl × En × Mu)) (r : Fl × En × Mu) : Prop := match r.1 with
 | .nx => OkI (h r.2.1 r.2.2) (Q := QS)
 | _ => QS.run r
@[simp] theorem CW : OkI (aQ g h δ μ) (Q := QS) = OkI (g δ μ) (Q := ⟨vm h QS⟩) := by
 unfold aQ
 rw [gJ]
 congr 2
 funext r
 obtain ⟨fl, δ', μ'⟩ := r
 cases fl <;> simp [vm]
@[simp] theorem vM {δ' : En} {μ' : Mu} : vm h QS (.nx, δ', μ') = OkI (h δ' μ') (Q := QS) := rfl
@[simp] theorem Rk {d : D} {δ' : En} {μ' : Mu} : vm h QS (.rt d, δ', μ') = QS.run (.rt d, δ', μ') := rfl
@[simp] theorem Rm {δ' : En} {μ' : Mu} : vm h QS (.bk, δ', μ') = QS.run (.bk, δ', μ') := rfl
@[simp] theorem Ra {δ' : En} {μ' : Mu} : vm h QS (.ct, δ', μ') = QS.run (.ct, δ', μ') := rfl
@[simp] theorem w_asg {hh : GF} : ut f hh δ μ = (f δ μ).bind λ r => (hh r.1 δ r.2).bind λ δ' => some (.nx, δ', r.2) := rfl
@[simp] theorem w_par {i j : Nat} : wU i j fs δ μ = (fs δ μ).bind λ r => match r.1 with
 | [x, y] => some (.nx, (δ.set i (some x)).set j (some y), r.2)
 | _ => none := rfl
@[simp] theorem RG {i j k : Nat} : Ay i j k fs δ μ = (fs δ μ).bind λ r => match r.1 with
 | [x, y, z] => some (.nx, ((δ.set i (some x)).set j (some y)).set k (some z), r.2)
 | _ => none := rfl
@[simp] theorem EY {fi : IF} {hh : GF} : iC fi hh g δ μ = (fi δ μ).bind λ r => forL r.1 hh g r.1.items δ r.2 := rfl
@[simp] theorem w_fz {lf : LF} : mFz lf δ μ = (lf δ μ).bind λ r => some (.lst r.1, r.2) := rfl
@[simp] theorem QL {lf : LF} : oA lf δ μ = (lf δ μ).bind λ r => some (.cell r.2.length, r.2 ++ [some r.1]) := rfl
@[simp] theorem Sh : sI fs δ μ = (fs δ μ).bind λ r => if r.1.length <= sizeLine then some r else none := rfl
@[simp] theorem Kf {i : Nat} {d : D} : hName i d δ μ = some (δ.set i (some d)) := rfl
@[simp] theorem QG {n : Nat} {hs : GsF} {ds : List D} : iw n hs (.tup ds) δ μ = if ds.length = n then hs ds δ μ else none := rfl
@[simp] theorem Mw : gZ [] δ μ = some δ := rfl
@[simp] theorem Ii {hh : GF} {hs : GsF} {d : D} {ds : List D} : bj hh hs (d :: ds) δ μ = (hh d δ μ).bind λ δ1 => hs ds δ1 μ := rfl
@[simp] theorem Dq : gk f δ μ = (f δ μ).bind λ r => (srcOf r.1 r.2).map λ S => (S, r.2) := rfl
@[simp] theorem Bj {ds : List D} : srcOf (.tup ds) μ = some ⟨ds, none⟩ := rfl
@[simp] theorem Rg {ds : List D} : srcOf (.lst ds) μ = some ⟨ds, none⟩ := rfl
@[simp] theorem Rn {fl fh : PF} : mSl f fl fh δ μ = (f δ μ).bind λ r => (fl δ r.2).bind λ l => (fh δ l.2).bind λ u => oSl r.1 l.1 u.1 u.2 := rfl
@[simp] theorem w_fno : fNo δ μ = some (none, μ) := rfl
@[simp] theorem w_fat : fAt f δ μ = (f δ μ).bind λ r => match r.1 with
 | .int i => some (some i, r.2)
 | _ => none := rfl
@[simp] theorem JB {op : O1'} {x : D} : aZ op [x] μ = op x μ := rfl
@[simp] theorem w_two {x y : D} : qe op [x, y] μ = op x y μ := rfl
variable {i j : Int} {ds es : List D} {k : Bool}
@[simp] theorem Qa : bJ (.int i) (.int j) μ = some (.int (i + j), μ) := rfl
@[simp] theorem RV : bJ (.tup ds) (.tup es) μ = if ds.length + es.length <= sizeLine then some (.tup (ds ++ es), μ) else none := rfl
@[simp] theorem RP : bJ (.lst ds) (.lst es) μ = if ds.length + es.length <= sizeLine then some (.lst (ds ++ es), μ) else none := rfl
@[simp] theorem a_sub : jh (.int i) (.int j) μ = some (.int (i - j), μ) := rfl
theorem Qx (h : jA i j <= 134217728) : eO (.int i) (.int j) μ = some (.int (i * j), μ) := if_pos h
@[simp] theorem a_mod (h : j ≠ 0) : oMod (.int i) (.int j) μ = some (.int (i.fmod j), μ) := if_pos h
theorem oG (h : j ≠ 0) (h2 : j.natAbs.log2 < 9000) : oDiv (.int i) (.int j) μ = some (.int (i.fdiv j), μ) := if_pos ⟨h, h2⟩
@[simp] theorem a_lt : oLt (.int i) (.int j) μ = some (.bl (decide (i < j)), μ) := rfl
@[simp] theorem a_le : oLe (.int i) (.int j) μ = some (.bl (decide (i <= j)), μ) := rfl
@[simp] theorem a_ge : oGe (.int i) (.int j) μ = some (.bl (decide (j <= i)), μ) := rfl
@[simp] theorem a_neg : ir (.int i) μ = some (.int (-i), μ) := rfl
@[simp] theorem a_abs : pD (.int i) μ = some (.int (i.natAbs), μ) := by
 show some (D.int (if i < 0 then -i else i), μ) = _
 congr 3
 split <;> omega
@[simp] theorem a_min : su (.int i) (.int j) μ = some (.int (min i j), μ) := by
 show some (D.int (if j < i then j else i), μ) = _
 congr 3
 split <;> omega
@[simp] theorem a_eq : oEq (.int i) (.int j) μ = some (.bl (i == j), μ) := by unfold oEq rsv; simp [cH, fV, eqD]
@[simp] theorem a_ne : oNe (.int i) (.int j) μ = some (.bl (!(i == j)), μ) := by unfold oNe rsv; simp [cH, fV, eqD]
@[simp] theorem a_eqU : zX (.tup ds) (.tup []) μ = some (.bl ds.isEmpty, μ) := rfl
@[simp] theorem a_neE : By (.lst ds) (.lst []) μ = some (.bl (!ds.isEmpty), μ) := rfl
@[simp] theorem a_eqB {k l : Bool} : oEq (.bl k) (.bl l) μ = some (.bl (k == l), μ) := by unfold oEq rsv; simp [cH, fV, eqD]
@[simp] theorem a_neB {k l : Bool} : oNe (.bl k) (.bl l) μ = some (.bl (!(k == l)), μ) := by unfold oNe rsv; simp [cH, fV, eqD]
@[simp] theorem a_tup : oTup ds μ = if ds.length <= sizeLine then some (.tup ds, μ) else none := rfl
@[simp] theorem a_lst : oLst ds μ = if ds.length <= sizeLine then some (.lst ds, μ) else none := rfl
@[simp] theorem a_ix {d : D} : oIx d (.int i) μ = (bQ d μ).bind λ ds => (atI ds i).map λ d => (d, μ) := rfl
@[simp] theorem i_tup : bQ (.tup ds) μ = some ds := rfl
@[simp] theorem i_lst : bQ (.lst ds) μ = some ds := rfl
@[simp] theorem i_ro : bQ (.ro ds) μ = some ds := rfl
@[simp] theorem Sd : cz (.tup ds) μ = some (.int ds.length, μ) := rfl
@[simp] theorem RQ : cz (.lst ds) μ = some (.int ds.length, μ) := rfl
@[simp] theorem RB : cz (.ro ds) μ = some (.int ds.length, μ) := rfl
@[simp] theorem Rb {d : D} : iJ [d] μ = (bQ d μ).map λ ds => (.tup ds, μ) := rfl
@[simp] theorem w_lOf : lOf fs δ μ = (fs δ μ).bind λ r => match r.1 with
 | [x] => (bQ x r.2).map λ ds => (ds, r.2)
 | _ => none := rfl
@[simp] theorem t_bl : yI (.bl k) μ = some k := rfl
@[simp] theorem t_int : yI (.int i) μ = some (i != 0) := rfl
@[simp] theorem t_tup : yI (.tup ds) μ = some !ds.isEmpty := rfl
@[simp] theorem t_lst : yI (.lst ds) μ = some !ds.isEmpty := rfl
@[simp] theorem t_non : yI .non μ = some false := rfl
@[simp] theorem Ro {T : String} : iW T (.int i) μ = some (.bl (T == "int"), μ) := rfl
@[simp] theorem RZ {T : String} : iW T (.bl k) μ = some (.bl (T == "bool" || T == "int"), μ) := rfl
@[simp] theorem QR {T : String} : iW T (.tup ds) μ = some (.bl (T == "tuple"), μ) := rfl
@[simp] theorem Rh {T : String} : iW T (.lst ds) μ = some (.bl (T == "list"), μ) := rfl
@[simp] theorem QV {T : String} {x : Str} : iW T (.str x) μ = some (.bl (T == "str"), μ) := rfl
@[simp] theorem Rj {T : String} : iW T .non μ = some (.bl false, μ) := rfl
@[simp] theorem Rf {T : String} {x} : iW T (.dic x) μ = some (.bl (T == "dict"), μ) := rfl
@[simp] theorem Ks : cC fs δ μ = (fs δ μ).bind JK := rfl
@[simp] theorem w_zip : rm fs δ μ = (fs δ μ).bind Qp := rfl
@[simp] theorem w_lc {own : List Str} {capI : List Nat} {fi : IF} {hh : GF} : lLC own capI fi hh t f δ μ = (fi δ μ).bind λ r => if r.1.items.length <= sizeLine then lcL r.1 hh t f (cT own δ capI) r.1.items r.2 else none := rfl
@[simp] theorem w_all {st : StF} : wG st δ μ = (st δ μ).bind λ r => (xy r.1 r.2).bind λ q => some (.bl q.1, q.2) := rfl
@[simp] theorem RW {st : StF} : ym st δ μ = (st δ μ).bind λ r => if r.1.length <= sizeLine then (yt r.1 r.2).bind λ q => some (.tup q.1, q.2) else none := rfl
@[simp] theorem w_sum {st : StF} : Hh st δ μ = (st δ μ).bind λ r => (yf 0 r.1 r.2).bind λ q => some (.int q.1, q.2) := rfl
@[simp] theorem w_gen {own : List Str} {capI : List Nat} {fi : IF} {hh : GF} : mW own capI fi hh f δ μ = (fi δ μ).bind λ r => PX (thG hh f (cT own δ capI)) r := rfl
@[simp] theorem Rz : Ag f δ μ = (f δ μ).bind Mm := rfl
@[simp] theorem w_rev : DW f δ μ = (f δ μ).bind λ r => Jg r.1 r.2 := rfl
@[simp] theorem RJ : Jg (.tup ds) μ = some (.tup ds.reverse, μ) := rfl
@[simp] theorem RD : Jg (.lst ds) μ = some (.lst ds.reverse, μ) := rfl
@[simp] theorem w_put {fo fi : EF} : zE f fo fi δ μ = (f δ μ).bind λ r => (fo δ r.2).bind λ o => (fi δ o.2).bind λ i => (Cg r.1 o.1 i.1 i.2).map λ μ' => (.nx, δ, μ') := rfl
@[simp] theorem RN {x : D} : Bu 0 f op (some x :: δ) μ = (f (some x :: δ) μ).bind λ r => (op x r.1 r.2).map λ z => (.nx, (some x :: δ).set 0 (some z.1), z.2) := rfl
@[simp] theorem Sg : Ql (.int i) (.int j) μ = some (.int (i + j), μ) := rfl
theorem Ky (h : jA i j <= 134217728) : Ax (.int i) (.int j) μ = some (.int (i * j), μ) := if_pos h
@[simp] theorem w_frz : uD f δ μ = (f δ μ).bind Ox := rfl
end
theorem JQ {items : List D} {μ : Mu} : Src.ok ⟨items, none⟩ μ := λ n e => by cases e
def yE (I : En -> Mu -> Prop) (QS : Post (Fl × En × Mu)) (r : Fl × En × Mu) : Prop := match r.1 with
 | .nx => I r.2.1 r.2.2
 | .ct => I r.2.1 r.2.2
 | .bk => QS.run (.nx, r.2)
 | .rt d => QS.run (.rt d, r.2)
section
variable {I : En -> Mu -> Prop} {QS : Post (Fl × En × Mu)} {δ : En} {μ : Mu}
@[simp] theorem HH : yE I QS (.nx, δ, μ) = I δ μ := rfl
@[simp] theorem Rr : yE I QS (.ct, δ, μ) = I δ μ := rfl
@[simp] theorem Rt : yE I QS (.bk, δ, μ) = QS.run (.nx, δ, μ) := rfl
@[simp] theorem Ru {d : D} : yE I QS (.rt d, δ, μ) = QS.run (.rt d, δ, μ) := rfl
end
theorem gF {all : List D} {h : GF} {b : SF} {QS : Post (Fl × En × Mu)} (I : List D -> En -> Mu -> Prop)
  (turn : ∀ d r δ μ, I (d :: r) δ μ -> OkI (h d δ μ) (Q := ⟨λ δ1 => OkI (b δ1 μ) (Q := ⟨yE (I r) QS⟩)⟩)) (fin : ∀ δ μ, I [] δ μ -> QS.run (.nx, δ, μ)) :
  ∀ (its : List D) (δ : En) (μ : Mu), I its δ μ -> OkI (forL ⟨all, none⟩ h b its δ μ) (Q := QS)
 | [], δ, μ, hI => by unfold forL; rw [if_pos JQ, pQ]; exact fin δ μ hI
 | d :: r, δ, μ, hI => by
  unfold forL
  rw [if_pos JQ, gJ]
  refine (turn d r δ μ hI).mono λ δ1 h1 => ?_
  rw [sG] at h1 ⊢
  rw [gJ]
  refine h1.mono λ q h2 => ?_
  rw [sG] at h2 ⊢
  obtain ⟨fl, δ', μ'⟩ := q
  cases fl with
  | nx => exact gF (all := all) I turn fin r δ' μ' h2
  | ct => exact gF (all := all) I turn fin r δ' μ' h2
  | bk => exact ⟨_, rfl, h2⟩
  | rt d => exact ⟨_, rfl, h2⟩
def retS (R : Post (D × Mu)) (r : Fl × En × Mu) : Prop := match r.1 with
 | .rt d => R.run (d, r.2.2)
 | .nx => R.run (.non, r.2.2)
 | _ => False
@[simp] theorem Ry {R : Post (D × Mu)} {d : D} {δ : En} {μ : Mu} : retS R (.rt d, δ, μ) = R.run (d, μ) := rfl
@[simp] theorem RL {R : Post (D × Mu)} {δ : En} {μ : Mu} : retS R (.nx, δ, μ) = R.run (.non, μ) := rfl
theorem oX {m : Nat} {g : SF} {ds : List D} {μ : Mu} {R : Post (D × Mu)} (h : OkI (g (ds.map some ++ List.replicate (m - ds.length) none) μ) (Q := ⟨retS R⟩)) : OkI (aJ m g ds μ) (Q := R) := by
 unfold aJ
 rw [gJ]
 refine h.mono λ r hr => ?_
 obtain ⟨fl, δ, μ'⟩ := r
 cases fl with
 | rt d => exact ⟨_, rfl, hr⟩
 | nx => exact ⟨_, rfl, hr⟩
 | bk => exact hr.elim
 | ct => exact hr.elim
theorem DG {φ : FF} {ds : List D} {μ : Mu} {R : Post (D × Mu)} (h : OkI (φ ds μ) (Q := ⟨λ r => r.2.length = μ.length /\ R.run r⟩)) : OkI (trunc φ ds μ) (Q := R) := by
 obtain ⟨⟨d, μ'⟩, e, hl, hr⟩ := h
 exact ⟨_, qJ e hl, hr⟩
end L3
namespace LG
open PySem PySem.Spec PyProof.Rows L2 L3
theorem PJ {α : Type} {o : Option α} {x : α} (h : Ok o (λ r => r = x)) : o = some x := by
 obtain ⟨r, e, h⟩ := h
 have h : r = x := h
 rw [e, h]
theorem cj {m : Nat} {g : SF} {ds : List D} {μ : Mu} {d : D} (h : OkI (g (ds.map some ++ List.replicate (m - ds.length) none) μ) (Q := ⟨retS ⟨λ r => r = (d, μ)⟩⟩)) : trunc (aJ m g) ds μ = some (d, μ) :=
 gn (PJ (oX h))
@[simp] theorem sz {n : Nat} (h : n <= 1000) : (n <= sizeLine) = True := eq_true (Nat.le_trans h (by decide))
abbrev nc (d : D) : Prop := cLt 0 d = true
theorem rJ : ∀ {ds : List D}, ni 0 ds = true ↔ ∀ d ∈ ds, nc d
 | [] => by unfold ni; simp
 | d :: ds => by unfold ni; simp [rJ (ds := ds)]
theorem dJ {ds : List D} : nc (.tup ds) ↔ ∀ d ∈ ds, nc d := by
 have e : cLt 0 (.tup ds) = ni 0 ds := by rw [cLt]
 unfold nc
 rw [e]
 exact rJ
theorem yU {ds : List D} : nc (.lst ds) ↔ ∀ d ∈ ds, nc d := by
 have e : cLt 0 (.lst ds) = ni 0 ds := by rw [cLt]
 unfold nc
 rw [e]
 exact rJ
theorem vQ {i : Int} : nc (.int i) := by unfold nc cLt; rfl
theorem kY {ns : List Int} : ∀ d ∈ ns.map D.int, nc d := λ d h => by
 obtain ⟨n, _, rfl⟩ := List.mem_map.mp h
 exact vQ
def isInt : D -> Bool
 | .int _ => true
 | _ => false
def intOf : D -> Int
 | .int i => i
 | _ => 0
@[simp] theorem Ol {i : Int} : isInt (.int i) = true := rfl
@[simp] theorem Oj {i : Int} : intOf (.int i) = i := rfl
theorem ints_of : ∀ {ds : List D}, ds.all isInt = true -> ds = (ds.map intOf).map D.int
 | [], _ => rfl
 | d :: ds, h => by
  rw [List.all_cons, Bool.and_eq_true] at h
  cases d with
  | int i => rw [List.map_cons, List.map_cons, <- ints_of h.2]; rfl
  | _ => exact absurd h.1 (by simp [isInt])
theorem ints_map (ns : List Int) : (ns.map D.int).map intOf = ns := by simp [Function.comp_def]
theorem Di (ns : List Int) : (ns.map D.int).all isInt = true := by simp
theorem Dc (d : D) (μ : Mu) (h : nc d) : trunc (aJ 1 gb) [d] μ = some (.bl (isInt d), μ) := by
 apply cj
 cases d with
 | cell n => simp [nc, cLt] at h
 | ro ds => simp [gb, isInt, iW, zJ]
 | _ => simp [gb, isInt]
theorem Dw (d : D) (μ : Mu) (h : nc d) : trunc (aJ 1 lK) [d] μ = some (.bl (isInt d), μ) := Dc d μ h
theorem jW {th : D -> iI} {p : D -> Bool} {μ : Mu} : ∀ (ds : List D), (∀ d ∈ ds, th d μ = some (.bl (p d), μ)) -> xy (ds.map th) μ = some (ds.all p, μ)
 | [], _ => rfl
 | d :: ds, h => by
  rw [List.map_cons]
  unfold xy
  rw [h d (by simp)]
  have ih := jW ds λ x hx => h x (by simp [hx])
  cases hp : p d <;> simp [hp, Oc, ih]
theorem tV {all : List D} {h : GF} {tt : TF} {fe : EF} {δb : En} {p : D -> Bool} {f : D -> D} {μ : Mu} : ∀ (items : List D), (∀ d ∈ items, ∃ δ1, h d δb μ = some δ1 /\ tt δ1 μ = some (p d, μ) /\ (p d = true -> fe δ1 μ = some (f d, μ))) -> lcL ⟨all, none⟩ h tt fe δb items μ = some ((items.filter p).map f, μ)
 | [], _ => by unfold lcL; simp [bT]
 | d :: r, hd => by
  obtain ⟨δ1, h1, h2, h3⟩ := hd d (by simp)
  have ih := tV (all := all) r λ x hx => hd x (by simp [hx])
  unfold lcL
  cases hp : p d with
  | false => simp [bT, h1, h2, hp, ih]
  | true => simp [bT, h1, h2, hp, h3 hp, ih]
def oN : D -> Bool
 | .tup ds => ds.all isInt
 | _ => false
def uF (φ : FF) : Prop := ∀ d μ, nc d -> φ [d] μ = some (.bl (isInt d), μ)
theorem zq {φ : FF} (hφ : uF φ) (d : D) (μ : Mu) (h : nc d) : trunc (aJ 1 (dq φ)) [d] μ = some (.bl (oN d), μ) := by
 apply cj
 cases d with
 | cell n => simp [nc, cLt] at h
 | ro ds => simp [dq, oN, iW, zJ]
 | tup ds =>
  have e := jW (th := thG (hName 0) (MC (ao (aq 0) aD) φ) (cT ["part"] [some (D.tup ds)] [])) (p := isInt) (μ := μ) ds λ x hx => by
   simp [thG, cT, hφ x μ (dJ.mp h x hx)]
  simp [dq, oN, e]
 | _ => simp [dq, oN]
theorem ug {ds : List D} (h : ds ≠ []) : atI ds (-1) = some (ds.getLast h) := by
 have hl : 0 < ds.length := List.length_pos_iff.mpr h
 unfold atI ixN
 rw [if_neg (by omega), if_pos (by omega)]
 have : ((-1 : Int) + ds.length).toNat = ds.length - 1 := by omega
 simp only [Option.bind_some, this]
 rw [List.getLast_eq_getElem]
 simp [hl]
theorem nT {ns : List Int} (h : ns ≠ []) : atI (ns.map D.int) (-1) = some (.int (ns.getLastD 0)) := by
 rw [ug (by simpa using h)]
 simp [List.getLastD_eq_getLast?, List.getLast?_eq_some_getLast h]
def kJ (ns : List Int) : Bool := decide (2 <= ns.length /\ ns.length <= 4 /\ 1 <= ns.getLastD 0 /\ bw 0 ns = 1)
def jq : D -> Bool
 | .tup ds => ds.all isInt && kJ (ds.map intOf)
 | _ => false
theorem nZ {ds : List D} : jq (.tup ds) = (ds.all isInt && kJ (ds.map intOf)) := rfl
theorem jU (ns : List Int) : jq (.tup (ns.map .int)) = kJ ns := by
 rw [nZ, ints_map, Di]
 rfl
def uT (φ : FF) : Prop := ∀ (ns : List Int) (μ : Mu), φ [.tup (ns.map .int)] μ = some (.int (bw 0 ns : Nat), μ)
theorem xK {φ : FF} (hφ : mH φ) (ns : List Int) (μ : Mu) : trunc (aJ 3 (bO φ)) [.tup (ns.map .int)] μ = some (.int (bw 0 ns : Nat), μ) := by
 obtain ⟨o', e⟩ := wO hφ (.tup (ns.map .int)) (ns.map .int) ns 0 none μ
 apply gn
 unfold aJ bO
 have e' := e
 simp at e'
 simp [aQ, bz, mC, iC, gk, aq, srcOf, e', bI]
def zF (φ : FF) : Prop := ∀ d μ, nc d -> φ [d] μ = some (.bl (oN d), μ)
theorem zy {φ1 φ2 : FF} (h1 : zF φ1) (h2 : uT φ2) (d : D) (μ : Mu) (h : nc d) : trunc (aJ 1 (fM φ1 φ2)) [d] μ = some (.bl (jq d), μ) := by
 apply cj
 have e1 := h1 d μ h
 by_cases hn : oN d = true
 .cases d with
  | tup ds =>
   have hd := ints_of hn
   generalize ds.map intOf = ns at hd
   subst hd
   rw [jU]
   rw [hn] at e1
   by_cases hl : 2 <= ns.length /\ ns.length <= 4
   .have hne : ns ≠ [] := λ z => by rw [z] at hl; simp at hl
    have el := nT hne
    have a1 : (2 : Int) <= ns.length := by omega
    have a2 : (ns.length : Int) <= 4 := by omega
    have e2 := h2 ns μ
    by_cases hb : (1 : Int) <= ns.getLastD 0
    .have es : kJ ns = ((bw 0 ns : Int) == 1) := by
      unfold kJ
      simp only [hl.1, hl.2, hb, true_and]
      by_cases hg : bw 0 ns = 1
      .simp [hg]
      .have : ((bw 0 ns : Nat) : Int) ≠ 1 := by omega
       simp [hg, this]
     rw [es]
     generalize ns.getLastD 0 = l at *
     simp [fM, e1, a1, a2, el, hb, e2]
    .have es : kJ ns = false := by unfold kJ; simp only [hb, false_and, and_false, decide_false]
     rw [es]
     generalize ns.getLastD 0 = l at *
     simp [fM, e1, a1, a2, el, hb]
   .have es : kJ ns = false := by
     unfold kJ
     rw [decide_eq_false_iff_not]
     rintro ⟨x, y, _⟩
     exact hl ⟨x, y⟩
    rw [es]
    by_cases a1 : (2 : Int) <= ns.length
    .have a2 : ¬ (ns.length : Int) <= 4 := by omega
     simp [fM, e1, a1, a2]
    .simp [fM, e1, a1]
  | _ => simp [oN] at hn
 .have hn : oN d = false := by simpa using hn
  have es : jq d = false := by
   cases d with
   | tup ds =>
    have hn : ds.all isInt = false := hn
    rw [nZ, hn]
    rfl
   | _ => rfl
  rw [hn] at e1
  simp [fM, e1, es]
theorem Jw (k l : Bool) (μ : Mu) : trunc (aJ 2 nW) [.bl k, .bl l] μ = some (.bl (k == l), μ) := by
 apply cj
 simp [nW]
theorem qi {n d : Nat} {i : Int} (h : 0 <= i) : HT.sIx n d (some i) = min i.toNat n := if_neg (by omega)
theorem yQ {ds : List D} {i : Int} {Q : Post D} (h0 : 0 <= i) (h1 : i < ds.length) (h : ∀ d ∈ ds, Q.run d) : OkI (atI ds i) (Q := Q) := by
 obtain ⟨d, hd, e⟩ := jZ h0 h1
 rw [e, pQ]
 exact h d hd
theorem Qs {ds : List D} {i : Int} {μ : Mu} (h0 : 0 <= i) (h1 : i < ds.length) : oSl (.tup ds) none (some i) μ = some (.tup (ds.take i.toNat), μ) := by
 have h0' : 0 <= i := by omega
 have e : HT.sIx ds.length ds.length (some i) = i.toNat := by rw [qi h0']; omega
 have e0 : HT.sIx ds.length 0 none = 0 := rfl
 unfold oSl L3.cutD
 simp only [e, e0]
 simp
theorem vO {ds : List D} {i : Int} {μ : Mu} (h0 : 0 < i) (h1 : i <= ds.length) : oSl (.tup ds) (some i) none μ = some (.tup (ds.drop i.toNat), μ) := by
 have h0' : 0 <= i := by omega
 have e : HT.sIx ds.length 0 (some i) = i.toNat := by rw [qi h0']; omega
 have e0 : HT.sIx ds.length ds.length none = ds.length := rfl
 unfold oSl L3.cutD
 simp only [e, e0]
 simp [List.take_of_length_le]
theorem wL {ds : List D} {μ : Mu} (h : ds ≠ []) : oSl (.tup ds) none (some (-1)) μ = some (.tup ds.dropLast, μ) := by
 have hl : 0 < ds.length := List.length_pos_iff.mpr h
 have e : HT.sIx ds.length ds.length (some (-1)) = ds.length - 1 := by show (if (-1 : Int) < 0 then ((-1 : Int) + ds.length).toNat else min (-1 : Int).toNat ds.length) = _; rw [if_pos (by decide)]; omega
 have e0 : HT.sIx ds.length 0 none = 0 := rfl
 unfold oSl L3.cutD
 simp only [e, e0]
 simp [List.dropLast_eq_take]
theorem Lr {ds : List D} {i : Int} {μ : Mu} (h0 : 0 <= i) : oSl (.lst ds) none (some i) μ = some (.lst (ds.take i.toNat), μ) := by
 have h0' : 0 <= i := by omega
 have e : HT.sIx ds.length ds.length (some i) = min i.toNat ds.length := by rw [qi h0']
 have e0 : HT.sIx ds.length 0 none = 0 := rfl
 unfold oSl L3.cutD
 simp only [e, e0]
 simp [List.take_eq_take_iff]
theorem Dy {ds : List D} {i : Int} {μ : Mu} (h0 : 0 <= i) : oSl (.lst ds) (some i) none μ = some (.lst (ds.drop i.toNat), μ) := by
 have h0' : 0 <= i := by omega
 have e : HT.sIx ds.length 0 (some i) = min i.toNat ds.length := by rw [qi h0']
 have e0 : HT.sIx ds.length ds.length none = ds.length := rfl
 unfold oSl L3.cutD
 simp only [e, e0]
 congr 3
 by_cases h : i.toNat <= ds.length
 .rw [Nat.min_eq_left h]; simp [List.take_of_length_le]
 .rw [Nat.min_eq_right (by omega)]; simp; omega
def muD (L : List Int) : Mu := [some (L.map .int)]
def DlD (L : List Int) : Prop := ∀ x ∈ L, Dr x
theorem pZ {a : Nat} {x y : Int} (hx : Sm a x) (hy : 0 < y) : Sm a (x.fdiv y) := by
 rw [Int.fdiv_eq_ediv_of_nonneg x (by omega)]
 unfold Sm at *
 have := Int.natAbs_ediv_le_natAbs x y
 omega
theorem iK {a : Int} {n : Nat} : (gm a n).length = n := by unfold gm; simp
theorem Ef {φ : FF} (h : wH φ) (ns : List Int) (hn : ns.length <= 63) : ∃ L, φ [.ro (ns.map .int)] [] = some (.cell 0, muD L) /\ DlD L := h ns hn
theorem Ij {φ : FF} {ns : List Int} (h : Ok (φ [.ro (ns.map .int)] []) (λ r => r.1 = .bl true)) : ∃ μ', φ [.ro (ns.map .int)] [] = some (.bl true, μ') := by
 obtain ⟨⟨d, μ'⟩, e, h⟩ := h
 have h : d = .bl true := h
 subst h
 exact ⟨μ', e⟩
theorem KC {φ : FF} (h : uW φ) {b : Nat} (ns : List Int) (c : Int) (μ : Mu) (hc : 0 < c) (hs : Sm b c) (hb : b <= 4000) (hn : ∀ n ∈ ns, Sm b n) (hl : ns.length <= 50) (hne : ns ≠ []) :
  ∃ ms, φ [.lst (ns.map .int), .int c] μ = some (.tup (ms.map .int), μ) /\ ms.length = ns.length + 1 /\ (∀ m ∈ ms, Sm b m) /\ ms = (ns ++ [c]).map λ n => n.fdiv (bw c.natAbs ns : Nat) := by
 have e := h ns c μ (by omega) (dW hs hb) hl hne
 have e1 : sgn c = 1 := if_pos hc
 rw [e1, Int.one_mul] at e
 have g0 : bw c.natAbs ns ≠ 0 := lA (.inl (by omega))
 refine ⟨(ns ++ [c]).map λ n => n.fdiv (bw c.natAbs ns : Nat), by rw [e, List.map_map]; rfl, by simp, λ m hm => ?_, rfl⟩
 obtain ⟨n, hn', rfl⟩ := List.mem_map.mp hm
 refine pZ ?_ (by omega)
 rcases List.mem_append.mp hn' with z | z
 .exact hn n z
 .rw [List.mem_singleton.mp z]; exact hs
@[simp] theorem QD {α : Type} {l : List α} {x y : α} : (l ++ [x]).set l.length y = l ++ [y] := by simp [List.set_append]
mutual
theorem tR {m : Nat} : ∀ {d : D}, cLt 0 d = true -> cLt m d = true
 | .non, _ => by simp [cLt]
 | .bl _, _ => by simp [cLt]
 | .int _, _ => by simp [cLt]
 | .str _, _ => by simp [cLt]
 | .tup ds, h => by rw [cLt] at h ⊢; exact lF h
 | .lst ds, h => by rw [cLt] at h ⊢; exact lF h
 | .ro ds, h => by rw [cLt] at h ⊢; exact lF h
 | .dic ds, h => by rw [cLt] at h ⊢; exact uI h
 | .cell n, h => by rw [cLt] at h; simp at h
theorem lF {m : Nat} : ∀ {ds : List D}, ni 0 ds = true -> ni m ds = true
 | [], _ => by rw [ni]
 | d :: ds, h => by
  rw [ni, Bool.and_eq_true] at h ⊢
  exact ⟨tR h.1, lF h.2⟩
theorem uI {m : Nat} : ∀ {ds : List (Key × D)}, yq 0 ds = true -> yq m ds = true
 | [], _ => by rw [yq]
 | d :: ds, h => by
  rw [yq, Bool.and_eq_true] at h ⊢
  exact ⟨tR h.1, uI h.2⟩
end
def ie (μ : Mu) : Prop := ∀ ds, some ds ∈ μ -> ∀ d ∈ ds, nc d
theorem ie.c {μ : Mu} (h : ie μ) (m : Nat) : cOk m μ = true := by
 unfold cOk
 rw [List.all_eq_true]
 intro o ho
 cases o with
 | none => rfl
 | some ds => exact lF (rJ.mpr (h ds ho))
theorem ie.nil : ie [] := λ ds h => by simp at h
theorem ie.cons {ds : List D} {μ : Mu} (h1 : ∀ d ∈ ds, nc d) (h2 : ie μ) : ie (some ds :: μ) := λ es h => by
 rcases List.mem_cons.mp h with z | z
 .cases z; exact h1
 .exact h2 es z
theorem ie.dr {L : List Int} {μ : Mu} (h : ie μ) : ie (some (L.map .int) :: μ) := ie.cons kY h
theorem rZ {φ : FF} {ds : List D} {μ μ' junk : Mu} {d : D} (h : φ ds μ = some (d, μ' ++ junk)) (hl : μ'.length = μ.length) (hd : nc d) (hm : ie μ') : trunc φ ds μ = some (d, μ') := by
 unfold trunc
 rw [h]
 simp only [Option.bind_some]
 have e : (μ' ++ junk).take μ.length = μ' := by rw [<- hl]; simp
 rw [e, tR hd, hm.c]
 rfl
theorem Av {φ : FF} {ds : List D} {μ : Mu} {P : D -> Prop} (hm : ie μ) (h : Ok (φ ds μ) (λ r => ∃ junk, r.2 = μ ++ junk /\ nc r.1 /\ P r.1)) : ∃ d, trunc φ ds μ = some (d, μ) /\ P d := by
 obtain ⟨⟨d, μ1⟩, e, junk, h1, h4, h5⟩ := h
 have h1 : μ1 = μ ++ junk := h1
 subst h1
 exact ⟨d, rZ e rfl h4 hm, h5⟩
def rH (φ : FF) : Prop := ∀ (L : List Int) (rest : Mu), φ [.cell 0] (some (L.map .int) :: rest) = some (.int (L.headD 0), some (L.tail.map .int) :: rest)
theorem Ep : rH (trunc (aJ 1 mq)) := λ L rest => by
 have h1 : oEq (.cell 0) (.lst []) (some (L.map D.int) :: rest) = some (.bl L.isEmpty, some (L.map D.int) :: rest) := by
  unfold oEq rsv
  simp [cH, lM, fV, nJ, eqD, fG]
  cases L <;> simp [jC]
 refine qJ ?_ (by simp)
 unfold aJ mq
 have hz : 0 <= sizeLine := Nat.zero_le _
 cases L with
 | nil =>
  simp at h1
  simp [aQ, sIf, toB, M2, aq, MC, aD, oLst, hz, h1, bI, mC]
 | cons x t =>
  simp at h1
  simp [aQ, sIf, toB, M2, aq, MC, aD, oLst, hz, h1, bI, mC, bM, An]
theorem lE {φ : FF} (h : rH φ) {L : List Int} (hL : DlD L) (rest : Mu) : ∃ x L', φ [.cell 0] (some (L.map .int) :: rest) = some (.int x, some (L'.map .int) :: rest) /\ Dr x /\ DlD L' := by
 refine ⟨L.headD 0, L.tail, h L rest, ?_, λ x hx => hL x (List.mem_of_mem_tail hx)⟩
 cases L with
 | nil => exact ⟨by decide, by decide⟩
 | cons a b => exact hL a (by simp)
def PtL (d : Nat) (ns : List Int) (b : Int) : Prop := ns.length = d /\ (∀ n ∈ ns, n.natAbs <= 10000) /\ 1 <= b /\ b <= 60
def Hj (d : Nat) (p : D) : Prop := ∃ ns b, p = .tup ((ns ++ [b]).map .int) /\ PtL d ns b /\ bw b.natAbs ns = 1
theorem Hj.nc {d : Nat} {p : D} (h : Hj d p) : nc p := by
 obtain ⟨ns, b, rfl, _⟩ := h
 exact dJ.mpr kY
theorem mV {x y : Int} (hy : 0 < y) : (x.fdiv y).natAbs <= x.natAbs := by
 rw [Int.fdiv_eq_ediv_of_nonneg x (by omega)]
 exact Int.natAbs_ediv_le_natAbs x y
theorem pL {ns : List Int} {b : Int} (hb : 0 < b) : bw (b.fdiv (bw b.natAbs ns : Nat)).natAbs (ns.map λ n => n.fdiv (bw b.natAbs ns : Nat)) = 1 := by
 have h := (lL ns b.natAbs _).mp (Nat.dvd_refl _)
 have g0 : bw b.natAbs ns ≠ 0 := lA (.inl (by omega))
 obtain ⟨g, hg⟩ : ∃ g, bw b.natAbs ns = g := ⟨_, rfl⟩
 rw [hg] at h g0 ⊢
 have hm : ∀ n : Int, g ∣ n.natAbs -> (g : Int) * n.fdiv (g : Nat) = n := λ n hn => by
  rw [Int.fdiv_eq_ediv_of_nonneg n (by omega)]
  exact Int.mul_ediv_cancel' (Int.ofNat_dvd_left.mpr hn)
 have hs := pG (g : Int) (ns.map λ n => n.fdiv (g : Nat)) (b.fdiv (g : Nat)).natAbs
 have e1 : ((g : Int)).natAbs * (b.fdiv (g : Nat)).natAbs = b.natAbs := by rw [<- Int.natAbs_mul, hm b h.1]
 have e2 : (ns.map λ n => n.fdiv (g : Nat)).map ((g : Int) * ·) = ns := by
  rw [List.map_map]
  conv => rhs; rw [<- List.map_id ns]
  apply List.map_congr_left
  intro n hn
  exact hm n (h.2 n hn)
 rw [e1, e2, hg, Int.natAbs_natCast] at hs
 exact Nat.eq_of_mul_eq_mul_left (show 0 < g by omega) (by rw [Nat.mul_one]; exact hs.symm)
theorem Nf {φ : FF} (h : uW φ) {d : Nat} {ns : List Int} {b : Int} (μ : Mu) (hd : 1 <= d) (hd3 : d <= 3) (hp : PtL d ns b) : ∃ p, φ [.lst (ns.map .int), .int b] μ = some (p, μ) /\ Hj d p := by
 obtain ⟨hl, hn, b0, b1⟩ := hp
 have e := h ns b μ (by omega) (by unfold Sm; have : (2 : Nat) ^ 4000 >= 2 ^ 7 := Nat.pow_le_pow_right (by decide) (by decide); omega) (by omega) (λ z => by rw [z] at hl; simp at hl; omega)
 have e1 : sgn b = 1 := if_pos (by omega)
 rw [e1, Int.one_mul] at e
 have g0 : bw b.natAbs ns ≠ 0 := lA (.inl (by omega))
 have gd := (lw ns b.natAbs).2
 have gle := Nat.le_of_dvd (by omega) gd
 refine ⟨_, e, ns.map (λ n => n.fdiv (bw b.natAbs ns : Nat)), b.fdiv (bw b.natAbs ns : Nat), by simp [List.map_append], ⟨by simp [hl], λ m hm => ?_, ?_, ?_⟩, pL (by omega)⟩
 .obtain ⟨n, hn', rfl⟩ := List.mem_map.mp hm
  have := mV (x := n) (y := (bw b.natAbs ns : Nat)) (by omega)
  have := hn n hn'
  omega
 .rw [Int.fdiv_eq_ediv_of_nonneg b (by omega)]
  exact (Int.le_ediv_iff_mul_le (by omega)).mpr (by omega)
 .have := mV (x := b) (y := (bw b.natAbs ns : Nat)) (by omega)
  omega
def isPlace (φ : FF) : Prop := ∀ (x k b : Int) (μ : Mu), Dr x -> 0 <= k -> k <= 4 -> 0 <= b -> b <= 500 -> ∃ t u : Int, φ [.int x, .int k, .int b] μ = some (.tup [.int t, .int u], μ) /\ t.natAbs <= 10000 /\ 1 <= u /\ u <= 60
theorem FN : isPlace (trunc (aJ 3 gV)) := λ x k b μ hx k0 k4 b0 b5 => by
 have q1 := bB (x := x) (m := 20001) (by decide)
 have q2 := bB (x := x.fdiv 20001) (m := 60) (by decide)
 have q3 := bB (x := x) (m := 5) (by decide)
 have q4 := bB (x := x) (m := 11) (by decide)
 have q5 := bB (x := x.fdiv 11) (m := 3) (by decide)
 have q6 := bB (x := x) (m := 4) (by decide)
 have q7 := bB (x := x) (m := 2) (by decide)
 have q8 := bB (x := b) (m := 7) (by decide)
 have d1 := oG (i := x) (j := 20001) (μ := μ) (by decide) (by decide)
 have d2 := oG (i := x) (j := 11) (μ := μ) (by decide) (by decide)
 have hk : k = 0 ∨ k = 1 ∨ k = 2 ∨ k = 3 ∨ k = 4 := by omega
 rcases hk with rfl | rfl | rfl | rfl | rfl
 .refine ⟨x.fmod 20001 - 10000, 1 + (x.fdiv 20001).fmod 60, cj ?_, by omega, by omega, by omega⟩
  simp [gV, d1]
 .refine ⟨x.fmod 5 - 2, 1, cj ?_, by omega, by omega, by omega⟩
  simp [gV]
 .refine ⟨x.fmod 11 - 5, 1 + (x.fdiv 11).fmod 3, cj ?_, by omega, by omega, by omega⟩
  simp [gV, d2]
 .obtain ⟨y, hy, e⟩ := jZ (ds := [D.int 0, .int 0, .int 1, .int 40]) q6.1 q6.2
  have hy : ∃ z : Int, y = .int z /\ 0 <= z /\ z <= 40 := by
   simp only [List.mem_cons, List.not_mem_nil, or_false] at hy
   rcases hy with rfl | rfl | rfl | rfl <;> exact ⟨_, rfl, by decide, by decide⟩
  obtain ⟨z, rfl, z0, z1⟩ := hy
  refine ⟨b + z, 1, cj ?_, by omega, by omega, by omega⟩
  simp [gV, e]
 .have s1 : Sm 10 (x.fmod 2) := by
   unfold Sm
   have : (2 : Nat) ^ 10 = 1024 := by decide
   omega
  have s2 : Sm 10 (1 + b.fmod 7) := by
   unfold Sm
   have : (2 : Nat) ^ 10 = 1024 := by decide
   omega
  have m := Qx (μ := μ) (yP s1 s2 (by decide))
  have hb : (x.fmod 2 * (1 + b.fmod 7)).natAbs <= 10000 := by
   have h2 : x.fmod 2 = 0 ∨ x.fmod 2 = 1 := by omega
   rcases h2 with h2 | h2 <;> rw [h2] <;> omega
  refine ⟨x.fmod 2 * (1 + b.fmod 7), 1, cj ?_, hb, by omega, by omega⟩
  simp [gV, m]
theorem Bk {a : Int} {n : Nat} {d : D} (h : d ∈ gm a n) : ∃ k : Int, d = .int k /\ a <= k /\ k < a + n := by
 unfold gm at h
 obtain ⟨k, hk, rfl⟩ := List.mem_map.mp h
 have := List.mem_range.mp hk
 exact ⟨_, rfl, by omega, by omega⟩
def Az (φ : FF) : Prop := ∀ (x d k b : Int) (μ : Mu), ie μ -> Dr x -> 1 <= d -> d <= 3 -> 0 <= k -> k <= 4 -> 0 <= b -> b <= 400 -> ∃ p, φ [.int x, .int d, .int k, .int b] μ = some (p, μ) /\ Hj d.toNat p
theorem De {φ1 φ2 φ3 : FF} (h1 : ud φ1) (h2 : isPlace φ2) (h3 : uW φ3) : Az (trunc (aJ 9 (lH φ1 φ2 φ3))) := λ x d k b μ hm hx d1 d3 k0 k4 b0 b4 => by
 apply Av hm
 apply oX
 unfold lH
 simp [Cy (j := d) (by omega) (by omega)]
 refine gF (λ its δ μ' => ∃ (acc : List Int) (bot : Int) (o6 o7 o8 : Option D), μ' = μ ++ [some (acc.map .int)] /\ acc.length + its.length = d.toNat /\ (∀ n ∈ acc, n.natAbs <= 10000) /\ (1 <= bot /\ bot <= 60) /\ (∀ i ∈ its, ∃ k : Int, i = .int k /\ 0 <= k /\ k < 3) /\
  δ = [some (.int x), some (.int d), some (.int k), some (.int b), some (.cell μ.length), some (.int bot), o6, o7, o8]) ?_ ?_ _ _ _ ⟨[], 1, none, none, none, rfl, by simp [iK], by simp, by omega, λ i hi => by
   obtain ⟨k, rfl, h0, h1⟩ := Bk hi
   exact ⟨k, rfl, by omega, by omega⟩, rfl⟩
 .rintro i rest δ μ' ⟨acc, bot, o6, o7, o8, rfl, hl, ha, hb, hi, rfl⟩
  obtain ⟨j, rfl, j0, j1⟩ := hi i (by simp)
  obtain ⟨y, ey, hy⟩ := h1 x (j + 1) (μ ++ [some (acc.map .int)]) (by omega) (by omega)
  obtain ⟨t, u, et, ht, u0, u1⟩ := h2 y k (b + j) (μ ++ [some (acc.map .int)]) hy k0 k4 (by omega) (by omega)
  have hz : acc.length < sizeLine := Nat.lt_of_lt_of_le (by omega : acc.length < 1000) (by decide)
  have fin : ∀ bot', 1 <= bot' -> bot' <= 60 -> ∃ (acc' : List Int) (bot : Int) (o6 o7 o8 : Option D), μ ++ [some (acc.map D.int ++ [.int t])] = μ ++ [some (acc'.map .int)] /\ acc'.length + rest.length = d.toNat /\ (∀ n ∈ acc', n.natAbs <= 10000) /\ (1 <= bot /\ bot <= 60) /\ (∀ i ∈ rest, ∃ k : Int, i = .int k /\ 0 <= k /\ k < 3) /\
    ([some (.int x), some (.int d), some (.int k), some (.int b), some (.cell μ.length), some (.int bot'), some (.int j), some (.int t), some (.int u)] : En) = [some (.int x), some (.int d), some (.int k), some (.int b), some (.cell μ.length), some (.int bot), o6, o7, o8] := λ bot' q1 q2 =>
   ⟨acc ++ [t], bot', _, _, _, by simp, by simp at hl ⊢; omega, λ n hn => by
    rcases List.mem_append.mp hn with z | z
    .exact ha n z
    .rw [List.mem_singleton.mp z]; exact ht, ⟨q1, q2⟩, λ i h => hi i (by simp [h]), rfl⟩
  by_cases hj : j = 0
  .subst hj
   rw [show (0 : Int) + 1 = 1 from rfl] at ey
   rw [show b + (0 : Int) = b by omega] at et
   simp [ey, et, jz, lr, hz]
   simpa using fin u u0 u1
  .have hjb : (j == 0) = false := by simpa using hj
   simp [ey, et, hjb, jz, lr, hz]
   simpa using fin bot hb.1 hb.2
 .rintro δ μ' ⟨acc, bot, o6, o7, o8, rfl, hl, ha, hb, hi, rfl⟩
  obtain ⟨p, ep, hp⟩ := Nf h3 (d := d.toNat) (ns := acc) (b := bot) (μ ++ [none]) (by omega) (by omega) ⟨by simpa using hl, ha, hb⟩
  simp [ep]
  exact ⟨hp.nc, hp⟩
section
variable {α : Type} {r j : List α} {x y z : α}
@[simp] theorem Ri : (r ++ x :: j)[r.length]? = some x := by simp
@[simp] theorem QW : (r ++ x :: j).set r.length y = r ++ y :: j := by simp [List.set_append]
@[simp] theorem QX : (r ++ x :: (j ++ [y]))[r.length + (j.length + 1)]? = some y := by
 rw [List.getElem?_append_right (by omega)]
 have : r.length + (j.length + 1) - r.length = j.length + 1 := by omega
 rw [this]
 simp
@[simp] theorem Rc : (r ++ x :: (j ++ [y])).set (r.length + (j.length + 1)) z = r ++ x :: (j ++ [z]) := by
 rw [List.set_append_right _ _ (by omega)]
 have : r.length + (j.length + 1) - r.length = j.length + 1 := by omega
 rw [this]
 simp
end
theorem pY {ys : List Int} {k : Int} (h0 : 0 <= k) (h1 : k < ys.length) : atI (ys.map D.int) k = some (.int (ys.getD k.toNat 0)) /\ ys.getD k.toNat 0 ∈ ys := by
 have hk : k.toNat < ys.length := by omega
 have e : ys.getD k.toNat 0 = ys[k.toNat] := by simp [List.getD, hk]
 refine ⟨?_, by rw [e]; exact List.getElem_mem hk⟩
 unfold atI ixN
 rw [if_pos h0, if_pos (by simpa using h1), e]
 simp [hk]
theorem Ad {φ : FF} (h : rH φ) (a c : Int) (ha : 0 < a) (all : List D) (rest : Mu) : ∀ (its : List D) (L : List Int), DlD L -> ∃ ys L' : List Int,
  lcL ⟨all, none⟩ (hName 0) dh (M2 (M2 (MC (ao (aq 1) aD) φ) (mC (.int a)) oMod) (mC (.int c)) jh) [none, some (.cell 0)] its (some (L.map .int) :: rest) = some (ys.map .int, some (L'.map .int) :: rest) /\ DlD L' /\ ys.length = its.length /\ ∀ y ∈ ys, -c <= y /\ y < a - c
 | [], L, hL => ⟨[], L, by unfold lcL; simp [bT], hL, rfl, by simp⟩
 | d :: its, L, hL => by
  obtain ⟨x, L1, e1, hx, hL1⟩ := lE h hL rest
  obtain ⟨ys, L', e, hL', hl, hs⟩ := Ad h a c ha all rest its L1 hL1
  obtain ⟨q0, q1⟩ := bB (x := x) (m := a) ha
  have ha' : a ≠ 0 := by omega
  refine ⟨(x.fmod a - c) :: ys, L', ?_, hL', by simp [hl], λ n hn => ?_⟩
  .unfold lcL
   simp [bT, dh, e1, ha', e]
  .rcases List.mem_cons.mp hn with z | z
   .rw [z]; omega
   .exact hs n z
theorem tZ {α : Type} {p q : α -> Bool} : ∀ (l : List α), (∀ x ∈ l, q x = !p x) -> (l.filter q).isEmpty = l.all p
 | [], _ => rfl
 | x :: l, h => by
  have hx := h x (by simp)
  have ih := tZ l λ y hy => h y (by simp [hy])
  rw [List.filter_cons, List.all_cons]
  cases hp : p x with
  | true => rw [hp] at hx; rw [hx]; simpa using ih
  | false => rw [hp] at hx; rw [hx]; rfl
def Bh (φ : FF) : Prop := ∀ d μ, nc d -> φ [d] μ = some (.bl (jq d), μ)
theorem Gn {d : D} (h : jq d = true) : ∃ ns : List Int, d = .tup (ns.map .int) /\ 2 <= ns.length /\ ns.length <= 4 := by
 cases d with
 | tup ds =>
  rw [nZ, Bool.and_eq_true] at h
  have hd := ints_of h.1
  have hs := h.2
  unfold kJ at hs
  have hs := of_decide_eq_true hs
  exact ⟨_, congrArg D.tup hd, hs.1, hs.2.1⟩
 | _ => cases h
theorem lq {b : Nat} {x : Int} (n : Nat) (h : x.natAbs < n) (hn : n <= 2 ^ b) : Sm b x := Nat.lt_of_lt_of_le h hn
def aK (r : List Int) : D := .tup (r.map .int)
@[simp] theorem Oo {r : List Int} {μ : Mu} : bQ (aK r) μ = some (r.map .int) := rfl
@[simp] theorem Iu {r : List Int} {μ : Mu} : cz (aK r) μ = some (.int r.length, μ) := by simp [aK]
def pairD (p : Int × Int) : D := .tup [.int p.1, .int p.2]
theorem kI {α : Type} {F : α -> D} {l : List α} {k : Int} {z : α} (h0 : 0 <= k) (h1 : k < l.length) : atI (l.map F) k = some (F (l.getD k.toNat z)) /\ l.getD k.toNat z ∈ l := by
 have hk : k.toNat < l.length := by omega
 have e : l.getD k.toNat z = l[k.toNat] := by simp [List.getD, hk]
 refine ⟨?_, by rw [e]; exact List.getElem_mem hk⟩
 unfold atI ixN
 rw [if_pos h0, if_pos (by simpa using h1), e]
 simp [hk]
theorem lG {α β : Type} {F : α -> D} {G : β -> D} : ∀ (a : List α) (b : List β), jV (a.map F) (b.map G) = (a.zip b).map λ p => .tup [F p.1, G p.2]
 | [], _ => by simp [jV]
 | a :: as, [] => by simp [jV]
 | a :: as, b :: bs => by simp [jV, lG as bs]
theorem yp {α : Type} {th : D -> iI} {F : α -> D} {g : α -> Int} {μ : Mu} : ∀ (l : List α) (a : Int), (∀ x ∈ l, th (F x) μ = some (.int (g x), μ)) -> yf a ((l.map F).map th) μ = some (a + (l.map g).sum, μ)
 | [], a, _ => by simp [yf]
 | x :: l, a, h => by
  have h1 := h x (by simp)
  have ih := yp l (a + g x) λ y hy => h y (by simp [hy])
  rw [List.map_cons, List.map_cons]
  unfold yf
  rw [h1]
  simp only [Option.bind_some]
  rw [ih]
  simp
  omega
theorem gf {α : Type} {all : List D} {h : GF} {fe : EF} {δb : En} {F : α -> D} {f : α -> D} {μ : Mu} : ∀ (l : List α), (∀ x ∈ l, ∃ δ1, h (F x) δb μ = some δ1 /\ fe δ1 μ = some (f x, μ)) -> lcL ⟨all, none⟩ h dh fe δb (l.map F) μ = some (l.map f, μ)
 | [], _ => by simp only [List.map_nil]; unfold lcL; simp [bT]
 | d :: r, hd => by
  obtain ⟨δ1, h1, h2⟩ := hd d (by simp)
  have h3 := gf (all := all) r λ x hx => hd x (by simp [hx])
  rw [List.map_cons]
  unfold lcL
  simp [bT, h1, dh, h2, h3]
def ph : Int -> List Int -> Int
 | m, [] => m
 | m, b :: bs => ph (m * b.fdiv (Int.gcd m b)) bs
theorem ww {m b : Int} (hm : 1 <= m) (hb : 1 <= b) : 1 <= (Int.gcd m b : Int) /\ ((Int.gcd m b : Int) ∣ b) /\ ((Int.gcd m b : Int) ∣ m) /\ (Int.gcd m b : Int) <= b := by
 have h0 : Int.gcd m b ≠ 0 := by
  intro z
  rw [Int.gcd_eq_zero_iff] at z
  omega
 refine ⟨by omega, Int.gcd_dvd_right _ _, Int.gcd_dvd_left _ _, Int.le_of_dvd (by omega) (Int.gcd_dvd_right _ _)⟩
theorem sU {m b : Int} (hm : 1 <= m) (hb : 1 <= b) : 1 <= b.fdiv (Int.gcd m b) /\ b.fdiv (Int.gcd m b) <= b /\ (m * b).fdiv (Int.gcd m b) = m * b.fdiv (Int.gcd m b) /\ b ∣ m * b.fdiv (Int.gcd m b) := by
 obtain ⟨g1, g2, g3, g4⟩ := ww hm hb
 generalize (Int.gcd m b : Int) = g at *
 rw [Int.fdiv_eq_ediv_of_nonneg b (by omega), Int.fdiv_eq_ediv_of_nonneg (m * b) (by omega)]
 refine ⟨(Int.le_ediv_iff_mul_le (by omega)).mpr (by omega), Int.ediv_le_self _ (by omega), Int.mul_ediv_assoc m g2, ?_⟩
 obtain ⟨c, hc⟩ := g3
 obtain ⟨e, he⟩ := g2
 have : b / g = e := by rw [he]; exact Int.mul_ediv_cancel_left e (by omega)
 rw [this, hc, he]
 exact ⟨c, by rw [Int.mul_assoc, Int.mul_comm c e, <- Int.mul_assoc]⟩
theorem DN : ∀ (bs : List Int) (m : Int), 1 <= m -> (∀ b ∈ bs, 1 <= b /\ b < 64) -> 1 <= ph m bs /\ (m ∣ ph m bs) /\ (∀ b ∈ bs, b ∣ ph m bs) /\ ∀ k, Sm k m -> Sm (k + 6 * bs.length) (ph m bs)
 | [], m, hm, _ => ⟨hm, Int.dvd_refl _, by simp, λ k h => h⟩
 | b :: bs, m, hm, hb => by
  obtain ⟨b1, b2⟩ := hb b (by simp)
  obtain ⟨f1, f2, f3, f4⟩ := sU hm b1
  have hm' : 1 <= m * b.fdiv (Int.gcd m b) := by
   have := Int.mul_le_mul hm f1 (by decide) (by omega)
   omega
  obtain ⟨h1, h2, h3, h4⟩ := DN bs (m * b.fdiv (Int.gcd m b)) hm' λ c hc => hb c (by simp [hc])
  show 1 <= ph (m * b.fdiv (Int.gcd m b)) bs /\ _
  refine ⟨h1, Int.dvd_trans (Int.dvd_mul_right _ _) h2, λ c hc => ?_, λ k hk => ?_⟩
  .rcases List.mem_cons.mp hc with z | z
   .rw [z]; exact Int.dvd_trans f4 h2
   .exact h3 c z
  .have := h4 (k + 6) (lQ hk (lq 64 (by omega) (by decide)))
   refine dW this ?_
   simp only [List.length_cons]
   omega
def Gd (φ : FF) : Prop := ∀ (bs : List Int) (μ : Mu), (∀ b ∈ bs, 1 <= b /\ b < 64) -> bs.length <= 100 -> φ [.lst (bs.map .int)] μ = some (.int (ph 1 bs), μ)
theorem Gv {φ : FF} (hφ : mH φ) : Gd (trunc (aJ 3 (cW φ))) := λ bs μ hb hl => by
 apply cj
 unfold cW
 simp
 refine gF (λ its δ μ' => ∃ (ms : List Int) (m : Int) (o : Option D) (k : Nat), its = ms.map .int /\ μ' = μ /\ ph m ms = ph 1 bs /\ 1 <= m /\ Sm k m /\ k + 6 * ms.length <= 700 /\ (∀ b ∈ ms, 1 <= b /\ b < 64) /\ δ = [some (.lst (bs.map .int)), some (.int m), o]) ?_ ?_ _ _ _ ⟨bs, 1, none, 1, rfl, rfl, rfl, by decide, by unfold Sm; decide, by omega, hb, rfl⟩
 .rintro d rest δ μ' ⟨ms, m, o, k, hi, rfl, hm, m1, hk, hkl, hb, rfl⟩
  cases ms with
  | nil => cases hi
  | cons b ms =>
   cases hi
   obtain ⟨b1, b2⟩ := hb b (by simp)
   obtain ⟨g1, g2, g3, g4⟩ := ww m1 b1
   obtain ⟨f1, f2, f3, f4⟩ := sU m1 b1
   have sb : Sm 6 (b.fdiv (Int.gcd m b)) := lq 64 (by omega) (by decide)
   have eg := hφ m b μ'
   have ed := gR (x := b) (y := (Int.gcd m b : Int)) (b := 6) μ' (by omega) (lq 64 (by omega) (by decide)) (by decide)
   have em := Ky (i := m) (j := b.fdiv (Int.gcd m b)) (μ := μ') (yP hk sb (by simp at hkl; omega))
   simp only [List.length_cons] at hkl
   simp [Bu, eg, ed, em]
   refine ⟨ms, rfl, _, hm, ?_, _, k + 6, lQ hk sb, by omega, λ c hc => hb c (List.mem_cons_of_mem _ hc), rfl, rfl⟩
   have := Int.mul_le_mul m1 f1 (by decide) (by omega)
   omega
 .rintro δ μ' ⟨ms, m, o, k, hi, rfl, hm, m1, hk, hkl, hb, rfl⟩
  cases ms with
  | nil =>
   have hm : m = ph 1 bs := hm
   subst hm
   simp
  | cons b ms => cases hi
def dot (ws cs : List Int) : Int := ((ws.zip cs).map λ p => p.1 * p.2).sum
def Eh (φ : FF) : Prop := ∀ (ws cs : List Int) (μ : Mu), (∀ w ∈ ws, Sm 9000 w) -> (∀ c ∈ cs, Sm 9000 c) -> φ [.lst (ws.map .int), .lst (cs.map .int)] μ = some (.int (dot ws cs), μ)
theorem KH : Eh (trunc (aJ 2 cY)) := λ ws cs μ hw hc => by
 apply cj
 have e := yp (th := thG (iw 2 (bj (hName 0) (bj (hName 1) gZ))) (M2 (aq 0) (aq 1) eO) (cT ["one", "other"] [some (.lst (ws.map .int)), some (.lst (cs.map .int))] [])) (F := λ p : Int × Int => .tup [D.int p.1, .int p.2]) (g := λ p => p.1 * p.2) (μ := μ) (ws.zip cs) 0 λ p hp => by
  obtain ⟨p1, p2⟩ := p
  have hm := List.of_mem_zip hp
  have := dj (x := p1) (y := p2) μ (hw _ hm.1) (hc _ hm.2) (by decide)
  simp [thG, cT, this]
 have ez := lG (F := D.int) (G := D.int) ws cs
 unfold dot
 simp [cY, ez]
 rw [List.map_map] at e
 rw [e]
 simp
def bU (r : List Int) : Int := r.getLastD 0
def wts (M : Int) (rs : List (List Int)) (ss : List Int) : List Int := (ss.zip rs).map λ p => p.1 * M.fdiv (bU p.2)
def col (rs : List (List Int)) (i : Nat) : List Int := rs.map λ r => r.getD i 0
def gK (rs : List (List Int)) : Int := ph 1 (rs.map bU)
def gH (d1 : Nat) (rs : List (List Int)) (ss : List Int) : List Int := (List.range d1).map λ i => dot (wts (gK rs) rs ss) (col rs i)
def iu (v : List Int) : List Int := v.map λ n => n.fdiv (bw 0 v : Nat)
structure eZ (d1 : Nat) (r : List Int) : Prop where
 len : r.length = d1
 sm : ∀ n ∈ r, n.natAbs <= 10000
 b1 : 1 <= bU r
 b2 : bU r < 64
theorem PtL.row {d : Nat} {ns : List Int} {b : Int} (h : PtL d ns b) : eZ (d + 1) (ns ++ [b]) := ⟨by simp [h.1], λ n hn => by
 rcases List.mem_append.mp hn with z | z
 .exact h.2.1 n z
 .rw [List.mem_singleton.mp z]; have := h.2.2; omega, by unfold bU; simp; exact h.2.2.1, by unfold bU; simp; have := h.2.2.2; omega⟩
theorem ql {d1 : Nat} {r : List Int} (h : eZ d1 r) (hd : 1 <= d1) : atI (r.map D.int) (-1) = some (.int (bU r)) := nT (λ z => by have := h.len; rw [z] at this; simp at this; omega)
theorem rG {d1 : Nat} {rs : List (List Int)} (h : ∀ r ∈ rs, eZ d1 r) : 1 <= gK rs /\ (∀ r ∈ rs, bU r ∣ gK rs) /\ Sm (1 + 6 * rs.length) (gK rs) := by
 obtain ⟨h1, _, h3, h4⟩ := DN (rs.map bU) 1 (by decide) λ b hb => by
  obtain ⟨r, hr, rfl⟩ := List.mem_map.mp hb
  exact ⟨(h r hr).b1, (h r hr).b2⟩
 refine ⟨h1, λ r hr => h3 _ (List.mem_map.mpr ⟨r, hr, rfl⟩), ?_⟩
 have := h4 1 (by unfold Sm; decide)
 rw [List.length_map] at this
 exact this
def CN (φ : FF) : Prop := ∀ (d1 : Nat) (rs : List (List Int)) (ss : List Int) (μ : Mu), 1 <= d1 -> (∀ r ∈ rs, eZ d1 r) -> rs.length <= 60 -> ss.length <= 60 -> (∀ s ∈ ss, Sm 3000 s) -> φ [.lst (rs.map aK), .lst (ss.map .int)] μ = some (.lst ((wts (gK rs) rs ss).map .int), μ)
theorem over_of {φ : FF} (hφ : Gd φ) : CN (trunc (aJ 3 (eY φ))) := λ d1 rs ss μ hd hr hl hl2 hs => by
 apply cj
 have e1 := gf (all := rs.map aK) (h := hName 0) (fe := M2 (aq 0) (M1 (mC (.int 1)) ir) oIx) (δb := cT ["point"] [some (.lst (rs.map aK)), some (.lst (ss.map .int)), none] []) (F := aK) (f := λ r => .int (bU r)) (μ := μ) rs λ r h => ⟨_, rfl, by simp [cT, ql (hr r h) hd]⟩
 have e1' : rs.map (λ r => D.int (bU r)) = (rs.map bU).map D.int := by simp
 rw [e1'] at e1
 have e2 := hφ (rs.map bU) μ (λ b hb => by
  obtain ⟨r, h, rfl⟩ := List.mem_map.mp hb
  exact ⟨(hr r h).b1, (hr r h).b2⟩) (by simp; omega)
 obtain ⟨hM1, hM2, hM3⟩ := rG hr
 have e3 := gf (all := (ss.zip rs).map λ p => D.tup [.int p.1, aK p.2]) (h := iw 2 (bj (hName 0) (bj (hName 1) gZ))) (fe := M2 (aq 0) (M2 (aq 2) (M2 (aq 1) (M1 (mC (.int 1)) ir) oIx) oDiv) eO) (δb := cT ["number", "point"] [some (.lst (rs.map aK)), some (.lst (ss.map .int)), some (.int (gK rs))] [2]) (F := λ p : Int × List Int => D.tup [.int p.1, aK p.2]) (f := λ p => .int (p.1 * (gK rs).fdiv (bU p.2))) (μ := μ) (ss.zip rs) λ p hp => by
  obtain ⟨s, r⟩ := p
  have hm := List.of_mem_zip hp
  have hrr := hr r hm.2
  have ed := gR (x := gK rs) (y := bU r) (b := 6) μ (by have := hrr.b1; omega) (lq 64 (by have := hrr.b1; have := hrr.b2; omega) (by decide)) (by decide)
  have em := dj (x := s) (y := (gK rs).fdiv (bU r)) (a := 3000) (b := 1 + 6 * rs.length) μ (hs s hm.1) (pZ hM3 (by have := hrr.b1; omega)) (by omega)
  refine ⟨[some (.int s), some (aK r), some (.int (gK rs))], by simp [cT], ?_⟩
  simp [ql hrr hd, ed, em]
 have ez := lG (F := D.int) (G := aK) ss rs
 have e3' : (ss.zip rs).map (λ p => D.int (p.1 * (gK rs).fdiv (bU p.2))) = (wts (gK rs) rs ss).map D.int := by unfold wts; simp
 rw [e3'] at e3
 have hz1 : rs.length <= 1000 := by omega
 have hz2 : (ss.zip rs).length <= 1000 := by simp; omega
 have e2' : φ [.lst ((rs.map bU).map D.int)] μ = some (.int (gK rs), μ) := e2
 generalize (rs.map bU).map D.int = bD at *
 generalize (wts (gK rs) rs ss).map D.int = wD at *
 unfold eY
 simp only [List.length_zip] at hz2
 simp [hz1, hz2, e1, e2', ez, e3]
theorem GQ {d1 : Nat} {rs : List (List Int)} {i : Nat} (h : ∀ r ∈ rs, eZ d1 r) (hi : i < d1) : ∀ c ∈ col rs i, c.natAbs <= 10000 := λ c hc => by
 obtain ⟨r, hr, rfl⟩ := List.mem_map.mp hc
 have hl := (h r hr).len
 have hk : i < r.length := by omega
 have : r.getD i 0 = r[i] := by simp [List.getD, hk]
 rw [this]
 exact (h r hr).sm _ (List.getElem_mem hk)
def uQ (φ : FF) : Prop := ∀ (d1 : Nat) (rs : List (List Int)) (ws : List Int) (μ : Mu), 1 <= d1 -> d1 <= 100 -> rs ≠ [] -> (∀ r ∈ rs, eZ d1 r) -> rs.length <= 60 -> (∀ w ∈ ws, Sm 9000 w) -> φ [.lst (rs.map aK), .lst (ws.map .int)] μ = some (.lst (((List.range d1).map λ i => dot ws (col rs i)).map .int), μ)
theorem vX {φ : FF} (hφ : Eh φ) {d1 : Nat} {rs : List (List Int)} {ws : List Int} {μ : Mu} (hr : ∀ r ∈ rs, eZ d1 r) (hz1 : rs.length <= 1000) (hw : ∀ w ∈ ws, Sm 9000 w) (i : Nat) (hi : i < d1) :
  MC (ao (aq 1) (ao (mFz (lLC ["row"] [0] (gk (aq 2)) (hName 0) (dh) (M2 (aq 0) (aq 1) oIx))) (aD))) φ [some (.int (0 + (i : Int))), some (.lst (ws.map .int)), some (.lst (rs.map aK))] μ = some (.int (dot ws (col rs i)), μ) := by
 have e1 := gf (all := rs.map aK) (h := hName 0) (fe := M2 (aq 0) (aq 1) oIx) (δb := [none, some (.int (0 + (i : Int)))]) (F := aK) (f := λ r => .int (r.getD i 0)) (μ := μ) rs λ r h => ⟨_, rfl, by
  have hk : ((0 : Int) + i) < r.length := by have := (hr r h).len; omega
  obtain ⟨a1, _⟩ := pY (ys := r) (k := 0 + (i : Int)) (by omega) hk
  have : (0 + (i : Int)).toNat = i := by omega
  rw [this] at a1
  generalize r.getD i 0 = z at *
  generalize (0 + (i : Int)) = j at *
  simp [a1]⟩
 have e1' : rs.map (λ r => D.int (r.getD i 0)) = (col rs i).map D.int := by unfold col; simp
 rw [e1'] at e1
 have e2 := hφ ws (col rs i) μ hw λ c hc => dW (lq (b := 14) 10001 (by have := GQ hr hi c hc; omega) (by decide)) (by decide)
 generalize (col rs i).map D.int = cD at *
 generalize dot ws (col rs i) = z at *
 generalize (0 + (i : Int)) = j at *
 simp [hz1, cT, e1, e2]
theorem Dj {F : EF} {δ : En} {μ : Mu} {k : Int} (h0 : 0 <= k) (h1 : k <= 100000) (a : F δ μ = some (.int k, μ)) : cC (ao F aD) δ μ = some (⟨gm 0 k.toNat, none⟩, μ) := by
 have rr := Cy (j := k) (μ := μ) (by omega) (by omega)
 rw [Ks, za, a]
 simp only [Option.bind_some, Ea]
 exact rr
theorem Gs {F : EF} {δ : En} {μ : Mu} {r : List Int} {d1 : Nat} (hl : r.length = d1) (a : F δ μ = some (aK r, μ)) : MC (ao F aD) (aZ cz) δ μ = some (.int d1, μ) := by
 rw [Pa, za, a]
 simp only [Option.bind_some, Ea, JB, Iu, hl]
theorem zj {φ : FF} (hφ : Eh φ) : uQ (trunc (aJ 2 (jF φ))) := λ d1 rs ws μ hd hd2 hne hr hl hw => by
 apply cj
 have hz1 : rs.length <= 1000 := by omega
 have e3 := gf (all := gm 0 d1) (h := hName 0) (fe := MC (ao (aq 1) (ao (mFz (lLC ["row"] [0] (gk (aq 2)) (hName 0) (dh) (M2 (aq 0) (aq 1) oIx))) (aD))) φ) (δb := cT ["at"] [some (.lst (rs.map aK)), some (.lst (ws.map .int))] [1, 0]) (F := λ i : Nat => D.int (0 + (i : Int))) (f := λ i => .int (dot ws (col rs i))) (μ := μ) (List.range d1) λ i hi =>
  ⟨[some (.int (0 + (i : Int))), some (.lst (ws.map .int)), some (.lst (rs.map aK))], by simp [cT], vX hφ hr hz1 hw i (List.mem_range.mp hi)⟩
 have e3' : (List.range d1).map (λ i => D.int (dot ws (col rs i))) = ((List.range d1).map λ i => dot ws (col rs i)).map D.int := by simp
 rw [e3'] at e3
 have er : (List.range d1).map (λ i : Nat => D.int (0 + (i : Int))) = gm 0 d1 := rfl
 rw [er] at e3
 have h0 : ∃ r0, atI (rs.map aK) 0 = some (aK r0) /\ r0 ∈ rs := by
  obtain ⟨a, b⟩ := kI (F := aK) (l := rs) (k := 0) (z := []) (by decide) (by have := List.length_pos_iff.mpr hne; omega)
  exact ⟨_, a, b⟩
 obtain ⟨r0, a0, hr0⟩ := h0
 have hlen0 := (hr r0 hr0).len
 generalize ((List.range d1).map λ i => dot ws (col rs i)).map D.int = wD at *
 have it : cC (ao (MC (ao (M2 (aq 0) (mC (.int 0)) oIx) (aD)) (aZ cz)) (aD)) [some (.lst (rs.map aK)), some (.lst (ws.map .int))] μ = some (⟨gm 0 d1, none⟩, μ) := by
  have := Dj (k := (d1 : Int)) (by omega) (by omega) (Gs (F := M2 (aq 0) (mC (.int 0)) oIx) (δ := [some (.lst (rs.map aK)), some (.lst (ws.map .int))]) (μ := μ) hlen0 (by simp [a0]))
  rwa [show ((d1 : Int)).toNat = d1 by omega] at this
 have hz2 : (gm 0 d1).length <= sizeLine := by rw [iK]; exact Nat.le_trans (by omega : _ <= 1000) (by decide)
 unfold jF
 generalize cC (ao (MC (ao (M2 (aq 0) (mC (.int 0)) oIx) (aD)) (aZ cz)) (aD)) = IT at it ⊢
 simp [it, hz2, e3]
def rowsOf (ps : List (List Int)) (sh : List (Int × Int)) : List (List Int) := sh.map λ x => ps.getD x.1.toNat []
def Eo (n : Nat) (sh : List (Int × Int)) : Prop := ∀ x ∈ sh, 0 <= x.1 /\ x.1 < n /\ 1 <= x.2 /\ Sm 2000 x.2
theorem vC {d1 : Nat} {ps : List (List Int)} {sh : List (Int × Int)} (hp : ∀ p ∈ ps, eZ d1 p) (hs : Eo ps.length sh) : ∀ r ∈ rowsOf ps sh, eZ d1 r := λ r hr => by
 obtain ⟨x, hx, rfl⟩ := List.mem_map.mp hr
 obtain ⟨h0, h1, _⟩ := hs x hx
 exact hp _ (kI (F := aK) (l := ps) (k := x.1) (z := []) h0 h1).2
theorem yx {w c : Int} {ws cs : List Int} : dot (w :: ws) (c :: cs) = w * c + dot ws cs := by unfold dot; simp
theorem xQ (M : Int) : ∀ (rs : List (List Int)) (ss : List Int), rs.length = ss.length -> (∀ r ∈ rs, 1 <= bU r /\ bU r ∣ M) -> dot (wts M rs ss) (rs.map bU) = M * ss.sum
 | [], ss, h, _ => by
  have : ss = [] := List.eq_nil_of_length_eq_zero (by simpa using h.symm)
  subst this
  simp [dot, wts]
 | r :: rs, [], h, _ => by simp at h
 | r :: rs, s :: ss, h, hr => by
  have ih := xQ M rs ss (by simpa using h) λ x hx => hr x (by simp [hx])
  obtain ⟨b1, b2⟩ := hr r (by simp)
  have e1 : wts M (r :: rs) (s :: ss) = s * M.fdiv (bU r) :: wts M rs ss := by simp [wts]
  rw [e1, List.map_cons, yx, ih, List.sum_cons, Int.mul_add]
  congr 1
  rw [Int.fdiv_eq_ediv_of_nonneg M (by omega), Int.mul_assoc, Int.ediv_mul_cancel b2, Int.mul_comm]
theorem Ds {d1 : Nat} {rs : List (List Int)} (hd : 1 <= d1) (h : ∀ r ∈ rs, eZ d1 r) : col rs (d1 - 1) = rs.map bU := by
 unfold col
 apply List.map_congr_left
 intro r hr
 have hl := (h r hr).len
 have hne : r ≠ [] := λ z => by rw [z] at hl; simp at hl; omega
 unfold bU
 rw [List.getLastD_eq_getLast?, List.getLast?_eq_getElem?, hl]
 rfl
theorem zO : ∀ (ss : List Int) (k : Nat), (∀ s ∈ ss, 1 <= s /\ Sm k s) -> (0 <= ss.sum /\ (ss ≠ [] -> 1 <= ss.sum)) /\ ss.sum.natAbs <= ss.length * 2 ^ k
 | [], k, _ => by simp
 | s :: ss, k, h => by
  obtain ⟨h1, h2⟩ := h s (by simp)
  obtain ⟨⟨i1, i2⟩, i3⟩ := zO ss k λ x hx => h x (by simp [hx])
  rw [List.sum_cons, List.length_cons, Nat.succ_mul]
  refine ⟨⟨by omega, λ _ => by omega⟩, ?_⟩
  unfold Sm at h2
  have := Int.natAbs_add_le s ss.sum
  omega
structure PN (d1 : Nat) (rs : List (List Int)) (ss : List Int) : Prop where
 v : (gH d1 rs ss).length = d1
 lst : (gH d1 rs ss).getLastD 0 = gK rs * ss.sum
 pos : 1 <= gK rs * ss.sum
 sm : Sm 3000 (gK rs * ss.sum)
 g0 : bw 0 (gH d1 rs ss) ≠ 0
 gs : Sm 3000 (bw 0 (gH d1 rs ss) : Nat)
theorem Gu {d1 : Nat} {rs : List (List Int)} {ss : List Int} (hd : 1 <= d1) (hr : ∀ r ∈ rs, eZ d1 r) (hl : rs.length = ss.length) (h60 : rs.length <= 60) (hne : rs ≠ []) (hs : ∀ s ∈ ss, 1 <= s /\ Sm 2000 s) : PN d1 rs ss := by
 obtain ⟨M1', M2', M3'⟩ := rG hr
 have el := xQ (gK rs) rs ss hl λ r h => ⟨(hr r h).b1, M2' r h⟩
 obtain ⟨⟨s0, s1⟩, s2⟩ := zO ss 2000 hs
 have sne : ss ≠ [] := λ z => by rw [z] at hl; exact hne (List.eq_nil_of_length_eq_zero (by simpa using hl))
 have sp := s1 sne
 have ssm : Sm 2006 ss.sum := by
  unfold Sm
  have : ss.length * 2 ^ 2000 < 2 ^ 6 * 2 ^ 2000 := Nat.mul_lt_mul_of_pos_right (by omega) (Nat.two_pow_pos _)
  rw [<- Nat.pow_add] at this
  omega
 have hpos : 1 <= gK rs * ss.sum := by
  have := Int.mul_le_mul M1' sp (by decide) (by omega)
  omega
 have hsm : Sm 3000 (gK rs * ss.sum) := dW (lQ M3' ssm) (by omega)
 have hlast : (gH d1 rs ss).getLastD 0 = gK rs * ss.sum := by
  unfold gH
  rw [List.getLastD_eq_getLast?, List.getLast?_map, List.getLast?_range, if_neg (by omega)]
  simp only [Option.map_some, Option.getD_some]
  rw [Ds hd hr, el]
 have hmem : gK rs * ss.sum ∈ gH d1 rs ss := by
  rw [<- hlast]
  have hne' : gH d1 rs ss ≠ [] := by unfold gH; simp; omega
  rw [List.getLastD_eq_getLast?, List.getLast?_eq_some_getLast hne']
  exact List.getLast_mem hne'
 have hg0 : bw 0 (gH d1 rs ss) ≠ 0 := lA (.inr ⟨_, hmem, by omega⟩)
 refine ⟨by unfold gH; simp, hlast, hpos, hsm, hg0, ?_⟩
 have := Gy (g := 0) hmem (by omega)
 unfold Sm at *
 simp only [Int.natAbs_natCast]
 omega
def wN (φ : FF) : Prop := ∀ (d1 : Nat) (ps : List (List Int)) (sh : List (Int × Int)) (μ : Mu), 1 <= d1 -> d1 <= 10 -> (∀ p ∈ ps, eZ d1 p) -> sh ≠ [] -> sh.length <= 60 -> Eo ps.length sh -> φ [.lst (ps.map aK), .tup (sh.map pairD)] μ = some (aK (iu (gH d1 (rowsOf ps sh) (sh.map (·.2)))), μ)
theorem Dv {φ1 φ2 φ3 : FF} (h1 : CN φ1) (h2 : uQ φ2) (h3 : Aa φ3) : wN (trunc (aJ 4 (nQ φ1 φ2 φ3))) := λ d1 ps sh μ hd hd2 hp hne hl hs => by
 apply cj
 have hr := vC hp hs
 have hss : ∀ s ∈ sh.map (·.2), 1 <= s /\ Sm 2000 s := λ s h => by
  obtain ⟨x, hx, rfl⟩ := List.mem_map.mp h
  exact ⟨(hs x hx).2.2.1, (hs x hx).2.2.2⟩
 have hlr : (rowsOf ps sh).length = (sh.map (·.2)).length := by unfold rowsOf; simp
 have hl60 : (rowsOf ps sh).length <= 60 := by unfold rowsOf; simp; exact hl
 have hrne : rowsOf ps sh ≠ [] := by unfold rowsOf; simpa using hne
 have mo := Gu hd hr hlr hl60 hrne hss
 obtain ⟨M1', M2', M3'⟩ := rG hr
 have e1 := gf (all := sh.map pairD) (h := iw 2 (bj (hName 0) (bj (hName 1) gZ))) (fe := M2 (aq 2) (aq 0) oIx) (δb := [none, none, some (.lst (ps.map aK))]) (F := pairD) (f := λ x => aK (ps.getD x.1.toNat [])) (μ := μ) sh λ x hx => by
  obtain ⟨k, s⟩ := x
  obtain ⟨k0, k1, _⟩ := hs _ hx
  refine ⟨[some (.int k), some (.int s), some (.lst (ps.map aK))], by simp [pairD], ?_⟩
  have := (kI (F := aK) (l := ps) (k := k) (z := []) k0 k1).1
  simp only at this ⊢
  generalize ps.getD k.toNat [] = r at *
  simp [this]
 have e1' : sh.map (λ x => aK (ps.getD x.1.toNat [])) = (rowsOf ps sh).map aK := by unfold rowsOf; simp
 rw [e1'] at e1
 have e2 := gf (all := sh.map pairD) (h := iw 2 (bj (hName 0) (bj (hName 1) gZ))) (fe := aq 1) (δb := [none, none]) (F := pairD) (f := λ x => .int x.2) (μ := μ) sh λ x hx => ⟨[some (.int x.1), some (.int x.2)], by simp [pairD], by simp⟩
 have e2' : sh.map (λ x => D.int x.2) = (sh.map (·.2)).map D.int := by simp
 rw [e2'] at e2
 generalize sh.map (·.2) = ss at *
 generalize rowsOf ps sh = rs at *
 have e3 := h1 d1 rs ss μ hd hr hl60 (by omega) (λ s h => dW (hss s h).2 (by decide))
 have hw : ∀ w ∈ wts (gK rs) rs ss, Sm 9000 w := λ w hw => by
  obtain ⟨⟨s, r⟩, hx, rfl⟩ := List.mem_map.mp hw
  have hm := List.of_mem_zip hx
  exact dW (lQ (hss s hm.1).2 (pZ M3' (show 0 < bU r by have := (hr r hm.2).b1; omega))) (by omega)
 have e4 := h2 d1 rs (wts (gK rs) rs ss) μ hd (by omega) hrne hr hl60 hw
 have e5 := h3 (gH d1 rs ss) μ mo.g0 (dW mo.gs (by decide)) (by rw [mo.v]; omega)
 have e5' : (gH d1 rs ss).map (λ n => D.int (n.fdiv (bw 0 (gH d1 rs ss) : Nat))) = (iu (gH d1 rs ss)).map D.int := by unfold iu; simp
 rw [e5'] at e5
 have e4' : φ2 [.lst (rs.map aK), .lst ((wts (gK rs) rs ss).map .int)] μ = some (.lst ((gH d1 rs ss).map .int), μ) := e4
 generalize (gH d1 rs ss).map D.int = vD at *
 generalize (wts (gK rs) rs ss).map D.int = wD at *
 have hz : sh.length <= 1000 := by omega
 unfold nQ
 simp [hz, cT, e1, e2, e3, e4', e5, aK]
@[simp] theorem Oh {μ : Mu} {ds : List D} : bQ (.cell μ.length) (μ ++ [some ds]) = some ds := by unfold bQ; simp
def fnL (d : Nat) (g : Nat -> Int) : List D := ((List.range d).map g).map D.int
theorem vW {d : Nat} {g : Nat -> Int} : (fnL d g).length = d := by unfold fnL; simp
theorem Ny {d : Nat} {g : Nat -> Int} {j : Nat} (h : j < d) : atI (fnL d g) (0 + (j : Int)) = some (.int (g j)) := by
 unfold atI ixN
 rw [if_pos (by omega), if_pos (by rw [vW]; omega)]
 have : (0 + (j : Int)).toNat = j := by omega
 simp only [Option.bind_some, this]
 unfold fnL
 simp [h]
theorem Ke {d : Nat} {g : Nat -> Int} {j : Nat} (h : j < d) : ixN (fnL d g).length (0 + (j : Int)) = some j := by
 unfold ixN
 rw [if_pos (by omega), if_pos (by rw [vW]; omega)]
 congr 1
 omega
theorem Ho {d : Nat} {g : Nat -> Int} {j : Nat} {x : Int} : (fnL d g).set j (.int x) = fnL d (λ i => if i = j then x else g i) := by
 unfold fnL
 apply List.ext_getElem
 .simp
 intro i h1 h2
 simp at h1 h2
 rw [List.getElem_set]
 by_cases e : j = i
 .subst e; simp
 .have e' : ¬ i = j := λ z => e z.symm
  simp [e, e']
theorem Ca {d : Nat} {g g' : Nat -> Int} (h : ∀ i < d, g i = g' i) : fnL d g = fnL d g' := by
 unfold fnL
 congr 1
 apply List.map_congr_left
 intro i hi
 exact h i (List.mem_range.mp hi)
theorem xH {d j : Nat} (h : j < d) : (gm 0 d).drop j = D.int (0 + (j : Int)) :: (gm 0 d).drop (j + 1) := by
 unfold gm
 rw [<- List.map_drop, <- List.map_drop, List.drop_eq_getElem_cons (by simpa using h)]
 simp
theorem Io {d j : Nat} (h : d <= j) : (gm 0 d).drop j = [] := List.drop_of_length_le (by rw [iK]; exact h)
theorem vL (ns : List Int) (b : Int) : bw 0 (ns ++ [b]) = bw b.natAbs ns := by
 have := Jl (s := 1) (b := b) (ns := ns) (.inl rfl)
 simpa using this
def qL (ps : List (List Int)) (x : Int × Int) : List Int := ps.getD x.1.toNat []
def term (M : Int) (ps : List (List Int)) (i : Nat) (x : Int × Int) : Int := x.2 * (qL ps x).getD i 0 * M.fdiv (bU (qL ps x))
theorem uP (M : Int) (ps : List (List Int)) (i : Nat) : ∀ sh : List (Int × Int), dot (wts M (rowsOf ps sh) (sh.map (·.2))) (col (rowsOf ps sh) i) = (sh.map (term M ps i)).sum
 | [] => by simp [dot, wts, rowsOf, col]
 | x :: sh => by
  have ih := uP M ps i sh
  have e1 : rowsOf ps (x :: sh) = qL ps x :: rowsOf ps sh := rfl
  have e2 : wts M (qL ps x :: rowsOf ps sh) (x.2 :: sh.map (·.2)) = x.2 * M.fdiv (bU (qL ps x)) :: wts M (rowsOf ps sh) (sh.map (·.2)) := by simp [wts]
  have e3 : col (qL ps x :: rowsOf ps sh) i = (qL ps x).getD i 0 :: col (rowsOf ps sh) i := by simp [col]
  rw [e1, List.map_cons, e2, e3, yx, ih, List.map_cons, List.sum_cons]
  congr 1
  unfold term
  rw [Int.mul_assoc, Int.mul_assoc, Int.mul_comm (M.fdiv _)]
noncomputable abbrev Aq : SF := iC (cC (ao (MC (ao (aq 5) (aD)) (aZ cz)) (aD))) (hName 7) (aQ (bz 8 (M2 (aq 4) (M2 (M2 (aq 0) (aq 3) oIx) (aq 7) oIx) eO)) (zE (M2 (M2 (aq 5) (aq 7) oIx) (M2 (aq 8) (M2 (aq 2) (M2 (M2 (aq 0) (aq 3) oIx) (M1 (mC (.int 1)) ir) oIx) oDiv) eO) bJ) (aq 5) (aq 7)))
theorem NQ {d : Nat} {ps : List (List Int)} {M k s t : Int} {μ : Mu} {shD : D} {g : Nat -> Int} {o7 o8 : Option D} (hd : d <= 9) (hp : ∀ p ∈ ps, eZ (d + 1) p) (k0 : 0 <= k) (k1 : k < ps.length) (hs : Sm 2000 s) (hM : Sm 400 M) :
  ∃ p7 p8, Aq [some (.lst (ps.map aK)), some shD, some (.int M), some (.int k), some (.int s), some (.cell μ.length), some (.int t), o7, o8] (μ ++ [some (fnL d g)]) =
   some (.nx, [some (.lst (ps.map aK)), some shD, some (.int M), some (.int k), some (.int s), some (.cell μ.length), some (.int t), p7, p8], μ ++ [some (fnL d λ i => g i + term M ps i (k, s))]) := by
 suffices h : Ok (Aq [some (.lst (ps.map aK)), some shD, some (.int M), some (.int k), some (.int s), some (.cell μ.length), some (.int t), o7, o8] (μ ++ [some (fnL d g)])) (λ r => ∃ p7 p8, r =
   (.nx, [some (.lst (ps.map aK)), some shD, some (.int M), some (.int k), some (.int s), some (.cell μ.length), some (.int t), p7, p8], μ ++ [some (fnL d λ i => g i + term M ps i (k, s))])) by
  obtain ⟨r, e, p7, p8, h⟩ := h
  exact ⟨p7, p8, by rw [e, h]⟩
 obtain ⟨ak, hmem⟩ := kI (F := aK) (l := ps) (k := k) (z := []) k0 k1
 have hr := hp _ hmem
 have hrow : qL ps (k, s) = ps.getD k.toNat [] := rfl
 have hterm : ∀ i, term M ps i (k, s) = s * (ps.getD k.toNat []).getD i 0 * M.fdiv (bU (ps.getD k.toNat [])) := λ i => rfl
 simp only [hterm]
 generalize ps.getD k.toNat [] = r at *
 have hlast := ql hr (by omega)
 have hlen : cz (.cell μ.length) (μ ++ [some (fnL d g)]) = some (.int (d : Int), μ ++ [some (fnL d g)]) := by
  unfold cz bQ
  simp [vW]
 have it : cC (ao (MC (ao (aq 5) (aD)) (aZ cz)) (aD)) [some (.lst (ps.map aK)), some shD, some (.int M), some (.int k), some (.int s), some (.cell μ.length), some (.int t), o7, o8] (μ ++ [some (fnL d g)]) = some (⟨gm 0 d, none⟩, μ ++ [some (fnL d g)]) := by
  have := Dj (k := (d : Int)) (F := MC (ao (aq 5) (aD)) (aZ cz)) (δ := [some (.lst (ps.map aK)), some shD, some (.int M), some (.int k), some (.int s), some (.cell μ.length), some (.int t), o7, o8]) (μ := μ ++ [some (fnL d g)]) (by omega) (by omega) (by
   rw [Pa, za]
   simp only [wZ, wJ, Option.bind_some, Ea, JB]
   exact hlen)
  rwa [show ((d : Int)).toNat = d by omega] at this
 unfold Aq
 generalize cC (ao (MC (ao (aq 5) (aD)) (aZ cz)) (aD)) = IT at it ⊢
 rw [EY, it]
 simp only [Option.bind_some]
 refine gF (λ its δ μ' => ∃ (j : Nat) (g' : Nat -> Int) (p7 p8 : Option D), its = (gm 0 d).drop j /\ μ' = μ ++ [some (fnL d g')] /\ (∀ i < d, g' i = if i < j then g i + s * r.getD i 0 * M.fdiv (bU r) else g i) /\
  δ = [some (.lst (ps.map aK)), some shD, some (.int M), some (.int k), some (.int s), some (.cell μ.length), some (.int t), p7, p8]) ?_ ?_ _ _ _ ⟨0, g, o7, o8, rfl, rfl, λ i _ => by simp, rfl⟩
 .rintro it' rest δ μ' ⟨j, g', p7, p8, hi, rfl, hg, rfl⟩
  have hj : j < d := by
   by_cases h : j < d
   .exact h
   .rw [Io (by omega)] at hi; cases hi
  rw [xH hj] at hi
  cases hi
  have hjr : ((0 : Int) + (j : Int)) < r.length := by have := hr.len; omega
  obtain ⟨aj, hjm⟩ := pY (ys := r) (k := 0 + (j : Int)) (by omega) hjr
  have hto : (0 + (j : Int)).toNat = j := by omega
  rw [hto] at aj hjm
  have gat := Ny (g := g') hj
  have gix := Ke (g := g') hj
  have hsj := hr.sm _ hjm
  have b1 := hr.b1
  have b2 := hr.b2
  have hgj := hg j hj
  rw [if_neg (by omega)] at hgj
  generalize hrj : r.getD j 0 = rj at *
  have em1 := dj (x := s) (y := rj) (μ ++ [some (fnL d g')]) hs (lq (b := 14) 10001 (by omega) (by decide)) (by decide)
  have ed := gR (x := M) (y := bU r) (b := 6) (μ ++ [some (fnL d g')]) (by omega) (lq 64 (by omega) (by decide)) (by decide)
  have em2 := dj (x := s * rj) (y := M.fdiv (bU r)) (μ ++ [some (fnL d g')]) (lQ hs (lq (b := 14) 10001 (by omega) (by decide))) (pZ hM (by omega)) (by decide)
  generalize hij : (0 + (j : Int)) = ij at *
  simp [ak, aj, em1, gat, hlast, ed, em2, L3.Cg, gix, Ho]
  refine ⟨j + 1, rfl, _, rfl, λ i hi => ?_⟩
  by_cases e : i = j
  .subst e
   simp [hgj, <- hrj]
  .have := hg i hi
   simp only [if_neg e]
   rw [this]
   by_cases c : i < j
   .rw [if_pos c, if_pos (by omega)]; rfl
   .rw [if_neg c, if_neg (by omega)]
 .rintro δ μ' ⟨j, g', p7, p8, hi, rfl, hg, rfl⟩
  have hj : d <= j := by
   by_cases h : j < d
   .rw [xH h] at hi; cases hi
   .omega
  refine ⟨p7, p8, ?_⟩
  rw [Ca (g := g') (g' := λ i => g i + s * r.getD i 0 * M.fdiv (bU r)) λ i hi => by rw [hg i hi, if_pos (by omega)]]
theorem CJ {M : Int} {ps : List (List Int)} {i : Nat} {x : Int × Int} {sh : List (Int × Int)} : ((x :: sh).map (term M ps i)).sum = term M ps i x + (sh.map (term M ps i)).sum := by simp
theorem Gh {d1 : Nat} {ps : List (List Int)} {k : Int} (hp : ∀ p ∈ ps, eZ d1 p) (k0 : 0 <= k) (k1 : k < ps.length) : atI (ps.map aK) k = some (aK (ps.getD k.toNat [])) /\ eZ d1 (ps.getD k.toNat []) := by
 obtain ⟨a, b⟩ := kI (F := aK) (l := ps) (k := k) (z := []) k0 k1
 exact ⟨a, hp _ b⟩
theorem Ci {m b : Int} {bs : List Int} : ph m (b :: bs) = ph (m * b.fdiv (Int.gcd m b)) bs := rfl
theorem zf {φ1 φ2 : FF} (h1 : mH φ1) (h2 : uW φ2) (d : Nat) (ps : List (List Int)) (sh : List (Int × Int)) (μ : Mu) (hm : ie μ) (hd : 1 <= d) (hd2 : d <= 9) (hp : ∀ p ∈ ps, eZ (d + 1) p) (hne : sh ≠ []) (hl : sh.length <= 60) (hs : Eo ps.length sh) :
  trunc (aJ 9 (jQ φ1 φ2)) [.lst (ps.map aK), .tup (sh.map pairD)] μ = some (aK (iu (gH (d + 1) (rowsOf ps sh) (sh.map (·.2)))), μ) := by
 have hr := vC hp hs
 have hss : ∀ s ∈ sh.map (·.2), 1 <= s /\ Sm 2000 s := λ s h => by
  obtain ⟨x, hx, rfl⟩ := List.mem_map.mp h
  exact ⟨(hs x hx).2.2.1, (hs x hx).2.2.2⟩
 have hlr : (rowsOf ps sh).length = (sh.map (·.2)).length := by unfold rowsOf; simp
 have hl60 : (rowsOf ps sh).length <= 60 := by unfold rowsOf; simp; exact hl
 have hrne : rowsOf ps sh ≠ [] := by unfold rowsOf; simpa using hne
 have mo := Gu (by omega) hr hlr hl60 hrne hss
 obtain ⟨M1', M2', M3'⟩ := rG hr
 have hMs : Sm 400 (gK (rowsOf ps sh)) := dW M3' (by omega)
 have hbs : (rowsOf ps sh).map bU = sh.map λ x => bU (qL ps x) := by unfold rowsOf qL; simp
 have eM : ph 1 (sh.map λ x => bU (qL ps x)) = gK (rowsOf ps sh) := by unfold gK; rw [hbs]
 have eV : gH (d + 1) (rowsOf ps sh) (sh.map (·.2)) = (List.range d).map (λ i => (sh.map (term (gK (rowsOf ps sh)) ps i)).sum) ++ [gK (rowsOf ps sh) * (sh.map (·.2)).sum] := by
  have hlast := mo.lst
  unfold gH at hlast ⊢
  rw [List.range_succ, List.map_append] at hlast ⊢
  rw [List.getLastD_eq_getLast?] at hlast
  simp only [List.map_cons, List.map_nil, List.getLast?_append, List.getLast?_singleton, Option.some_or, Option.getD_some] at hlast
  simp only [List.map_cons, List.map_nil]
  rw [hlast]
  congr 1
  apply List.map_congr_left
  intro i _
  exact uP _ _ _ _
 have hpos := mo.pos
 have hBs := mo.sm
 clear mo
 generalize gK (rowsOf ps sh) = M at *
 generalize gH (d + 1) (rowsOf ps sh) (sh.map (·.2)) = V at *
 suffices h : Ok (aJ 9 (jQ φ1 φ2) [.lst (ps.map aK), .tup (sh.map pairD)] μ) (λ r => ∃ junk, r = (aK (iu V), μ ++ junk)) by
  obtain ⟨r, e, junk, h⟩ := h
  have h : r = (aK (iu V), μ ++ junk) := h
  rw [h] at e
  exact rZ e rfl (dJ.mpr kY) hm
 apply oX
 unfold jQ
 simp only [List.map_cons, List.map_nil, List.length_cons, List.length_nil, List.cons_append, List.nil_append, Nat.reduceAdd, Nat.reduceSub, List.replicate_succ, List.replicate_zero, CW, Er, w_c, Option.bind_some, pQ, sG, vM, EY, Dq, wZ, wJ, Bj, Option.map_some, List.set_cons_succ, List.set_cons_zero]
 refine gF (λ its δ μ' => ∃ (xs : List (Int × Int)) (m : Int) (o3 o4 : Option D) (k : Nat), its = xs.map pairD /\ μ' = μ /\ ph m (xs.map λ x => bU (qL ps x)) = M /\ 1 <= m /\ Sm k m /\ k + 6 * xs.length <= 700 /\ (∀ x ∈ xs, x ∈ sh) /\ δ = [some (.lst (ps.map aK)), some (.tup (sh.map pairD)), some (.int m), o3, o4, none, none, none, none]) ?_ ?_ _ _ _ ⟨sh, 1, none, none, 1, rfl, rfl, eM, by decide, by unfold Sm; decide, by omega, λ x h => h, rfl⟩
 .rintro dd rest δ μ' ⟨xs, m, o3, o4, k, hi, rfl, hlm, m1, hk, hkl, hsub, rfl⟩
  cases xs with
  | nil => cases hi
  | cons x xs =>
   obtain ⟨xk, xs2⟩ := x
   cases hi
   obtain ⟨k0, k1, _⟩ := hs _ (hsub _ (List.mem_cons_self ..))
   obtain ⟨ak, hrow⟩ := Gh hp k0 k1
   have hrx : qL ps (xk, xs2) = ps.getD xk.toNat [] := rfl
   rw [List.map_cons, Ci] at hlm
   simp only [hrx] at hlm
   simp only at ak hrow k0 k1
   generalize ps.getD xk.toNat [] = r at *
   have hlast := ql hrow (by omega)
   have b1 := hrow.b1
   have b2 := hrow.b2
   generalize bU r = b at *
   obtain ⟨g1, g2, g3, g4⟩ := ww m1 b1
   obtain ⟨f1, f2, f3, f4⟩ := sU m1 b1
   have eg := h1 m b μ'
   have em := dj (x := m) (y := b) μ' hk (lq (b := 6) 64 (by omega) (by decide)) (by simp at hkl; omega)
   have ed := gR (x := m * b) (y := (Int.gcd m b : Int)) (b := 6) μ' (by omega) (lq 64 (by omega) (by decide)) (by decide)
   rw [f3] at ed
   have sb : Sm 6 (b.fdiv (Int.gcd m b)) := lq 64 (by omega) (by decide)
   simp only [List.length_cons] at hkl
   generalize hm' : m * b.fdiv (Int.gcd m b) = m' at *
   simp [pairD, ak, hlast, em, eg, ed]
   refine ⟨xs, rfl, m', hlm, ?_, _, _, k + 6, by rw [<- hm']; exact lQ hk sb, by omega, λ a b' h => hsub _ (List.mem_cons_of_mem _ h), rfl, rfl, rfl⟩
   have := Int.mul_le_mul m1 f1 (by decide) (by omega)
   omega
 .rintro δ μ' ⟨xs, m, o3, o4, k, hi, rfl, hlm, m1, hk, hkl, hsub, rfl⟩
  cases xs with
  | cons b ms => cases hi
  | nil =>
  have hlm : m = M := hlm
  subst hlm
  obtain ⟨x0, hx0⟩ : ∃ x0, sh.head? = some x0 := by
   cases sh with
   | nil => exact absurd rfl hne
   | cons a b => exact ⟨a, rfl⟩
  have hx0m : x0 ∈ sh := List.mem_of_mem_head? hx0
  have a00 : atI (sh.map pairD) 0 = some (pairD x0) := by
   cases sh with
   | nil => cases hx0
   | cons a b => cases hx0; unfold atI ixN; simp
  obtain ⟨x0k, x0s⟩ := x0
  obtain ⟨k0, k1, _⟩ := hs _ hx0m
  obtain ⟨ak, hrow⟩ := Gh hp k0 k1
  simp only at ak hrow k0 k1
  have hlen0 := hrow.len
  generalize ps.getD x0k.toNat [] = r0 at *
  have at0 : atI [D.int x0k, D.int x0s] 0 = some (.int x0k) := rfl
  have eL : zZ (MC (ao (mC (.int 0)) (aD)) oLst) (M2 (MC (ao (M2 (aq 0) (M2 (M2 (aq 1) (mC (.int 0)) oIx) (mC (.int 0)) oIx) oIx) (aD)) (aZ cz)) (mC (.int 1)) jh) [some (.lst (ps.map aK)), some (.tup (sh.map pairD)), some (.int m), o3, o4, none, none, none, none] μ' = some (fnL d λ _ => 0, μ') := by
   have e1 : M2 (MC (ao (M2 (aq 0) (M2 (M2 (aq 1) (mC (.int 0)) oIx) (mC (.int 0)) oIx) oIx) (aD)) (aZ cz)) (mC (.int 1)) jh [some (.lst (ps.map aK)), some (.tup (sh.map pairD)), some (.int m), o3, o4, none, none, none, none] μ' = some (.int d, μ') := by
    have e2 : MC (ao (M2 (aq 0) (M2 (M2 (aq 1) (mC (.int 0)) oIx) (mC (.int 0)) oIx) oIx) (aD)) (aZ cz) [some (.lst (ps.map aK)), some (.tup (sh.map pairD)), some (.int m), o3, o4, none, none, none, none] μ' = some (.int (d + 1 : Nat), μ') := Gs hlen0 (by simp [a00, pairD, at0, ak])
    generalize MC (ao (M2 (aq 0) (M2 (M2 (aq 1) (mC (.int 0)) oIx) (mC (.int 0)) oIx) oIx) (aD)) (aZ cz) = F at e2 ⊢
    rw [Qi, e2]
    simp
   generalize M2 (MC (ao (M2 (aq 0) (M2 (M2 (aq 1) (mC (.int 0)) oIx) (mC (.int 0)) oIx) oIx) (aD)) (aZ cz)) (mC (.int 1)) jh = F at e1 ⊢
   have hrep : ∀ z : Int, z = d -> (if -(2 ^ 63) <= z /\ z < 2 ^ 63 /\ [D.int 0].length * z.toNat <= sizeLine then some ((List.replicate z.toNat [D.int 0]).flatten, μ') else none) = some (fnL d λ _ => 0, μ') := λ z hz => by
    rw [if_pos ⟨by omega, by omega, Nat.le_trans (by simp only [List.length_cons, List.length_nil]; omega : _ <= 1000) (by decide)⟩]
    have : z.toNat = d := by omega
    rw [this]
    unfold fnL
    simp [List.map_const']
   unfold zZ
   have e3 : MC (ao (mC (.int 0)) (aD)) oLst [some (.lst (ps.map aK)), some (.tup (sh.map pairD)), some (.int m), o3, o4, none, none, none, none] μ' = some (.lst [.int 0], μ') := by simp
   generalize MC (ao (mC (.int 0)) (aD)) oLst = G at e3 ⊢
   rw [e3]
   simp only [Option.bind_some]
   obtain ⟨dz, hdz⟩ : ∃ z : Int, z = d := ⟨_, rfl⟩
   rw [<- hdz] at e1
   rw [e1]
   exact hrep dz hdz
  generalize zZ (MC (ao (mC (.int 0)) (aD)) oLst) (M2 (MC (ao (M2 (aq 0) (M2 (M2 (aq 1) (mC (.int 0)) oIx) (mC (.int 0)) oIx) oIx) (aD)) (aZ cz)) (mC (.int 1)) jh) = LR at eL ⊢
  simp only [sG, vM, CW, Er, QL, eL, Option.bind_some, pQ, List.set_cons_succ, List.set_cons_zero, w_c, EY, Dq, wZ, wJ, Bj, Option.map_some]
  refine gF (λ its δ μ1 => ∃ (xs : List (Int × Int)) (t : Int) (g : Nat -> Int) (o3 o4 o7 o8 : Option D), its = xs.map pairD /\ μ1 = μ' ++ [some (fnL d g)] /\ (∀ x ∈ xs, x ∈ sh) /\ t + (xs.map (·.2)).sum = (sh.map (·.2)).sum /\ (∀ i, g i + (xs.map (term m ps i)).sum = (sh.map (term m ps i)).sum) /\ δ = [some (.lst (ps.map aK)), some (.tup (sh.map pairD)), some (.int m), o3, o4, some (.cell μ'.length), some (.int t), o7, o8]) ?_ ?_ _ _ _ ⟨sh, 0, λ _ => 0, _, _, _, _, rfl, rfl, λ x h => h, by simp, λ i => by simp, rfl⟩
  .rintro dd rest δ μ1 ⟨xs, t, g, o3, o4, o7, o8, hi, rfl, hsub, ht, hg, rfl⟩
   cases xs with
   | nil => cases hi
   | cons x xs =>
    obtain ⟨xk, xv⟩ := x
    cases hi
    obtain ⟨k0, k1, s1, s2⟩ := hs _ (hsub _ (List.mem_cons_self ..))
    obtain ⟨p7, p8, e⟩ := NQ (d := d) (ps := ps) (M := m) (k := xk) (s := xv) (t := t + xv) (μ := μ') (shD := .tup (sh.map pairD)) (g := g) (o7 := o7) (o8 := o8) hd2 hp k0 k1 s2 hMs
    unfold Aq at e
    simp only [pairD, QG, List.length_cons, List.length_nil, Nat.reduceAdd, if_true, Ii, Kf, Option.bind_some, Mw, pQ, sG, List.set_cons_succ, List.set_cons_zero, CW, Er, Qi, wZ, wJ, Qa, vM, e, HH]
    refine ⟨xs, t + xv, _, _, _, p7, p8, rfl, rfl, λ x h => hsub _ (List.mem_cons_of_mem _ h), ?_, λ i => ?_, rfl⟩
    .rw [<- ht]; simp; omega
    .rw [<- hg i, CJ]; omega
  .rintro δ μ1 ⟨xs, t, g, o3, o4, o7, o8, hi, rfl, hsub, ht, hg, rfl⟩
   cases xs with
   | cons b ms => cases hi
   | nil =>
   have ht : t = (sh.map (·.2)).sum := by simpa using ht
   subst ht
   have hg : ∀ i, g i = (sh.map (term m ps i)).sum := λ i => by simpa using hg i
   have efn : fnL d g = ((List.range d).map λ i => (sh.map (term m ps i)).sum).map D.int := by
    unfold fnL
    congr 1
    apply List.map_congr_left
    intro i _
    exact hg i
   have hlow := h2 ((List.range d).map λ i => (sh.map (term m ps i)).sum) (m * (sh.map (·.2)).sum) (μ' ++ [none]) (by omega) (dW hBs (by decide)) (by simp; omega) (by simp; omega)
   have hsg : sgn (m * (sh.map (·.2)).sum) = 1 := if_pos (by omega)
   rw [hsg, Int.one_mul, <- vL, <- eV] at hlow
   have hB1 : Sm 2100 (sh.map (·.2)).sum := by
    obtain ⟨_, s2⟩ := zO (sh.map (·.2)) 2000 hss
    have : (sh.map (·.2)).length * 2 ^ 2000 < 2 ^ 6 * 2 ^ 2000 := Nat.mul_lt_mul_of_pos_right (by simp; omega) (Nat.two_pow_pos _)
    rw [<- Nat.pow_add] at this
    exact dW (show Sm 2006 _ by unfold Sm; omega) (by decide)
   have em := dj (x := m) (y := (sh.map (·.2)).sum) (μ' ++ [none]) hMs hB1 (by decide)
   have elow : V.map (λ n => D.int (n.fdiv (bw 0 V : Nat))) = (iu V).map D.int := by unfold iu; simp
   rw [elow] at hlow
   rw [efn]
   generalize ((List.range d).map λ i => (sh.map (term m ps i)).sum).map D.int = nD at *
   generalize (sh.map (·.2)).sum = B at *
   simp [em, hlow, aK]
def okD : Nat -> D -> Prop
 | _, .non => True
 | _, .bl _ => True
 | _, .str _ => True
 | _, .int i => Sm 2000 i
 | n + 1, .tup ds => ∀ d ∈ ds, okD n d
 | n + 1, .lst ds => ∀ d ∈ ds, okD n d
 | _, _ => False
theorem jo : ∀ {n : Nat} {d : D}, okD n d -> cH d = true /\ fV d <= n /\ nc d
 | n, .non, _ => ⟨by simp [cH], by simp [fV], by simp [nc, cLt]⟩
 | n, .bl _, _ => ⟨by simp [cH], by simp [fV], by simp [nc, cLt]⟩
 | n, .str _, _ => ⟨by simp [cH], by simp [fV], by simp [nc, cLt]⟩
 | n, .int _, _ => ⟨by simp [cH], by simp [fV], by simp [nc, cLt]⟩
 | 0, .tup ds, h => by simp [okD] at h
 | 0, .lst ds, h => by simp [okD] at h
 | n + 1, .tup ds, h => by
  have h : ∀ d ∈ ds, okD n d := h
  have g : ∀ es : List D, (∀ d ∈ es, okD n d) -> fG es = true /\ iV es <= n := λ es => by
   induction es with
   | nil => exact λ _ => ⟨by rw [fG], by rw [iV]; omega⟩
   | cons e es ih =>
    intro he
    obtain ⟨a, b, _⟩ := jo (he e (by simp))
    obtain ⟨c, d⟩ := ih λ x hx => he x (by simp [hx])
    exact ⟨by rw [fG, a, c]; rfl, by rw [iV]; omega⟩
  obtain ⟨a, b⟩ := g ds h
  exact ⟨by rw [cH]; exact a, by rw [fV]; omega, dJ.mpr λ d hd => (jo (h d hd)).2.2⟩
 | n + 1, .lst ds, h => by
  have h : ∀ d ∈ ds, okD n d := h
  have g : ∀ es : List D, (∀ d ∈ es, okD n d) -> fG es = true /\ iV es <= n := λ es => by
   induction es with
   | nil => exact λ _ => ⟨by rw [fG], by rw [iV]; omega⟩
   | cons e es ih =>
    intro he
    obtain ⟨a, b, _⟩ := jo (he e (by simp))
    obtain ⟨c, d⟩ := ih λ x hx => he x (by simp [hx])
    exact ⟨by rw [fG, a, c]; rfl, by rw [iV]; omega⟩
  obtain ⟨a, b⟩ := g ds h
  exact ⟨by rw [cH]; exact a, by rw [fV]; omega, yU.mpr λ d hd => (jo (h d hd)).2.2⟩
 | 0, .ro _, h => by simp [okD] at h
 | n + 1, .ro _, h => by simp [okD] at h
 | 0, .dic _, h => by simp [okD] at h
 | n + 1, .dic _, h => by simp [okD] at h
 | 0, .cell _, h => by simp [okD] at h
 | n + 1, .cell _, h => by simp [okD] at h
theorem rR : ∀ {n : Nat} {d : D}, okD n d -> okD (n + 1) d
 | n, .non, _ => by simp [okD]
 | n, .bl _, _ => by simp [okD]
 | n, .str _, _ => by simp [okD]
 | n, .int i, h => by cases n <;> simpa [okD] using h
 | 0, .tup ds, h => by simp [okD] at h
 | 0, .lst ds, h => by simp [okD] at h
 | n + 1, .tup ds, h => λ d hd => rR ((show ∀ d ∈ ds, okD n d from h) d hd)
 | n + 1, .lst ds, h => λ d hd => rR ((show ∀ d ∈ ds, okD n d from h) d hd)
 | 0, .ro _, h => by simp [okD] at h
 | n + 1, .ro _, h => by simp [okD] at h
 | 0, .dic _, h => by simp [okD] at h
 | n + 1, .dic _, h => by simp [okD] at h
 | 0, .cell _, h => by simp [okD] at h
 | n + 1, .cell _, h => by simp [okD] at h
theorem pH {n k : Nat} {d : D} (h : okD n d) : okD (n + k) d := by
 induction k with
 | zero => exact h
 | succ k ih => exact rR ih
theorem nO : ∀ (a b : List Int), jC (a.map D.int) (b.map D.int) = (a == b)
 | [], [] => by simp [jC]
 | [], b :: bs => by simp [jC]
 | a :: as, [] => by simp [jC]
 | a :: as, b :: bs => by simp [jC, eqD, nO as bs]
theorem Gz (a b : List Int) (μ : Mu) : oEq (aK a) (aK b) μ = some (.bl (a == b), μ) := by
 unfold oEq
 have e1 : ∀ c : List Int, rsv (aK c) μ = aK c := λ c => rfl
 have e2 : ∀ c : List Int, cH (aK c) = true := λ c => by unfold aK; rw [cH]; exact lM c
 have e3 : fV (aK a) < 100 := by unfold aK; rw [fV, nJ]; decide
 have e4 : eqD (aK a) (aK b) = (a == b) := by unfold aK; rw [eqD, nO]
 rw [e1, e1, e2, e2, e4, if_pos ⟨rfl, e3⟩]
theorem Bb (a b : List Int) (μ : Mu) : oNe (aK a) (aK b) μ = some (.bl (!(a == b)), μ) := by
 unfold oNe
 have e1 : ∀ c : List Int, rsv (aK c) μ = aK c := λ c => rfl
 have e2 : ∀ c : List Int, cH (aK c) = true := λ c => by unfold aK; rw [cH]; exact lM c
 have e3 : fV (aK a) < 100 := by unfold aK; rw [fV, nJ]; decide
 have e4 : eqD (aK a) (aK b) = (a == b) := by unfold aK; rw [eqD, nO]
 rw [e1, e1, e2, e2, e4, if_pos ⟨rfl, e3⟩]
def pairOf : D -> Int × Int
 | .tup [.int k, .int s] => (k, s)
 | _ => (0, 0)
def lN : D -> Bool
 | .tup [.int _, .int _] => true
 | _ => false
def bK (many : Int) (d : D) : Bool := lN d && decide (0 <= (pairOf d).1 /\ (pairOf d).1 < many /\ 1 <= (pairOf d).2)
def uA : List (Int × Int) -> Bool
 | [] => true
 | a :: l => match l with
  | [] => true
  | b :: _ => decide (a.1 < b.1) && uA l
def cQ (many : Int) : D -> Bool
 | .tup ds => !ds.isEmpty && (ds.all (bK many) && uA (ds.map pairOf))
 | _ => false
theorem rO {d : D} (h : lN d = true) : d = pairD (pairOf d) := by
 unfold lN at h
 split at h
 .rfl
 .cases h
theorem uo {many : Int} : ∀ {ds : List D}, ds.all (bK many) = true -> ds = (ds.map pairOf).map pairD
 | [], _ => rfl
 | d :: ds, h => by
  rw [List.all_cons, Bool.and_eq_true] at h
  have h1 := h.1
  unfold bK at h1
  rw [Bool.and_eq_true] at h1
  rw [List.map_cons, List.map_cons, <- rO h1.1, <- uo h.2]
theorem xr {φ : FF} (hφ : zF φ) (many : Int) (d : D) (μ : Mu) (h : nc d) : trunc (aJ 2 (eN φ)) [.int many, d] μ = some (.bl (bK many d), μ) := by
 apply cj
 have e1 := hφ d μ h
 cases hn : oN d with
 | false =>
  rw [hn] at e1
  have es : bK many d = false := by
   unfold bK
   cases hp : lN d with
   | false => rfl
   | true =>
    have := rO hp
    rw [this] at hn
    unfold pairD oN at hn
    simp at hn
  rw [es]
  simp [eN, e1]
 | true =>
  rw [hn] at e1
  cases d with
  | tup ds =>
   have hd := ints_of hn
   generalize ds.map intOf = ns at hd
   subst hd
   by_cases hl : ns.length = 2
   .match ns, hl with
    | [k, s], _ =>
     have at0 : atI [D.int k, D.int s] 0 = some (.int k) := rfl
     have at1 : atI [D.int k, D.int s] 1 = some (.int s) := rfl
     have es : bK many (.tup ([k, s].map D.int)) = decide (0 <= k /\ k < many /\ 1 <= s) := by
      show (true && decide (0 <= k /\ k < many /\ 1 <= s)) = _
      simp
     rw [es]
     simp only [List.map_cons, List.map_nil] at e1 ⊢
     by_cases c1 : 0 <= k
     .by_cases c2 : k < many
      .simp [eN, e1, at0, at1, c1, c2]
      .simp [eN, e1, at0, at1, c1, c2]
     .simp [eN, e1, at0, at1, c1]
   .have es : bK many (.tup (ns.map D.int)) = false := by
     unfold bK
     cases hp : lN (.tup (ns.map D.int)) with
     | false => rfl
     | true =>
      have := rO hp
      unfold pairD at this
      injection this with this
      have := congrArg List.length this
      simp at this
      exact absurd this hl
    rw [es]
    have hlb : ((ns.length : Int) == 2) = false := by
     have : (ns.length : Int) ≠ 2 := by omega
     simpa using this
    simp [eN, e1, hlb]
  | _ => cases hn
def yJ (φ : FF) : Prop := ∀ (many : Int) (d : D) (μ : Mu), nc d -> φ [.int many, d] μ = some (.bl (bK many d), μ)
theorem Bl : ∀ (l : List (Int × Int)), (l.zip (l.drop 1)).all (λ p => decide (p.1.1 < p.2.1)) = uA l
 | [] => rfl
 | [a] => rfl
 | a :: b :: l => by
  have ih := Bl (b :: l)
  simp only [List.drop_succ_cons, List.drop_zero] at ih ⊢
  rw [List.zip_cons_cons, List.all_cons, ih]
  rfl
theorem vP {φ : FF} (hφ : yJ φ) (many : Int) (d : D) (μ : Mu) (h : nc d) : trunc (aJ 2 (dF φ)) [.int many, d] μ = some (.bl (cQ many d), μ) := by
 apply cj
 cases d with
 | cell n => simp [nc, cLt] at h
 | ro ds => simp [dF, cQ, iW, zJ]
 | tup ds =>
  by_cases hne : ds = []
  .subst hne
   simp [dF, cQ]
  .have hem : ds.isEmpty = false := by cases ds <;> simp_all
   have hlb : ((ds.length : Int) == 0) = false := by
    have : (ds.length : Int) ≠ 0 := by have := List.length_pos_iff.mpr hne; omega
    simpa using this
   have ea := jW (th := thG (hName 0) (MC (ao (aq 1) (ao (aq 0) aD)) φ) (cT ["part"] [some (.int many), some (D.tup ds)] [0])) (p := bK many) (μ := μ) ds λ x hx => by
    simp [thG, cT, hφ many x μ (dJ.mp h x hx)]
   have es : cQ many (.tup ds) = (ds.all (bK many) && uA (ds.map pairOf)) := by
    show (!ds.isEmpty && (ds.all (bK many) && uA (ds.map pairOf))) = _
    rw [hem]; rfl
   rw [es]
   cases ha : ds.all (bK many) with
   | false =>
    rw [ha] at ea
    simp [dF, hlb, ea]
   | true =>
    rw [ha] at ea
    have hd := uo ha
    generalize ds.map pairOf = sh at hd
    have hsl := vO (ds := ds) (i := 1) (μ := μ) (by decide) (by have := List.length_pos_iff.mpr hne; omega)
    rw [show (1 : Int).toNat = 1 from rfl] at hsl
    have ez : jV ds (ds.drop 1) = (sh.zip (sh.drop 1)).map λ p => .tup [pairD p.1, pairD p.2] := by
     rw [hd, <- List.map_drop, lG]
    have eb := jW (th := thG (iw 2 (bj (hName 0) (bj (hName 1) gZ))) (M2 (M2 (aq 0) (mC (.int 0)) oIx) (M2 (aq 1) (mC (.int 0)) oIx) oLt) (cT ["one", "other"] [some (.int many), some (D.tup ds)] [])) (p := λ d => match d with | .tup [a, b] => decide ((pairOf a).1 < (pairOf b).1) | _ => false) (μ := μ) (jV ds (ds.drop 1)) λ x hx => by
     rw [ez] at hx
     obtain ⟨⟨⟨a1, a2⟩, ⟨b1, b2⟩⟩, _, rfl⟩ := List.mem_map.mp hx
     have at0 : ∀ u v : Int, atI [D.int u, D.int v] 0 = some (.int u) := λ _ _ => rfl
     simp [thG, cT, pairD, at0, pairOf]
     try rfl
    have er : (jV ds (ds.drop 1)).all (λ d => match d with | .tup [a, b] => decide ((pairOf a).1 < (pairOf b).1) | _ => false) = uA sh := by
     rw [ez, List.all_map, <- Bl]
     congr 1
    rw [er] at eb
    generalize ds.drop 1 = es' at *
    simp [dF, hlb, ea, hsl, eb]
 | _ => simp [dF, cQ]
def chB (b : Int) : List (Int × Int) -> Bool
 | [] => true
 | a :: l => decide (b < a.1) && chB a.1 l
theorem DY : ∀ (l : List (Int × Int)) (a : Int × Int), chB a.1 l = uA (a :: l)
 | [], a => rfl
 | b :: l, a => by
  show (decide (a.1 < b.1) && chB b.1 l) = (decide (a.1 < b.1) && uA (b :: l))
  rw [DY l b]
theorem zB {many : Int} {ds : List D} : cQ many (.tup ds) = (!ds.isEmpty && (ds.all (bK many) && chB (-1) (ds.map pairOf))) := by
 show (!ds.isEmpty && (ds.all (bK many) && uA (ds.map pairOf))) = _
 cases ds with
 | nil => rfl
 | cons d ds =>
  cases ha : (d :: ds).all (bK many) with
  | false => rfl
  | true =>
   rw [List.all_cons, Bool.and_eq_true] at ha
   have h1 := ha.1
   unfold bK at h1
   rw [Bool.and_eq_true] at h1
   have h2 := of_decide_eq_true h1.2
   rw [List.map_cons]
   show _ = (_ && (true && (decide (-1 < (pairOf d).1) && chB (pairOf d).1 (ds.map pairOf))))
   rw [DY, decide_eq_true (by omega : -1 < (pairOf d).1)]
   rfl
def uO (φ : FF) : Prop := ∀ (many : Int) (d : D) (μ : Mu), nc d -> φ [.int many, d] μ = some (.bl (cQ many d), μ)
theorem ux {φ : FF} (hφ : uF φ) (many : Int) (d : D) (μ : Mu) (hn : nc d) : trunc (aJ 4 (cA φ)) [.int many, d] μ = some (.bl (cQ many d), μ) := by
 apply cj
 cases d with
 | cell n => simp [nc, cLt] at hn
 | ro ds => simp [cA, iW, zJ, cQ]
 | tup ds =>
  have hnd := dJ.mp hn
  have eu : zX (.tup ds) (.tup []) μ = some (.bl ds.isEmpty, μ) := rfl
  rw [zB]
  cases hem : ds.isEmpty with
  | true =>
   rw [hem] at eu
   simp [cA, eu]
  | false =>
   rw [hem] at eu
   simp [cA, eu]
   refine gF (λ its δ μ' => ∃ (b : Int) (o : Option D), μ' = μ /\ -1 <= b /\ (∀ x ∈ its, nc x) /\ (ds.all (bK many) && chB (-1) (ds.map pairOf)) = (its.all (bK many) && chB b (its.map pairOf)) /\ δ = [some (.int many), some (.tup ds), some (.int b), o]) ?_ ?_ _ _ _ ⟨-1, none, rfl, by decide, hnd, rfl, rfl⟩
   .rintro x rest δ μ' ⟨b, o, rfl, hb1, hx, hv, rfl⟩
    have hxn := hx x (by simp)
    have bad : bK many x = false -> (ds.all (bK many) && chB (-1) (ds.map pairOf)) = false := λ z => by
     rw [hv, List.all_cons, z]; rfl
    cases hp : lN x with
    | false =>
     have hs : bK many x = false := by unfold bK; rw [hp]; rfl
     have hbad := bad hs
     generalize (ds.all (bK many) && chB (-1) (ds.map pairOf)) = VV at *
     subst hbad
     cases x with
     | tup es =>
      by_cases hl : es.length = 2
      .match es, hl with
       | [u, v], _ =>
        have nu : nc u := dJ.mp hxn u (by simp)
        have nv : nc v := dJ.mp hxn v (by simp)
        have at0 : atI [u, v] 0 = some u := rfl
        have at1 : atI [u, v] 1 = some v := rfl
        have eu := hφ u μ' nu
        have ev := hφ v μ' nv
        cases hu : isInt u with
        | false => rw [hu] at eu; simp [at0, eu]
        | true =>
         rw [hu] at eu
         cases hvv : isInt v with
         | false => rw [hvv] at ev; simp [at0, at1, eu, ev]
         | true =>
          cases u <;> simp [isInt] at hu
          cases v <;> simp [isInt] at hvv
          simp [lN] at hp
      .have hlb : ((es.length : Int) == 2) = false := by
        have : (es.length : Int) ≠ 2 := by omega
        simpa using this
       simp [hlb]
     | cell n => simp [nc, cLt] at hxn
     | ro es => simp [iW, zJ]
     | _ => simp
    | true =>
     have hxe := rO hp
     generalize hpo : pairOf x = p at hxe
     obtain ⟨k, s⟩ := p
     have at0 : atI [D.int k, D.int s] 0 = some (.int k) := rfl
     have at1 : atI [D.int k, D.int s] 1 = some (.int s) := rfl
     have ek : φ [.int k] μ' = some (.bl true, μ') := hφ (.int k) μ' vQ
     have es : φ [.int s] μ' = some (.bl true, μ') := hφ (.int s) μ' vQ
     have hsh : bK many x = decide (0 <= k /\ k < many /\ 1 <= s) := by unfold bK; rw [hp, hpo]; rfl
     rw [List.all_cons, List.map_cons, hpo, hsh] at hv
     have hch : chB b ((k, s) :: rest.map pairOf) = (decide (b < k) && chB k (rest.map pairOf)) := rfl
     rw [hch] at hv
     generalize (ds.all (bK many) && chB (-1) (ds.map pairOf)) = VV at *
     have hxe : x = .tup [.int k, .int s] := hxe
     subst hxe
     by_cases c1 : k <= b
     .have : ¬ b < k := by omega
      simp only [this, decide_false, Bool.false_and, Bool.and_false] at hv
      subst hv
      simp [at0, at1, ek, es, c1]
     .by_cases c2 : many <= k
      .have : ¬ (0 <= k /\ k < many /\ 1 <= s) := by omega
       simp only [this, decide_false, Bool.false_and] at hv
       subst hv
       simp [at0, at1, ek, es, c1, c2]
      .by_cases c3 : s < 1
       .have : ¬ (0 <= k /\ k < many /\ 1 <= s) := by omega
        simp only [this, decide_false, Bool.false_and] at hv
        subst hv
        simp [at0, at1, ek, es, c1, c2, c3]
       .simp [at0, at1, ek, es, c1, c2, c3]
        have t1 : 0 <= k /\ k < many /\ 1 <= s := by omega
        have t2 : b < k := by omega
        rw [decide_eq_true t1, decide_eq_true t2] at hv
        exact ⟨k, by omega, λ y hy => hx y (List.mem_cons_of_mem _ hy), by simpa using hv, rfl⟩
   .rintro δ μ' ⟨b, o, rfl, hb1, hx, hv, rfl⟩
    have hv : (ds.all (bK many) && chB (-1) (ds.map pairOf)) = true := hv
    rw [hv]
    simp
 | _ => simp [cA, cQ]
theorem tM {φ : FF} (hφ : uF φ) (many : Int) (d : D) (μ : Mu) (h : okD 60 d) : trunc (aJ 4 (cA φ)) [.int many, d] μ = some (.bl (cQ many d), μ) := ux hφ many d μ (jo h).2.2
def CP (φ : FF) : Prop := ∀ (ns : List Int) (b : Int) (μ : Mu), 1 <= b -> Sm 4000 b -> ns.length <= 50 -> φ [.tup (ns.map .int), .int b] μ = some (aK (iu (ns ++ [b])), μ)
theorem Hx {φ : FF} (hφ : mH φ) : CP (trunc (aJ 4 (dM φ))) := λ ns b μ hb hs hl => by
 apply cj
 unfold dM
 simp
 refine gF (λ its δ μ' => ∃ (ms : List Int) (c : Int) (o : Option D), its = ms.map .int /\ μ' = μ /\ 0 < c /\ bw c.natAbs ms = bw b.natAbs ns /\ δ = [some (.tup (ns.map .int)), some (.int b), some (.int c), o]) ?_ ?_ _ _ _ ⟨ns, b, none, rfl, rfl, by omega, rfl, rfl⟩
 .rintro d rest δ μ' ⟨ms, c, o, hi, rfl, hc, hg, rfl⟩
  cases ms with
  | nil => cases hi
  | cons m ms =>
   cases hi
   have e := hφ c m μ'
   have hg0 : Int.gcd c m ≠ 0 := λ z => by rw [Int.gcd_eq_zero_iff] at z; omega
   simp [e]
   refine ⟨ms, rfl, .inl (by omega), ?_⟩
   have e1 : bw c.natAbs (m :: ms) = bw (Int.gcd (c.natAbs : Nat) m) ms := rfl
   rw [e1] at hg
   have e2 : Int.gcd ((c.natAbs : Nat) : Int) m = Int.gcd c m := by simp [Int.gcd]
   rw [e2] at hg
   simpa using hg
 .rintro δ μ' ⟨ms, c, o, hi, rfl, hc, hg, rfl⟩
  cases ms with
  | cons m ms => cases hi
  | nil =>
  have hg : c.natAbs = bw b.natAbs ns := hg
  have gd := (lw ns b.natAbs).2
  have hle := Nat.le_of_dvd (by omega) gd
  have hcs : Sm 4000 c := by unfold Sm at *; omega
  have el := gf (all := ns.map D.int) (h := hName 0) (fe := M2 (aq 0) (aq 1) oDiv) (δb := [none, some (.int c)]) (F := D.int) (f := λ n => .int (n.fdiv c)) (μ := μ') ns λ n _ => ⟨_, rfl, by simp [gR (x := n) μ' (show c ≠ 0 by omega) hcs (by decide)]⟩
  have ed := gR (x := b) μ' (show c ≠ 0 by omega) hcs (by decide)
  have hb0 : ¬ b < 0 := by omega
  have z1 : ns.length <= 1000 := by omega
  have z2 : ns.length + 1 <= sizeLine := Nat.le_trans (by omega : _ <= 1000) (by decide)
  have ev : iu (ns ++ [b]) = ns.map (λ n => n.fdiv c) ++ [b.fdiv c] := by
   unfold iu
   rw [vL, <- hg]
   have : ((c.natAbs : Nat) : Int) = c := by omega
   rw [this]
   simp
  rw [ev]
  simp [hb0, z1, cT, el, ed, z2, aK]
  try rfl
def cg (gs : List Int) : D := .tup (gs.map .int)
def inG (gs : List Int) (k : Int) : Bool := gs.any λ g => g == k
theorem Dd {neg : Bool} {gs : List Int} {k : Int} {μ : Mu} : oIn neg (.int k) (cg gs) μ = some (.bl (if neg then !inG gs k else inG gs k), μ) := by
 have e : inF (.int k) (gs.map D.int) = inG gs k := by
  unfold inF inG
  rw [List.any_map]
  rfl
 unfold oIn cg
 simp [sH, e]
def qQ : D -> List (Int × Int)
 | .tup ds => ds.map pairOf
 | _ => []
def uB : D -> Nat
 | .tup ds => ds.length
 | _ => 0
def gO (d1 : Nat) (ps : List (List Int)) (gs sp : List Int) (row : D) : Bool :=
 cQ ps.length row && ((qQ row).all (λ x => inG gs x.1) && (iu (gH d1 (rowsOf ps (qQ row)) ((qQ row).map (·.2))) == sp))
theorem pC {many : Int} {row : D} (h : cQ many row = true) : ∃ sh : List (Int × Int), row = .tup (sh.map pairD) /\ qQ row = sh /\ sh ≠ [] /\ ∀ x ∈ sh, 0 <= x.1 /\ x.1 < many /\ 1 <= x.2 := by
 cases row with
 | tup ds =>
  have h : (!ds.isEmpty && (ds.all (bK many) && uA (ds.map pairOf))) = true := h
  rw [Bool.and_eq_true, Bool.and_eq_true] at h
  refine ⟨ds.map pairOf, congrArg D.tup (uo h.2.1), rfl, λ z => ?_, λ x hx => ?_⟩
  .have : ds = [] := by simpa using z
   rw [this] at h
   simp at h
  .obtain ⟨d, hd, rfl⟩ := List.mem_map.mp hx
   have := (List.all_eq_true.mp h.2.1) d hd
   unfold bK at this
   rw [Bool.and_eq_true] at this
   exact of_decide_eq_true this.2
 | _ => cases h
theorem JL {n k : Nat} {sh : List (Int × Int)} (h : okD k (.tup (sh.map pairD))) (h2 : ∀ x ∈ sh, 0 <= x.1 /\ x.1 < n /\ 1 <= x.2) : Eo n sh := λ x hx => by
 refine ⟨(h2 x hx).1, (h2 x hx).2.1, (h2 x hx).2.2, ?_⟩
 cases k with
 | zero => simp [okD] at h
 | succ k =>
  have h : ∀ d ∈ sh.map pairD, okD k d := h
  have := h (pairD x) (List.mem_map.mpr ⟨x, hx, rfl⟩)
  cases k with
  | zero => simp [okD, pairD] at this
  | succ k =>
   have this : ∀ d ∈ [D.int x.1, D.int x.2], okD k d := this
   have := this (.int x.2) (by simp)
   simpa [okD] using this
structure Geo (d : Nat) (ps : List (List Int)) : Prop where
 d1 : 1 <= d
 d2 : d <= 3
 rows : ∀ p ∈ ps, eZ (d + 1) p
 len : ps.length <= 60
 ne : ps ≠ []
def Eb (φ : FF) : Prop := ∀ (d : Nat) (ps : List (List Int)) (gs sp : List Int) (row : D) (μ : Mu), Geo d ps -> okD 60 row -> uB row <= 60 -> φ [.lst (ps.map aK), cg gs, aK sp, row] μ = some (.bl (gO (d + 1) ps gs sp row), μ)
def Ka (φ : FF) : Prop := ∀ (ps : List (List Int)) (gs : List Int) (row : D) (μ : Mu), okD 60 row -> φ [.lst (ps.map aK), cg gs, row] μ = some (.bl (cQ ps.length row && (qQ row).all (λ x => inG gs x.1)), μ)
theorem Nx {φ1 : FF} (h1 : uO φ1) : Ka (trunc (aJ 3 (cB φ1))) := λ ps gs row μ ho => by
 apply cj
 have hn := (jo ho).2.2
 have e1 := h1 ps.length row μ hn
 cases hs : cQ ps.length row with
 | false =>
  rw [hs] at e1
  simp [cB, e1]
 | true =>
  rw [hs] at e1
  obtain ⟨sh, rfl, hsh, hne, hx⟩ := pC hs
  rw [hsh]
  have ea := jW (th := thG (iw 2 (bj (hName 0) (bj (hName 1) gZ))) (M2 (aq 0) (aq 2) (oIn false)) (cT ["k", "share"] [some (.lst (ps.map aK)), some (cg gs), some (.tup (sh.map pairD))] [1])) (p := λ d => inG gs (pairOf d).1) (μ := μ) (sh.map pairD) λ x hx => by
   obtain ⟨⟨k, s⟩, _, rfl⟩ := List.mem_map.mp hx
   simp [thG, cT, pairD, Dd, pairOf]
  have ev : (sh.map pairD).all (λ d => inG gs (pairOf d).1) = sh.all (λ x => inG gs x.1) := by rw [List.all_map]; rfl
  rw [ev] at ea
  generalize sh.map pairD = sD at *
  simp [cB, e1, ea]
theorem Fy {φ1 φ2 : FF} (h1 : Ka φ1) (h2 : wN φ2) : Eb (trunc (aJ 4 (gA φ1 φ2))) := λ d ps gs sp row μ G ho hl => by
 apply cj
 have e1 := h1 ps gs row μ ho
 have eL : gO (d + 1) ps gs sp row = (cQ ps.length row && ((qQ row).all (λ x => inG gs x.1) && (iu (gH (d + 1) (rowsOf ps (qQ row)) ((qQ row).map (·.2))) == sp))) := rfl
 rw [<- Bool.and_assoc] at eL
 cases hs : (cQ ps.length row && (qQ row).all (λ x => inG gs x.1)) with
 | false =>
  rw [hs] at e1 eL
  rw [eL]
  simp [gA, e1]
 | true =>
  rw [hs] at e1 eL
  rw [Bool.and_eq_true] at hs
  obtain ⟨sh, rfl, hsh, hne, hx⟩ := pC hs.1
  rw [eL, hsh]
  have hok := JL ho hx
  have hlen : sh.length <= 60 := by simpa [uB] using hl
  have em := h2 (d + 1) ps sh μ (by omega) (by have := G.d2; omega) G.rows hne hlen hok
  have eq := Gz (iu (gH (d + 1) (rowsOf ps sh) (sh.map (·.2)))) sp μ
  generalize iu (gH (d + 1) (rowsOf ps sh) (sh.map (·.2))) = V at *
  generalize sh.map pairD = sD at *
  simp [gA, e1, em, eq]
def ik (ps : List (List Int)) : D := .lst (ps.map aK)
def spI : D -> List Int
 | .tup ds => ds.map intOf
 | _ => []
def dB (d1 : Nat) (ps gss : List (List Int)) : D -> Bool
 | .tup [sp, .tup rows] => jq sp && (rows.length == gss.length && (gss.zip rows).all λ p => gO d1 ps p.1 (spI sp) p.2)
 | _ => false
def wM (n : Int) : D -> Bool
 | .tup ds => ((ds.length : Int) == n)
 | _ => false
theorem Nm (n : Int) (d : D) (μ : Mu) (h : nc d) : trunc (aJ 2 jH) [.int n, d] μ = some (.bl (wM n d), μ) := by
 apply cj
 cases d with
 | cell n => simp [nc, cLt] at h
 | ro ds => simp [jH, iW, zJ, wM]
 | _ => simp [jH, wM]
def KQ (φ : FF) : Prop := ∀ (n : Int) (d : D) (μ : Mu), nc d -> φ [.int n, d] μ = some (.bl (wM n d), μ)
def okP : D -> Prop
 | .tup [_, .tup rows] => ∀ r ∈ rows, uB r <= 60
 | _ => True
def pN (φ : FF) : Prop := ∀ (d : Nat) (ps gss : List (List Int)) (t : D) (μ : Mu), Geo d ps -> gss ≠ [] -> gss.length <= 60 -> ie μ -> okD 60 t -> okP t -> φ [ik ps, .lst (gss.map cg), t] μ = some (.bl (dB (d + 1) ps gss t), μ)
theorem CK {φ1 φ2 φ3 : FF} (h1 : KQ φ1) (h2 : Bh φ2) (h3 : Eb φ3) : pN (trunc (aJ 5 (bL φ1 φ2 φ3))) := λ d ps gss t μ G gne gl hm ho hp => by
 apply cj
 have hn := (jo ho).2.2
 have e1 := h1 2 t μ hn
 cases t with
 | tup ds =>
  by_cases hl : ds.length = 2
  .match ds, hl with
   | [sp, rows], _ =>
    have hns := dJ.mp hn sp (by simp)
    have hnr := dJ.mp hn rows (by simp)
    have e2 := h2 sp μ hns
    have e3 := h1 gss.length rows μ hnr
    have e1' : φ1 [.int 2, .tup [sp, rows]] μ = some (.bl true, μ) := e1
    cases hs : jq sp with
    | false =>
     rw [hs] at e2
     have eV : dB (d + 1) ps gss (.tup [sp, rows]) = false := by
      cases rows <;> simp [dB, hs]
     rw [eV]
     simp [bL, e1', e2]
    | true =>
     rw [hs] at e2
     obtain ⟨sl, rfl, _⟩ := Gn hs
     cases rows with
     | tup rs =>
      have eV : dB (d + 1) ps gss (.tup [.tup (sl.map .int), .tup rs]) = (rs.length == gss.length && (gss.zip rs).all λ p => gO (d + 1) ps p.1 sl p.2) := by
       show (jq (.tup (sl.map .int)) && (rs.length == gss.length && (gss.zip rs).all λ p => gO (d + 1) ps p.1 (spI (.tup (sl.map .int))) p.2)) = _
       rw [hs, show spI (.tup (sl.map .int)) = sl from ints_map sl]
       rfl
      rw [eV]
      by_cases hrl : rs.length = gss.length
      .have hrb : ((rs.length : Int) == (gss.length : Int)) = true := by simp [hrl]
       have e3' : φ1 [.int gss.length, .tup rs] μ = some (.bl true, μ) := by rw [e3]; simp [wM, hrb]
       have ho2 : ∀ x ∈ [D.tup (sl.map .int), .tup rs], okD 59 x := ho
       have ho3 : ∀ r ∈ rs, okD 58 r := ho2 (.tup rs) (by simp)
       have hp2 : ∀ r ∈ rs, uB r <= 60 := hp
       have ez := lG (F := cg) (G := id) gss rs
       rw [List.map_id] at ez
       have ea := jW (th := thG (iw 2 (bj (hName 0) (bj (hName 1) gZ))) (MC (ao (aq 2) (ao (aq 0) (ao (aq 3) (ao (aq 1) (aD))))) φ3) (cT ["group", "row"] [some (ik ps), some (.lst (gss.map cg)), some (.tup [aK sl, .tup rs]), some (aK sl), some (.tup rs)] [0, 3])) (p := λ x => match x with | .tup [g, r] => gO (d + 1) ps (spI g) sl r | _ => false) (μ := μ) (jV (gss.map cg) rs) λ x hx => by
        rw [ez] at hx
        obtain ⟨⟨g, r⟩, hgr, rfl⟩ := List.mem_map.mp hx
        have hm := List.of_mem_zip hgr
        have hor : okD 60 r := pH (k := 2) (ho3 r hm.2)
        have el := h3 d ps g sl r μ G hor (hp2 r hm.2)
        have eg : spI (cg g) = g := ints_map g
        simp only [id] at *
        rw [eg]
        simp [thG, cT, ik, el]
       have ev : (jV (gss.map cg) rs).all (λ x => match x with | .tup [g, r] => gO (d + 1) ps (spI g) sl r | _ => false) = (gss.zip rs).all λ p => gO (d + 1) ps p.1 sl p.2 := by
        rw [ez, List.all_map]
        congr 1
        funext p
        show gO (d + 1) ps (spI (cg p.1)) sl p.2 = _
        rw [show spI (cg p.1) = p.1 from ints_map p.1]
       rw [ev] at ea
       have hrs : D.tup (sl.map .int) = aK sl := rfl
       rw [hrs] at e1' e2 ⊢
       have hbb : (rs.length == gss.length) = true := by simp [hrl]
       rw [hbb, Bool.true_and]
       have elen : cz (.lst (gss.map cg)) μ = some (.int gss.length, μ) := by simp
       generalize (gss.zip rs).all (λ p => gO (d + 1) ps p.1 sl p.2) = VV at *
       generalize gss.map cg = gD at *
       simp [bL, e1', e2, e3', elen, ea]
      .have hrb : ((rs.length : Int) == (gss.length : Int)) = false := by
        have : (rs.length : Int) ≠ gss.length := by omega
        simpa using this
       have e3' : φ1 [.int gss.length, .tup rs] μ = some (.bl false, μ) := by rw [e3]; simp [wM, hrb]
       have hbb : (rs.length == gss.length) = false := by simpa using hrl
       rw [hbb, Bool.false_and]
       have elen : cz (.lst (gss.map cg)) μ = some (.int gss.length, μ) := by simp
       generalize gss.map cg = gD at *
       simp [bL, e1', e2, e3', elen]
     | _ =>
      have elen : cz (.lst (gss.map cg)) μ = some (.int gss.length, μ) := by simp
      generalize gss.map cg = gD at *
      simp [bL, e1', e2, e3, elen, dB, wM]
  .have hlb : ((ds.length : Int) == 2) = false := by
    have : (ds.length : Int) ≠ 2 := by omega
    simpa using this
   have e1' : φ1 [.int 2, .tup ds] μ = some (.bl false, μ) := by rw [e1]; simp [wM, hlb]
   have eV : dB (d + 1) ps gss (.tup ds) = false := by
    match ds, hl with
    | [], _ => rfl
    | [a], _ => rfl
    | a :: b :: c :: e, _ => cases b <;> rfl
    | [a, b], hl => exact absurd rfl hl
   rw [eV]
   simp [bL, e1']
 | _ => simp [bL, e1, dB, wM]
theorem Fx {v : List Int} : (iu v).length = v.length := by unfold iu; simp
theorem CT {d1 : Nat} {ps : List (List Int)} {gs sp : List Int} {row : D} (h : gO d1 ps gs sp row = true) : sp.length = d1 := by
 unfold gO at h
 rw [Bool.and_eq_true, Bool.and_eq_true] at h
 have e := eq_of_beq h.2.2
 rw [<- e, Fx]
 unfold gH
 simp
theorem Bo {v : List Int} (hne : v ≠ []) (h1 : 1 <= v.getLastD 0) : (iu v == v) = decide (bw 0 v = 1) := by
 have hmem : v.getLastD 0 ∈ v := by
  rw [List.getLastD_eq_getLast?, List.getLast?_eq_some_getLast hne]
  exact List.getLast_mem hne
 have hg0 : bw 0 v ≠ 0 := lA (.inr ⟨_, hmem, by omega⟩)
 by_cases hg : bw 0 v = 1
 .have : iu v = v := by
   unfold iu
   rw [hg]
   have : (λ n : Int => n.fdiv ((1 : Nat) : Int)) = id := by
    funext n
    show n.fdiv 1 = n
    exact Int.fdiv_one n
   rw [this, List.map_id]
  rw [this, hg]
  simp
 .have : ¬ iu v = v := λ e => by
   have e1 : (iu v).getLastD 0 = v.getLastD 0 := by rw [e]
   unfold iu at e1
   rw [List.getLastD_eq_getLast?, List.getLast?_map, List.getLast?_eq_some_getLast hne] at e1
   simp only [Option.map_some, Option.getD_some] at e1
   have e2 : v.getLast hne = v.getLastD 0 := by rw [List.getLastD_eq_getLast?, List.getLast?_eq_some_getLast hne]; rfl
   rw [e2] at e1
   generalize v.getLastD 0 = l at *
   rw [Int.fdiv_eq_ediv_of_nonneg l (by omega)] at e1
   have : l / (bw 0 v : Nat) < l := Int.ediv_lt_self_of_pos_of_ne_one (by omega) (by omega)
   omega
  rw [decide_eq_false hg]
  simpa using this
theorem yD {d1 : Nat} {ps gss : List (List Int)} {sp rows : D} (h : dB d1 ps gss (.tup [sp, rows]) = true) (hg : gss ≠ []) : jq sp = true /\ (spI sp).length = d1 := by
 cases rows with
 | tup rs =>
  have h : (jq sp && (rs.length == gss.length && (gss.zip rs).all λ p => gO d1 ps p.1 (spI sp) p.2)) = true := h
  rw [Bool.and_eq_true, Bool.and_eq_true] at h
  have hl : rs.length = gss.length := eq_of_beq h.2.1
  refine ⟨h.1, ?_⟩
  cases gss with
  | nil => exact absurd rfl hg
  | cons g gss =>
   cases rs with
   | nil => simp at hl
   | cons r rs =>
    rw [List.zip_cons_cons, List.all_cons, Bool.and_eq_true] at h
    exact CT h.2.2.1
 | _ => cases h
theorem Iv {μ : Mu} (ds : List D) (p : D -> Bool) : xy ((ds.map λ d => D.bl (p d)).map thE) μ = some (ds.all p, μ) := by
 have := jW (th := thE) (p := λ d => match d with | .bl b => b | _ => false) (μ := μ) (ds.map λ d => D.bl (p d)) λ x hx => by
  obtain ⟨d, _, rfl⟩ := List.mem_map.mp hx
  rfl
 rw [this, List.all_map]
 rfl
def Bv (φ : FF) : Prop := ∀ (many : Int) (d : D) (μ : Mu), okD 60 d -> φ [.int many, d] μ = some (.bl (cQ many d), μ)
def NT (φ : FF) : Prop := ∀ (d : Nat) (ps : List (List Int)) (sh : List (Int × Int)) (μ : Mu), ie μ -> 1 <= d -> d <= 9 -> (∀ p ∈ ps, eZ (d + 1) p) -> sh ≠ [] -> sh.length <= 60 -> Eo ps.length sh -> φ [.lst (ps.map aK), .tup (sh.map pairD)] μ = some (aK (iu (gH (d + 1) (rowsOf ps sh) (sh.map (·.2)))), μ)
theorem uC {φ1 φ2 φ3 φ4 : FF} (h1 : uF φ1) (h2 : CP φ2) (h3 : Bv φ3) (h4 : NT φ4) : pN (trunc (aJ 7 (aY φ1 φ2 φ3 φ4))) := λ d ps gss t μ G gne gl hm ho hp => by
 apply cj
 have hn := (jo ho).2.2
 have hd1 := G.d1
 have hd2 := G.d2
 cases t with
 | cell n => simp [nc, cLt] at hn
 | ro ds => simp [okD] at ho
 | tup ds =>
  by_cases hl : ds.length = 2
  .match ds, hl with
   | [a, rows], _ =>
    have hna := dJ.mp hn a (by simp)
    have hnr := dJ.mp hn rows (by simp)
    have at0 : atI [a, rows] 0 = some a := rfl
    cases a with
    | tup es =>
     obtain ⟨r0, a0, hr0⟩ : ∃ r0, atI (ps.map aK) 0 = some (aK r0) /\ r0 ∈ ps := by
      obtain ⟨x, y⟩ := kI (F := aK) (l := ps) (k := 0) (z := []) (by decide) (by have := List.length_pos_iff.mpr G.ne; omega)
      exact ⟨_, x, y⟩
     have hr0l := (G.rows r0 hr0).len
     by_cases hel : es.length = d + 1
     .have hlb : ((es.length : Int) == (r0.length : Int)) = true := by simp [hel, hr0l]
      have hz : es.length <= 1000 := by omega
      have nospot : jq (.tup es) = false -> dB (d + 1) ps gss (.tup [.tup es, rows]) = false := λ hx => by
       cases rows <;> simp [dB, hx]
      have ew := xf (all := es) (h := hName 0) (fe := MC (ao (aq 0) aD) φ1) (δb := [none]) (f := λ x => .bl (isInt x)) (μ := μ) es λ x hx => ⟨_, rfl, by simp [h1 x μ (dJ.mp hna x hx)]⟩
      have eall := Iv (μ := μ) es isInt
      generalize es.map (λ x => D.bl (isInt x)) = bD at ew eall
      cases hi : es.all isInt with
      | false =>
       rw [hi] at eall
       rw [nospot (by rw [nZ, hi]; rfl)]
       simp [aY, at0, ik, a0, hlb, hz, cT, ew, eall]
      | true =>
       rw [hi] at eall
       have hd := ints_of hi
       generalize es.map intOf = sl at hd
       subst hd
       simp only [List.length_map] at hlb hz
       have hsl : sl.length = d + 1 := by simpa using hel
       have hsne : sl ≠ [] := λ z => by rw [z] at hsl; simp at hsl
       have hsne' : sl.map D.int ≠ [] := by simpa using hsne
       have elast := nT hsne
       have einit := wL (μ := μ) hsne'
       have hdl : (sl.map D.int).dropLast = sl.dropLast.map D.int := by rw [List.map_dropLast]
       rw [hdl] at einit
       have hjoin : sl.dropLast ++ [sl.getLastD 0] = sl := by
        rw [List.getLastD_eq_getLast?, List.getLast?_eq_some_getLast hsne]
        exact List.dropLast_concat_getLast hsne
       have hspI : spI (.tup (sl.map .int)) = sl := ints_map sl
       have ho2 : ∀ x ∈ [D.tup (sl.map .int), rows], okD 59 x := ho
       have ho2' : ∀ x ∈ sl.map D.int, okD 58 x := ho2 _ (List.mem_cons_self ..)
       have hlsm : Sm 2000 (sl.getLastD 0) := by
        have hmem : sl.getLastD 0 ∈ sl := by
         rw [List.getLastD_eq_getLast?, List.getLast?_eq_some_getLast hsne]
         exact List.getLast_mem hsne
        have := ho2' (.int (sl.getLastD 0)) (List.mem_map.mpr ⟨_, hmem, rfl⟩)
        simpa [okD] using this
       by_cases hb : sl.getLastD 0 < 1
       .rw [nospot (by
         rw [jU]
         unfold kJ
         rw [decide_eq_false_iff_not]
         rintro ⟨_, _, z, _⟩
         omega)]
        generalize sl.getLastD 0 = l at *
        simp [aY, at0, ik, a0, hlb, hz, cT, ew, eall, elast, hb]
       .have elow := h2 sl.dropLast (sl.getLastD 0) μ (by omega) (dW hlsm (by decide)) (by simp; omega)
        rw [hjoin] at elow
        have ene := Bb (iu sl) sl μ
        rw [Bo hsne (by omega)] at ene
        have hrw : D.tup (sl.map .int) = aK sl := rfl
        by_cases hg : bw 0 sl = 1
        .rw [decide_eq_true hg] at ene
         have hspot : jq (.tup (sl.map .int)) = true := by
          rw [jU]
          unfold kJ
          exact decide_eq_true ⟨by omega, by omega, by omega, hg⟩
         have elen : cz (.lst (gss.map cg)) μ = some (.int gss.length, μ) := by simp
         have hgl : (gss.map cg).length = gss.length := by simp
         have ezz := λ rs : List D => lG (F := cg) (G := id) gss rs
         cases rows with
         | tup rs =>
          have eV : dB (d + 1) ps gss (.tup [.tup (sl.map .int), .tup rs]) = (rs.length == gss.length && (gss.zip rs).all λ p => gO (d + 1) ps p.1 sl p.2) := by
           show (jq (.tup (sl.map .int)) && (rs.length == gss.length && (gss.zip rs).all λ p => gO (d + 1) ps p.1 (spI (.tup (sl.map .int))) p.2)) = _
           rw [hspot, hspI]
           rfl
          rw [eV]
          by_cases hrl : rs.length = gss.length
          .have hrb : ((rs.length : Int) == (gss.length : Int)) = true := by simp [hrl]
           have hbb : (rs.length == gss.length) = true := by simp [hrl]
           rw [hbb, Bool.true_and]
           have ho3 : ∀ r ∈ rs, okD 58 r := ho2 (.tup rs) (by simp)
           have hp2 : ∀ r ∈ rs, uB r <= 60 := hp
           have ez := ezz rs
           rw [List.map_id] at ez
           generalize hVV : (gss.zip rs).all (λ p => gO (d + 1) ps p.1 sl p.2) = VV
           generalize hgD : gss.map cg = gD at *
           generalize sl.getLastD 0 = l at *
           generalize sl.dropLast.map D.int = iD at *
           simp [aY, at0, ik, a0, hlb, hz, cT, ew, eall, elast, hb, einit]
           rw [show D.tup (List.map D.int sl) = aK sl from rfl]
           simp [elow, ene, elen, hgl, hrb, ez]
           refine gF (λ its δ μ' => ∃ (prs : List (List Int × D)) (o5 o6 : Option D), its = prs.map (λ p => .tup [cg p.1, p.2]) /\ μ' = μ /\ prs.all (λ p => gO (d + 1) ps p.1 sl p.2) = VV /\ (∀ p ∈ prs, okD 60 p.2 /\ uB p.2 <= 60) /\ δ = [some (.lst (ps.map aK)), some (.lst gD), some (.tup [aK sl, .tup rs]), some (aK sl), some (.tup rs), o5, o6]) ?_ ?_ _ _ _ ⟨gss.zip rs, none, none, rfl, rfl, hVV, λ p hp' => by
            have hm := List.of_mem_zip (show (p.1, p.2) ∈ gss.zip rs from hp')
            exact ⟨pH (k := 2) (ho3 _ hm.2), hp2 _ hm.2⟩, rfl⟩
           .rintro it rest δ μ' ⟨prs, o5, o6, hi, rfl, hv, hpr, rfl⟩
            cases prs with
            | nil => cases hi
            | cons p prs =>
             obtain ⟨g, row⟩ := p
             cases hi
             obtain ⟨hro, hrl'⟩ := hpr (g, row) (List.mem_cons_self ..)
             have es := h3 ps.length row μ' hro
             rw [List.all_cons] at hv
             have eL : gO (d + 1) ps g sl row = (cQ ps.length row && ((qQ row).all (λ x => inG g x.1) && (iu (gH (d + 1) (rowsOf ps (qQ row)) ((qQ row).map (·.2))) == sl))) := rfl
             simp only at hv
             rw [eL] at hv
             cases hsB : cQ ps.length row with
             | false =>
              rw [hsB] at es hv
              have hv : VV = false := by rw [<- hv]; rfl
              subst hv
              simp [es]
             | true =>
              rw [hsB] at es hv
              obtain ⟨sh, rfl, hsh, hne, hx⟩ := pC hsB
              rw [hsh] at hv
              have hok := JL hro hx
              have hlen : sh.length <= 60 := by simpa [uB] using hrl'
              have em := h4 d ps sh μ' hm hd1 (by omega) G.rows hne hlen hok
              have ef := tV (all := sh.map pairD) (h := iw 2 (bj (hName 0) (bj (hName 1) gZ))) (tt := toB (M2 (aq 0) (aq 2) (oIn true))) (fe := aq 0) (δb := [none, none, some (cg g)]) (p := λ d => !inG g (pairOf d).1) (f := λ d => .int (pairOf d).1) (μ := μ') (sh.map pairD) λ x hx => by
               obtain ⟨⟨k, v⟩, _, rfl⟩ := List.mem_map.mp hx
               refine ⟨[some (.int k), some (.int v), some (cg g)], by simp [pairD], ?_, λ _ => by simp [pairOf, pairD]⟩
               simp [Dd, pairOf, pairD]
              have eemp : (((sh.map pairD).filter λ d => !inG g (pairOf d).1).map λ d => D.int (pairOf d).1).isEmpty = sh.all (λ x => inG g x.1) := by
               have := tZ (p := λ d => inG g (pairOf d).1) (q := λ d => !inG g (pairOf d).1) (sh.map pairD) (λ _ _ => rfl)
               rw [List.all_map] at this
               rw [List.isEmpty_map, this]
               rfl
              have enr := Bb (iu (gH (d + 1) (rowsOf ps sh) (sh.map (·.2)))) sl μ'
              have hz2 : sh.length <= 1000 := by omega
              generalize iu (gH (d + 1) (rowsOf ps sh) (sh.map (·.2))) = W at *
              generalize (((sh.map pairD).filter λ d => !inG g (pairOf d).1).map λ d => D.int (pairOf d).1) = fD at *
              have hsz : (sh.map pairD).length <= 1000 := by simpa using hz2
              generalize sh.map pairD = sD at *
              cases hin : sh.all (λ x => inG g x.1) with
              | false =>
               rw [hin] at eemp hv
               have hv : VV = false := by rw [<- hv]; rfl
               subst hv
               simp [es, hsz, cT, ef, eemp]
              | true =>
               rw [hin] at eemp hv
               cases hw : W == sl with
               | false =>
                rw [hw] at enr hv
                have hv : VV = false := by rw [<- hv]; rfl
                subst hv
                simp [es, hsz, cT, ef, eemp, em, enr]
               | true =>
                rw [hw] at enr hv
                simp [es, hsz, cT, ef, eemp, em, enr]
                refine ⟨prs, rfl, by simpa using hv, λ a b h => ?_⟩
                exact hpr (a, b) (List.mem_cons_of_mem _ h)
           .rintro δ μ' ⟨prs, o5, o6, hi, rfl, hv, hpr, rfl⟩
            cases prs with
            | cons p prs => cases hi
            | nil =>
             have hv : true = VV := hv
             subst hv
             simp
          .have hrb : ((rs.length : Int) == (gss.length : Int)) = false := by
            have : (rs.length : Int) ≠ gss.length := by omega
            simpa using this
           have hbb : (rs.length == gss.length) = false := by simpa using hrl
           rw [hbb, Bool.false_and]
           generalize gss.map cg = gD at *
           generalize sl.getLastD 0 = l at *
           generalize sl.dropLast.map D.int = iD at *
           simp [aY, at0, ik, a0, hlb, hz, cT, ew, eall, elast, hb, einit]
           rw [show D.tup (List.map D.int sl) = aK sl from rfl]
           simp [elow, ene, elen, hgl, hrb]
         | cell n => simp [nc, cLt] at hnr
         | ro es =>
          have := ho2 (.ro es) (by simp)
          simp [okD] at this
         | _ =>
          generalize gss.map cg = gD at *
          generalize sl.getLastD 0 = l at *
          generalize sl.dropLast.map D.int = iD at *
          simp [aY, at0, ik, a0, hlb, hz, cT, ew, eall, elast, hb, einit, dB]
          rw [show D.tup (List.map D.int sl) = aK sl from rfl]
          simp [elow, ene]
        .rw [decide_eq_false hg] at ene
         rw [nospot (by
          rw [jU]
          unfold kJ
          rw [decide_eq_false_iff_not]
          rintro ⟨_, _, _, z⟩
          exact hg z)]
         generalize sl.getLastD 0 = l at *
         generalize sl.dropLast.map D.int = iD at *
         simp [aY, at0, ik, a0, hlb, hz, cT, ew, eall, elast, hb, einit]
         rw [show D.tup (List.map D.int sl) = aK sl from rfl]
         simp [elow, ene]
     .have eV : dB (d + 1) ps gss (.tup [.tup es, rows]) = false := by
       cases hV : dB (d + 1) ps gss (.tup [.tup es, rows]) with
       | false => rfl
       | true =>
        have := (yD hV gne).2
        simp [spI] at this
        exact absurd this hel
      have hlb : ((es.length : Int) == (r0.length : Int)) = false := by
       have : (es.length : Int) ≠ r0.length := by omega
       simpa using this
      rw [eV]
      simp [aY, at0, ik, a0, hlb]
    | cell n => simp [nc, cLt] at hna
    | ro es =>
     have ho2 : ∀ x ∈ [D.ro es, rows], okD 59 x := ho
     have := ho2 (.ro es) (by simp)
     simp [okD] at this
    | _ =>
     have eV : ∀ x : D, jq x = false -> dB (d + 1) ps gss (.tup [x, rows]) = false := λ x hx => by
      cases rows <;> simp [dB, hx]
     rw [eV _ rfl]
     simp [aY, at0]
  .have hlb : ((ds.length : Int) == 2) = false := by
    have : (ds.length : Int) ≠ 2 := by omega
    simpa using this
   have eV : dB (d + 1) ps gss (.tup ds) = false := by
    match ds, hl with
    | [], _ => rfl
    | [a], _ => rfl
    | a :: b :: c :: e, _ => cases b <;> rfl
    | [a, b], hl => exact absurd rfl hl
   rw [eV]
   simp [aY, hlb]
 | _ => simp [aY, dB]
end LG
namespace Lk32
open PySem PySem.Spec PyProof.Rows L2 L3 LG
theorem Km : mH eQ := λ a b μ => gn (HY a b μ)
theorem Mz : mH aW := λ a b μ => gn (Ji a b μ)
theorem Kd : ud bA := λ x k μ h0 h1 => by
 obtain ⟨r, e, h⟩ := Lh x k μ h0 h1
 exact ⟨r, gn e, h⟩
theorem vq : rH cF := Ep
theorem Iw : uW aL := λ ns b μ h1 h2 h3 h4 => gn (Oe Km ns b μ h1 h2 h3 h4)
theorem Np : wH iy := Dh Kd
theorem num' : uF dO := Dc
theorem FQ : uF cN := Dw
theorem JS : zF bC := zq num'
theorem Ln : uT aU := xK Mz
theorem Qd : tX aU := λ ns μ => gn (yR Mz ns μ)
theorem Pn : Bh gj := zy JS Ln
theorem Ov (k l : Bool) (μ : Mu) : jr [.bl k, .bl l] μ = some (.bl (k == l), μ) := Jw k l μ
theorem Ng : isPlace iz := FN
theorem Ha : Az fO := De Kd Ng Iw
theorem Kh : yJ fu := xr JS
theorem Hi : uO dZ := vP Kh
theorem PQ : Aa fj := λ ns μ h1 h2 h3 => gn (Ih Qd ns μ h1 h2 h3)
theorem Nr : wN jm := Dv (over_of (Gv Mz)) (zj KH) PQ
theorem Hf : pN cG := CK Nm Pn (Fy (Nx Hi) Nr)
theorem xU : pN bf := uC FQ (Hx Km) (tM FQ) (zf Km Iw)
theorem Lp (d : Nat) (ps gss : List (List Int)) (t : D) (μ : Mu) (G : Geo d ps) (g1 : gss ≠ []) (g2 : gss.length <= 60) (hm : ie μ) (ho : okD 60 t) (hp : okP t) : fL [ik ps, .lst (gss.map cg), t] μ = some (.bl true, μ) := by
 apply cj
 have e1 := Hf d ps gss t μ G g1 g2 hm ho hp
 have e2 := xU d ps gss t μ G g1 g2 hm ho hp
 generalize gss.map cg = gD at *
 simp [lU, e1, e2, Ov]
theorem pL (ns : List Int) (μ : Mu) (hl : ns.length <= 50) (hne : ns ≠ []) : aL [.lst (ns.map .int), .int 1] μ = some (aK (ns ++ [1]), μ) := by
 have e := Iw ns 1 μ (by decide) (by unfold Sm; decide) hl hne
 have e1 : sgn 1 = 1 := if_pos (by decide)
 have e2 : bw (1 : Int).natAbs ns = 1 := qj ns
 rw [e1, e2] at e
 rw [e]
 have : (λ n : Int => D.int (n.fdiv (1 * ((1 : Nat) : Int)))) = D.int := by
  funext n
  show D.int (n.fdiv 1) = D.int n
  rw [Int.fdiv_one]
 rw [this]
 rfl
theorem qU (ns : List Int) : bw 0 (ns ++ [1]) = 1 := by
 rw [vL]
 exact qj ns
theorem yX {c : Int} (hc : 1 <= c) (v : List Int) (hg : bw 0 v = 1) : iu (v.map (c * ·)) = v := by
 have e := pG c v 0
 rw [Nat.mul_zero, hg, Nat.mul_one] at e
 unfold iu
 rw [e, List.map_map]
 have : ((λ n : Int => n.fdiv ((c.natAbs : Nat) : Int)) ∘ λ x => c * x) = id := by
  funext n
  show (c * n).fdiv ((c.natAbs : Nat) : Int) = n
  have : ((c.natAbs : Nat) : Int) = c := by omega
  rw [this]
  exact Int.mul_fdiv_cancel_left n (by omega)
 rw [this, List.map_id]
def upP (sp by_ : Nat -> Int) (d : Nat) (s : Int) : List Int := (List.range d).map (λ i => sp i + s * by_ i) ++ [1]
def loP (sp by_ : Nat -> Int) (d : Nat) (f : Int) : List Int := (List.range d).map (λ i => sp i - f * by_ i) ++ [1]
theorem yh {d i : Nat} {g : Nat -> Int} (h : i < d) : ((List.range d).map g ++ [1]).getD i 0 = g i := by
 simp [List.getD, List.getElem?_append, h]
theorem yC {d : Nat} {g : Nat -> Int} : ((List.range d).map g ++ [1]).getD d 0 = 1 := by
 simp [List.getD, List.getElem?_append]
theorem mX {g : List Int} : bU (g ++ [1]) = 1 := by unfold bU; simp
theorem mix2 (sp by_ : Nat -> Int) (d : Nat) (f s : Int) (hf : 1 <= f) (hs : 1 <= s) : iu (gH (d + 1) [upP sp by_ d s, loP sp by_ d f] [f, s]) = (List.range d).map sp ++ [1] := by
 have el : gK [upP sp by_ d s, loP sp by_ d f] = 1 := by
  unfold gK upP loP
  simp only [List.map_cons, List.map_nil, mX]
  decide
 have ew : wts 1 [upP sp by_ d s, loP sp by_ d f] [f, s] = [f, s] := by
  have h1 : bU (upP sp by_ d s) = 1 := mX
  have h2 : bU (loP sp by_ d f) = 1 := mX
  simp only [wts, List.zip_cons_cons, List.zip_nil_left, List.map_cons, List.map_nil, h1, h2]
  have : (1 : Int).fdiv 1 = 1 := by decide
  rw [this, Int.mul_one, Int.mul_one]
 have ev : gH (d + 1) [upP sp by_ d s, loP sp by_ d f] [f, s] = ((List.range d).map sp ++ [1]).map ((f + s) * ·) := by
  unfold gH
  rw [el, ew, List.range_succ, List.map_append, List.map_append, List.map_map]
  congr 1
  .apply List.map_congr_left
   intro i hi
   have hi := List.mem_range.mp hi
   show dot [f, s] [(upP sp by_ d s).getD i 0, (loP sp by_ d f).getD i 0] = (f + s) * sp i
   rw [show (upP sp by_ d s).getD i 0 = sp i + s * by_ i from yh hi, show (loP sp by_ d f).getD i 0 = sp i - f * by_ i from yh hi]
   unfold dot
   simp only [List.zip_cons_cons, List.zip_nil_left, List.map_cons, List.map_nil, List.sum_cons, List.sum_nil, List.zip_nil_right]
   rw [Int.mul_add, Int.mul_sub, Int.add_mul]
   have : f * (s * by_ i) = s * (f * by_ i) := by rw [<- Int.mul_assoc, Int.mul_comm f s, Int.mul_assoc]
   omega
  .show [dot [f, s] [(upP sp by_ d s).getD d 0, (loP sp by_ d f).getD d 0]] = [(f + s) * 1]
   rw [show (upP sp by_ d s).getD d 0 = 1 from yC, show (loP sp by_ d f).getD d 0 = 1 from yC]
   simp [dot]
 rw [ev]
 exact yX (by omega) _ (qU _)
def Pr (d : Nat) (sp : Nat -> Int) (ps : List (List Int)) (p : List Int × D) : Prop := ∃ (a f s : Int) (by_ : Nat -> Int), p.2 = .tup [pairD (a, f), pairD (a + 1, s)] /\ 0 <= a /\ a < 100 /\ 1 <= f /\ f <= 3 /\ 1 <= s /\ s <= 3 /\ (p.1 = [a, a + 1] ∨ p.1 = [a, a + 1, a + 2]) /\
 ps[a.toNat]? = some (upP sp by_ d s) /\ ps[a.toNat + 1]? = some (loP sp by_ d f)
theorem Pr.more {d : Nat} {sp : Nat -> Int} {ps qs : List (List Int)} {p : List Int × D} (h : Pr d sp ps p) : Pr d sp (ps ++ qs) p := by
 obtain ⟨a, f, s, by_, h1, h2, h3, h4, h5, h6, h7, h8, h9, h10⟩ := h
 refine ⟨a, f, s, by_, h1, h2, h3, h4, h5, h6, h7, h8, ?_, ?_⟩
 .rw [List.getElem?_append_left (List.getElem?_eq_some_iff.mp h9).1]; exact h9
 .rw [List.getElem?_append_left (List.getElem?_eq_some_iff.mp h10).1]; exact h10
theorem Pr.lead {d : Nat} {sp : Nat -> Int} {ps : List (List Int)} {p : List Int × D} (h : Pr d sp ps p) : gO (d + 1) ps p.1 ((List.range d).map sp ++ [1]) p.2 = true := by
 obtain ⟨a, f, s, by_, h1, h2, h3, h4, h5, h6, h7, h8, h9, h10⟩ := h
 have l2 := (List.getElem?_eq_some_iff.mp h10).1
 unfold gO
 rw [h1]
 have es : qQ (.tup [pairD (a, f), pairD (a + 1, s)]) = [(a, f), (a + 1, s)] := rfl
 rw [es]
 have e1 : cQ ps.length (.tup [pairD (a, f), pairD (a + 1, s)]) = true := by
  show (true && ((bK _ _ && (bK _ _ && true)) && (decide (a < a + 1) && true))) = true
  have q1 : bK ps.length (pairD (a, f)) = true := by
   show (true && decide (0 <= a /\ a < (ps.length : Int) /\ 1 <= f)) = true
   rw [decide_eq_true (by omega)]; rfl
  have q2 : bK ps.length (pairD (a + 1, s)) = true := by
   show (true && decide (0 <= a + 1 /\ a + 1 < (ps.length : Int) /\ 1 <= s)) = true
   rw [decide_eq_true (by omega)]; rfl
  rw [q1, q2, decide_eq_true (by omega)]
  rfl
 have e2 : [(a, f), (a + 1, s)].all (λ x => inG p.1 x.1) = true := by
  rcases h8 with h8 | h8 <;> rw [h8] <;> simp [inG]
 have e3 : rowsOf ps [(a, f), (a + 1, s)] = [upP sp by_ d s, loP sp by_ d f] := by
  have t1 : (a + 1).toNat = a.toNat + 1 := by omega
  unfold rowsOf
  simp only [List.map_cons, List.map_nil, t1, List.getD]
  rw [h9, h10]
  rfl
 rw [e1, e2, e3]
 have e4 := mix2 sp by_ d f s h4 h6
 simp only [List.map_cons, List.map_nil]
 rw [e4]
 simp
theorem Gi {d : Nat} {sp : Nat -> Int} {ps gss : List (List Int)} {rws : List D} (h8 : ∀ p ∈ gss.zip rws, Pr d sp ps p) (hl : rws.length = gss.length) : ∀ r ∈ rws, nc r := λ r hr => by
 obtain ⟨i, hi, e⟩ := List.getElem_of_mem hr
 have hp := h8 (gss[i]'(by omega), rws[i]) (by
  have : (gss.zip rws)[i]'(by simp; omega) = (gss[i]'(by omega), rws[i]) := by simp
  rw [<- this]; exact List.getElem_mem _)
 obtain ⟨a, f, s, by_, q1, _⟩ := hp
 have q1 : rws[i] = _ := q1
 rw [<- e, q1]
 exact dJ.mpr λ x hx => by
  simp only [List.mem_cons, List.not_mem_nil, or_false] at hx
  rcases hx with rfl | rfl <;> exact dJ.mpr λ y hy => by
   simp only [List.mem_cons, List.not_mem_nil, or_false] at hy
   rcases hy with rfl | rfl <;> exact vQ
theorem Ah {f : List Int -> D} {ps : List (List Int)} (h : ∀ p, nc (f p)) : ∀ y ∈ ps.map f, nc y := λ y hy => by
 obtain ⟨p, _, rfl⟩ := List.mem_map.mp hy
 exact h p
theorem JP (x : Int) (all : List D) (μ : Mu) : ∀ (its : List D), (∀ i ∈ its, ∃ k : Int, i = .int k /\ 0 <= k /\ k < 100) -> ∃ zs : List Int,
  lcL ⟨all, none⟩ (hName 0) dh (M2 (M2 (MC (ao (aq 1) (ao (M2 (aq 0) (mC (.int 1)) bJ) (aD))) bA) (mC (.int 9)) oMod) (mC (.int 4)) jh) [none, some (.int x)] its μ = some (zs.map .int, μ) /\ zs.length = its.length /\ ∀ z ∈ zs, -4 <= z /\ z <= 4
 | [], _ => ⟨[], by unfold lcL; simp [bT], rfl, by simp⟩
 | i :: its, hi => by
  obtain ⟨k, rfl, k0, k1⟩ := hi i (by simp)
  obtain ⟨r, er, hr⟩ := Kd x (k + 1) μ (by omega) (by omega)
  obtain ⟨zs, e, hl, hz⟩ := JP x all μ its λ j hj => hi j (by simp [hj])
  obtain ⟨q0, q1⟩ := bB (x := r) (m := 9) (by decide)
  refine ⟨(r.fmod 9 - 4) :: zs, ?_, by simp [hl], λ z hz' => ?_⟩
  .unfold lcL
   simp [bT, dh, er, e]
  .rcases List.mem_cons.mp hz' with h | h
   .rw [h]; omega
   .exact hz z h
theorem nU {ys : List Int} {i : Nat} {b : Nat} (h : ∀ y ∈ ys, y.natAbs <= b) : (ys.getD i 0).natAbs <= b := by
 by_cases hi : i < ys.length
 .have : ys.getD i 0 = ys[i] := by simp [List.getD, hi]
  rw [this]
  exact h _ (List.getElem_mem hi)
 .have : ys.getD i 0 = 0 := by simp [List.getD, hi]
  rw [this]; simp
theorem Jx (op : O2) (g : Int -> Int -> Int) (ys zs : List Int) (t : Int) (d : Nat) (μ : Mu) (hy : ys.length = d) (hz : zs.length = d) (hzb : ∀ z ∈ zs, z.natAbs <= 4) (ht : t.natAbs <= 3) (hop : ∀ a b, op (.int a) (.int b) μ = some (.int (g a b), μ)) :
  lcL ⟨gm 0 d, none⟩ (hName 0) dh (M2 (M2 (aq 1) (aq 0) oIx) (M2 (aq 2) (M2 (aq 3) (aq 0) oIx) eO) op) [none, some (.lst (ys.map .int)), some (.int t), some (.lst (zs.map .int))] (gm 0 d) μ = some (((List.range d).map λ i => g (ys.getD i 0) (t * zs.getD i 0)).map .int, μ) := by
 have e := gf (all := gm 0 d) (h := hName 0) (fe := M2 (M2 (aq 1) (aq 0) oIx) (M2 (aq 2) (M2 (aq 3) (aq 0) oIx) eO) op) (δb := [none, some (.lst (ys.map .int)), some (.int t), some (.lst (zs.map .int))]) (F := λ i : Nat => D.int (0 + (i : Int))) (f := λ i => .int (g (ys.getD i 0) (t * zs.getD i 0))) (μ := μ) (List.range d) λ i hi => by
  have hi := List.mem_range.mp hi
  obtain ⟨a1, _⟩ := pY (ys := ys) (k := 0 + (i : Int)) (by omega) (by omega)
  obtain ⟨a2, _⟩ := pY (ys := zs) (k := 0 + (i : Int)) (by omega) (by omega)
  have ti : (0 + (i : Int)).toNat = i := by omega
  rw [ti] at a1 a2
  have hb := nU (i := i) hzb
  have mm := dj (x := t) (y := zs.getD i 0) μ (a := 2) (b := 3) (by unfold Sm; omega) (by unfold Sm; omega) (by decide)
  refine ⟨_, rfl, ?_⟩
  generalize zs.getD i 0 = c2 at *
  generalize ys.getD i 0 = c1 at *
  generalize (0 + (i : Int)) = j at *
  have := hop c1 (t * c2)
  simp [a1, a2, mm, this]
 rw [show (List.range d).map (λ i : Nat => D.int (0 + (i : Int))) = gm 0 d from rfl] at e
 rw [e, List.map_map]
 rfl
theorem row_end {d : Nat} {g : Nat -> Int} (h : ∀ i < d, (g i).natAbs <= 10000) : eZ (d + 1) ((List.range d).map g ++ [1]) := ⟨by simp, λ n hn => by
 rcases List.mem_append.mp hn with z | z
 .obtain ⟨i, hi, rfl⟩ := List.mem_map.mp z
  exact h i (List.mem_range.mp hi)
 .rw [List.mem_singleton.mp z]; decide, by rw [mX]; decide, by rw [mX]; decide⟩
theorem Mj (L : List Int) (hL : DlD L) (d : Int) (many : Int) (d1 : 1 <= d) (d3 : d <= 3) (m1 : 1 <= many) (m5 : many <= 5) : ∃ (ps gss : List (List Int)) (rws : List D) (sp : Nat -> Int) (L' : List Int),
  bZ [.cell 0, .int d, .int many] [some (L.map .int)] = some (.tup [ik ps, .lst (gss.map cg), .tup [aK ((List.range d.toNat).map sp ++ [1]), .tup rws]], [some (L'.map .int)]) /\ DlD L' /\ (∀ p ∈ ps, eZ (d.toNat + 1) p) /\ ps.length <= 15 /\ ps ≠ [] /\
  gss.length = many.toNat /\ rws.length = many.toNat /\ (∀ p ∈ gss.zip rws, Pr d.toNat sp ps p) /\ ∀ i, (sp i).natAbs <= 10 := by
 suffices h : Ok (aJ 14 (dN cF bA aL fO) [.cell 0, .int d, .int many] [some (L.map .int)]) (λ r => ∃ (ps gss : List (List Int)) (rws : List D) (sp : Nat -> Int) (L' : List Int) (junk : Mu),
  r = (.tup [ik ps, .lst (gss.map cg), .tup [aK ((List.range d.toNat).map sp ++ [1]), .tup rws]], some (L'.map .int) :: junk) /\ DlD L' /\ (∀ p ∈ ps, eZ (d.toNat + 1) p) /\ ps.length <= 15 /\ ps ≠ [] /\
  gss.length = many.toNat /\ rws.length = many.toNat /\ (∀ p ∈ gss.zip rws, Pr d.toNat sp ps p) /\ ∀ i, (sp i).natAbs <= 10) by
  obtain ⟨r, e, ps, gss, rws, sp, L', junk, h1, h2, h3, h4, h5, h6, h7, h8, h9⟩ := h
  have h1 : r = _ := h1
  rw [h1] at e
  refine ⟨ps, gss, rws, sp, L', rZ (μ' := [some (L'.map .int)]) (junk := junk) (by rw [e]; rfl) rfl ?_ (ie.dr ie.nil), h2, h3, h4, h5, h6, h7, h8, h9⟩
  have hz : ∀ r ∈ rws, nc r := Gi h8 (by omega)
  have hrow : ∀ r : List Int, nc (aK r) := λ r => dJ.mpr kY
  exact dJ.mpr λ x hx => by
   simp only [List.mem_cons, List.not_mem_nil, or_false] at hx
   rcases hx with rfl | rfl | rfl
   .exact yU.mpr λ y hy => by obtain ⟨p, _, rfl⟩ := List.mem_map.mp hy; exact hrow p
   .exact yU.mpr λ y hy => by obtain ⟨p, _, rfl⟩ := List.mem_map.mp hy; exact hrow p
   .exact dJ.mpr λ y hy => by
     simp only [List.mem_cons, List.not_mem_nil, or_false] at hy
     rcases hy with rfl | rfl
     .exact hrow _
     .exact dJ.mpr hz
 apply oX
 unfold dN
 obtain ⟨ys, L1, e1, hL1, hl1, hs1⟩ := Ad vq 21 10 (by decide) (gm 0 d.toNat) [] (gm 0 d.toNat) L hL
 rw [iK] at hl1
 have hyb : ∀ y ∈ ys, y.natAbs <= 10 := λ y hy => by have := hs1 y hy; omega
 have zd : d.toNat <= 1000 := by omega
 have rd := λ μ => Cy (j := d) (μ := μ) (by omega) (by omega)
 simp [rd, iK, zd, cT, e1, Cy (j := many) (by omega) (by omega)]
 refine gF (λ its δ μ => ∃ (L : List Int) (ps gss : List (List Int)) (rws : List D) (o7 o8 o9 o10 o11 o12 o13 : Option D), DlD L /\ μ = [some (L.map .int), some (ps.map aK), some (gss.map cg), some rws] /\ (∀ p ∈ ps, eZ (d.toNat + 1) p) /\ ps.length + 3 * its.length <= 3 * many.toNat /\ (its.length < many.toNat -> ps ≠ []) /\
  gss.length + its.length = many.toNat /\ rws.length = gss.length /\ (∀ p ∈ gss.zip rws, Pr d.toNat (λ i => ys.getD i 0) ps p) /\
  δ = [some (.cell 0), some (.int d), some (.int many), some (.lst (ys.map .int)), some (.cell 1), some (.cell 2), some (.cell 3), o7, o8, o9, o10, o11, o12, o13]) ?_ ?_ _ _ _ ⟨L1, [], [], [], none, none, none, none, none, none, none, hL1, rfl, by simp, by simp [iK], by simp [iK], by simp [iK], rfl, by simp, rfl⟩
 .rintro i its δ μ ⟨L, ps, gss, rws, o7, o8, o9, o10, o11, o12, o13, hL, rfl, hps, hpl, hpne, hgl, hrl, hpr, rfl⟩
  simp only [List.length_cons] at hpl hgl hpne
  obtain ⟨x, L2, e2, hx, hL2⟩ := lE vq hL [some (ps.map aK), some (gss.map cg), some rws]
  obtain ⟨zs, e3, hl3, hs3⟩ := JP x (gm 0 d.toNat) [some (L2.map .int), some (ps.map aK), some (gss.map cg), some rws] (gm 0 d.toNat) λ i hi => by
   obtain ⟨k, rfl, h0, h1⟩ := Bk hi
   exact ⟨k, rfl, by omega, by omega⟩
  rw [iK] at hl3
  have hzb : ∀ z ∈ zs, z.natAbs <= 4 := λ z hz => by have := hs3 z hz; omega
  have q1 := bB (x := x) (m := 3) (by decide)
  have q2 := bB (x := x.fdiv 3) (m := 3) (by decide)
  have v3 := λ μ => oG (i := x) (j := 3) (μ := μ) (by decide) (by decide)
  have v9 := λ μ => oG (i := x) (j := 9) (μ := μ) (by decide) (by decide)
  have v27 := λ μ => oG (i := x) (j := 27) (μ := μ) (by decide) (by decide)
  generalize hf : 1 + x.fmod 3 = f
  generalize hs : 1 + (x.fdiv 3).fmod 3 = s
  have hyl : ys.length = d.toNat := hl1
  have ep1 := λ μ => Jx bJ (λ a b => a + b) ys zs s d.toNat μ hyl hl3 hzb (by omega) (λ a b => rfl)
  have ep2 := λ μ => Jx jh (λ a b => a - b) ys zs f d.toNat μ hyl hl3 hzb (by omega) (λ a b => rfl)
  have hdn : 0 < d.toNat := by omega
  have lo1 := λ μ => pL ((List.range d.toNat).map λ i => ys.getD i 0 + s * zs.getD i 0) μ (by simp; omega) (by simp; omega)
  have lo2 := λ μ => pL ((List.range d.toNat).map λ i => ys.getD i 0 - f * zs.getD i 0) μ (by simp; omega) (by simp; omega)
  have w1 : (List.range d.toNat).map (λ i => ys.getD i 0 + s * zs.getD i 0) ++ [1] = upP (λ i => ys.getD i 0) (λ i => zs.getD i 0) d.toNat s := rfl
  have w2 : (List.range d.toNat).map (λ i => ys.getD i 0 - f * zs.getD i 0) ++ [1] = loP (λ i => ys.getD i 0) (λ i => zs.getD i 0) d.toNat f := rfl
  rw [w1] at lo1
  rw [w2] at lo2
  have hb1 : eZ (d.toNat + 1) (upP (λ i => ys.getD i 0) (λ i => zs.getD i 0) d.toNat s) := row_end λ i _ => by
   have a1 := nU (i := i) hyb
   have a2 := nU (i := i) hzb
   have a3 : (s * zs.getD i 0).natAbs <= 3 * 4 := by rw [Int.natAbs_mul]; exact Nat.mul_le_mul (by omega) a2
   simp only
   omega
  have hb2 : eZ (d.toNat + 1) (loP (λ i => ys.getD i 0) (λ i => zs.getD i 0) d.toNat f) := row_end λ i _ => by
   have a1 := nU (i := i) hyb
   have a2 := nU (i := i) hzb
   have a3 : (f * zs.getD i 0).natAbs <= 3 * 4 := by rw [Int.natAbs_mul]; exact Nat.mul_le_mul (by omega) a2
   simp only
   omega
  generalize ((List.range d.toNat).map λ i => ys.getD i 0 + s * zs.getD i 0).map D.int = n1 at *
  generalize ((List.range d.toNat).map λ i => ys.getD i 0 - f * zs.getD i 0).map D.int = n2 at *
  generalize hP1 : upP (λ i => ys.getD i 0) (λ i => zs.getD i 0) d.toNat s = P1 at *
  generalize hP2 : loP (λ i => ys.getD i 0) (λ i => zs.getD i 0) d.toNat f = P2 at *
  have hz1 : ps.length < sizeLine := Nat.lt_of_lt_of_le (by omega : ps.length < 1000) (by decide)
  have hz2 : ps.length + 1 < sizeLine := Nat.lt_of_lt_of_le (by omega : ps.length + 1 < 1000) (by decide)
  have hz3 : ps.length + 1 + 1 < sizeLine := Nat.lt_of_lt_of_le (by omega : ps.length + 1 + 1 < 1000) (by decide)
  have hz4 : gss.length < sizeLine := Nat.lt_of_lt_of_le (by omega : gss.length < 1000) (by decide)
  have hz5 : rws.length < sizeLine := Nat.lt_of_lt_of_le (by omega : rws.length < 1000) (by decide)
  have pr0 : ∀ (g : List Int) (more : List (List Int)), (g = [(ps.length : Int), (ps.length : Int) + 1] ∨ g = [(ps.length : Int), (ps.length : Int) + 1, (ps.length : Int) + 2]) -> Pr d.toNat (λ i => ys.getD i 0) (ps ++ P1 :: P2 :: more) (g, .tup [pairD ((ps.length : Int), f), pairD ((ps.length : Int) + 1, s)]) := λ g more hg => by
   refine ⟨ps.length, f, s, λ i => zs.getD i 0, rfl, by omega, by omega, by omega, by omega, by omega, by omega, hg, ?_, ?_⟩
   .rw [hP1]; simp
   .rw [hP2]
    have : ((ps.length : Int)).toNat = ps.length := by omega
    rw [this, List.getElem?_append_right (by omega)]
    have : ps.length + 1 - ps.length = 1 := by omega
    rw [this]
    rfl
  have fin : ∀ (g : List Int) (more : List (List Int)), (g = [(ps.length : Int), (ps.length : Int) + 1] ∨ g = [(ps.length : Int), (ps.length : Int) + 1, (ps.length : Int) + 2]) -> (∀ p ∈ more, eZ (d.toNat + 1) p) -> more.length <= 1 ->
    (∀ p ∈ ps ++ P1 :: P2 :: more, eZ (d.toNat + 1) p) /\ (∀ p ∈ (gss ++ [g]).zip (rws ++ [.tup [pairD ((ps.length : Int), f), pairD ((ps.length : Int) + 1, s)]]), Pr d.toNat (λ i => ys.getD i 0) (ps ++ P1 :: P2 :: more) p) := λ g more hg hmore hml => by
   refine ⟨λ p hp => ?_, λ p hp => ?_⟩
   .rcases List.mem_append.mp hp with z | z
    .exact hps p z
    .rcases List.mem_cons.mp z with z | z
     .rw [z]; exact hb1
     .rcases List.mem_cons.mp z with z | z
      .rw [z]; exact hb2
      .exact hmore p z
   .rw [List.zip_append (by omega)] at hp
    rcases List.mem_append.mp hp with z | z
    .exact (hpr p z).more
    .simp at z
     rw [z]
     exact pr0 g more hg
  have elen : ∀ (a b : Option (List D)) (xs : List D), cz (.cell 1) [a, some xs, b, some rws] = some (.int xs.length, [a, some xs, b, some rws]) := λ a b xs => by simp [cz, bQ]
  have hmm : ∀ (a : List Int) (qs : List (List Int)), ie [some (a.map .int), some (qs.map aK), some (gss.map cg), some rws] := λ a qs => ie.cons kY (ie.cons (Ah λ p => dJ.mpr kY) (ie.cons (Ah λ p => dJ.mpr kY) (ie.cons (Gi hpr hrl) ie.nil)))
  by_cases c0 : (x.fdiv 9).fmod 3 = 0
  .obtain ⟨p3, e5, ns3, b3, hp3, hpt, _⟩ := Ha (x.fdiv 27) d 1 0 [some (L2.map .int), some ((ps ++ [P1, P2]).map aK), some (gss.map cg), some rws] (hmm L2 _) ⟨(HN hx.sm hx.1 (by decide)).2, by
    have := mV (x := x) (y := 27) (by decide)
    have := hx.1
    have := hx.2
    omega⟩ d1 d3 (by decide) (by decide) (by decide) (by decide)
   have hp3' : p3 = aK (ns3 ++ [b3]) := hp3
   subst hp3'
   have hr3 := PtL.row hpt
   obtain ⟨f1, f2⟩ := fin [(ps.length : Int), (ps.length : Int) + 1, (ps.length : Int) + 2] [ns3 ++ [b3]] (.inr rfl) (λ p hp => by rw [List.mem_singleton.mp hp]; exact hr3) (by simp)
   generalize ns3 ++ [b3] = P3 at *
   have e5' : fO [.int (x.fdiv 27), .int d, .int 1, .int 0] [some (L2.map .int), some (ps.map aK ++ [aK P1, aK P2]), some (gss.map cg), some rws] = some (aK P3, [some (L2.map .int), some (ps.map aK ++ [aK P1, aK P2]), some (gss.map cg), some rws]) := by
    have := e5
    simp only [List.map_append, List.map_cons, List.map_nil] at this
    exact this
   simp [e2, rd, iK, zd, cT, e3, v3, hf, hs, elen, ep1, lo1, jz, lr, hz1, ep2, lo2, hz2, v9, c0, v27, e5', hz3, hz4, hz5]
   refine ⟨L2, hL2, ps ++ P1 :: P2 :: [P3], gss ++ [[(ps.length : Int), (ps.length : Int) + 1, (ps.length : Int) + 2]], _, ⟨rfl, by simp, by simp [cg], rfl⟩, f1, by simp; omega, λ _ => by simp, by simp; omega, by simp; omega, λ a b h => f2 (a, b) h⟩
  .have c0b : ((x.fdiv 9).fmod 3 == 0) = false := by simpa using c0
   simp [e2, rd, iK, zd, cT, e3, v3, hf, hs, elen, ep1, lo1, jz, lr, hz1, ep2, lo2, hz2, v9, c0b, hz4, hz5]
   obtain ⟨f1, f2⟩ := fin [(ps.length : Int), (ps.length : Int) + 1] [] (.inl rfl) (by simp) (by simp)
   refine ⟨L2, hL2, ps ++ P1 :: P2 :: [], gss ++ [[(ps.length : Int), (ps.length : Int) + 1]], _, ⟨rfl, by simp, by simp [cg], rfl⟩, f1, by simp; omega, λ _ => by simp, by simp; omega, by simp; omega, λ a b h => f2 (a, b) h⟩
 .rintro δ μ ⟨L, ps, gss, rws, o7, o8, o9, o10, o11, o12, o13, hL, rfl, hps, hpl, hpne, hgl, hrl, hpr, rfl⟩
  have hlo := λ μ => pL ys μ (by omega) (λ z => by rw [z] at hl1; simp at hl1; omega)
  have hys : (List.range d.toNat).map (λ i => ys.getD i 0) = ys := by
   apply List.ext_getElem
   .simp [hl1]
   intro i h1 h2
   simp at h1
   simp [List.getD, h2]
  simp only [List.length_nil, Nat.add_zero, Nat.mul_zero] at hpl hgl hpne
  simp [hlo]
  refine ⟨ps, gss, rws, λ i => ys.getD i 0, L, ?_, hL, hps, by omega, hpne (by omega), hgl, by omega, λ a b h => hpr (a, b) h, λ i => nU hyb⟩
  rw [hys]
  simp [ik]
theorem HF {ds : List D} {i : Int} {μ : Mu} (h0 : 0 <= i) (h1 : i <= ds.length) : oSl (.tup ds) none (some i) μ = some (.tup (ds.take i.toNat), μ) := by
 have e : HT.sIx ds.length ds.length (some i) = i.toNat := by rw [qi h0]; omega
 have e0 : HT.sIx ds.length 0 none = 0 := rfl
 unfold oSl L3.cutD
 simp only [e, e0]
 simp
theorem Ld (ns : List Int) (x : Int) (μ : Mu) (hm : ie μ) (h1 : 1 <= ns.length) (h3 : ns.length <= 3) (hb : ∀ n ∈ ns, n.natAbs <= 10) : ∃ ms : List Int, gG [aK (ns ++ [1]), .int x] μ = some (aK ms, μ) /\ ∀ m ∈ ms, Sm 30 m := by
 have key : ∃ p, gG [aK (ns ++ [1]), .int x] μ = some (p, μ) /\ ∃ ms : List Int, p = aK ms /\ ∀ m ∈ ms, Sm 30 m := by
  apply Av hm
  apply oX
  unfold nG
  have hne : (ns ++ [1]).map D.int ≠ [] := by simp
  have einit := wL (μ := μ) hne
  have edl : ((ns ++ [1]).map D.int).dropLast = ns.map D.int := by rw [<- List.map_dropLast]; simp
  rw [edl] at einit
  have elast := nT (ns := ns ++ [1]) (by simp)
  have el1 : (ns ++ [1]).getLastD 0 = 1 := by simp
  rw [el1] at elast
  obtain ⟨i0, i1⟩ := bB (x := x) (m := ns.length) (by omega)
  have wm := jt (x := x) (y := (ns.length : Int)) μ (by omega)
  have hlen : cz (aK (ns ++ [1])) μ = some (.int ((ns.length : Int) + 1), μ) := by simp
  have v3 := oG (i := x) (j := 3) (μ := μ) (by decide) (by decide)
  have v12 := λ μ => oG (i := x) (j := 12) (μ := μ) (by decide) (by decide)
  obtain ⟨j0, j1⟩ := bB (x := x.fdiv 3) (m := 4) (by decide)
  obtain ⟨sz, hsz, esz⟩ := jZ (ds := [D.int 1000, .int 1, .int 3, .int 1000000]) j0 j1
  have hsz : ∃ z : Int, sz = .int z /\ 1 <= z /\ z <= 1000000 := by
   simp only [List.mem_cons, List.not_mem_nil, or_false] at hsz
   rcases hsz with rfl | rfl | rfl | rfl <;> exact ⟨_, rfl, by decide, by decide⟩
  obtain ⟨sz, rfl, sz1, sz2⟩ := hsz
  obtain ⟨k0, k1⟩ := bB (x := x.fdiv 12) (m := 2) (by decide)
  obtain ⟨sg, hsg, esg⟩ := jZ (ds := [D.int 1, .int (-1)]) k0 k1
  have hsg : ∃ z : Int, sg = .int z /\ z.natAbs <= 1 := by
   simp only [List.mem_cons, List.not_mem_nil, or_false] at hsg
   rcases hsg with rfl | rfl <;> exact ⟨_, rfl, by decide⟩
  obtain ⟨sg, rfl, sg1⟩ := hsg
  have hssz : Sm 20 sz := lq 1000001 (by omega) (by decide)
  have el := gf (all := ns.map D.int) (h := hName 0) (fe := M2 (aq 0) (aq 1) eO) (δb := [none, some (.int sz)]) (F := D.int) (f := λ n => .int (n * sz)) (μ := μ) ns λ n hn => ⟨_, rfl, by
   have := dj (x := n) (y := sz) μ (lq (b := 4) 11 (by have := hb n hn; omega) (by decide)) hssz (by decide)
   simp [this]⟩
  have el' : ns.map (λ n => D.int (n * sz)) = (ns.map (· * sz)).map D.int := by simp
  rw [el'] at el
  generalize hvs : ns.map (· * sz) = vs at *
  have hvl : vs.length = ns.length := by rw [<- hvs]; simp
  have hvb : ∀ v ∈ vs, Sm 24 v := λ v hv => by
   rw [<- hvs] at hv
   obtain ⟨n, hn, rfl⟩ := List.mem_map.mp hv
   exact lQ (lq (b := 4) 11 (by have := hb n hn; omega) (by decide)) hssz
  generalize x.fmod ns.length = i at *
  obtain ⟨ai, hvi⟩ := pY (ys := vs) (k := i) i0 (by omega)
  have hvib := hvb _ hvi
  generalize vs.getD i.toNat 0 = vi at *
  have hix : ixN (vs.map D.int).length i = some i.toNat := by unfold ixN; rw [if_pos i0, if_pos (by simp; omega)]
  have hset : (vs.map D.int).set i.toNat (.int (vi + sg)) = (vs.set i.toNat (vi + sg)).map D.int := by rw [List.map_set]
  have hwb : ∀ w ∈ vs.set i.toNat (vi + sg), Sm 30 w := λ w hw => by
   rcases List.mem_or_eq_of_mem_set hw with z | z
   .exact dW (hvb w z) (by decide)
   .rw [z]; exact dW (Fe hvib (dW (show Sm 1 sg by unfold Sm; omega) (by decide))) (by decide)
  have hwl : (vs.set i.toNat (vi + sg)).length = ns.length := by simp [hvl]
  generalize vs.set i.toNat (vi + sg) = ws at *
  have m1 := λ μ => dj (x := sg) (y := 1) μ (show Sm 1 sg by unfold Sm; omega) (show Sm 1 1 by unfold Sm; decide) (by decide)
  have m2 := λ μ => dj (x := 1) (y := sz) μ (show Sm 1 1 by unfold Sm; decide) hssz (by decide)
  obtain ⟨ms, em, _, hms, _⟩ := KC Iw (b := 30) ws sz (μ ++ [none]) (by omega) (dW hssz (by decide)) (by decide) hwb (by omega) (λ z => by rw [z] at hwl; simp at hwl; omega)
  have hz : ns.length <= 1000 := by omega
  have hlenm : (ns.map D.int).length = ns.length := by simp
  generalize hnD : ns.map D.int = nD at *
  generalize vs.map D.int = vD at *
  generalize ws.map D.int = wD at *
  rw [Int.mul_one] at m1
  rw [Int.one_mul] at m2
  have hfin : nc (aK ms) /\ ∃ ms' : List Int, aK ms = aK ms' /\ ∀ m ∈ ms', Sm 30 m := ⟨dJ.mpr kY, ms, rfl, hms⟩
  have em' : aL [.lst wD, .int sz] (μ ++ [none]) = some (aK ms, μ ++ [none]) := em
  generalize aK ms = RM at *
  have eit : ∀ μ, bQ (aK (ns ++ [1])) μ = some ((ns ++ [1]).map .int) := λ μ => rfl
  have esl : oSl (aK (ns ++ [1])) none (some (-1)) μ = some (.tup nD, μ) := einit
  generalize aK (ns ++ [1]) = SP at *
  generalize (ns ++ [1]).map D.int = spD at *
  simp [hlen, wm, v3, esz, esl, cT, hlenm, hz, el, ai, v12, esg, eit, elast, m1, L3.Cg, hix, hset, m2, em']
  exact hfin
 obtain ⟨p, e, ms, rfl, h⟩ := key
 exact ⟨ms, e, h⟩
def SmP (p : Int × Int) : Prop := Sm 100 p.1 /\ Sm 100 p.2
def xO (r : D) : Prop := ∃ p q : Int × Int, r = .tup [pairD p, pairD q] /\ SmP p /\ SmP q
theorem sr {n : Nat} {i : Int} {b : Nat} (h : Sm b i) (hb : b <= 2000) : okD n (.int i) := by
 cases n <;> exact dW h hb
theorem Ge {n : Nat} {ns : List Int} {b : Nat} (h : ∀ m ∈ ns, Sm b m) (hb : b <= 2000) : okD (n + 1) (aK ns) := λ d hd => by
 obtain ⟨m, hm, rfl⟩ := List.mem_map.mp hd
 exact sr (h m hm) hb
theorem vU {n : Nat} {p : Int × Int} (h : SmP p) : okD (n + 1) (pairD p) := λ d hd => by
 simp only [List.mem_cons, List.not_mem_nil, or_false] at hd
 rcases hd with rfl | rfl
 .exact sr h.1 (by decide)
 .exact sr h.2 (by decide)
theorem xO.ok {n : Nat} {r : D} (h : xO r) : okD (n + 2) r := by
 obtain ⟨p, q, rfl, hp, hq⟩ := h
 exact λ d hd => by
  simp only [List.mem_cons, List.not_mem_nil, or_false] at hd
  rcases hd with rfl | rfl
  .exact vU hp
  .exact vU hq
theorem xO.len {r : D} (h : xO r) : uB r <= 60 := by
 obtain ⟨p, q, rfl, _⟩ := h
 show 2 <= 60
 decide
def vY (r : D) : Prop := okD 50 r /\ uB r <= 60
theorem xO.t {r : D} (h : xO r) : vY r := ⟨h.ok (n := 48), h.len⟩
theorem nA {sp : D} {rs : List D} (h1 : okD 50 sp) (h2 : ∀ r ∈ rs, vY r) : okD 60 (.tup [sp, .tup rs]) /\ okP (.tup [sp, .tup rs]) := by
 refine ⟨λ d hd => ?_, λ r hr => (h2 r hr).2⟩
 simp only [List.mem_cons, List.not_mem_nil, or_false] at hd
 rcases hd with rfl | rfl
 .exact pH (k := 9) h1
 .exact λ r hr => pH (k := 8) (h2 r hr).1
theorem Qj (ns : List Int) (rws : List D) (x : Int) (μ : Mu) (hm : ie μ) (n1 : 1 <= ns.length) (n3 : ns.length <= 3) (hb : ∀ n ∈ ns, n.natAbs <= 10) (r1 : 1 <= rws.length) (r5 : rws.length <= 5) (hr : ∀ r ∈ rws, xO r) :
  ∃ t, iQ [.tup [aK (ns ++ [1]), .tup rws], .int x] μ = some (t, μ) /\ okD 60 t /\ okP t := by
 suffices h : Ok (iQ [.tup [aK (ns ++ [1]), .tup rws], .int x] μ) (λ r => r.2 = μ /\ okD 60 r.1 /\ okP r.1) by
  obtain ⟨⟨t, μ'⟩, e, h1, h2⟩ := h
  have h1 : μ' = μ := h1
  subst h1
  exact ⟨t, e, h2⟩
 apply DG
 apply oX
 have v16 := oG (i := x) (j := 16) (μ := μ) (by decide) (by decide)
 have v64 := oG (i := x) (j := 64) (μ := μ) (by decide) (by decide)
 obtain ⟨i0, i1⟩ := bB (x := x.fdiv 16) (m := rws.length) (by omega)
 have wi := jt (x := x.fdiv 16) (y := (rws.length : Int)) μ (by omega)
 obtain ⟨j0, j1⟩ := bB (x := x.fdiv 64) (m := 2) (by decide)
 obtain ⟨c0, c1⟩ := bB (x := x) (m := 16) (by decide)
 obtain ⟨ms, emv, hms⟩ := Ld ns (x.fdiv 64) μ hm n1 n3 hb
 generalize (x.fdiv 16).fmod rws.length = i at *
 obtain ⟨r, hrm, er⟩ := jZ i0 i1
 obtain ⟨p, q, rfl, hp, hq⟩ := hr r hrm
 have hpq : ∃ z : Int × Int, atI [pairD p, pairD q] ((x.fdiv 64).fmod 2) = some (pairD z) /\ SmP z := by
  obtain ⟨y, hy, e⟩ := jZ (ds := [pairD p, pairD q]) j0 j1
  simp only [List.mem_cons, List.not_mem_nil, or_false] at hy
  rcases hy with rfl | rfl
  .exact ⟨p, e, hp⟩
  .exact ⟨q, e, hq⟩
 obtain ⟨⟨zk, zs⟩, ez, hz⟩ := hpq
 rw [show LG.pairD (zk, zs) = .tup [.int zk, .int zs] from rfl] at ez
 generalize hc : x.fmod 16 = c at *
 have spok : ∀ n, okD (n + 1) (aK (ns ++ [1])) := λ n => Ge (b := 10) (λ m hm' => by
  rcases List.mem_append.mp hm' with z | z
  .exact lq 11 (by have := hb m z; omega) (by decide)
  .rw [List.mem_singleton.mp z]; unfold Sm; decide) (by decide)
 have hrt : ∀ r ∈ rws, vY r := λ r h => (hr r h).t
 have slr1 := vO (ds := rws) (i := 1) (μ := μ) (by decide) (by omega)
 have slr2 := HF (ds := rws) (i := 1) (μ := μ) (by decide) (by omega)
 have slr3 := Qs (ds := rws) (i := i) (μ := μ) i0 i1
 have slr4 := vO (ds := rws) (i := i + 1) (μ := μ) (by omega) (by omega)
 have t1 : ∀ r ∈ rws.drop (1 : Int).toNat, vY r := λ r h => hrt r (List.mem_of_mem_drop h)
 have t2 : ∀ r ∈ rws.take (1 : Int).toNat, vY r := λ r h => hrt r (List.mem_of_mem_take h)
 have t3 : ∀ r ∈ rws.take i.toNat, vY r := λ r h => hrt r (List.mem_of_mem_take h)
 have t4 : ∀ r ∈ rws.drop (i + 1).toNat, vY r := λ r h => hrt r (List.mem_of_mem_drop h)
 have l2 : (rws.take (1 : Int).toNat).length <= 1 := by simp; omega
 have l3 : (rws.take i.toNat).length <= 5 := by simp; omega
 have l4 : (rws.drop (i + 1).toNat).length <= 5 := by simp; omega
 generalize rws.drop (1 : Int).toNat = R1 at *
 generalize rws.take (1 : Int).toNat = R2 at *
 generalize rws.take i.toNat = R3 at *
 generalize rws.drop (i + 1).toNat = R4 at *
 have u1 : ∀ a b : D, oSl (.tup [a, b]) (some 1) none μ = some (.tup [b], μ) := λ a b => rfl
 have u2 : ∀ a b : D, oSl (.tup [a, b]) none (some (-1)) μ = some (.tup [a], μ) := λ a b => rfl
 have u3 : ∀ a b : D, oSl (.tup [a, b]) (some (-1)) none μ = some (.tup [b], μ) := λ a b => rfl
 have hR2 : rws.length + R2.length <= sizeLine := Nat.le_trans (by omega : _ <= 1000) (by decide)
 have hR3 : R3.length + 1 <= sizeLine := Nat.le_trans (by omega : _ <= 1000) (by decide)
 have hR4 : R3.length + 1 + R4.length <= sizeLine := Nat.le_trans (by omega : _ <= 1000) (by decide)
 have hR6 : 1 + rws.length <= sizeLine := Nat.le_trans (by omega : _ <= 1000) (by decide)
 have hR5 : rws.length + 1 <= sizeLine := Nat.le_trans (by omega : _ <= 1000) (by decide)
 have hspl : (ns ++ [1]).length <= 4 := by simp; omega
 have hsum : ∀ m ∈ ns ++ [1], Sm 10 m := λ m hm' => by
  rcases List.mem_append.mp hm' with z | z
  .exact lq 11 (by have := hb m z; omega) (by decide)
  .rw [List.mem_singleton.mp z]; unfold Sm; decide
 generalize hsp : ns ++ [1] = sp at *
 have dbl := gf (all := sp.map D.int) (h := hName 0) (fe := M2 (aq 0) (mC (.int 2)) eO) (δb := [none]) (F := D.int) (f := λ n => .int (n * 2)) (μ := μ) sp λ n hn => ⟨_, rfl, by
  have := dj (x := n) (y := 2) μ (hsum n hn) (show Sm 2 2 by unfold Sm; decide) (by decide)
  simp [this]⟩
 have hs1 : sp.length <= 1000 := by omega
 have hs2 : sp.length + 1 <= sizeLine := Nat.le_trans (by omega : _ <= 1000) (by decide)
 have isp : ∀ μ, bQ (aK sp) μ = some (sp.map .int) := λ μ => rfl
 have asp : bJ (aK sp) (.tup [.int 0]) μ = some (.tup (sp.map .int ++ [.int 0]), μ) := by
  show (if (sp.map D.int).length + 1 <= sizeLine then _ else none) = _
  rw [if_pos (by simpa using hs2)]
 have ssp : srcOf (aK sp) μ = some ⟨sp.map .int, none⟩ := rfl
 unfold nM
 by_cases w4 : c < 4
 .simp [v16, wi, er, v64, ez, hc, w4, emv, isp, asp, ssp, hs1, cT, dbl]
  apply yQ c0
  .simpa using w4
  intro t ht
  simp
  simp only [List.mem_cons, List.not_mem_nil, or_false] at ht
  apply nA _ hrt
  rcases ht with rfl | rfl | rfl | rfl
  .exact Ge hms (by decide)
  .exact λ d hd => (spok 49) d hd
  .exact λ d hd => by
    rcases List.mem_append.mp hd with z | z
    .exact (spok 49) d z
    .rw [List.mem_singleton.mp z]; exact sr (b := 1) (by unfold Sm; decide) (by decide)
  .exact λ d hd => by
    obtain ⟨n, hn, rfl⟩ := List.mem_map.mp hd
    exact sr (lQ (hsum n hn) (show Sm 2 2 by unfold Sm; decide)) (by decide)
 .simp [v16, wi, er, v64, ez, hc, w4, u1, u2, u3]
  have hrowt : ∀ (ds : List D), (∀ d ∈ ds, okD 49 d) -> ds.length <= 60 -> vY (.tup ds) := λ ds h1 h2 => ⟨h1, h2⟩
  have okp : okD 49 (LG.pairD p) := vU (n := 48) hp
  have okq : okD 49 (LG.pairD q) := vU (n := 48) hq
  have okz : ∀ v : Int, Sm 101 v -> okD 49 (.tup [.int zk, .int v]) := λ v hv d hd => by
   simp only [List.mem_cons, List.not_mem_nil, or_false] at hd
   rcases hd with rfl | rfl
   .exact sr hz.1 (by decide)
   .exact sr hv (by decide)
  by_cases w11 : c < 11
  .have hatm := jZ (ds := [D.tup [.tup [.int zk, .int (zs + 1)], LG.pairD q], .tup [LG.pairD p], .tup [LG.pairD q, LG.pairD p], .lst [LG.pairD p, LG.pairD q], .tup [], .tup [LG.pairD p, LG.pairD q, LG.pairD q], .tup [.tup [.int zk, .int 0], LG.pairD q]]) (i := c - 4) (by omega) (by simp; omega)
   obtain ⟨m, hmm, em⟩ := hatm
   have hmt : vY m := by
    simp only [List.mem_cons, List.not_mem_nil, or_false] at hmm
    have z0 := okz (zs + 1) (Fe hz.2 (dW (show Sm 1 1 by unfold Sm; decide) (by decide)))
    have z1 := okz 0 (by unfold Sm; decide)
    rcases hmm with rfl | rfl | rfl | rfl | rfl | rfl | rfl
    .exact hrowt _ (by simp; exact ⟨z0, okq⟩) (by simp)
    .exact hrowt _ (by simp; exact okp) (by simp)
    .exact hrowt _ (by simp; exact ⟨okq, okp⟩) (by simp)
    .exact ⟨λ d hd => by
      simp only [List.mem_cons, List.not_mem_nil, or_false] at hd
      rcases hd with rfl | rfl
      .exact okp
      .exact okq, by simp [uB]⟩
    .exact hrowt _ (by simp) (by simp)
    .exact hrowt _ (by simp; exact ⟨okp, okq⟩) (by simp)
    .exact hrowt _ (by simp; exact ⟨z1, okq⟩) (by simp)
   simp [w11, em, slr3, slr4, hR3, hR4]
   apply nA (spok 49)
   intro r hr'
   rcases List.mem_append.mp hr' with z | z
   .exact t3 r z
   .rcases List.mem_cons.mp z with z | z
    .rw [z]; exact hmt
    .exact t4 r z
  .by_cases w14 : c < 14
   .simp [w11, w14, slr1, slr2, hR2]
    apply yQ (show 0 <= c - 11 by omega)
    .simp; omega
    intro t ht
    simp
    simp only [List.mem_cons, List.not_mem_nil, or_false] at ht
    rcases ht with rfl | rfl | rfl
    .exact nA (spok 49) t1
    .exact nA (spok 49) λ r hr' => by
      rcases List.mem_append.mp hr' with z | z
      .exact hrt r z
      .exact t2 r z
    .refine ⟨λ d hd => ?_, trivial⟩
     simp only [List.mem_cons, List.not_mem_nil, or_false] at hd
     rcases hd with rfl | rfl
     .exact spok 58
     .exact λ r hr' => pH (k := 8) (hrt r hr').1
   .simp [w11, w14, hR6]
    apply yQ (show 0 <= c - 14 by omega)
    .simp; omega
    intro t ht
    simp
    simp only [List.mem_cons, List.not_mem_nil, or_false] at ht
    rcases ht with rfl | rfl
    .refine ⟨λ d hd => ?_, trivial⟩
     simp only [List.mem_cons, List.not_mem_nil, or_false] at hd
     rcases hd with rfl | rfl
     .exact spok 58
     .exact λ r hr' => pH (k := 8) (hrt r hr').1
    .refine ⟨λ d hd => ?_, ?_⟩
     .rcases List.mem_cons.mp hd with z | z
      .rw [z]; exact spok 58
      .exact pH (k := 9) (hrt d z).1
     .cases rws with
      | nil => trivial
      | cons a rs =>
       cases rs with
       | nil =>
        obtain ⟨p', q', rfl, _⟩ := hr a (by simp)
        exact λ r hr' => by
         simp only [List.mem_cons, List.not_mem_nil, or_false] at hr'
         rcases hr' with rfl | rfl <;> (show 2 <= 60; decide)
       | cons b rs =>
        cases a <;> trivial
theorem MF (ps : List (List Int)) (μ : Mu) : oNe (ik ps) (ik ps) μ = some (.bl false, μ) := by
 have hp : ∀ qs : List (List Int), fG (qs.map aK) = true /\ iV (qs.map aK) <= 1 /\ jC (qs.map aK) (qs.map aK) = true := λ qs => by
  induction qs with
  | nil => exact ⟨by simp [fG], by simp [iV], by simp [jC]⟩
  | cons q qs ih =>
   obtain ⟨a, b, c⟩ := ih
   refine ⟨?_, ?_, ?_⟩
   .rw [List.map_cons, fG, a]; unfold aK; rw [cH, lM]; rfl
   .rw [List.map_cons, iV]; unfold aK at *; rw [fV, nJ]; omega
   .rw [List.map_cons, jC, c]; unfold aK; rw [eqD, nO]; simp
 obtain ⟨a, b, c⟩ := hp ps
 unfold oNe
 have e1 : rsv (ik ps) μ = ik ps := rfl
 have e2 : cH (ik ps) = true := by unfold ik; rw [cH]; exact a
 have e3 : fV (ik ps) < 100 := by unfold ik; rw [fV]; omega
 have e4 : eqD (ik ps) (ik ps) = true := by unfold ik; rw [eqD]; exact c
 rw [e1, e2, e4, if_pos ⟨rfl, e3⟩]
 rfl
theorem Lz {d : Nat} {sp : Nat -> Int} {ps gss : List (List Int)} {rws : List D} (h8 : ∀ p ∈ gss.zip rws, Pr d sp ps p) (hl : rws.length = gss.length) : ∀ r ∈ rws, xO r := λ r hr => by
 obtain ⟨i, hi, e⟩ := List.getElem_of_mem hr
 have hp := h8 (gss[i]'(by omega), rws[i]) (by
  have : (gss.zip rws)[i]'(by simp; omega) = (gss[i]'(by omega), rws[i]) := by simp
  rw [<- this]; exact List.getElem_mem _)
 obtain ⟨a, f, s, by_, q1, q2, q3, q4, q5, q6, q7, _⟩ := hp
 have q1 : rws[i] = _ := q1
 rw [<- e, q1]
 have big : (101 : Nat) <= 2 ^ 100 := by decide
 exact ⟨(a, f), (a + 1, s), rfl, ⟨lq 102 (by show a.natAbs < 102; omega) (by decide), lq 102 (by show f.natAbs < 102; omega) (by decide)⟩, ⟨lq 102 (by show (a + 1).natAbs < 102; omega) (by decide), lq 102 (by show s.natAbs < 102; omega) (by decide)⟩⟩
theorem yu {d : Nat} {sp : Nat -> Int} {ps gss : List (List Int)} {rws : List D} (hd : 1 <= d) (hd3 : d <= 3) (h8 : ∀ p ∈ gss.zip rws, Pr d sp ps p) (hl : rws.length = gss.length) : dB (d + 1) ps gss (.tup [aK ((List.range d).map sp ++ [1]), .tup rws]) = true := by
 have hs : jq (aK ((List.range d).map sp ++ [1])) = true := by
  unfold aK
  rw [jU]
  unfold kJ
  exact decide_eq_true ⟨by simp; omega, by simp; omega, by simp, qU _⟩
 have hi : spI (aK ((List.range d).map sp ++ [1])) = (List.range d).map sp ++ [1] := ints_map _
 show (jq (aK ((List.range d).map sp ++ [1])) && (rws.length == gss.length && (gss.zip rws).all λ p => gO (d + 1) ps p.1 (spI (aK ((List.range d).map sp ++ [1]))) p.2)) = true
 rw [hs, hi, hl]
 have : ((gss.zip rws).all λ p => gO (d + 1) ps p.1 ((List.range d).map sp ++ [1]) p.2) = true := List.all_eq_true.mpr λ p hp => (h8 p hp).lead
 rw [this]
 simp
theorem Qy {d : Nat} {sp : Nat -> Int} {ps gss : List (List Int)} {rws : List D} (h8 : ∀ p ∈ gss.zip rws, Pr d sp ps p) (hl : rws.length = gss.length) : ∀ g ∈ gss, g ≠ [] := λ g hg => by
 obtain ⟨i, hi, e⟩ := List.getElem_of_mem hg
 have hp := h8 (gss[i], rws[i]'(by omega)) (by
  have : (gss.zip rws)[i]'(by simp; omega) = (gss[i], rws[i]'(by omega)) := by simp
  rw [<- this]; exact List.getElem_mem _)
 obtain ⟨a, f, s, by_, q1, q2, q3, q4, q5, q6, q7, q8, _⟩ := hp
 have q8 : gss[i] = _ ∨ gss[i] = _ := q8
 rw [<- e]
 rcases q8 with q8 | q8 <;> rw [q8] <;> simp
theorem Ja (ns : List Int) (h : ns.length <= 63) : ∃ μ', zU [.ro (ns.map .int)] [] = some (.bl true, μ') := by
 apply Ij
 obtain ⟨L, eD, hL⟩ := Ef Np ns h
 apply oX
 unfold qO
 simp [eD, Cy (j := 3) (by decide) (by decide)]
 refine gF (λ its δ μ => ∃ L o2 o3 o4 o5 o6 o7 o8 o9 o10, DlD L /\ μ = [some (L.map .int)] /\ δ = [some (.ro (ns.map .int)), some (.cell 0), o2, o3, o4, o5, o6, o7, o8, o9, o10]) ?_ ?_ _ _ _ ⟨L, none, none, none, none, none, none, none, none, none, hL, rfl, rfl⟩
 .rintro dd rest δ μ ⟨L, o2, o3, o4, o5, o6, o7, o8, o9, o10, hL, rfl, rfl⟩
  obtain ⟨x, L1, e1, hx, hL1⟩ := lE vq hL []
  obtain ⟨y, L2, e2, hy, hL2⟩ := lE vq hL1 []
  have q1 := bB (x := x) (m := 3) (by decide)
  have q2 := bB (x := y) (m := 5) (by decide)
  generalize hd : 1 + x.fmod 3 = d
  generalize hmany : 1 + y.fmod 5 = many
  obtain ⟨ps, gss, rws, sp, L3', e3, hL3, hps, hpl, hpne, hgl, hrl, hpr, hsp⟩ := Mj L2 hL2 d many (by omega) (by omega) (by omega) (by omega)
  have G : Geo d.toNat ps := ⟨by omega, by omega, hps, by omega, hpne⟩
  have hgne : gss ≠ [] := λ z => by rw [z] at hgl; simp at hgl; omega
  have hrok := Lz hpr (by omega)
  have hspb : ∀ n ∈ (List.range d.toNat).map sp, n.natAbs <= 10 := λ n hn => by
   obtain ⟨i, _, rfl⟩ := List.mem_map.mp hn
   exact hsp i
  have hspl : ((List.range d.toNat).map sp).length = d.toNat := by simp
  have hpap := yu (by omega) (by omega) hpr (by omega)
  generalize (List.range d.toNat).map sp = sv at *
  have hpok : okD 60 (.tup [aK (sv ++ [1]), .tup rws]) /\ okP (.tup [aK (sv ++ [1]), .tup rws]) := nA (Ge (n := 49) (b := 10) (λ m hm' => by
   rcases List.mem_append.mp hm' with z | z
   .exact lq 11 (by have := hspb m z; omega) (by decide)
   .rw [List.mem_singleton.mp z]; unfold Sm; decide) (by decide)) λ r hr => (hrok r hr).t
  have mo : ∀ L : List Int, ie [some (L.map .int)] := λ L => ie.dr ie.nil
  have e4 := xU d.toNat ps gss (.tup [aK (sv ++ [1]), .tup rws]) [some (L3'.map .int)] G hgne (by omega) (mo _) hpok.1 hpok.2
  rw [hpap] at e4
  have ask := λ (gs' : List (List Int)) (g1 : gs' ≠ []) (g2 : gs'.length <= 60) (t : D) (L : List Int) (h1 : okD 60 t) (h2 : okP t) => Lp d.toNat ps gs' t [some (L.map .int)] G g1 g2 (mo _) h1 h2
  have e5 := ask gss hgne (by omega) _ L3' hpok.1 hpok.2
  have eit : ∀ μ, bQ (ik ps) μ = some (ps.map aK) := λ μ => rfl
  have elst : D.lst (ps.map aK) = ik ps := rfl
  simp [e1, hd, e2, hmany, e3, eit, e4, e5, Cy (j := 8) (by decide) (by decide)]
  rw [elst]
  refine gF (λ its δ μ => ∃ L o7, DlD L /\ μ = [some (L.map .int)] /\ δ = [some (.ro (ns.map .int)), some (.cell 0), some dd, some (ik ps), some (.lst (gss.map cg)), some (.tup [aK (sv ++ [1]), .tup rws]), some (ik ps), o7, o8, o9, o10]) ?_ ?_ _ _ _ ⟨L3', _, hL3, rfl, rfl⟩
  .rintro d7 rest7 δ μ ⟨L, o7, hL, rfl, rfl⟩
   obtain ⟨x, L1, e1, hx, hL1⟩ := lE vq hL []
   obtain ⟨t, et, ht1, ht2⟩ := Qj sv rws x [some (L1.map .int)] (mo _) (by omega) (by omega) hspb (by omega) (by omega) hrok
   have ea := ask gss hgne (by omega) t L1 ht1 ht2
   generalize gss.map cg = gD at *
   generalize D.tup [aK (sv ++ [1]), .tup rws] = PP at *
   generalize ik ps = PS at *
   simp [e1, et, ea]
   exact ⟨L1, hL1, rfl⟩
  .rintro δ μ ⟨L, o7, hL, rfl, rfl⟩
   obtain ⟨x, L1, e1, hx, hL1⟩ := lE vq hL []
   have hglen : (gss.map cg).length = gss.length := by simp
   obtain ⟨i0, i1⟩ := bB (x := x) (m := gss.length) (by omega)
   have wi := jt (x := x) (y := (gss.length : Int)) [some (L1.map .int)] (by omega)
   generalize x.fmod gss.length = i at *
   obtain ⟨ai, gi⟩ := kI (F := cg) (l := gss) (k := i) (z := []) i0 i1
   generalize gss.getD i.toNat [] = g0 at *
   have hg0ne : g0 ≠ [] := Qy hpr (by omega) g0 gi
   have aj : ∃ g1 : List Int, atI (gss.map cg) (i - 1) = some (cg g1) := by
    by_cases h1 : 1 <= i
    .obtain ⟨a, _⟩ := kI (F := cg) (l := gss) (k := i - 1) (z := []) (by omega) (by omega)
     exact ⟨_, a⟩
    .have : i - 1 = -1 := by omega
     rw [this]
     have hne' : gss.map cg ≠ [] := by simpa using hgne
     rw [ug hne']
     have := List.getLast_mem hne'
     obtain ⟨g, _, e⟩ := List.mem_map.mp this
     exact ⟨g, by rw [e]⟩
   obtain ⟨g1, ej⟩ := aj
   have sl0 : oSl (cg g0) none (some (-1)) [some (L1.map .int)] = some (cg g0.dropLast, [some (L1.map .int)]) := by
    have := wL (ds := g0.map D.int) (μ := [some (L1.map .int)]) (by simpa using hg0ne)
    unfold cg
    rw [this, List.map_dropLast]
   have v5 := oG (i := x) (j := 5) (μ := [some (L1.map .int)]) (by decide) (by decide)
   obtain ⟨j0, j1⟩ := bB (x := x.fdiv 5) (m := 2) (by decide)
   obtain ⟨go, hgo, ego⟩ := jZ (ds := [cg g0.dropLast, cg g1]) j0 j1
   have hgo : ∃ g : List Int, go = cg g := by
    simp only [List.mem_cons, List.not_mem_nil, or_false] at hgo
    rcases hgo with rfl | rfl <;> exact ⟨_, rfl⟩
   obtain ⟨g, rfl⟩ := hgo
   have s1 := Lr (ds := gss.map cg) (i := i) (μ := [some (L1.map .int)]) i0
   have s2 := Dy (ds := gss.map cg) (i := i + 1) (μ := [some (L1.map .int)]) (by omega)
   rw [<- List.map_take] at s1
   rw [<- List.map_drop] at s2
   have hlt : (gss.take i.toNat).length <= 5 := by simp; omega
   have hld : (gss.drop (i + 1).toNat).length <= 5 := by simp; omega
   have ea := ask (gss.take i.toNat ++ g :: gss.drop (i + 1).toNat) (by simp) (by rw [List.length_append, List.length_cons]; omega) _ L1 hpok.1 hpok.2
   rw [List.map_append, List.map_cons] at ea
   have ht1 : ((gss.take i.toNat).map cg).length <= 5 := by rw [List.length_map]; exact hlt
   have hd1 : ((gss.drop (i + 1).toNat).map cg).length <= 5 := by rw [List.length_map]; exact hld
   generalize (gss.take i.toNat).map cg = A at *
   generalize (gss.drop (i + 1).toNat).map cg = B at *
   have z1 : A.length + 1 <= sizeLine := Nat.le_trans (by omega : _ <= 1000) (by decide)
   have z2 : A.length + 1 + B.length <= sizeLine := Nat.le_trans (by omega : _ <= 1000) (by decide)
   have ene := MF ps [some (L1.map .int)]
   generalize gss.map cg = gD at *
   generalize D.tup [aK (sv ++ [1]), .tup rws] = PP at *
   generalize ik ps = PS at *
   simp [e1, hglen, wi, ai, sl0, ej, v5, ego, s1, s2, z1, z2, ea, ene]
   exact ⟨L1, hL1, rfl⟩
 .rintro δ μ ⟨L, o2, o3, o4, o5, o6, o7, o8, o9, o10, hL, rfl, rfl⟩
  simp
end Lk32
def PySem.W.Fast.tw10550788564863793734 := 0
def PySem.W.Fast.tw10894891594715075807 := 0
def PySem.W.Fast.tw10981236244087889512 := 0
def PySem.W.Fast.tw11026970122632592969 := 0
def PySem.W.Fast.tw11581848365932820047 := 0
def PySem.W.Fast.tw12071983899953091776 := 0
def PySem.W.Fast.tw12266298022827367446 := 0
def PySem.W.Fast.tw12598309220329399117 := 0
def PySem.W.Fast.tw13256919223843514230 := 0
def PySem.W.Fast.tw13986245067636850676 := 0
def PySem.W.Fast.tw15293204195257273278 := 0
def PySem.W.Fast.tw15533332216390842217 := 0
def PySem.W.Fast.tw1559913806584037919 := 0
def PySem.W.Fast.tw16193314606706945729 := 0
def PySem.W.Fast.tw16235850913166907123 := 0
def PySem.W.Fast.tw17446911286911097413 := 0
def PySem.W.Fast.tw18065283297618687629 := 0
def PySem.W.Fast.tw2013125342954418834 := 0
def PySem.W.Fast.tw2069210550995687774 := 0
def PySem.W.Fast.tw2819525834031114400 := 0
def PySem.W.Fast.tw311010018648264463 := 0
def PySem.W.Fast.tw3114165565061235307 := 0
def PySem.W.Fast.tw3971107483226270098 := 0
def PySem.W.Fast.tw4465343110184107375 := 0
def PySem.W.Fast.tw4547687003742703064 := 0
def PySem.W.Fast.tw5158648762818827137 := 0
def PySem.W.Fast.tw521553401893437020 := 0
def PySem.W.Fast.tw5237794319643096190 := 0
def PySem.W.Fast.tw546386279232048845 := 0
def PySem.W.Fast.tw570455025698554684 := 0
def PySem.W.Fast.tw5714217752577215521 := 0
def PySem.W.Fast.tw6524830273046391570 := 0
def PySem.W.Fast.tw6846160118896634060 := 0
def PySem.W.Fast.tw7040334860104935144 := 0
def PySem.W.Fast.tw7457954652614870027 := 0
def PySem.W.Fast.tw7550526283169783421 := 0
def PySem.W.Fast.tw8667437743298768613 := 0
def PySem.W.Fast.tw9329350886717094433 := 0
def PySem.W.Fast.tw935707975963375522 := 0
open PySem PySem.W PyProof.Rows
set_option maxRecDepth 100000 in
set_option maxHeartbeats 0 in
theorem PySem.Challenge.cw_heapsmeet_k32_shared_by_clauses_holds : PySem.Challenge.rw_heapsmeet_k32_shared_by_clauses.Holds := by
 w_on; o_law; k_head; (case hw => w_witness2)
 k_fill
 refine L3.Ed (l := PySem.Challenge.rw_heapsmeet_k32_shared_by_clauses) (n := 63) (k := 13) (x := "_law_script") (φ := Lk32.zU) rfl (by decide) rfl ⟨rfl, by decide, by decide⟩ (λ w h Y => by first | exact PySem.W.kIn_of Y | exact PySem.W.km_in_of Y) ?F ?S
 case F =>
  intro w mg mb mean lo fa h KX G hmg
  apply Lk32.Kc KX G hmg <;> first | (apply L3.MT <;> first | k_is | rfl) | k_is | rfl
 case S => exact λ ns hl => Lk32.Ja ns hl
