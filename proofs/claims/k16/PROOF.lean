import PyProof.Rows.All
import Wide.All
import OpenK.AllK
import Wide.FinOn
import Lean
import PyProof.EqAt
import PyProof.EqKinds
import PyProof.TupleCall
import PySem.Challenge.RW_heapsmeet_k16_near_papers_made_up
set_option Elab.async false
abbrev Za := @Option.bind_eq_some_iff
abbrev Zb := @PySem.Heap.get?_push_of_some
abbrev Zc := @Nat.lt_of_lt_of_le
abbrev Zd := @List.size_toArray
abbrev Ze := @PySem.Heap.lt_size
abbrev Zf := @PySem.Heap.get?_push_size
abbrev Zg := @Nat.le_refl
abbrev Zh := @List.getElem?_eq_some_iff
abbrev Zi := @List.mem_cons
abbrev Zj := @List.map_cons
abbrev Zk := @Nat.ne_of_lt
abbrev Zl := @Nat.le_trans
abbrev Zm := @List.mem_append
abbrev Zn := @List.mem_append_right
abbrev Zo := @Bool.and_eq_true
abbrev Zp := @Option.map_eq_some_iff
abbrev Zq := @List.mem_map
abbrev Zr := @Bool.false_ne_true
abbrev Zs := @List.getElem?_append_left
abbrev Zt := @PySem.mem_of_lookup
abbrev Zu := @List.length_map
set_option linter.all false
set_option maxRecDepth 100000
namespace L2
open PySem PySem.Spec PyProof.Rows
abbrev Key := Sum Int Str
def Ju : Key -> Value -> Bool
 | .inl k, v => Value.isInt k v
 | .inr x, v => Value.isStrOf x v
def keyH (w : World) : Key -> Int
 | .inl k => hashInt k
 | .inr x => hashStr w x
theorem dq : ∀ {k : Key} {v : Value}, Ju k v = true -> (∃ i t, k = Sum.inl i /\ v = Value.int i t) ∨ (∃ x t, k = Sum.inr x /\ v = Value.str x t)
 | .inl i, v, h => by
  obtain ⟨t, e⟩ := Value.isInt_shape (k := i) (v := v) h
  exact .inl ⟨i, t, rfl, e⟩
 | .inr x, v, h => by
  obtain ⟨t, e⟩ := Value.isStrOf_shape (x := x) (v := v) h
  exact .inr ⟨x, t, rfl, e⟩
theorem Mp (a b : Int) : decide ((Sum.inl a : Key) = Sum.inl b) = (a == b) := by
 by_cases e : a = b
 .subst e; simp
 .have h : ¬ (Sum.inl a : Key) = Sum.inl b := λ q => e (Sum.inl.inj q)
  rw [decide_eq_false h]
  exact (beq_eq_false_iff_ne.mpr e).symm
theorem Mh (a b : Str) : decide ((Sum.inr a : Key) = Sum.inr b) = decide (a = b) := by
 by_cases e : a = b
 .subst e; simp
 .have h : ¬ (Sum.inr a : Key) = Sum.inr b := λ q => e (Sum.inr.inj q)
  rw [decide_eq_false h, decide_eq_false e]
theorem Lp (a : Int) (b : Str) : decide ((Sum.inl a : Key) = Sum.inr b) = false := decide_eq_false (λ q => nomatch q)
theorem Ke (a : Str) (b : Int) : decide ((Sum.inr a : Key) = Sum.inl b) = false := decide_eq_false (λ q => nomatch q)
def vW (prog : Program) (w : World) : PySem.KeyKind prog w Key where
 is := Ju
 hash := keyH w
 inj := λ v a b ha hb => by
  rcases dq ha with ⟨i, t, rfl, rfl⟩ | ⟨x, t, rfl, rfl⟩
  .rcases dq hb with ⟨j, u, rfl, e⟩ | ⟨y, u, rfl, e⟩
   .injection e with e1 _; rw [e1]
   .exact nomatch e
  .rcases dq hb with ⟨j, u, rfl, e⟩ | ⟨y, u, rfl, e⟩
   .exact nomatch e
   .injection e with e1 _; rw [e1]
 byValue := λ k v h => by
  rcases dq h with ⟨i, t, rfl, rfl⟩ | ⟨x, t, rfl, rfl⟩ <;> rfl
 pyHash := λ hv h => by
  rcases dq hv with ⟨i, t, rfl, rfl⟩ | ⟨x, t, rfl, rfl⟩
  .exact wpAny_pyHash_int h
  .exact wpAny_pyHash_str h
 eqBool := λ hu hv h => by
  rcases dq hu with ⟨i, t, rfl, rfl⟩ | ⟨x, t, rfl, rfl⟩
  .rcases dq hv with ⟨j, u, rfl, rfl⟩ | ⟨y, u, rfl, rfl⟩
   .rw [Mp] at h; exact wpAny_eqBool_int h
   .rw [Lp] at h; exact SeqAt.EqAt.int_str i t y u _ _ _ _ h
  .rcases dq hv with ⟨j, u, rfl, rfl⟩ | ⟨y, u, rfl, rfl⟩
   .rw [Ke] at h; exact SeqAt.EqAt.str_int x t j u _ _ _ _ h
   .rw [Mh] at h; exact wpAny_eqBool_str h
 «strs» := λ k x t v h => by
  rcases dq h with ⟨i, u, rfl, e⟩ | ⟨y, u, rfl, e⟩
  .exact nomatch e
  .injection e with e1 _
   subst e1
   cases v <;> rfl
inductive V where
 | non | bl (b : Bool) | int (i : Int) | str (x : Str) | byt (b : Array UInt8) | flt (b : UInt64) | ref (a : Addr) | ty (n : String)
 deriving DecidableEq
def RelV : V -> Value -> Prop
 | .non, u => u = Value.none
 | .bl b, u => u = Value.bool b
 | .int i, u => ∃ t, u = Value.int i t
 | .str x, u => ∃ t, u = Value.str x t
 | .byt b, u => ∃ t, u = Value.bytes b t
 | .flt b, u => ∃ t, u = Value.float b t
 | .ref a, u => u = Value.ref a
 | .ty n, u => u = Value.type n
abbrev Vals : List V -> List Value -> Prop := Paired RelV
theorem Vals.length {xs : List V} {us : List Value} (r : Vals xs us) : xs.length = us.length := Paired.length r
theorem Vals.get : ∀ {xs : List V} {us : List Value} {i : Nat} {x : V}, Vals xs us -> xs[i]? = some x -> ∃ u, us[i]? = some u /\ RelV x u
 | _, _, _, _, .nil, e => by simp at e
 | _, _, 0, _, .cons r _, e => by simp at e; subst e; exact ⟨_, rfl, r⟩
 | _, _, i + 1, x, .cons _ t, e => by
  obtain ⟨u, h1, h2⟩ := Vals.get (i := i) (x := x) t (by simpa using e)
  exact ⟨u, by simpa using h1, h2⟩
theorem Vals.set {x : V} {u : Value} (r : RelV x u) : ∀ {xs : List V} {us : List Value} (i : Nat), Vals xs us -> Vals (xs.set i x) (us.set i u)
 | _, _, _, .nil => .nil
 | _, _, 0, .cons _ t => .cons r t
 | _, _, i + 1, .cons q t => .cons q (Vals.set r i t)
theorem Vals.append : ∀ {xs ys : List V} {us ws : List Value}, Vals xs us -> Vals ys ws -> Vals (xs ++ ys) (us ++ ws)
 | _, _, _, _, .nil, s => s
 | _, _, _, _, .cons r t, s => .cons r (Vals.append t s)
theorem Vals.take : ∀ {xs : List V} {us : List Value} (n : Nat), Vals xs us -> Vals (xs.take n) (us.take n)
 | _, _, 0, _ => .nil
 | _, _, _ + 1, .nil => .nil
 | _, _, n + 1, .cons r t => .cons r (Vals.take n t)
theorem Vals.drop : ∀ {xs : List V} {us : List Value} (n : Nat), Vals xs us -> Vals (xs.drop n) (us.drop n)
 | _, _, 0, r => r
 | _, _, _ + 1, .nil => .nil
 | _, _, n + 1, .cons _ t => Vals.drop n t
theorem Vals.none_of : ∀ {xs : List V} {us : List Value} {i : Nat}, Vals xs us -> xs[i]? = none -> us[i]? = none := λ {xs us i} r e => by
 have h1 := r.length
 have h2 : xs.length <= i := List.getElem?_eq_none_iff.mp e
 exact List.getElem?_eq_none_iff.mpr (by omega)
def Pr : Option V -> Option Value -> Prop
 | some v, some u => RelV v u
 | none, none => True
 | _, _ => False
def KV {κ : Type} : List (κ × V) -> List (κ × Value) -> Prop := Paired λ (p : κ × V) (q : κ × Value) => p.1 = q.1 /\ RelV p.2 q.2
def kV : Key -> V
 | .inl i => .int i
 | .inr x => .str x
inductive HO where
 | lst (xs : List V)
 | tup (xs : List V)
 | dK (kvs : List (Key × V)) | dT (kvs : List (List Key × V))
 | set (S : Int -> Bool) (n : Nat)
 | ins (C dx : Addr) (fs : List (Str × V))
 | own (x : Addr)
 | xd (fs : List (Str × V))
 | met (f x : Addr)
 | rng (lo hi : Int)
 | frz (o : Obj) (u : HO)
 | tbl (ps : Array Value)
 | ext (φ : Heap -> Prop)
abbrev Hp := Addr -> Option HO
def upd (H : Hp) (a : Addr) (o : HO) : Hp := λ b => if b = a then some o else H b
theorem dC {H : Hp} {a : Addr} {o : HO} : upd H a o a = some o := by unfold upd; rw [if_pos rfl]
theorem aN {H : Hp} {a b : Addr} {o : HO} (h : b ≠ a) : upd H a o b = H b := by unfold upd; rw [if_neg h]
theorem xJ {H : Hp} {a b : Addr} {o u : HO} (h : H a = some o) (h' : H b = some u) (d : o ≠ u) : a ≠ b := by
 intro e; subst e; rw [h] at h'; exact d (Option.some.inj h')
theorem cz {H : Hp} {a b : Addr} {o : HO} (h : H a = some o) (h' : H b = none) : a ≠ b := by
 intro e; subst e; rw [h] at h'; cases h'
section
variable (P : Program) (w : World)
def gk (H : Hp) (h : Heap) (a : Addr) : HO -> Prop
 | .lst xs => xs.length <= sizeLine /\ ∃ (its : List Value) (n : Nat), Vals xs its /\ h.get? a = some { cls := .type "list", data := .seq its.toArray n }
 | .tup xs => xs.length <= sizeLine /\ ∃ its : List Value, Vals xs its /\ IsTup h a its.toArray
 | .dK kvs => kvs.length <= sizeLine /\ (a == sysModules) = false /\ ∃ vs, KV kvs vs /\ h.DictOf (vW P w) a vs
 | .dT kvs => kvs.length <= sizeLine /\ (a == sysModules) = false /\ ∃ xs : List (List Key × Addr × Value),
   Paired (λ (p : List Key × V) (q : List Key × Addr × Value) => p.1 = q.1 /\ H q.2.1 = some (.tup (p.1.map kV)) /\ RelV p.2 q.2.2) kvs xs /\
   ∃ o es ep, h.get? a = some o /\ o.ExactDict /\ o.data = .dict es ep /\ es.toList = xs.map (entryOfKey (tupleKind (vW P w))) /\ (xs.map (·.1)).Nodup
 | .set S n => h.SetOf (intKind P w) a S n
 | .ins C dx fs => H dx = some (.own a) /\ fs.length <= 1000 /\ dx ≠ a /\ h.get? a = some (PySem.W.instObj C dx) /\
   ∃ mA, h.Ns1 dx mA /\ (∀ f, Pr (fs.lookup f) (mA f)) /\ PySem.Within mA (fs.map (·.1))
 | .own _ => ∃ o, h.get? a = some o
 | .xd fs => ∃ mA, h.Ns1 a mA /\ ∀ f, Pr (fs.lookup f) (mA f)
 | .rng lo hi => ∃ t u v, h.get? a = some { cls := .type "range", data := .fields #[.int lo t, .int hi u, .int 1 v] }
 | .frz o u => h.get? a = some o /\ gk H h a u
 | .tbl ps => h.get? a = some { cls := .none, data := .fields ps }
 | .met f x => h.get? a = some (PySem.W.methodObj (.ref f) (.ref x))
 | .ext φ => φ h /\ (∃ o, h.get? a = some o) /\ ∀ h1 h2 : Heap, φ h1 -> (∀ o, h1.get? a = some o -> h2.get? a = some o) -> φ h2
def HOk (H : Hp) (h : Heap) : Prop := ∀ a o, H a = some o -> gk P w H h a o
end
section
variable {P : Program} {w : World} {H H' : Hp} {h h' : Heap} {a : Addr} {o : HO}
theorem gk.lt (x : gk P w H h a o) : a < h.objs.size := by
 cases o with
 | lst xs => obtain ⟨_, _, _, _, e⟩ := x; exact Ze e
 | tup xs => obtain ⟨_, _, _, p⟩ := x; exact p.lt
 | dK kvs => obtain ⟨_, _, _, _, o, _, _, e, _⟩ := x; exact Ze e
 | dT kvs => obtain ⟨_, _, _, _, o, _, _, e, _⟩ := x; exact Ze e
 | set S n => obtain ⟨o, _, _, _, e, _⟩ := x; exact Ze e
 | ins C dx fs => obtain ⟨_, _, _, e, _⟩ := x; exact Ze e
 | own y => obtain ⟨_, e⟩ := x; exact Ze e
 | xd fs => obtain ⟨_, ⟨_, _, _, e, _⟩, _⟩ := x; exact Ze e
 | rng lo hi => obtain ⟨_, _, _, e⟩ := x; exact Ze e
 | frz ob u => obtain ⟨e, _⟩ := x; exact Ze e
 | tbl ps => exact Ze (show h.get? a = some _ from x)
 | met f y => exact Ze (show h.get? a = some _ from x)
 | ext φ => obtain ⟨_, ⟨_, e⟩, _⟩ := x; exact Ze e
theorem Paired.mapP {α β : Type} {F G : α -> β -> Prop} : ∀ {l₁ : List α} {l₂ : List β}, Paired F l₁ l₂ -> (∀ a b, F a b -> G a b) -> Paired G l₁ l₂
 | _, _, .nil, _ => .nil
 | _, _, .cons r t, f => .cons (f _ _ r) (Paired.mapP t f)
theorem gk.stay (x : gk P w H h a o) (k : ∀ b u, (b = a ∨ H b = some (.own a)) -> h.get? b = some u -> h'.get? b = some u)
  (ho : ∀ b, H b = some (.own a) -> H' b = some (.own a)) (ht : ∀ b xs, H b = some (.tup xs) -> H' b = some (.tup xs)) : gk P w H' h' a o := by
 induction o with
 | lst xs => obtain ⟨z, its, n, r, e⟩ := x; exact ⟨z, its, n, r, k _ _ (.inl rfl) e⟩
 | tup xs => obtain ⟨z, its, r, ob, e, c⟩ := x; exact ⟨z, its, r, ob, k _ _ (.inl rfl) e, c⟩
 | dK kvs => obtain ⟨z, y, vs, r, ob, es, ep, e, c⟩ := x; exact ⟨z, y, vs, r, ob, es, ep, k _ _ (.inl rfl) e, c⟩
 | dT kvs =>
  obtain ⟨z, y, xs, r, ob, es, ep, e, c⟩ := x
  exact ⟨z, y, xs, Paired.mapP r λ p q z => ⟨z.1, ht _ _ z.2.1, z.2.2⟩, ob, es, ep, k _ _ (.inl rfl) e, c⟩
 | set S n => obtain ⟨ob, es, ep, t, e, c⟩ := x; exact ⟨ob, es, ep, t, k _ _ (.inl rfl) e, c⟩
 | ins C dx fs =>
  obtain ⟨d, z, ne, e, mA, ⟨od, es, ep, e2, c⟩, r⟩ := x
  exact ⟨ho _ d, z, ne, k _ _ (.inl rfl) e, mA, ⟨od, es, ep, k _ _ (.inr d) e2, c⟩, r⟩
 | own y => obtain ⟨ob, e⟩ := x; exact ⟨ob, k _ _ (.inl rfl) e⟩
 | xd fs => obtain ⟨mA, ⟨od, es, ep, e, c⟩, r⟩ := x; exact ⟨mA, ⟨od, es, ep, k _ _ (.inl rfl) e, c⟩, r⟩
 | rng lo hi => obtain ⟨t, u, v, e⟩ := x; exact ⟨t, u, v, k _ _ (.inl rfl) e⟩
 | frz ob u ih => obtain ⟨e, q⟩ := x; exact ⟨k _ _ (.inl rfl) e, ih q⟩
 | tbl ps =>
  have e : h.get? a = some { cls := .none, data := .fields ps } := x
  show h'.get? a = some { cls := .none, data := .fields ps }
  exact k a _ (.inl rfl) e
 | met f y =>
  have e : h.get? a = some (PySem.W.methodObj (.ref f) (.ref y)) := x
  show h'.get? a = some (PySem.W.methodObj (.ref f) (.ref y))
  exact k a _ (.inl rfl) e
 | ext φ => obtain ⟨p, ⟨o, e⟩, st⟩ := x; exact ⟨st _ _ p λ o q => k _ _ (.inl rfl) q, ⟨o, k _ _ (.inl rfl) e⟩, st⟩
theorem HOk.lt (x : HOk P w H h) (e : H a = some o) : a < h.objs.size := (x a o e).lt
theorem HOk.fresh (x : HOk P w H h) (e : h.objs.size <= a) : H a = none := by
 cases q : H a with
 | none => rfl
 | some u => exact absurd (Zc (x.lt q) e) (Nat.lt_irrefl _)
theorem HOk.kept (x : HOk P w H h) (k : ∀ b u, h.get? b = some u -> h'.get? b = some u) : HOk P w H h' := λ a o e =>
 (x a o e).stay (λ b u _ q => k b u q) (λ _ q => q) λ _ _ q => q
theorem HOk.laid (x : HOk P w H h) (k : ∀ b u, h.get? b = some u -> h'.get? b = some u) (hp : h.objs.size <= a) (new : gk P w (upd H a o) h' a o) : HOk P w (upd H a o) h' := λ b u e => by
 have hn := x.fresh hp
 by_cases hb : b = a
 .subst hb; rw [dC] at e; cases e; exact new
 .rw [aN hb] at e
  exact (x b u e).stay (λ c v _ q => k c v q) (λ c q => by rw [aN (cz q hn)]; exact q) λ c xs q => by rw [aN (cz q hn)]; exact q
end
def Rd (H : Hp) (a : Addr) (u : HO) : Prop := H a = some u ∨ ∃ o, H a = some (.frz o u)
theorem Rd.ok {P : Program} {w : World} {H : Hp} {h : Heap} {a : Addr} {u : HO} (r : Rd H a u) (x : HOk P w H h) : gk P w H h a u := by
 rcases r with r | ⟨o, r⟩
 .exact x a u r
 .obtain ⟨_, q⟩ := x a _ r
  exact q
def Mut : Option HO -> Prop
 | some (.lst _) => True
 | some (.dK _) => True
 | some (.dT _) => True
 | some (.set _ _) => True
 | some (.ins _ _ _) => True
 | some (.ext _) => True
 | _ => False
section
variable {P : Program} {w : World} {H : Hp} {h h' : Heap} {x e : Addr} {o' : HO}
theorem HOk.write (ok : HOk P w H h) (mu : Mut (H x)) (he : e = x ∨ H e = some (.own x)) (k : ∀ b u, b ≠ e -> h.get? b = some u -> h'.get? b = some u) (heo : ∃ u, h'.get? e = some u)
  (new : gk P w (upd H x o') h' x o') : HOk P w (upd H x o') h' := λ b u q => by
 have nown : ∀ c y, H c = some (.own y) -> c ≠ x := λ c y r z => by subst z; rw [r] at mu; exact mu
 have ntup : ∀ c xs, H c = some (.tup xs) -> c ≠ x := λ c xs r z => by subst z; rw [r] at mu; exact mu
 by_cases hb : b = x
 .subst hb; rw [dC] at q; cases q; exact new
 .rw [aN hb] at q
  by_cases hbe : b = e
  .have q' : H b = some (.own x) := by
    rcases he with z | z
    .exact absurd (hbe.trans z) hb
    .rw [hbe]; exact z
   rw [q] at q'; cases q'
   obtain ⟨v, hv⟩ := heo
   exact ⟨v, by rw [hbe]; exact hv⟩
  .refine (ok b u q).stay (λ c v hc r => k c v ?_ r) (λ c r => by rw [aN (nown c b r)]; exact r) λ c xs r => by rw [aN (ntup c xs r)]; exact r
   rcases hc with rfl | hc
   .exact hbe
   .rintro rfl
    rcases he with z | z
    .exact nown c b hc z
    .rw [hc] at z; cases z; exact hb rfl
end
structure Un (fs ex : List Addr) (H H' : Hp) (h h' : Heap) : Prop where
 keep : ∀ b o, h.get? b = some o -> H b = none -> b ∉ fs -> b ∉ ex -> h'.get? b = some o
 slot : ∀ b o, h.get? b = some o -> H b = none -> b ∈ fs -> b ∉ ex -> ∃ sl, h'.get? b = some { o with slots := sl }
 free : ∀ b o, h.get? b = some o -> H b = none -> b ∉ ex -> H' b = none
 there : ∀ b o, h.get? b = some o -> b ∉ ex -> ∃ o', h'.get? b = some o'
 tups : ∀ b xs, H b = some (.tup xs) -> H' b = some (.tup xs)
 frzs : ∀ b o u, H b = some (.frz o u) -> H' b = some (.frz o u)
 tbls : ∀ b ps, H b = some (.tbl ps) -> ∃ more, H' b = some (.tbl (ps ++ more))
section
variable {fs fs' ex ex' : List Addr} {H H1 H2 : Hp} {h h1 h2 h' : Heap} {a x e : Addr} {o : HO}
theorem Un.any (u : Un fs ex H H1 h h1) {b : Addr} {ob : Obj} (q : h.get? b = some ob) (n : H b = none) (hx : b ∉ ex) : ∃ sl, h1.get? b = some { ob with slots := sl } := by
 by_cases hb : b ∈ fs
 .exact u.slot b ob q n hb hx
 .exact ⟨ob.slots, u.keep b ob q n hb hx⟩
theorem Un.kept (k : ∀ b u, h.get? b = some u -> h'.get? b = some u) : Un fs ex H H h h' :=
 ⟨λ b ob q _ _ _ => k b ob q, λ b ob q _ _ _ => ⟨ob.slots, k b ob q⟩, λ _ _ _ n _ => n, λ b ob q _ => ⟨ob, k b ob q⟩, λ _ _ q => q, λ _ _ _ q => q, λ _ ps q => ⟨#[], by rw [q]; simp⟩⟩
theorem Un.refl : Un fs ex H H h h := Un.kept λ _ _ q => q
theorem Un.laid (k : ∀ b u, h.get? b = some u -> h'.get? b = some u) (hp : h.objs.size <= a) (hn : H a = none) : Un fs ex H (upd H a o) h h' where
 keep := λ b u q _ _ _ => k b u q
 slot := λ b u q _ _ _ => ⟨u.slots, k b u q⟩
 free := λ b u q n _ => by rw [aN (Zk (Zc (Ze q) hp))]; exact n
 there := λ b u q _ => ⟨u, k b u q⟩
 tups := λ b xs q => by rw [aN (cz q hn)]; exact q
 frzs := λ b u xs q => by rw [aN (cz q hn)]; exact q
 tbls := λ b ps q => ⟨#[], by rw [aN (cz q hn), q]; simp⟩
theorem Un.write (mu : Mut (H x)) (he : e = x ∨ H e = some (.own x)) (k : ∀ b u, b ≠ e -> h.get? b = some u -> h'.get? b = some u) (heo : ∃ u, h'.get? e = some u) : Un fs ex H (upd H x o) h h' := by
 have hx : ∀ b, H b = none -> b ≠ x := λ b n z => by subst z; rw [n] at mu; exact mu
 have hb : ∀ b, H b = none -> b ≠ e := λ b n z => by
  subst z
  rcases he with r | r
  .exact hx b n r
  .rw [n] at r; cases r
 have hm : ∀ b u, H b = some u -> ¬ Mut (some u) -> b ≠ x := λ b u q nm z => by subst z; rw [q] at mu; exact nm mu
 refine ⟨λ b u q n _ _ => k b u (hb b n) q, λ b u q n _ _ => ⟨u.slots, k b u (hb b n) q⟩, λ b u q n _ => by rw [aN (hx b n)]; exact n, λ b u q _ => ?_,
  λ b xs q => by rw [aN (hm b _ q λ z => z)]; exact q, λ b u xs q => by rw [aN (hm b _ q λ z => z)]; exact q, λ b ps q => ⟨#[], by rw [aN (hm b _ q λ z => z), q]; simp⟩⟩
 by_cases hbe : b = e
 .subst hbe; exact heo
 .exact ⟨u, k b u hbe q⟩
end
def trk (h : Heap) (H : Hp) : List Addr := (List.range h.objs.size).filter λ a => (H a).isSome
def wI (h : Heap) (H : Hp) : Heap := PySem.W.hideAll h (trk h H)
theorem Ca (h : Heap) (H : Hp) : (wI h H).objs.size = h.objs.size := PySem.W.hideAll_size _ _
theorem CK {h : Heap} {H : Hp} {b : Addr} {o : Obj} (e : h.get? b = some o) (n : H b = none) : (wI h H).get? b = some o :=
 PySem.W.hideAll_get _ e λ hm => by
  have q : (H b).isSome = true := (List.mem_filter.mp hm).2
  rw [n] at q; simp at q
theorem HB {h : Heap} {H : Hp} {b : Addr} {o : Obj} (e : (wI h H).get? b = some o) : h.get? b = some o /\ H b = none := by
 have e' : h.get? b = some o := PySem.W.of_hideAll (trk h H) e
 refine ⟨e', ?_⟩
 cases q : H b with
 | none => rfl
 | some x =>
  have hm : b ∈ trk h H := List.mem_filter.mpr ⟨List.mem_range.mpr (Ze e'), by simp [q]⟩
  have z : (wI h H).get? b = none := PySem.W.hideAll_none (trk h H) hm
  rw [z] at e; cases e
def Gv (g h : Heap) (L : Addr) : List (Addr × Obj) := (List.range h.objs.size).filterMap λ a => if a = L ∨ (g.get? a).isSome = true then none else (h.get? a).map λ o => (a, o)
def rest (g h : Heap) (L d : Addr) : List (Addr × Obj) := (Gv g h L).filter λ p => decide (p.1 ≠ d)
structure Mod (K : PySem.W.Frag) (mg : Str -> Option Value) (base : Heap) : Prop where
 kin : K.In base
 glob : base.Ns mainGlobals mg
 blt : ∃ mb, base.Ns builtinsNs mb /\ ∀ x : Str, x ≠ "__name__" -> mb x = bootBuiltins x
 nolimit : base.NoLimit
 bmain : ∃ bm ob, mg "__builtins__" = some (.ref bm) /\ bm ≠ builtinsNs /\ base.get? bm = some ob /\ ob.cls = .type "module" /\ ob.dict = some builtinsNs /\ ob.data = .plain
structure Cx where
 prog : Program
 w : World
 K : PySem.W.Frag
 mg : Str -> Option Value
 base : Heap
 A : Around
 N : List Str
 s₀ : Shared
 H₀ : Hp
 env : Env
 outer : List Env
 stack : List Env
 ex : List Addr
 fn : Str -> Bool
 calm : Bool
 pn : List (Addr × Obj)
 xe : Value -> Shared -> Prop
def frs (l : List Env) : List Addr := l.filterMap (·.frame)
abbrev Cx.fs (X : Cx) : List Addr := frs X.outer
def Vis (sc : Scope) (x : Str) : Prop := sc.names.lookup x = some .local ∨ sc.names.lookup x = some .cell ∨ sc.names.lookup x = some .free
def Loc (sc : Scope) (x : Str) : Prop := sc.names.lookup x = some .local ∨ sc.names.lookup x = some .cell
def Look (env : Env) (h : Heap) (m : Str -> Option Value) (x : Str) (u : Value) : Prop :=
 (env.kindOf x = some .local /\ m x = some u) ∨ ((env.kindOf x = some .cell ∨ env.kindOf x = some .free) /\ ∃ c, env.cells.lookup x = some c /\ h.IsCell c (some u))
structure Cx.Ok (X : Cx) : Prop where
 mod : Mod X.K X.mg X.base
 kind : X.env.scope.kind = .function
 glob : X.env.globals = mainGlobals
 blt : X.env.builtins = builtinsNs
 above : X.s₀.heap.objs.size <= X.env.locals
 inj : ∀ x y c, X.env.cells.lookup x = some c -> X.env.cells.lookup y = some c -> x = y
 has : ∀ x, (X.env.kindOf x = some .cell ∨ X.env.kindOf x = some .free) -> ∃ c, X.env.cells.lookup x = some c
 cab : ∀ x c, X.fn x = true -> X.env.cells.lookup x = some c -> X.s₀.heap.objs.size <= c
 hd : X.calm = true -> X.A.handled = none
 frames : X.A.frames = some X.stack
 stk : X.stack = X.outer ∨ (X.stack = X.env :: X.outer /\ X.env.frame = some X.env.locals)
 exf : ∀ b ∈ X.ex, b ≠ X.env.locals /\ ∀ x c, X.env.cells.lookup x = some c -> c ≠ b
 bs : ∀ b o, X.base.get? b = some o -> X.s₀.heap.get? b = some o /\ X.H₀ b = none
 bsz : X.base.objs.size <= X.s₀.heap.objs.size
 noex : ∀ b o, X.base.get? b = some o -> b ∉ X.ex
 exfs : ∀ b ∈ X.ex, b ∉ X.fs
 funs : X.s₀.heap.FunFrames X.base X.outer
 frf : ∀ b ∈ X.fs, X.H₀ b = none
structure GK (a b : Array GenState) : Prop where
 bare : AllBare b
 kept : ∀ (k : Nat) (g : GenState), a[k]? = some g -> b[k]? = some g
theorem GK.refl {a : Array GenState} (h : AllBare a) : GK a a := ⟨h, λ _ _ e => e⟩
theorem GK.trans {a b c : Array GenState} (x : GK a b) (y : GK b c) : GK a c := ⟨y.bare, λ k g e => y.kept k g (x.kept k g e)⟩
theorem GK.again {a b : Array GenState} (x : GK a b) : GK b b := GK.refl x.bare
structure Inv (X : Cx) (pins : List (Addr × Obj)) (σ : List (Option V)) (H : Hp) (s : Shared) : Prop where
 ok : X.Ok
 os : s.os = X.s₀.os
 bare : GK X.s₀.gens s.gens
 base : Un X.fs X.ex X.H₀ H X.s₀.heap s.heap
 loc : ∃ m, s.heap.Ns X.env.locals m /\ ∀ (i : Nat) (x : Str) (v : V), X.N[i]? = some x -> σ[i]? = some (some v) -> Vis X.env.scope x -> ∃ u, RelV v u /\ Look X.env s.heap m x u
 cell : ∀ x c, X.env.cells.lookup x = some c -> ∃ v, s.heap.IsCell c v
 free : H X.env.locals = none
 freeC : ∀ x c, X.env.cells.lookup x = some c -> H c = none
 pin : ∀ p ∈ X.pn ++ pins, s.heap.get? p.1 = some p.2 /\ H p.1 = none /\ p.1 ≠ X.env.locals /\ p.1 ∉ X.fs /\ ∀ v, p.2.data ≠ .cell v
 hok : HOk X.prog X.w H s.heap
 len : σ.length = X.N.length
section
variable {X : Cx} {pins : List (Addr × Obj)} {σ : List (Option V)} {H H' : Hp} {s : Shared} {h' : Heap}
theorem Cx.Ok.nofr (ok : X.Ok) {b : Addr} {o : Obj} (e : X.base.get? b = some o) : b ∉ X.fs := λ hb => by
 have := (ok.funs.mem hb).1
 rw [e] at this; cases this
theorem Inv.bs (I : Inv X pins σ H s) : ∀ b o, X.base.get? b = some o -> s.heap.get? b = some o /\ H b = none := λ b o e =>
 ⟨I.base.keep b o (I.ok.bs b o e).1 (I.ok.bs b o e).2 (I.ok.nofr e) (I.ok.noex b o e), I.base.free b o (I.ok.bs b o e).1 (I.ok.bs b o e).2 (I.ok.noex b o e)⟩
theorem Inv.bk (I : Inv X pins σ H s) : ∀ b o, X.base.get? b = some o -> s.heap.get? b = some o := λ b o e => (I.bs b o e).1
theorem Inv.mod (I : Inv X pins σ H s) : Mod X.K X.mg X.base := I.ok.mod
theorem Inv.kIn (I : Inv X pins σ H s) : X.K.In s.heap := I.ok.mod.kin.keeps I.bk
theorem Inv.nolimit (I : Inv X pins σ H s) : s.heap.NoLimit := I.ok.mod.nolimit.keeps I.bk
theorem Inv.fr (I : Inv X pins σ H s) : ∃ m, Fr X.base X.env.locals s.heap m :=
 let ⟨m, hn, _⟩ := I.loc
 ⟨m, hn, I.bk, Zl I.ok.bsz I.ok.above⟩
theorem Inv.lt (I : Inv X pins σ H s) : X.env.locals < s.heap.objs.size := let ⟨_, hn, _⟩ := I.loc; hn.lt
theorem Inv.sz (I : Inv X pins σ H s) : X.s₀.heap.objs.size <= s.heap.objs.size := Zl I.ok.above (Nat.le_of_lt I.lt)
theorem Inv.nofs (I : Inv X pins σ H s) {a : Addr} (h : s.heap.objs.size <= a) : a ∉ X.fs := λ hb => by
 obtain ⟨_, o, ho, _⟩ := I.ok.funs.mem hb
 exact absurd (Zc (Ze ho) (Zl I.sz h)) (Nat.lt_irrefl _)
theorem Inv.cne (I : Inv X pins σ H s) : ∀ x c, X.env.cells.lookup x = some c -> c ≠ X.env.locals := λ x c e z => by
 obtain ⟨v, o, ho, hd⟩ := I.cell x c e
 obtain ⟨m, ⟨o', es, ep, ho', hd', _⟩, _⟩ := I.loc
 rw [z, ho'] at ho; cases ho; rw [hd'] at hd; cases hd
theorem Inv.funs (I : Inv X pins σ H s) : s.heap.FunFrames X.base X.outer := by
 have all : ∀ (l : List Env), (∀ b ∈ frs l, b ∈ X.fs) -> X.s₀.heap.FunFrames X.base l -> s.heap.FunFrames X.base l := by
  intro l
  induction l with
  | nil => intro _ _; trivial
  | cons env r ih =>
   intro hs hl
   obtain ⟨hk, ⟨L, o, hf, hn, ho, hd⟩, hr⟩ := hl
   have hL : L ∈ X.fs := hs L (by unfold frs; rw [List.filterMap_cons, hf]; exact List.mem_cons_self)
   obtain ⟨sl, e⟩ := I.base.slot L o ho (I.ok.frf L hL) hL λ z => I.ok.exfs L z hL
   exact ⟨hk, ⟨L, _, hf, hn, e, hd⟩, ih (λ b hb => hs b (by unfold frs; rw [List.filterMap_cons, hf]; exact List.mem_cons_of_mem _ hb)) hr⟩
 exact all X.outer (λ _ hb => hb) I.ok.funs
theorem Inv.stack (I : Inv X pins σ H s) : s.heap.FunFrames X.base X.stack := by
 rcases I.ok.stk with e | ⟨e, hf⟩
 .rw [e]; exact I.funs
 .rw [e]
  obtain ⟨m, hn, _⟩ := I.loc
  refine .cons (by rw [I.ok.kind]; decide) hf hn ?_ I.funs
  exact Heap.get?_none_of_le (Zl I.ok.bsz I.ok.above)
theorem Inv.stkSub (I : Inv X pins σ H s) : ∀ b ∈ frs X.stack, b ∈ X.env.locals :: X.fs := λ b hb => by
 rcases I.ok.stk with e | ⟨e, hf⟩
 .rw [e] at hb; exact List.mem_cons_of_mem _ hb
 .rw [e] at hb
  unfold frs at hb
  rw [List.filterMap_cons, hf] at hb
  exact hb
theorem Inv.stkFree (I : Inv X pins σ H s) : ∀ b ∈ frs X.stack, H b = none := λ b hb => by
 rcases Zi.mp (I.stkSub b hb) with e | hb
 .rw [e]; exact I.free
 .obtain ⟨_, o, ho, _⟩ := I.ok.funs.mem hb
  exact I.base.free b o ho (I.ok.frf b hb) λ z => I.ok.exfs b z hb
theorem Inv.step {g' : Array GenState} {t' : Nat} {d' : Drawn} {ch : List Addr} (I : Inv X pins σ H s)
  (hch : ∀ b ∈ ch, (b ∈ X.ex ∨ X.s₀.heap.objs.size <= b) /\ b ≠ X.env.locals /\ (∀ x c, X.env.cells.lookup x = some c -> c ≠ b) /\ ∀ p ∈ X.pn ++ pins, p.1 ≠ b)
  (keep : ∀ b o, b ≠ X.env.locals -> b ∉ X.fs -> b ∉ ch -> s.heap.get? b = some o -> H b = none -> h'.get? b = some o)
  (slot : ∀ b o, b ≠ X.env.locals -> b ∈ X.fs -> b ∉ ch -> s.heap.get? b = some o -> H b = none -> ∃ sl, h'.get? b = some { o with slots := sl }) (free : ∀ b o, b ∉ ch -> s.heap.get? b = some o -> H b = none -> H' b = none)
  (there : ∀ b o, b ∉ ch -> s.heap.get? b = some o -> ∃ o', h'.get? b = some o')
  (tups : ∀ b xs, H b = some (.tup xs) -> H' b = some (.tup xs)) (frzs : ∀ b o u, H b = some (.frz o u) -> H' b = some (.frz o u)) (tbls : ∀ b ps, H b = some (.tbl ps) -> ∃ more, H' b = some (.tbl (ps ++ more)))
  (ns : ∀ m, s.heap.Ns X.env.locals m -> h'.Ns X.env.locals m) (hok : HOk X.prog X.w H' h') (hg : GK s.gens g') :
  Inv X pins σ H' { s with heap := h', gens := g', drawn := d', toks := t' } := by
 have neL : ∀ b o, X.s₀.heap.get? b = some o -> b ≠ X.env.locals := λ b o e => Zk (Zc (Ze e) I.ok.above)
 have neC : ∀ b o, X.s₀.heap.get? b = some o -> b ∉ X.ex -> b ∉ ch := λ b o e hx hb => by
  rcases (hch b hb).1 with z | z
  .exact hx z
  .exact absurd (Zc (Ze e) z) (Nat.lt_irrefl _)
 have cellK : ∀ x c, X.env.cells.lookup x = some c -> ∀ v, s.heap.IsCell c v -> h'.IsCell c v := λ x c e v zq1 => by
  obtain ⟨o, ho, hd⟩ := zq1
  have nch : c ∉ ch := λ z => (hch c z).2.2.1 x c e rfl
  by_cases hc : c ∈ X.fs
  .obtain ⟨sl, q⟩ := slot c o (I.cne x c e) hc nch ho (I.freeC x c e)
   exact ⟨_, q, hd⟩
  .exact ⟨o, keep c o (I.cne x c e) hc nch ho (I.freeC x c e), hd⟩
 refine ⟨I.ok, I.os, I.bare.trans hg, ⟨λ b o e n hb hx => ?_, λ b o e n hb hx => ?_, λ b o e n hx => ?_, λ b o e hx => ?_, λ b xs e => tups b xs (I.base.tups b xs e), λ b o xs e => frzs b o xs (I.base.frzs b o xs e), λ b ps e => ?_⟩, ?_, λ x c e => ?_, ?_, λ x c e => ?_, λ p hp => ?_, hok, I.len⟩
 .exact keep b o (neL b o e) hb (neC b o e hx) (I.base.keep b o e n hb hx) (I.base.free b o e n hx)
 .obtain ⟨sl, e1⟩ := I.base.slot b o e n hb hx
  obtain ⟨sl', e2⟩ := slot b _ (neL b o e) hb (neC b o e hx) e1 (I.base.free b o e n hx)
  exact ⟨sl', e2⟩
 .obtain ⟨o', e1⟩ := I.base.there b o e hx
  exact free b o' (neC b o e hx) e1 (I.base.free b o e n hx)
 .obtain ⟨o', e1⟩ := I.base.there b o e hx
  exact there b o' (neC b o e hx) e1
 .obtain ⟨m1, e1⟩ := I.base.tbls b ps e
  obtain ⟨m2, e2⟩ := tbls b _ e1
  exact ⟨m1 ++ m2, by rw [e2, Array.append_assoc]⟩
 .obtain ⟨m, hn, hl⟩ := I.loc
  refine ⟨m, ns m hn, λ i x v e1 e2 e3 => ?_⟩
  obtain ⟨u, r, l⟩ := hl i x v e1 e2 e3
  refine ⟨u, r, ?_⟩
  rcases l with l | ⟨k, c, e, z⟩
  .exact .inl l
  .exact .inr ⟨k, c, e, cellK x c e _ z⟩
 .obtain ⟨v, z⟩ := I.cell x c e
  exact ⟨v, cellK x c e v z⟩
 .obtain ⟨m, ⟨o, _, _, ho, _⟩, _⟩ := I.loc
  exact free _ o (λ z => (hch _ z).2.1 rfl) ho I.free
 .obtain ⟨v, o, ho, hd⟩ := I.cell x c e
  exact free c o (λ z => (hch c z).2.2.1 x c e rfl) ho (I.freeC x c e)
 .obtain ⟨e, n, ne, nf, d⟩ := I.pin p hp
  have nch : p.1 ∉ ch := λ z => (hch p.1 z).2.2.2 p hp rfl
  exact ⟨keep p.1 p.2 ne nf nch e n, free p.1 p.2 nch e n, ne, nf, d⟩
theorem Inv.un {t' : Nat} (I : Inv X pins σ H s) (u : Un X.fs [] H H' s.heap h') (hok : HOk X.prog X.w H' h') : Inv X pins σ H' { s with heap := h', toks := t' } := by
 obtain ⟨m, ⟨o, es, ep, ho, r⟩, _⟩ := id I.loc
 obtain ⟨sl, hL⟩ := u.any ho I.free (by simp)
 exact I.step (g' := s.gens) (d' := s.drawn) (ch := []) (λ _ z => nomatch z) (λ b o _ hb _ e n => u.keep b o e n hb (by simp)) (λ b o _ hb _ e n => u.slot b o e n hb (by simp)) (λ b o _ e n => u.free b o e n (by simp)) (λ b o _ e => u.there b o e (by simp)) u.tups u.frzs u.tbls (λ m' hm => by
  obtain ⟨o', es', ep', ho', r'⟩ := hm
  rw [ho] at ho'; cases ho'
  exact ⟨_, es', ep', hL, r'⟩) hok I.bare.again
theorem Inv.call {g' : Array GenState} {t' : Nat} {d' : Drawn} {ch : List Addr} (I : Inv X pins σ H s) (u : Un (frs X.stack) ch H H' s.heap h') (hok : HOk X.prog X.w H' h') (hg : GK s.gens g')
  (hch : ∀ b ∈ ch, (b ∈ X.ex ∨ X.s₀.heap.objs.size <= b) /\ b ≠ X.env.locals /\ (∀ x c, X.env.cells.lookup x = some c -> c ≠ b) /\ ∀ p ∈ X.pn ++ pins, p.1 ≠ b) :
  Inv X pins σ H' { s with heap := h', gens := g', drawn := d', toks := t' } := by
 obtain ⟨m, ⟨o, es, ep, ho, r⟩, _⟩ := id I.loc
 obtain ⟨sl, hL⟩ := u.any ho I.free λ z => (hch _ z).2.1 rfl
 exact I.step (ch := ch) hch (λ b o hL hb hc e n => u.keep b o e n (λ z => (Zi.mp (I.stkSub b z)).elim hL hb) hc) (λ b o _ _ hc e n => u.any e n hc) (λ b o hc e n => u.free b o e n hc) (λ b o hc e => u.there b o e hc) u.tups u.frzs u.tbls (λ m' hm => by
  obtain ⟨o', es', ep', ho', r'⟩ := hm
  rw [ho] at ho'; cases ho'
  exact ⟨_, es', ep', hL, r'⟩) hok hg
theorem Inv.turned {t' : Nat} {it : Addr} (I : Inv X pins σ H s) (k : ∀ b o, b ≠ it -> s.heap.get? b = some o -> h'.get? b = some o) (hn : H it = none) (hL : it ≠ X.env.locals)
  (h1 : it ∈ X.ex ∨ X.s₀.heap.objs.size <= it) (h2 : ∀ x c, X.env.cells.lookup x = some c -> c ≠ it) (h3 : ∀ p ∈ X.pn ++ pins, p.1 ≠ it) : Inv X pins σ H { s with heap := h', toks := t' } := by
 have nit : ∀ b u, H b = some u -> b ≠ it := λ b u e z => by rw [z, hn] at e; cases e
 refine I.step (g' := s.gens) (d' := s.drawn) (ch := [it]) (λ b hb => ?_) (λ b o _ _ hc e _ => k b o (λ z => hc (by simp [z])) e) (λ b o _ _ hc e _ => ⟨o.slots, k b o (λ z => hc (by simp [z])) e⟩) (λ _ _ _ _ n => n)
  (λ b o hc e => ⟨o, k b o (λ z => hc (by simp [z])) e⟩) (λ _ _ e => e) (λ _ _ _ e => e) (λ b ps e => ⟨#[], by rw [e]; simp⟩) (λ m hm => ?_) (λ b u e => ?_) I.bare.again
 .have e : b = it := by simpa using hb
  subst e
  exact ⟨h1, hL, h2, h3⟩
 .obtain ⟨o, es, ep, ho, r⟩ := hm
  exact ⟨o, es, ep, k _ o (Ne.symm hL) ho, r⟩
 .refine (I.hok b u e).stay (λ c v hc q => k c v ?_ q) (λ _ q => q) λ _ _ q => q
  rcases hc with z | z
  .rw [z]; exact nit b u e
  .exact nit c _ z
theorem Inv.tok (I : Inv X pins σ H s) (t : Nat) : Inv X pins σ H { s with toks := t } := I.un (h' := s.heap) (t' := t) Un.refl I.hok
theorem Inv.kept {t' : Nat} (I : Inv X pins σ H s) (k : ∀ b u, s.heap.get? b = some u -> h'.get? b = some u) : Inv X pins σ H { s with heap := h', toks := t' } := I.un (Un.kept k) (I.hok.kept k)
theorem Inv.laid {a : Addr} {o : HO} {t' : Nat} (I : Inv X pins σ H s) (k : ∀ b u, s.heap.get? b = some u -> h'.get? b = some u) (hp : s.heap.objs.size <= a) (new : gk X.prog X.w (upd H a o) h' a o) :
  Inv X pins σ (upd H a o) { s with heap := h', toks := t' } := I.un (Un.laid k hp (I.hok.fresh hp)) (I.hok.laid k hp new)
theorem Inv.write {x e : Addr} {o : HO} {t' : Nat} (I : Inv X pins σ H s) (mu : Mut (H x)) (he : e = x ∨ H e = some (.own x)) (k : ∀ b u, b ≠ e -> s.heap.get? b = some u -> h'.get? b = some u) (heo : ∃ u, h'.get? e = some u)
  (new : gk X.prog X.w (upd H x o) h' x o) : Inv X pins σ (upd H x o) { s with heap := h', toks := t' } := I.un (Un.write mu he k heo) (I.hok.write mu he k heo new)
theorem Inv.weak {σ' : List (Option V)} (I : Inv X pins σ H s) (hl : σ'.length = σ.length) (w : ∀ (i : Nat) v, σ'[i]? = some (some v) -> σ[i]? = some (some v)) : Inv X pins σ' H s :=
 ⟨I.ok, I.os, I.bare, I.base, let ⟨m, hn, hl'⟩ := I.loc; ⟨m, hn, λ i x v e1 e2 e3 => hl' i x v e1 (w i v e2) e3⟩, I.cell, I.free, I.freeC, I.pin, I.hok, hl.trans I.len⟩
theorem Inv.pins_of {pins' : List (Addr × Obj)} (I : Inv X pins σ H s) (h : ∀ p ∈ pins', s.heap.get? p.1 = some p.2 /\ H p.1 = none /\ p.1 ≠ X.env.locals /\ p.1 ∉ X.fs /\ ∀ v, p.2.data ≠ .cell v) : Inv X pins' σ H s :=
 ⟨I.ok, I.os, I.bare, I.base, I.loc, I.cell, I.free, I.freeC, λ p hp => (Zm.mp hp).elim (λ z => I.pin p (List.mem_append_left _ z)) (h p), I.hok, I.len⟩
theorem yx {N : List Str} (hN : N.Nodup) {i j : Nat} {x : Str} (a : N[i]? = some x) (b : N[j]? = some x) : i = j := by
 obtain ⟨h1, e1⟩ := Zh.mp a
 obtain ⟨h2, e2⟩ := Zh.mp b
 exact (List.getElem_inj hN).mp (e1.trans e2.symm)
theorem vd {M : Model} {A : Around} {E : Value -> Shared -> Prop} {i : Nat} {x : Str} {v : V} {u : Value} {Q : Unit -> Shared -> Prop} (I : Inv X pins σ H s) (hN : X.N.Nodup) (hi : X.N[i]? = some x) (hx : Loc X.env.scope x) (r : RelV v u)
  (h : ∀ s', Inv X pins (σ.set i (some v)) H s' -> (∃ a, Heap.SameBut a s.heap s'.heap /\ (a = X.env.locals ∨ X.env.cells.lookup x = some a)) -> Q () s') (hf : X.fn x = true ∨ X.env.scope.names.lookup x = some .local := by first | exact .inl rfl | exact .inr rfl | assumption) : wpAny M A (storeName X.env x u) Q E s := by
 obtain ⟨m, hn, hl⟩ := id I.loc
 have hcls : (X.env.scope.kind == .class || (X.env.scope.kind == .module && X.env.locals != X.env.globals)) = false := by rw [I.ok.kind]; rfl
 have hiσ : i < σ.length := by rw [I.len]; exact (Zh.mp hi).1
 have cne := I.cne
 have tracked : ∀ {a : Addr} {h' : Heap}, (∃ o, s.heap.get? a = some o /\ H a = none) -> Heap.SameBut a s.heap h' -> HOk X.prog X.w H h' := λ {a h'} ha hs b ob e => by
  obtain ⟨_, _, hfree⟩ := ha
  refine (I.hok b ob e).stay (λ c w' hc q => (hs.2 c ?_).trans q) (λ _ q => q) λ _ _ q => q
  rintro rfl
  rcases hc with rfl | hc
  .rw [hfree] at e; cases e
  .rw [hfree] at hc; cases hc
 rcases hx with hk | hk
 .refine wpAny_storeName_local hk hn (λ h' hn' hs => ?_) hcls
  obtain ⟨oL, _, _, hoL, _⟩ := id hn
  refine h _ ⟨I.ok, I.os, I.bare, ⟨λ b o e n hb hx => ?_, λ b o e n hb hx => ?_, I.base.free, λ b o e hx => ?_, I.base.tups, I.base.frzs, I.base.tbls⟩, ⟨_, hn', λ j y v' e1 e2 e3 => ?_⟩, λ y c e => ?_, I.free, I.freeC, λ p hp => ?_, tracked ⟨oL, hoL, I.free⟩ hs, by simpa using I.len⟩ ⟨_, hs, .inl rfl⟩
  .exact (hs.2 b (Zk (Zc (Ze e) I.ok.above))).trans (I.base.keep b o e n hb hx)
  .obtain ⟨sl, e1⟩ := I.base.slot b o e n hb hx
   exact ⟨sl, (hs.2 b (Zk (Zc (Ze e) I.ok.above))).trans e1⟩
  .obtain ⟨o', e1⟩ := I.base.there b o e hx
   exact ⟨o', (hs.2 b (Zk (Zc (Ze e) I.ok.above))).trans e1⟩
  .by_cases hj : j = i
   .subst hj
    rw [hi] at e1; cases e1
    rw [List.getElem?_set_self hiσ] at e2
    cases e2
    exact ⟨u, r, .inl ⟨hk, by simp⟩⟩
   .rw [List.getElem?_set_ne (Ne.symm hj)] at e2
    obtain ⟨u', r', q⟩ := hl j y v' e1 e2 e3
    refine ⟨u', r', ?_⟩
    rcases q with ⟨k, e⟩ | ⟨k, c, e, z⟩
    .refine .inl ⟨k, ?_⟩
     have : y ≠ x := λ e => hj (yx hN e1 (e ▸ hi))
     simp [this, e]
    .exact .inr ⟨k, c, e, z.sameBut hs (cne y c e)⟩
  .obtain ⟨w', z⟩ := I.cell y c e
   exact ⟨w', z.sameBut hs (cne y c e)⟩
  .obtain ⟨e, n, ne, nf, d⟩ := I.pin p hp
   exact ⟨(hs.2 p.1 ne).trans e, n, ne, nf, d⟩
 .have hfn : X.fn x = true := by
   rcases hf with z | z
   .exact z
   .rw [z] at hk; cases hk
  obtain ⟨c, hc⟩ := I.ok.has x (.inl hk)
  obtain ⟨w', z⟩ := I.cell x c hc
  refine wpAny_storeName_cell I.ok.kind hk hc z (λ h' hc' hs => ?_)
  obtain ⟨oc, hoc, hocd⟩ := id z
  refine h { s with heap := h' } ⟨I.ok, I.os, I.bare, ⟨λ b o e n hb hx => ?_, λ b o e n hb hx => ?_, I.base.free, λ b o e hx => ?_, I.base.tups, I.base.frzs, I.base.tbls⟩, ⟨m, hn.sameBut hs (Ne.symm (cne x c hc)), λ j y v' e1 e2 e3 => ?_⟩, λ y c' e => ?_, I.free, I.freeC, λ p hp => ?_, tracked ⟨oc, hoc, I.freeC x c hc⟩ hs, by simpa using I.len⟩ ⟨c, hs, .inr hc⟩
  .exact (hs.2 b (Zk (Zc (Ze e) (I.ok.cab x c hfn hc)))).trans (I.base.keep b o e n hb hx)
  .obtain ⟨sl, e1⟩ := I.base.slot b o e n hb hx
   exact ⟨sl, (hs.2 b (Zk (Zc (Ze e) (I.ok.cab x c hfn hc)))).trans e1⟩
  .obtain ⟨o', e1⟩ := I.base.there b o e hx
   exact ⟨o', (hs.2 b (Zk (Zc (Ze e) (I.ok.cab x c hfn hc)))).trans e1⟩
  .by_cases hj : j = i
   .subst hj
    rw [hi] at e1; cases e1
    rw [List.getElem?_set_self hiσ] at e2
    cases e2
    exact ⟨u, r, .inr ⟨.inl hk, c, hc, hc'⟩⟩
   .rw [List.getElem?_set_ne (Ne.symm hj)] at e2
    obtain ⟨u', r', q⟩ := hl j y v' e1 e2 e3
    refine ⟨u', r', ?_⟩
    rcases q with q | ⟨k, c', e, z'⟩
    .exact .inl q
    .refine .inr ⟨k, c', e, z'.sameBut hs ?_⟩
     rintro rfl
     exact hj (yx hN e1 (I.ok.inj _ _ _ e hc ▸ hi))
  .by_cases hcc : c' = c
   .subst hcc; exact ⟨_, hc'⟩
   .obtain ⟨w2, z2⟩ := I.cell y c' e
    exact ⟨w2, z2.sameBut hs hcc⟩
  .obtain ⟨e, n, ne, nf, d⟩ := I.pin p hp
   refine ⟨(hs.2 p.1 ?_).trans e, n, ne, nf, d⟩
   intro q
   rw [q, hoc] at e
   have q' : oc = p.2 := Option.some.inj e
   exact d w' (by rw [<- q']; exact hocd)
theorem oE {M : Model} {A : Around} {E : Value -> Shared -> Prop} {i : Nat} {x : Str} {v : V} {u : Value} {Q : Unit -> Shared -> Prop} (I : Inv X pins σ H s) (hN : X.N.Nodup) (hi : X.N[i]? = some x) (hx : Loc X.env.scope x) (r : RelV v u)
  (h : ∀ s', Inv X pins (σ.set i (some v)) H s' -> Q () s') (hf : X.fn x = true ∨ X.env.scope.names.lookup x = some .local := by first | exact .inl rfl | exact .inr rfl | assumption) : wpAny M A (storeName X.env x u) Q E s :=
 vd I hN hi hx r (λ s' I' _ => h s' I') hf
theorem Inv.call' {s' : Shared} {ch : List Addr} (I : Inv X pins σ H s) (ho : s'.os = s.os) (u : Un (frs X.stack) ch H H' s.heap s'.heap) (hok : HOk X.prog X.w H' s'.heap) (hg : GK s.gens s'.gens)
  (hch : ∀ b ∈ ch, (b ∈ X.ex ∨ X.s₀.heap.objs.size <= b) /\ b ≠ X.env.locals /\ (∀ x c, X.env.cells.lookup x = some c -> c ≠ b) /\ ∀ p ∈ X.pn ++ pins, p.1 ≠ b) : Inv X pins σ H' s' := by
 obtain ⟨h', g', d', t', o'⟩ := s'
 have e : o' = s.os := ho
 subst e
 exact I.call (g' := g') (t' := t') (d' := d') u hok hg hch
end
abbrev XK := Value -> Option Addr -> Hp -> Prop
abbrev St := List (Option V)
abbrev VK := V -> Hp -> Prop
abbrev TE := St -> Hp -> VK -> Prop
abbrev TT := St -> Hp -> (Bool -> Hp -> Prop) -> Prop
abbrev TA := St -> Hp -> (List V -> Hp -> Prop) -> Prop
structure Ends where
 nx : St -> Hp -> Prop
 rt : VK
 bk : St -> Hp -> Prop := λ _ _ => False
 ct : St -> Hp -> Prop := λ _ _ => False
abbrev TS := Ends -> St -> Hp -> Prop
def EP (X : Cx) (pins : List (Addr × Obj)) (σ : St) (Q : VK) (u : Value) (s' : Shared) : Prop := ∃ v H', Inv X pins σ H' s' /\ RelV v u /\ Q v H'
def TP (X : Cx) (pins : List (Addr × Obj)) (σ : St) (Q : Bool -> Hp -> Prop) (b : Bool) (s' : Shared) : Prop := ∃ H', Inv X pins σ H' s' /\ Q b H'
def AP (X : Cx) (pins : List (Addr × Obj)) (σ : St) (Q : List V -> Hp -> Prop) (us : List Value) (s' : Shared) : Prop := ∃ vs H', Inv X pins σ H' s' /\ Vals vs us /\ Q vs H'
def SP (X : Cx) (pins : List (Addr × Obj)) (D : Ends) (f : Flow) (s' : Shared) : Prop :=
 match f with
 | .next => ∃ σ' H', Inv X pins σ' H' s' /\ D.nx σ' H'
 | .brk => ∃ σ' H', Inv X pins σ' H' s' /\ D.bk σ' H'
 | .cont => ∃ σ' H', Inv X pins σ' H' s' /\ D.ct σ' H'
 | .ret u => ∃ v σ' H', Inv X pins σ' H' s' /\ RelV v u /\ D.rt v H'
def PE (X : Cx) (e : Expr) (t : TE) : Prop :=
 ∀ (pins : List (Addr × Obj)) (s : Shared) (σ : St) (H : Hp) (Q : VK), Inv X pins σ H s -> t σ H Q -> wpAny (model X.prog X.w) X.A (eval e X.env) (EP X pins σ Q) X.xe s
def PT (X : Cx) (e : Expr) (t : TT) : Prop :=
 ∀ (pins : List (Addr × Obj)) (s : Shared) (σ : St) (H : Hp) (Q : Bool -> Hp -> Prop), Inv X pins σ H s -> t σ H Q -> wpAny (model X.prog X.w) X.A (isTrue e X.env (eval e X.env)) (TP X pins σ Q) X.xe s
def PW (X : Cx) (e : Expr) (t : TT) : Prop :=
 ∀ (whole : Sem Value) (pins : List (Addr × Obj)) (s : Shared) (σ : St) (H : Hp) (Q : Bool -> Hp -> Prop), Inv X pins σ H s -> t σ H Q -> wpAny (model X.prog X.w) X.A (isTrue e X.env whole) (TP X pins σ Q) X.xe s
theorem PW.pt {X : Cx} {e : Expr} {t : TT} (h : PW X e t) : PT X e t := h _
def PA (X : Cx) (es : List Expr) (t : TA) : Prop :=
 ∀ (pos : Pos) (pins : List (Addr × Obj)) (s : Shared) (σ : St) (H : Hp) (Q : List V -> Hp -> Prop), Inv X pins σ H s -> t σ H Q -> wpAny (model X.prog X.w) X.A (spliced (backTo pos (starEach es X.env))) (AP X pins σ Q) X.xe s
def PS (X : Cx) (st : Stmt) (t : TS) : Prop :=
 ∀ (pins : List (Addr × Obj)) (s : Shared) (σ : St) (H : Hp) (D : Ends), Inv X pins σ H s -> t D σ H -> wpAny (model X.prog X.w) X.A (exec st X.env) (SP X pins D) X.xe s
def PSs (X : Cx) (st : List Stmt) (t : TS) : Prop :=
 ∀ (pins : List (Addr × Obj)) (s : Shared) (σ : St) (H : Hp) (D : Ends), Inv X pins σ H s -> t D σ H -> wpAny (model X.prog X.w) X.A (execs st X.env) (SP X pins D) X.xe s
theorem thn {α : Type} {t : Sem α} {Q Q' : α -> Shared -> Prop} {M : Model} {A : Around} {E : Value -> Shared -> Prop} {s : Shared} (h : wpAny M A t Q E s) (hQ : ∀ a s, Q a s -> Q' a s) : wpAny M A t Q' E s := wpAny_mono h hQ λ _ _ x => x
section
variable {X : Cx}
def tVar (i : Nat) : TE := λ σ H Q => ∃ v, σ[i]? = some (some v) /\ Q v H
def tC (v : V) : TE := λ _ H Q => Q v H
theorem KZ {i : Nat} {x : Str} {pos : Pos} (hN : X.N[i]? = some x) (hv : Vis X.env.scope x) (hd : (x == ("__debug__" : Str)) = false := by decide) (hcd : (x == ("__classdict__" : Str)) = false := by decide) : PE X (.Name x pos) (tVar i) := by
 intro pins s σ H Q I h
 obtain ⟨v, e, h⟩ := h
 obtain ⟨m, hn, hl⟩ := I.loc
 obtain ⟨u, r, l⟩ := hl i x v hN e hv
 have fin : EP X pins σ Q u s := ⟨v, H, I, r, h⟩
 rcases l with ⟨hk, hm⟩ | ⟨hk, c, hc, hcell⟩
 .exact wpAny_Name (wpAny_loadName_local I.ok.kind hk hn hm fin) hd
 .rcases hk with hk | hk
  .exact wpAny_Name (wpAny_loadName_cell I.ok.kind hk hc hcell fin) hd
  .exact wpAny_Name (wpAny_loadName_free I.ok.kind hk hc hcell fin hcd) hd
theorem Dc {i j pos} : PE X (.Constant (.int i) j pos) (tC (.int i)) := λ _ _ _ H _ I h => wpAny_Constant_int ⟨.int i, H, I.tok _, ⟨_, rfl⟩, h⟩
theorem Oq {b j pos} : PE X (.Constant (.bool b) j pos) (tC (.bl b)) := λ _ _ _ H _ I h => Constant_bool ⟨.bl b, H, I, rfl, h⟩
theorem JT {j pos} : PE X (.Constant .none j pos) (tC .non) := λ _ _ _ H _ I h => Constant_none ⟨.non, H, I, rfl, h⟩
def Gl (X : Cx) (x : Str) : Prop := X.env.kindOf x = some .globalImplicit
theorem Jo {E : Value -> Shared -> Prop} {pins : List (Addr × Obj)} {s : Shared} {σ : St} {H : Hp} {x : Str} {u : Value} {pos : Pos} {Q : Value -> Shared -> Prop} (I : Inv X pins σ H s) (hg : Gl X x) (hm : X.mg x = some u) (h : Q u s)
  (hd : (x == ("__debug__" : Str)) = false := by decide) : wpAny (model X.prog X.w) X.A (eval (.Name x pos) X.env) Q E s :=
 Calls.Name_function_global I.ok.kind hg (Calls.loadGlobal_global (by rw [I.ok.glob]; exact I.mod.glob.keeps I.bk) hm h) hd
theorem jN {E : Value -> Shared -> Prop} {pins : List (Addr × Obj)} {s : Shared} {σ : St} {H : Hp} {x : Str} {u : Value} {pos : Pos} {Q : Value -> Shared -> Prop} (I : Inv X pins σ H s) (hg : Gl X x) (hm : X.mg x = none) (hv : bootBuiltins x = some u) (h : Q u s)
  (hn : x ≠ "__name__" := by decide) (hd : (x == ("__debug__" : Str)) = false := by decide) : wpAny (model X.prog X.w) X.A (eval (.Name x pos) X.env) Q E s := by
 obtain ⟨mb, h1, h2⟩ := I.mod.blt
 exact Calls.Name_function_global I.ok.kind hg (Calls.loadGlobal_builtin (by rw [I.ok.glob]; exact I.mod.glob.keeps I.bk) hm (by rw [I.ok.blt]; exact h1.keeps I.bk) ((h2 x hn).trans hv) h) hd
theorem Gy {x : Str} {v : V} {u : Value} {pos : Pos} (hg : Gl X x) (hm : X.mg x = none) (hv : bootBuiltins x = some u) (r : RelV v u) (hn : x ≠ "__name__" := by decide) (hd : (x == ("__debug__" : Str)) = false := by decide) : PE X (.Name x pos) (tC v) :=
 λ _ _ _ H _ I h => jN I hg hm hv ⟨v, H, I, r, h⟩ hn hd
variable {a b : Expr} {ta tb : TE} {pos : Pos}
theorem xF (b : Expr) {op : CmpOp} (h : op ≠ .In) (h2 : op ≠ .NotIn) : behindInMarks op b = false := by
 have e1 : (op == CmpOp.In) = false := by cases op <;> first | rfl | exact absurd rfl h
 have e2 : (op == CmpOp.NotIn) = false := by cases op <;> first | rfl | exact absurd rfl h2
 cases b <;> simp [behindInMarks, e1, e2]
variable {tA tB' : TT} {rest : List Expr}
def tAnd (t u : TT) : TT := λ σ H Q => t σ H λ c H1 => if c = true then u σ H1 Q else Q false H1
def tOr (t u : TT) : TT := λ σ H Q => t σ H λ c H1 => if c = true then Q true H1 else u σ H1 Q
def tNot (t : TT) : TT := λ σ H Q => t σ H λ c H1 => Q (!c) H1
theorem HN (ha : PT X a tA) : PW X (.BoolOp .And [a] pos) tA := by
 intro wh pins s σ H Q I h
 refine isTrue_and (thn (ha pins s σ H Q I h) λ c s1 e => ?_)
 cases c with
 | true => exact isTrue_and_nil e
 | false => exact e
theorem Mj (ha : PT X a tA) : PW X (.BoolOp .Or [a] pos) tA := by
 intro wh pins s σ H Q I h
 refine isTrue_or (thn (ha pins s σ H Q I h) λ c s1 e => ?_)
 cases c with
 | false => exact isTrue_or_nil e
 | true => exact e
theorem Lg (ha : PT X a tA) (hb : PW X (.BoolOp .And (b :: rest) pos) tB') : PW X (.BoolOp .And (a :: b :: rest) pos) (tAnd tA tB') := by
 intro wh pins s σ H Q I h
 refine isTrue_and (thn (ha pins s σ H _ I h) λ c s1 zq7 => ?_)
 obtain ⟨H1, I1, q1⟩ := zq7
 cases c with
 | true => exact hb wh pins s1 σ H1 Q I1 q1
 | false => exact ⟨H1, I1, q1⟩
theorem Pa (ha : PT X a tA) (hb : PW X (.BoolOp .Or (b :: rest) pos) tB') : PW X (.BoolOp .Or (a :: b :: rest) pos) (tOr tA tB') := by
 intro wh pins s σ H Q I h
 refine isTrue_or (thn (ha pins s σ H _ I h) λ c s1 zq8 => ?_)
 obtain ⟨H1, I1, q1⟩ := zq8
 cases c with
 | true => exact ⟨H1, I1, q1⟩
 | false => exact hb wh pins s1 σ H1 Q I1 q1
theorem Kz (ha : PT X a tA) : PT X (.UnaryOp .Not a pos) (tNot tA) := by
 intro pins s σ H Q I h
 exact isTrue_not (ha pins s σ H (λ c H1 => Q (!c) H1) I h)
def Ph (ta tb : TE) : TE := λ σ H Q => ta σ H λ x H1 => ∃ c, x = .bl c /\ if c = true then tb σ H1 Q else Q (.bl false) H1
def PJ (ta : TE) : TE := λ σ H Q => ta σ H λ x H1 => ∃ c, x = .bl c /\ Q (.bl (!c)) H1
theorem Km {op} {t : TE} (h : PE X a t) : PE X (.BoolOp op [a] pos) t := λ pins s σ H Q I hw => BoolOp_one (h pins s σ H Q I hw)
theorem LK (ha : PE X a ta) (hb : PE X (.BoolOp .And (b :: rest) pos) tb) : PE X (.BoolOp .And (a :: b :: rest) pos) (Ph ta tb) := by
 intro pins s σ H Q I h
 refine BoolOp_and (thn (ha pins s σ H _ I h) λ v s1 zq9 => ?_)
 obtain ⟨x, H1, I1, r1, q1⟩ := zq9
 obtain ⟨c, rfl, q1⟩ := q1
 cases r1
 refine wpAny_truthy_bool ?_
 cases c with
 | true => exact hb pins s1 σ H1 Q I1 q1
 | false => exact ⟨.bl false, H1, I1, rfl, q1⟩
theorem Lk (ha : PE X a ta) : PE X (.UnaryOp .Not a pos) (PJ ta) := by
 intro pins s σ H Q I h
 refine UnaryOp_ (thn (ha pins s σ H _ I h) λ v s1 zq11 => ?_)
 obtain ⟨x, H1, I1, r1, q1⟩ := zq11
 obtain ⟨c, rfl, q1⟩ := q1
 cases r1
 exact not_of (wpAny_truthy_bool ⟨.bl (!c), H1, I1, rfl, q1⟩)
def tIf (t : TT) (ta tb : TE) : TE := λ σ H Q => t σ H λ c H1 => if c = true then ta σ H1 Q else tb σ H1 Q
theorem Ft {c : Expr} (hc : PT X c tA) (ha : PE X a ta) (hb : PE X b tb) : PE X (.IfExp c a b pos) (tIf tA ta tb) := by
 intro pins s σ H Q I h
 refine wpAny_IfExp (thn (hc pins s σ H _ I h) λ d s1 zq12 => ?_)
 obtain ⟨H1, I1, q1⟩ := zq12
 cases d with
 | true => exact ha pins s1 σ H1 Q I1 q1
 | false => exact hb pins s1 σ H1 Q I1 q1
end
def SqL (K : PySem.W.Frag) (H : Hp) (a : Addr) (xs : List V) : Prop :=
 Rd H a (.lst xs) ∨
  ∃ (o : Obj) (its : Array Value) (n : Nat), K.lookup a = some o /\ o.cls = .type "list" /\ o.dict = none /\ o.data = .seq its n /\ its.size <= sizeLine /\ Vals xs its.toList
def SqT (K : PySem.W.Frag) (H : Hp) (a : Addr) (xs : List V) : Prop :=
 Rd H a (.tup xs) ∨
  ∃ (o : Obj) (its : Array Value) (n : Nat), K.lookup a = some o /\ o.cls = .type "tuple" /\ o.data = .seq its n /\ its.size <= sizeLine /\ Vals xs its.toList
def absV : Value -> Option V
 | .none => some .non
 | .bool b => some (.bl b)
 | .int i _ => some (.int i)
 | .str x _ => some (.str x)
 | .bytes b _ => some (.byt b)
 | .float b _ => some (.flt b)
 | .ref a => some (.ref a)
 | .type n => some (.ty n)
 | _ => none
theorem RelV.abs {x : V} {u : Value} (r : RelV x u) : absV u = some x := by
 cases x with
 | non => cases r; rfl
 | bl _ => cases r; rfl
 | int _ => obtain ⟨t, rfl⟩ := r; rfl
 | str _ => obtain ⟨t, rfl⟩ := r; rfl
 | byt _ => obtain ⟨t, rfl⟩ := r; rfl
 | flt _ => obtain ⟨t, rfl⟩ := r; rfl
 | ref _ => cases r; rfl
 | ty _ => cases r; rfl
theorem RelV.inj {x y : V} {u : Value} (r : RelV x u) (q : RelV y u) : x = y := Option.some.inj (r.abs.symm.trans q.abs)
theorem Vals.inj : ∀ {xs ys : List V} {us : List Value}, Vals xs us -> Vals ys us -> xs = ys
 | _, _, _, .nil, .nil => rfl
 | _, _, _, .cons r t, .cons r' t' => by rw [r.inj r', Vals.inj t t']
section
variable {X : Cx} {pins : List (Addr × Obj)} {σ : St} {H : Hp} {s : Shared} {a : Addr} {xs ys : List V}
theorem SqL.of {K : PySem.W.Frag} (h : H a = some (.lst xs)) : SqL K H a xs := .inl (.inl h)
theorem Inv.list (I : Inv X pins σ H s) (h : SqL X.K H a xs) : ∃ its : List Value, Vals xs its /\ PlainL s.heap a its.toArray /\ xs.length <= sizeLine := by
 rcases h with h | ⟨o, its, n, hk, hc, hd, hs, hz, r⟩
 .obtain ⟨z, its, n, r, e⟩ := h.ok I.hok
  exact ⟨its, r, ⟨_, n, e, rfl, rfl, rfl⟩, z⟩
 .refine ⟨its.toList, r, ⟨o, n, I.kIn a o hk, hc, hd, by simpa using hs⟩, ?_⟩
  have e := r.length
  simp only [Array.length_toList] at e
  omega
theorem Inv.tuple (I : Inv X pins σ H s) (h : SqT X.K H a xs) : ∃ its : List Value, Vals xs its /\ IsTup s.heap a its.toArray /\ xs.length <= sizeLine := by
 rcases h with h | ⟨o, its, n, hk, hc, hs, hz, r⟩
 .obtain ⟨z, its, r, p⟩ := h.ok I.hok
  exact ⟨its, r, p, z⟩
 .refine ⟨its.toList, r, ⟨o, I.kIn a o hk, hc, n, by simpa using hs⟩, ?_⟩
  have e := r.length
  simp only [Array.length_toList] at e
  omega
theorem Inv.list_inj (I : Inv X pins σ H s) (h : SqL X.K H a xs) (h' : SqL X.K H a ys) : xs = ys := by
 obtain ⟨its, r, ⟨o, n, e, _, _, d⟩, _⟩ := I.list h
 obtain ⟨its', r', ⟨o', n', e', _, _, d'⟩, _⟩ := I.list h'
 rw [e] at e'; cases e'
 rw [d] at d'
 injection d' with d1 _
 have : its = its' := by simpa using congrArg Array.toList d1
 subst this
 exact r.inj r'
theorem Inv.tuple_inj (I : Inv X pins σ H s) (h : SqT X.K H a xs) (h' : SqT X.K H a ys) : xs = ys := by
 obtain ⟨its, r, ⟨o, e, _, n, d⟩, _⟩ := I.tuple h
 obtain ⟨its', r', ⟨o', e', _, n', d'⟩, _⟩ := I.tuple h'
 rw [e] at e'; cases e'
 rw [d] at d'
 injection d' with d1 _
 have : its = its' := by simpa using congrArg Array.toList d1
 subst this
 exact r.inj r'
end
abbrev Cx.wish (X : Cx) (E : Value -> Shared -> Prop) : Cx := { X with xe := E }
abbrev Cx.nox (X : Cx) : Cx := X.wish λ _ _ => False
theorem Cx.Ok.wish {X : Cx} (ok : X.Ok) (E : Value -> Shared -> Prop) : (X.wish E).Ok :=
 ⟨ok.mod, ok.kind, ok.glob, ok.blt, ok.above, ok.inj, ok.has, ok.cab, ok.hd, ok.frames, ok.stk, ok.exf, ok.bs, ok.bsz, ok.noex, ok.exfs, ok.funs, ok.frf⟩
theorem Cx.Ok.unwish {X : Cx} {E : Value -> Shared -> Prop} (ok : (X.wish E).Ok) : X.Ok :=
 ⟨ok.mod, ok.kind, ok.glob, ok.blt, ok.above, ok.inj, ok.has, ok.cab, ok.hd, ok.frames, ok.stk, ok.exf, ok.bs, ok.bsz, ok.noex, ok.exfs, ok.funs, ok.frf⟩
section
variable {X : Cx} {pins : List (Addr × Obj)} {σ : St} {H : Hp} {s : Shared} {E : Value -> Shared -> Prop}
theorem Inv.wish (I : Inv X pins σ H s) (E : Value -> Shared -> Prop) : Inv (X.wish E) pins σ H s := ⟨I.ok.wish E, I.os, I.bare, I.base, I.loc, I.cell, I.free, I.freeC, I.pin, I.hok, I.len⟩
theorem Inv.unwish (I : Inv (X.wish E) pins σ H s) : Inv X pins σ H s := ⟨I.ok.unwish, I.os, I.bare, I.base, I.loc, I.cell, I.free, I.freeC, I.pin, I.hok, I.len⟩
theorem SP.unwish {D : Ends} {f : Flow} {s' : Shared} (h : SP (X.wish E) pins D f s') : SP X pins D f s' := by
 cases f with
 | next => obtain ⟨σ', H', I, q⟩ := h; exact ⟨σ', H', I.unwish, q⟩
 | brk => obtain ⟨σ', H', I, q⟩ := h; exact ⟨σ', H', I.unwish, q⟩
 | cont => obtain ⟨σ', H', I, q⟩ := h; exact ⟨σ', H', I.unwish, q⟩
 | ret u => obtain ⟨v, σ', H', I, r, q⟩ := h; exact ⟨v, σ', H', I.unwish, r, q⟩
theorem PSs.nox {st : List Stmt} {t : TS} (h : PSs X.nox st t) : PSs X st t := λ pins s σ H D I hw =>
 wpAny_mono (h pins s σ H D (I.wish _) hw) (λ _ _ q => q.unwish) λ _ _ z => False.elim z
end
section
variable {X : Cx} {st : Stmt} {rest : List Stmt} {t u : TS} {e : Expr} {te : TE} {pos : Pos}
def Oa : TS := λ D σ H => D.nx σ H
def tSeq (t u : TS) : TS := λ D σ H => t { D with nx := u D } σ H
theorem Jl : PSs X [] Oa := λ _ _ σ H _ I h => wpAny_execs_nil ⟨σ, H, I, h⟩
theorem Et (h1 : PS X st t) (h2 : PSs X rest u) : PSs X (st :: rest) (tSeq t u) := by
 intro pins s σ H D I h
 refine wpAny_execs_cons (thn (h1 pins s σ H { D with nx := u D } I h) λ f s1 q => ?_)
 cases f with
 | next =>
  obtain ⟨σ', H', I', q⟩ := q
  exact h2 pins s1 σ' H' D I' q
 | ret v => exact q
 | brk => exact q
 | cont => exact q
theorem Il (h1 : PS X st t) : PSs X [st] t := by
 intro pins s σ H D I h
 refine wpAny_execs_cons (thn (h1 pins s σ H D I h) λ f s1 q => ?_)
 cases f with
 | next => exact wpAny_execs_nil q
 | ret v => exact q
 | brk => exact q
 | cont => exact q
def MP : TS := λ D σ H => D.bk σ H
theorem Ds : PS X (.Break pos) MP := λ _ _ σ H _ I h => wpAny_Break ⟨σ, H, I, h⟩
theorem Inv.quiet {pins : List (Addr × Obj)} {σ : St} {H : Hp} {s : Shared} (I : Inv X pins σ H s) : interactive X.env = false := by simp [interactive, I.ok.kind]
def Pu (te : TE) : TS := λ D σ H => te σ H λ _ H1 => D.nx σ H1
theorem Hj (he : PE X e te) (hs : swapsWith e none pos.line X.env = pure false := by rfl) : PS X (.Expr e pos) (Pu te) := by
 intro pins s σ H D I h
 exact wpAny_Expr_any (thn (he pins s σ H _ I h) λ v s1 ⟨x, H1, I1, r1, q1⟩ => ⟨σ, H1, I1, q1⟩) I.quiet hs
def tRet (te : TE) : TS := λ D σ H => te σ H D.rt
theorem LR (he : PE X e te) : PS X (.Return (some e) pos) (tRet te) := by
 intro pins s σ H D I h
 exact wpAny_Return_some (thn (he pins s σ H _ I h) λ v s1 ⟨x, H1, I1, r1, q1⟩ => ⟨x, σ, H1, I1, r1, q1⟩)
def tIfS (c : TT) (t u : TS) : TS := λ D σ H => c σ H λ b H1 => if b = true then t D σ H1 else u D σ H1
theorem Oh {c : Expr} {a b : List Stmt} {tc : TT} (hc : PT X c tc) (ha : PSs X a t) (hb : PSs X b u) : PS X (.If c a b pos) (tIfS tc t u) := by
 intro pins s σ H D I h
 refine wpAny_If (thn (hc pins s σ H _ I h) λ d s1 zq13 => ?_)
 obtain ⟨H1, I1, q1⟩ := zq13
 cases d with
 | true => exact ha pins s1 σ H1 D I1 q1
 | false => exact hb pins s1 σ H1 D I1 q1
end
abbrev TG := V -> St -> Hp -> (St -> Hp -> Prop) -> Prop
abbrev TGs := List V -> St -> Hp -> (St -> Hp -> Prop) -> Prop
def PG (X : Cx) (target : Expr) (t : TG) : Prop :=
 ∀ (pins : List (Addr × Obj)) (s : Shared) (σ : St) (H : Hp) (v : V) (u : Value) (Q : St -> Hp -> Prop), Inv X pins σ H s -> RelV v u -> t v σ H Q ->
  wpAny (model X.prog X.w) X.A (assign target X.env u) (λ _ s' => ∃ σ' H', Inv X pins σ' H' s' /\ Q σ' H') X.xe s
def PGs (X : Cx) (ts : List Expr) (t : TGs) : Prop :=
 ∀ (pins : List (Addr × Obj)) (s : Shared) (σ : St) (H : Hp) (vs : List V) (us : List Value) (Q : St -> Hp -> Prop), Inv X pins σ H s -> Vals vs us -> t vs σ H Q ->
  wpAny (model X.prog X.w) X.A (assignInOrder ((assignEach ts X.env).map (·.2)) us) (λ _ s' => ∃ σ' H', Inv X pins σ' H' s' /\ Q σ' H') X.xe s
section
variable {X : Cx} {pos : Pos}
def CZ (i : Nat) : TG := λ v σ H Q => Q (σ.set i (some v)) H
theorem vC {i : Nat} {x : Str} (hN : X.N.Nodup) (hi : X.N[i]? = some x) (hx : Loc X.env.scope x) (hf : X.fn x = true ∨ X.env.scope.names.lookup x = some .local := by first | exact .inl rfl | exact .inr rfl | assumption) : PG X (.Name x pos) (CZ i) := by
 intro pins s σ H v u Q I r h
 exact wpAny_assign_Name (oE I hN hi hx r (λ s' I' => ⟨_, H, I', h⟩) hf)
def gNil : TGs := λ vs σ H Q => vs = [] /\ Q σ H
def Oi (t : TG) (u : TGs) : TGs := λ vs σ H Q => ∃ v r, vs = v :: r /\ t v σ H λ σ' H' => u r σ' H' Q
theorem Aw : PGs X [] gNil := by
 intro pins s σ H vs us Q I r h
 obtain ⟨e, h⟩ := h
 subst e
 cases r
 exact assignInOrder_nil ⟨σ, H, I, h⟩
theorem sH {e : Expr} {es : List Expr} {t : TG} {u : TGs} (h1 : PG X e t) (h2 : PGs X es u)
  (hs : (assignEach (e :: es) X.env).map (·.2) = assign e X.env :: (assignEach es X.env).map (·.2) := by rfl) : PGs X (e :: es) (Oi t u) := by
 intro pins s σ H vs us Q I r h
 obtain ⟨v, vr, e1, h⟩ := h
 subst e1
 cases r with
 | cons r rr =>
  rw [hs]
  refine assignInOrder_cons (thn (h1 pins s σ H _ _ _ I r h) λ _ s1 zq14 => ?_)
  obtain ⟨σ1, H1, I1, q1⟩ := zq14
  exact h2 pins s1 σ1 H1 _ _ Q I1 rr q1
def gTup (K : PySem.W.Frag) (n : Nat) (t : TGs) : TG := λ v σ H Q => ∃ a xs, v = .ref a /\ SqT K H a xs /\ xs.length = n /\ t xs σ H Q
theorem JW {es : List Expr} {k : Nat} {t : TGs} {n : Nat} (hc : X.calm = true) (h : PGs X es t)
  (hn : (assignEach es X.env).length = n := by rfl) (hst : (assignEach es X.env).findIdx? (·.1) = none := by rfl) : PG X (.Tuple es k pos) (gTup X.K n t) := by
 intro pins s σ H v u Q I r hw
 obtain ⟨a, xs, e1, hq, hl, hw⟩ := hw
 subst e1
 cases r
 obtain ⟨its, rv, ht, hz⟩ := I.tuple hq
 refine assign_Tuple_tuple (I.ok.hd hc) ht (by simp [hn, <- hl, rv.length]) hst λ h' hx => ?_
 have I1 : Inv X pins σ H { s with heap := h' } := I.kept (t' := s.toks) λ b o e => hx b o (Zk (Ze e)) e
 exact h pins _ σ H xs _ Q I1 (by simpa using rv) hw
def Lh (te : TE) (g : TG) : TS := λ D σ H => te σ H λ x H1 => g x σ H1 D.nx
theorem Mm {tg e : Expr} {te : TE} {g : TG} (he : PE X e te) (hg : PG X tg g) (hs : swapsWithSole [tg] e pos.line X.env = pure false := by rfl) (hw : swappedStores [tg] e X.env = pure none := by rfl)
  (h1 : (assignEach [tg] X.env).map (·.2) = [assign tg X.env] := by rfl) : PS X (.Assign [tg] e pos) (Lh te g) := by
 intro pins s σ H D I h
 refine wpAny_Assign_stores (thn (he pins s σ H _ I h) λ v s1 ⟨x, H1, I1, r1, q1⟩ => ?_) hs hw
 rw [h1]
 exact thn (hg pins s1 σ H1 x v _ I1 r1 q1) λ _ s2 q => q
theorem La {i : Nat} {x : Str} {e : Expr} {te : TE} {pos' : Pos} (hN : X.N.Nodup) (hi : X.N[i]? = some x) (hx : Loc X.env.scope x) (he : PE X e te) (hs : swapsWith e (some (.Name x pos')) pos.line X.env = pure false := by rfl) (hf : X.fn x = true ∨ X.env.scope.names.lookup x = some .local := by first | exact .inl rfl | exact .inr rfl | assumption) :
  PS X (.Assign [.Name x pos'] e pos) (Lh te (CZ i)) := by
 intro pins s σ H D I h
 refine wpAny_Assign_Name (thn (he pins s σ H _ I h) λ v s1 zq18 => ?_) hs
 obtain ⟨y, H1, I1, r1, q1⟩ := zq18
 exact oE I1 hN hi hx r1 (λ s2 I2 => ⟨_, H1, I2, q1⟩) hf
def tPar (i j : Nat) (ta : TA) : TS := λ D σ H => ta σ H λ vs H1 => ∃ v w, vs = [v, w] /\ D.nx ((σ.set i (some v)).set j (some w)) H1
theorem Ls {i j : Nat} {x y : Str} {a b : Expr} {ta : TA} {px py pt : Pos} {kt k2 pt2} (hc : X.calm = true) (hN : X.N.Nodup) (hi : X.N[i]? = some x) (hj : X.N[j]? = some y) (hij : i ≠ j)
  (hx : X.env.scope.names.lookup x = some .local) (hy : X.env.scope.names.lookup y = some .local) (ha : PA X [a, b] ta)
  (hw : swappedStores [.Tuple [.Name x px, .Name y py] kt pt] (.Tuple [a, b] k2 pt2) X.env = pure (some [x, y]))
  (hs : swapsWithSole [.Tuple [.Name x px, .Name y py] kt pt] (.Tuple [a, b] k2 pt2) pos.line X.env = pure false := by rfl) :
  PS X (.Assign [.Tuple [.Name x px, .Name y py] kt pt] (.Tuple [a, b] k2 pt2) pos) (tPar i j ta) := by
 intro pins s σ H D I h
 rw [exec_Assign_arm]
 refine wpAny_bind (wpAny_standAt ?_)
 rw [hs]
 refine wpAny_bind (wpAny_pure ?_)
 rw [if_neg (by decide)]
 refine wpAny_bind (Tuple_ (thn (ha _ pins s σ H _ I h) λ us s1 zq19 => ?_))
 obtain ⟨vs, H1, I1, r1, q1⟩ := zq19
 obtain ⟨v, w, e1, q1⟩ := q1
 subst e1
 obtain ⟨u1, u2, rfl, rv, rw'⟩ : ∃ u1 u2, us = [u1, u2] /\ RelV v u1 /\ RelV w u2 := by
  cases r1 with
  | cons p q =>
   cases q with
   | cons p' q' =>
    cases q'
    exact ⟨_, _, rfl, p, p'⟩
 refine wpAny_newObj_type ?_ (by show 2 <= sizeLine; decide)
 have I2 : Inv X pins σ H1 { s1 with heap := s1.heap.push { cls := .type "tuple", data := .seq [u1, u2].toArray } } := I1.kept (t' := s1.toks) λ b o e => Zb _ e
 rw [hw]
 refine wpAny_bind (wpAny_pure ?_)
 show wpAny (model X.prog X.w) X.A (do rule "assign.swapped-stores"; let items <- unpackItems (.ref s1.heap.objs.size) 2 none; assignInOrder [λ v => bindName X.env y v, λ v => bindName X.env x v] items.reverse; pure Flow.next) _ _ _
 refine wpAny_bind (wpAny_rule (wpAny_bind (unpackItems_tuple (items := #[u1, u2]) (I.ok.hd hc) (IsTup.new s1.heap _) λ h' hx' => ?_)))
 have I3 := I2.kept (h' := h') (t' := s1.toks) λ b o e => hx' b o (Zk (Ze e)) e
 show wpAny _ _ (assignInOrder [λ v => bindName X.env y v, λ v => bindName X.env x v] [u2, u1] >>= λ _ => pure Flow.next) _ _ _
 refine wpAny_bind (assignInOrder_cons (wpAny_bindName (oE I3 hN hj (.inl hy) rw' (λ s2 I4 => ?_) (.inr hy))))
 refine assignInOrder_cons (wpAny_bindName (oE I4 hN hi (.inl hx) rv (λ s3 I5 => assignInOrder_nil (wpAny_pure ?_)) (.inr hx)))
 rw [List.set_comm _ _ (Ne.symm hij)] at I5
 exact ⟨_, H1, I5, q1⟩
end
section
variable {X : Cx} {pos : Pos}
def KJ (c : TT) (tb : TS) : TS := λ D σ H => ∃ W : Nat -> St -> Hp -> Prop, (∃ m, W m σ H) /\ ∀ m σ H, W m σ H ->
 c σ H λ b H1 => if b = true then ∃ N : St -> Hp -> Prop, (∀ σ' H', N σ' H' -> ∃ m', m' < m /\ W m' σ' H') /\ tb { D with nx := N, ct := N, bk := D.nx } σ H1 else D.nx σ H1
theorem Fy {c : Expr} {body : List Stmt} {tc : TT} {tb : TS} (hp : PassesOwn (model X.prog X.w) X.A X.env X.xe) (hc : PT X c tc) (hb : PSs X body tb) : PS X (.While c body [] pos) (KJ tc tb) := by
 intro pins s σ H D I h
 obtain ⟨W, ⟨m0, w0⟩, turn⟩ := h
 refine wpAny_While (codeAny_whileLoop (λ n s' => ∃ σ' H', Inv X pins σ' H' s' /\ W n σ' H') ?_ m0 ⟨σ, H, I, w0⟩)
 rintro n s1 ⟨σ1, H1, I1, w1⟩
 refine wpAny_passesOwn hp (thn (hc pins s1 σ1 H1 _ I1 (turn n σ1 H1 w1)) λ b s2 zq27 => ?_)
 obtain ⟨H2, I2, q2⟩ := zq27
 cases b with
 | true =>
  obtain ⟨N, hN, q2⟩ := q2
  rw [if_pos rfl]
  refine wpAny_passesOwn hp (thn (hb pins s2 σ1 H2 _ I2 q2) λ f s3 q3 => ?_)
  cases f with
  | next =>
   obtain ⟨σ3, H3, I3, n3⟩ := q3
   obtain ⟨m', hm, w3⟩ := hN σ3 H3 n3
   exact ⟨m', hm, σ3, H3, I3, w3⟩
  | cont =>
   obtain ⟨σ3, H3, I3, n3⟩ := q3
   obtain ⟨m', hm, w3⟩ := hN σ3 H3 n3
   exact ⟨m', hm, σ3, H3, I3, w3⟩
  | brk => exact q3
  | ret v => exact q3
 | false =>
  rw [if_neg Zr]
  exact wpAny_execs_nil ⟨σ1, H2, I2, q2⟩
end
structure It where
 go : Nat -> Hp -> Prop
 yld : Nat -> Hp -> V -> Hp -> Prop
 stop : Nat -> Hp -> Prop
def jA (X : Cx) (pins : List (Addr × Obj)) (H : Hp) (b : Addr) : Prop :=
 H b = none /\ b ≠ X.env.locals /\ b ∉ X.fs /\ (b ∈ X.ex ∨ X.s₀.heap.objs.size <= b) /\ (∀ x c, X.env.cells.lookup x = some c -> c ≠ b) /\ ∀ p ∈ X.pn ++ pins, p.1 ≠ b
theorem Inv.fpOk {X : Cx} {pins : List (Addr × Obj)} {σ : St} {H H' : Hp} {s : Shared} {b : Addr} (I : Inv X pins σ H s) (hb : s.heap.objs.size <= b) (hn : H' b = none) : jA X pins H' b := by
 refine ⟨hn, Nat.ne_of_gt (Zc I.lt hb), I.nofs hb, .inr (Zl I.sz hb), λ x c e z => ?_, λ p hp z => ?_⟩
 .obtain ⟨v, q⟩ := I.cell x c e
  exact absurd (Zc q.lt (by rw [z]; exact hb)) (Nat.lt_irrefl _)
 .exact absurd (Zc (Ze (I.pin p hp).1) (by rw [z]; exact hb)) (Nat.lt_irrefl _)
structure Turn (P : Program) (w : World) (K : PySem.W.Frag) (tg : Expr) (J : It) (fp : List Addr) (it : Addr) (tn : Nat -> Heap -> Prop) : Prop where
 mem : it ∈ fp
 obj : ∀ i h, tn i h -> ∀ b ∈ fp, ∃ o, h.get? b = some o /\ ∀ v, o.data ≠ .cell v
 keep : ∀ i h h', tn i h -> (∀ b ∈ fp, ∀ o, h.get? b = some o -> h'.get? b = some o) -> tn i h'
 item : ∀ (X : Cx), X.prog = P -> X.w = w -> X.K = K -> X.calm = true -> ∀ (i : Nat) (pins : List (Addr × Obj)) (s : Shared) (σ : St) (H : Hp) (E : Value -> Shared -> Prop), Inv X pins σ H s -> (∀ b ∈ fp, jA X pins H b) -> tn i s.heap -> J.go i H ->
  wpAny (model P w) X.A (pyNext (.ref it)) (λ r s1 => ∃ u, r = some u /\
   wpAny (model P w) X.A (letOwnedTupleGo tg (.ref it) u) (λ _ s2 => ∃ x H', Inv X pins σ H' s2 /\ RelV x u /\ J.yld i H x H' /\ tn (i + 1) s2.heap /\ ∀ b ∈ fp, H' b = none) E s1) E s
 done : ∀ (X : Cx), X.prog = P -> X.w = w -> X.K = K -> X.calm = true -> ∀ (i : Nat) (pins : List (Addr × Obj)) (s : Shared) (σ : St) (H : Hp) (E : Value -> Shared -> Prop), Inv X pins σ H s -> (∀ b ∈ fp, jA X pins H b) -> tn i s.heap -> J.stop i H ->
  wpAny (model P w) X.A (pyNext (.ref it)) (λ r s1 => r = none /\ Inv X pins σ H s1) E s
 self : ∀ (A : Around) (i : Nat) (s : Shared) (Q : Value -> Shared -> Prop) (E : Value -> Shared -> Prop), tn i s.heap -> Q (.ref it) s -> wpAny (model P w) A (pyIter (.ref it)) Q E s
abbrev TI := St -> Hp -> (It -> Hp -> Prop) -> Prop
def PIE (X : Cx) (pins : List (Addr × Obj)) (σ : St) (tg : Expr) (R : It -> Hp -> Prop) (itv : Value) (s2 : Shared) : Prop :=
 ∃ (it : Addr) (fp : List Addr) (tn : Nat -> Heap -> Prop) (J : It) (H' : Hp), itv = .ref it /\ Inv X pins σ H' s2 /\ Turn X.prog X.w X.K tg J fp it tn /\ tn 0 s2.heap /\ (∀ b ∈ fp, jA X pins H' b) /\ R J H'
def PI (X : Cx) (tg iter : Expr) (wi : TI) : Prop :=
 ∀ (pins : List (Addr × Obj)) (s : Shared) (σ : St) (H : Hp) (R : It -> Hp -> Prop), Inv X pins σ H s -> wi σ H R ->
  wpAny (model X.prog X.w) X.A (eval iter X.env) (λ v s1 => wpAny (model X.prog X.w) X.A (pyIter v) (PIE X pins σ tg R) X.xe s1) X.xe s
theorem CV {M : Model} {A : Around} {E : Value -> Shared -> Prop} {s : Shared} {tg : Expr} {it : Addr} {u : Value} {o : Obj} {n : String} {vs : Array Value} {Q : Unit -> Shared -> Prop} (ho : s.heap.get? it = some o) (hc : o.cls = .type n) (hd : o.data = .fields vs)
  (hn : ["enumerate", "zip", "dict_itemiterator", "dict_reverseitemiterator", "odict_iterator", "itertools.zip_longest", "itertools.pairwise"].contains n = false) (hQ : Q () s) : wpAny M A (letOwnedTupleGo tg (.ref it) u) Q E s := by
 unfold letOwnedTupleGo
 cases tg <;> first
  | exact wpAny_pure hQ
  | (cases u <;> first
    | exact wpAny_pure hQ
    | (refine wpAny_bind (wpAny_load ho ?_)
       rw [hc, hd]
       show wpAny M A (if (["enumerate", "zip", "dict_itemiterator", "dict_reverseitemiterator", "odict_iterator", "itertools.zip_longest", "itertools.pairwise"].contains n && vs[0]? == some (rawInt _)) = true then _ else _) Q E s
       rw [if_neg (by intro h; rw [hn, Bool.false_and] at h; cases h)]
       exact wpAny_pure hQ))
def Itl (K : PySem.W.Frag) (a : Addr) : It :=
 ⟨λ i H => ∃ xs x, SqL K H a xs /\ xs[i]? = some x, λ i H x H' => H' = H /\ ∀ xs, SqL K H a xs -> xs[i]? = some x, λ i H => ∃ xs, SqL K H a xs /\ xs.length <= i⟩
def Itt (K : PySem.W.Frag) (a : Addr) : It :=
 ⟨λ i H => ∃ xs x, SqT K H a xs /\ xs[i]? = some x, λ i H x H' => H' = H /\ ∀ xs, SqT K H a xs -> xs[i]? = some x, λ i H => ∃ xs, SqT K H a xs /\ xs.length <= i⟩
def Itr (lo : Int) (n : Nat) : It := ⟨λ i _ => i < n, λ i H x H' => H' = H /\ x = .int (lo + i), λ i _ => n <= i⟩
theorem uZ {P : Program} {w : World} {K : PySem.W.Frag} {tg : Expr} (a it : Addr) : Turn P w K tg (Itl K a) [it] it (λ i h => h.IsListIter it a i) where
 mem := by simp
 obj := λ i h st b hb => by
  have e : b = it := by simpa using hb
  subst e
  obtain ⟨o, e, c, d⟩ := st
  exact ⟨o, e, λ v z => by rw [d] at z; cases z⟩
 keep := λ i h h' st k => st.at λ o e => k it (by simp) o e
 item := by
  intro X hP hw hK hc i pins s σ H E I hf st hg
  subst hP hw hK
  obtain ⟨xs, x, hq, hx⟩ := hg
  obtain ⟨its, rv, p, hz⟩ := I.list hq
  obtain ⟨u, hu, ru⟩ := rv.get hx
  obtain ⟨f0, f1, f2, f3, f4, f5⟩ := hf it (by simp)
  refine wpAny_pyNext_list_item st p.isList (x := u) (by simpa using hu) λ h' st' sb => ?_
  have I1 : Inv X pins σ H { s with heap := h' } := I.turned (t' := s.toks) (λ b o hb e => (sb.2 b hb).trans e) f0 f1 f3 f4 f5
  obtain ⟨o, e, c, d⟩ := id st'
  exact ⟨u, rfl, CV (s := { s with heap := h' }) e c d (by decide) ⟨x, H, I1, ru, ⟨rfl, λ ys hy => by rw [I.list_inj hy hq]; exact hx⟩, st', λ b hb => (hf b hb).1⟩⟩
 done := by
  intro X hP hw hK hc i pins s σ H E I hf st hg
  subst hP hw hK
  obtain ⟨xs, hq, hx⟩ := hg
  obtain ⟨its, rv, p, hz⟩ := I.list hq
  obtain ⟨f0, f1, f2, f3, f4, f5⟩ := hf it (by simp)
  have hl := rv.length
  exact wpAny_pyNext_list_end (I.ok.hd hc) st p.isList (by simp; omega) λ h' eb => ⟨rfl, I.turned (t' := s.toks) (λ b o hb e => eb b o hb e) f0 f1 f3 f4 f5⟩
 self := λ _ _ _ _ _ st h => wpAny_pyIter_listiter st h
theorem qX {P : Program} {w : World} {K : PySem.W.Frag} {tg : Expr} (a it : Addr) : Turn P w K tg (Itt K a) [it] it (λ i h => h.IsTupleIter it a i) where
 mem := by simp
 obj := λ i h st b hb => by
  have e : b = it := by simpa using hb
  subst e
  obtain ⟨o, e, c, d⟩ := st
  exact ⟨o, e, λ v z => by rw [d] at z; cases z⟩
 keep := λ i h h' st k => st.at λ o e => k it (by simp) o e
 item := by
  intro X hP hw hK hc i pins s σ H E I hf st hg
  subst hP hw hK
  obtain ⟨xs, x, hq, hx⟩ := hg
  obtain ⟨its, rv, p, hz⟩ := I.tuple hq
  obtain ⟨u, hu, ru⟩ := rv.get hx
  obtain ⟨f0, f1, f2, f3, f4, f5⟩ := hf it (by simp)
  refine wpAny_pyNext_tuple_item st (show s.heap.IsTuple a its.toArray from p) (x := u) (by simpa using hu) λ h' st' sb => ?_
  have I1 : Inv X pins σ H { s with heap := h' } := I.turned (t' := s.toks) (λ b o hb e => (sb.2 b hb).trans e) f0 f1 f3 f4 f5
  obtain ⟨o, e, c, d⟩ := id st'
  exact ⟨u, rfl, CV (s := { s with heap := h' }) e c d (by decide) ⟨x, H, I1, ru, ⟨rfl, λ ys hy => by rw [I.tuple_inj hy hq]; exact hx⟩, st', λ b hb => (hf b hb).1⟩⟩
 done := by
  intro X hP hw hK hc i pins s σ H E I hf st hg
  subst hP hw hK
  obtain ⟨xs, hq, hx⟩ := hg
  obtain ⟨its, rv, p, hz⟩ := I.tuple hq
  obtain ⟨f0, f1, f2, f3, f4, f5⟩ := hf it (by simp)
  have hl := rv.length
  exact wpAny_pyNext_tuple_end (I.ok.hd hc) st (show s.heap.IsTuple a its.toArray from p) (by simp; omega) λ h' eb => ⟨rfl, I.turned (t' := s.toks) (λ b o hb e => eb b o hb e) f0 f1 f3 f4 f5⟩
 self := λ _ _ _ _ _ st h => wpAny_pyIter_tupleiter st h
theorem zR {P : Program} {w : World} {K : PySem.W.Frag} {tg : Expr} (it : Addr) (lo : Int) (n : Nat) : Turn P w K tg (Itr lo n) [it] it (λ i h => IsRangeIter h it (lo + (i : Nat) * 1) ((n : Int) - (i : Nat)) 1) where
 mem := by simp
 obj := λ i h st b hb => by
  have e : b = it := by simpa using hb
  subst e
  exact ⟨_, st, λ v z => by
   have z' : Data.fields _ = Data.cell v := z
   cases z'⟩
 keep := λ i h h' st k => k it (by simp) _ st
 item := by
  intro X hP hw hK hc i pins s σ H E I hf st hg
  subst hP hw hK
  obtain ⟨f0, f1, f2, f3, f4, f5⟩ := hf it (by simp)
  have W := Walks.range (prog := X.prog) (w := X.w) (I.ok.hd hc) it lo 1 n
  refine W.item i s _ _ hg st λ v h' tk hv st' kk => ?_
  obtain ⟨t, rfl⟩ := hv
  have I1 : Inv X pins σ H { s with heap := h', toks := tk } := I.turned (λ b o hb e => kk b o (by simpa using hb) e) f0 f1 f3 f4 f5
  refine ⟨_, rfl, CV (s := { s with heap := h', toks := tk }) (n := "range_iterator") st' rfl rfl (by decide) ⟨.int (lo + i), H, I1, ⟨t, ?_⟩, ⟨rfl, rfl⟩, st', λ b hb => (hf b hb).1⟩⟩
  rw [Int.mul_one]
 done := by
  intro X hP hw hK hc i pins s σ H E I hf st hg
  subst hP hw hK
  obtain ⟨f0, f1, f2, f3, f4, f5⟩ := hf it (by simp)
  exact wpAny_pyNext_range_end (I.ok.hd hc) st (by have : n <= i := hg; omega) λ h' eb => ⟨rfl, I.turned (t' := s.toks) (λ b o hb e => eb b o hb e) f0 f1 f3 f4 f5⟩
 self := λ _ _ _ _ _ st h => wpAny_pyIter_rangeiter st h
section
variable {X : Cx} {tg : Expr}
theorem Eh {pins : List (Addr × Obj)} {σ : St} {H : Hp} {s : Shared} {R : It -> Hp -> Prop} {E : Value -> Shared -> Prop} {lo hi : Int} {t u v : Tok} {tk : Nat} (I : Inv X pins σ H s) (h1 : -(2 ^ 62) <= lo) (h2 : lo < 2 ^ 62) (h3 : -(2 ^ 62) <= hi) (h4 : hi < 2 ^ 62)
  (q : R (Itr lo (hi - lo).toNat) H) : wpAny (model X.prog X.w) X.A (pyIter (.ref s.heap.objs.size)) (PIE X pins σ tg R) E { s with heap := s.heap.push { cls := .type "range", data := .fields #[.int lo t, .int hi u, .int 1 v] }, toks := tk } := by
 refine wpAny_pyIter_range (IsRange.new ..) (small_one h1 h2 h3 h4) ?_
 have I1 : Inv X pins σ H { s with heap := s.heap.push { cls := .type "range", data := .fields #[.int lo t, .int hi u, .int 1 v] }, toks := tk } := I.kept λ b o e => Zb _ e
 refine ⟨(s.heap.push { cls := .type "range", data := .fields #[.int lo t, .int hi u, .int 1 v] }).objs.size, [(s.heap.push { cls := .type "range", data := .fields #[.int lo t, .int hi u, .int 1 v] }).objs.size], _, _, H, rfl,
  I1.kept (t' := tk) λ b o e => Zb _ e, zR _ lo (hi - lo).toNat, ?_, λ b hb => ?_, q⟩
 .have e1 : lo + ((0 : Nat) : Int) * 1 = lo := by simp
  have e2 : (((hi - lo).toNat : Nat) : Int) - ((0 : Nat) : Int) = Builtin.Range.rangeSize lo hi 1 := by rw [rangeSize_one]; split <;> omega
  show IsRangeIter _ _ (lo + ((0 : Nat) : Int) * 1) ((((hi - lo).toNat : Nat) : Int) - ((0 : Nat) : Int)) 1
  rw [e1, e2]
  exact Zf _ rfl
 .have e : b = (s.heap.push { cls := .type "range", data := .fields #[.int lo t, .int hi u, .int 1 v] }).objs.size := by simpa using hb
  subst e
  exact I1.fpOk (Zg _) (I1.hok.fresh (Zg _))
def Qe (ta : TA) : TI := λ σ H R => ta σ H λ vs H1 => ∃ j : Int, vs = [.int j] /\ -(2 ^ 62) <= j /\ j < 2 ^ 62 /\ R (Itr 0 j.toNat) H1
theorem Cj {a : Expr} {ta : TA} {p pos : Pos} (hg : Gl X "range") (hm : X.mg "range" = none) (ha : PA X [a] ta) (hs : starEach [a] X.env = [(false, eval a X.env)] := by rfl) : PI X tg (.Call (.Name "range" p) [a] [] pos) (Qe ta) := by
 intro pins s σ H R I h
 refine Call_ (jN I hg hm boot_range (PyProof.Rows.callWith_type1 (thn (ha pos pins s σ H _ I h) λ us s1 ⟨vs, H1, I1, r1, q1⟩ => ?_) hs rfl))
 obtain ⟨j, e, q1, q2, q⟩ := q1
 subst e
 cases r1 with
 | cons r rr =>
  cases rr
  obtain ⟨t, rfl⟩ := r
  exact call_range_1 (Eh I1 (by omega) (by omega) q1 q2 (by simpa using q))
def tFor (wi : TI) (g : TG) (tb : TS) : TS := λ D σ H => wi σ H λ J H1 => ∃ W : Nat -> Nat -> St -> Hp -> Prop, (∃ m, W 0 m σ H1) /\ ∀ i m σ H, W i m σ H ->
 (J.stop i H /\ D.nx σ H) ∨ (J.go i H /\ ∃ N : St -> Hp -> Prop, (∀ σ' H', N σ' H' -> ∃ m', m' < m /\ W (i + 1) m' σ' H') /\ ∀ x H', J.yld i H x H' -> g x σ H' λ σ2 H2 => tb { D with nx := N, ct := N, bk := D.nx } σ2 H2)
def pK (fp : List Addr) (h : Heap) : List (Addr × Obj) := fp.filterMap λ b => (h.get? b).map λ o => (b, o)
theorem fD {fp : List Addr} {h : Heap} {b : Addr} {o : Obj} (hb : b ∈ fp) (e : h.get? b = some o) : (b, o) ∈ pK fp h := List.mem_filterMap.mpr ⟨b, hb, by rw [e]; rfl⟩
theorem Ck {fp : List Addr} {h : Heap} {p : Addr × Obj} (hp : p ∈ pK fp h) : p.1 ∈ fp /\ h.get? p.1 = some p.2 := by
 obtain ⟨b, hb, e⟩ := List.mem_filterMap.mp hp
 cases q : h.get? b with
 | none => rw [q] at e; cases e
 | some o =>
  rw [q] at e
  have e' : (b, o) = p := Option.some.inj e
  subst e'
  exact ⟨hb, q⟩
theorem Inv.pinned {pins : List (Addr × Obj)} {σ : St} {H : Hp} {s : Shared} {fp : List Addr} (I : Inv X pins σ H s) (hf : ∀ b ∈ fp, jA X pins H b) (ho : ∀ b ∈ fp, ∃ o, s.heap.get? b = some o /\ ∀ v, o.data ≠ .cell v) : Inv X (pins ++ pK fp s.heap) σ H s :=
 I.pins_of λ p hp => (Zm.mp hp).elim (λ z => I.pin p (Zn _ z)) λ z => by
  obtain ⟨hb, e⟩ := Ck z
  obtain ⟨f0, f1, f2, _⟩ := hf p.1 hb
  obtain ⟨o, e', d⟩ := ho p.1 hb
  rw [e] at e'; cases e'
  exact ⟨e, f0, f1, f2, d⟩
theorem Inv.unpinned {pins pl : List (Addr × Obj)} {σ : St} {H : Hp} {s : Shared} (I : Inv X (pins ++ pl) σ H s) : Inv X pins σ H s := I.pins_of λ p hp => I.pin p (Zn _ (List.mem_append_left _ hp))
theorem Ka {iter : Expr} {body : List Stmt} {wi : TI} {g : TG} {tb : TS} {pos : Pos} (hp : PassesOwn (model X.prog X.w) X.A X.env X.xe) (hc : X.calm = true) (hi : PI X tg iter wi) (hg : PG X tg g) (hb : PSs X body tb)
  (hs : ∀ x, foldedSetIterable iter X.env x = pure x := by intro _; rfl) : PS X (.For tg iter body [] pos) (tFor wi g tb) := by
 intro pins s σ H D I h
 refine wpAny_For (thn (hi pins s σ H _ I h) λ v s1 h1 => thn h1 λ itv s2 h2 => ?_) hs
 obtain ⟨it, fp, tn, J, H2, e, I2, T, st2, f2, W, ⟨m0, w0⟩, turn⟩ := h2
 subst e
 have stat : ∀ {H' : Hp}, (∀ b ∈ fp, H' b = none) -> ∀ b ∈ fp, jA X pins H' b := λ hn b hb => ⟨hn b hb, (f2 b hb).2⟩
 refine codeAny_forLoop_any (λ n s' => ∃ i σ' H', Inv X pins σ' H' s' /\ tn i s'.heap /\ (∀ b ∈ fp, H' b = none) /\ W i n σ' H') ?_ m0 ⟨0, σ, H2, I2, st2, λ b hb => (f2 b hb).1, w0⟩
 rintro n s3 ⟨i, σ3, H3, I3, st3, fr3, w3⟩
 rcases turn i n σ3 H3 w3 with ⟨stop, qn⟩ | ⟨go, N, hN, step⟩
 .refine wpAny_passesOwn hp (thn (T.done X rfl rfl rfl hc i pins s3 σ3 H3 X.xe I3 (stat fr3) st3 stop) λ r s4 zq30 => ?_)
  obtain ⟨hr, I4⟩ := zq30
  subst hr
  exact wpAny_execs_nil ⟨σ3, H3, I4, qn⟩
 .refine wpAny_passesOwn hp (thn (T.item X rfl rfl rfl hc i pins s3 σ3 H3 X.xe I3 (stat fr3) st3 go) λ r s4 zq31 => ?_)
  obtain ⟨u, hr, h4⟩ := zq31
  subst hr
  refine wpAny_passesOwn hp (thn h4 λ _ s5 zq32 => ?_)
  obtain ⟨x, H5, I5, r5, y5, st5, fr5⟩ := zq32
  have I5' := I5.pinned (stat fr5) (T.obj _ _ st5)
  refine wpAny_passesOwn hp (thn (hg _ s5 σ3 H5 x u _ I5' r5 (step x H5 y5)) λ _ s6 zq33 => ?_)
  obtain ⟨σ6, H6, I6, q6⟩ := zq33
  refine wpAny_passesOwn hp (thn (hb _ s6 σ6 H6 _ I6 q6) λ f s7 q7 => ?_)
  have again : ∀ {σ7 : St} {H7 : Hp}, Inv X (pins ++ pK fp s5.heap) σ7 H7 s7 -> N σ7 H7 -> ∃ m, m < n /\ ∃ i σ' H', Inv X pins σ' H' s7 /\ tn i s7.heap /\ (∀ b ∈ fp, H' b = none) /\ W i m σ' H' := λ {σ7 H7} I7 n7 => by
   obtain ⟨m', hm, w7⟩ := hN σ7 H7 n7
   refine ⟨m', hm, i + 1, σ7, H7, I7.unpinned, T.keep _ _ _ st5 λ b hb o e => (I7.pin (b, o) (Zn _ (Zn _ (fD hb e)))).1, λ b hb => ?_, w7⟩
   obtain ⟨o, e, d⟩ := T.obj _ _ st5 b hb
   exact (I7.pin (b, o) (Zn _ (Zn _ (fD hb e)))).2.1
  cases f with
  | next => obtain ⟨σ7, H7, I7, n7⟩ := q7; exact again I7 n7
  | cont => obtain ⟨σ7, H7, I7, n7⟩ := q7; exact again I7 n7
  | brk => obtain ⟨σ7, H7, I7, q7⟩ := q7; exact ⟨σ7, H7, I7.unpinned, q7⟩
  | ret v => obtain ⟨x7, σ7, H7, I7, r7, q7⟩ := q7; exact ⟨x7, σ7, H7, I7.unpinned, r7, q7⟩
end
abbrev R2 := V -> V -> Hp -> VK -> Prop
def OpR (X : Cx) (f : Value -> Value -> Sem Value) (r : R2) : Prop :=
 ∀ (pins : List (Addr × Obj)) (s : Shared) (σ : St) (H : Hp) (x y : V) (v u : Value) (Q : VK), Inv X pins σ H s -> RelV x v -> RelV y u -> r x y H Q ->
  wpAny (model X.prog X.w) X.A (f v u) (EP X pins σ Q) X.xe s
def UnR (X : Cx) (f : Value -> Sem Value) (r : V -> Hp -> VK -> Prop) : Prop :=
 ∀ (pins : List (Addr × Obj)) (s : Shared) (σ : St) (H : Hp) (x : V) (v : Value) (Q : VK), Inv X pins σ H s -> RelV x v -> r x H Q ->
  wpAny (model X.prog X.w) X.A (f v) (EP X pins σ Q) X.xe s
def gR (X : Cx) (f : Value) (r : List V -> Hp -> VK -> Prop) : Prop :=
 ∀ (pins : List (Addr × Obj)) (s : Shared) (σ : St) (H : Hp) (xs : List V) (us : List Value) (Q : VK), Inv X pins σ H s -> Vals xs us -> r xs H Q ->
  wpAny (model X.prog X.w) X.A (call f us) (EP X pins σ Q) X.xe s
def TruR (X : Cx) (r : V -> Hp -> (Bool -> Hp -> Prop) -> Prop) : Prop :=
 ∀ (pins : List (Addr × Obj)) (s : Shared) (σ : St) (H : Hp) (x : V) (v : Value) (Q : Bool -> Hp -> Prop), Inv X pins σ H s -> RelV x v -> r x H Q ->
  wpAny (model X.prog X.w) X.A (truthy v) (TP X pins σ Q) X.xe s
def tOp (r : R2) (ta tb : TE) : TE := λ σ H Q => ta σ H λ x H1 => tb σ H1 λ y H2 => r x y H2 Q
def tUn (r : V -> Hp -> VK -> Prop) (ta : TE) : TE := λ σ H Q => ta σ H λ x H1 => r x H1 Q
def rI (C : Int -> Int -> Prop) (g : Int -> Int -> V) : R2 := λ x y H Q => ∃ i j, x = .int i /\ y = .int j /\ C i j /\ Q (g i j) H
def rI0 (g : Int -> Int -> V) : R2 := λ x y H Q => ∃ i j, x = .int i /\ y = .int j /\ Q (g i j) H
def rU (g : Int -> V) : V -> Hp -> VK -> Prop := λ x H Q => ∃ i, x = .int i /\ Q (g i) H
section
variable {X : Cx} {a b c : Expr} {ta tb tc : TE} {pos : Pos}
theorem Ld (ha : PE X a ta) (hb : PE X b tb) {pins : List (Addr × Obj)} {s : Shared} {σ : St} {H : Hp} {R : V -> V -> Hp -> Prop} (I : Inv X pins σ H s)
  (h : ta σ H λ x H1 => tb σ H1 λ y H2 => R x y H2) {Q : Value -> Shared -> Prop} {f : Value -> Value -> Sem Value}
  (hf : ∀ v u s2 x y H2, Inv X pins σ H2 s2 -> RelV x v -> RelV y u -> R x y H2 -> wpAny (model X.prog X.w) X.A (f v u) Q X.xe s2) :
  wpAny (model X.prog X.w) X.A (eval a X.env) (λ v s₁ => wpAny (model X.prog X.w) X.A (eval b X.env) (λ u s₂ => wpAny (model X.prog X.w) X.A (f v u) Q X.xe s₂) X.xe s₁) X.xe s := by
 refine thn (ha pins s σ H _ I h) λ v s1 zq34 => ?_
 obtain ⟨x, H1, I1, r1, q1⟩ := zq34
 refine thn (hb pins s1 σ H1 _ I1 q1) λ u s2 zq35 => ?_
 obtain ⟨y, H2, I2, r2, q2⟩ := zq35
 exact hf v u s2 x y H2 I2 r1 r2 q2
theorem JB {op : Operator} {r : R2} (ho : OpR X (binaryOp op) r) (ha : PE X a ta) (hb : PE X b tb) : PE X (.BinOp a op b pos) (tOp r ta tb) := by
 intro pins s σ H Q I h
 exact wpAny_BinOp (Ld ha hb I h λ v u s2 x y H2 I2 rx ry q => ho pins s2 σ H2 x y v u Q I2 rx ry q)
theorem PL {op : UnaryOp} {r : V -> Hp -> VK -> Prop} (ho : UnR X (unaryOp op) r) (ha : PE X a ta) : PE X (.UnaryOp op a pos) (tUn r ta) := by
 intro pins s σ H Q I h
 exact UnaryOp_ (thn (ha pins s σ H _ I h) λ v s1 ⟨x, H1, I1, r1, q1⟩ => ho pins s1 σ H1 x v Q I1 r1 q1)
theorem opI {f : Value -> Value -> Sem Value} {C : Int -> Int -> Prop} {g : Int -> Int -> Int}
  (rule : ∀ (i j : Int) (t u : Tok) (s : Shared) (Q : Value -> Shared -> Prop) (E : Value -> Shared -> Prop), C i j -> Q (.int (g i j) s.toks) { s with toks := s.toks + 1 } -> wpAny (model X.prog X.w) X.A (f (.int i t) (.int j u)) Q E s) :
  OpR X f (rI C λ i j => .int (g i j)) := by
 intro pins s σ H x y v u Q I rx ry h
 obtain ⟨i, j, rfl, rfl, hc, q⟩ := h
 obtain ⟨t, rfl⟩ := rx
 obtain ⟨t', rfl⟩ := ry
 exact rule i j t t' s _ _ hc ⟨.int (g i j), H, I.tok _, ⟨_, rfl⟩, q⟩
theorem Qf {f : Value -> Value -> Sem Value} {g : Int -> Int -> Int}
  (rule : ∀ (i j : Int) (t u : Tok) (s : Shared) (Q : Value -> Shared -> Prop) (E : Value -> Shared -> Prop), Q (.int (g i j) s.toks) { s with toks := s.toks + 1 } -> wpAny (model X.prog X.w) X.A (f (.int i t) (.int j u)) Q E s) :
  OpR X f (rI0 λ i j => .int (g i j)) := by
 intro pins s σ H x y v u Q I rx ry h
 obtain ⟨i, j, rfl, rfl, q⟩ := h
 obtain ⟨t, rfl⟩ := rx
 obtain ⟨t', rfl⟩ := ry
 exact rule i j t t' s _ _ ⟨.int (g i j), H, I.tok _, ⟨_, rfl⟩, q⟩
theorem Hb {f : Value -> Value -> Sem Value} {g : Int -> Int -> Bool}
  (rule : ∀ (i j : Int) (t u : Tok) (s : Shared) (Q : Value -> Shared -> Prop) (E : Value -> Shared -> Prop), Q (.bool (g i j)) s -> wpAny (model X.prog X.w) X.A (f (.int i t) (.int j u)) Q E s) :
  OpR X f (rI0 λ i j => .bl (g i j)) := by
 intro pins s σ H x y v u Q I rx ry h
 obtain ⟨i, j, rfl, rfl, q⟩ := h
 obtain ⟨t, rfl⟩ := rx
 obtain ⟨t', rfl⟩ := ry
 exact rule i j t t' s _ _ ⟨.bl (g i j), H, I, rfl, q⟩
theorem Nh : OpR X (binaryOp .Add) (rI0 λ i j => .int (i + j)) := Qf λ _ _ _ _ _ _ _ q => add_int q
theorem KC : OpR X (binaryOp .Sub) (rI0 λ i j => .int (i - j)) := Qf λ _ _ _ _ _ _ _ q => sub_int q
theorem Hx : OpR X (binaryOp .Mod) (rI (λ _ j => j ≠ 0) λ i j => .int (i.fmod j)) := opI λ _ _ _ _ _ _ _ hc q => mod_int' hc q
theorem unI {f : Value -> Sem Value} {g : Int -> Int}
  (rule : ∀ (i : Int) (t : Tok) (s : Shared) (Q : Value -> Shared -> Prop) (E : Value -> Shared -> Prop), Q (.int (g i) s.toks) { s with toks := s.toks + 1 } -> wpAny (model X.prog X.w) X.A (f (.int i t)) Q E s) :
  UnR X f (rU λ i => .int (g i)) := by
 intro pins s σ H x v Q I rx h
 obtain ⟨i, rfl, q⟩ := h
 obtain ⟨t, rfl⟩ := rx
 exact rule i t s _ _ ⟨.int (g i), H, I.tok _, ⟨_, rfl⟩, q⟩
theorem Mv : UnR X (unaryOp .USub) (rU λ i => .int (-i)) := unI λ _ _ _ _ _ q => neg_int q
end
section
variable {X : Cx} {a b c : Expr} {ta tb tc : TE} {pos : Pos}
theorem KR {pins : List (Addr × Obj)} {σ : St} {H : Hp} {s : Shared} {Q : VK} {k k' : Bool} (I : Inv X pins σ H s) (q : Q (.bl k) H) (e : k = k') : EP X pins σ Q (.bool k') s := by
 subst e
 exact ⟨.bl k, H, I, rfl, q⟩
theorem Od : OpR X (compareOp .Lt) (rI0 λ i j => .bl (decide (i < j))) := Hb λ _ _ _ _ _ _ _ q => lt_int q
theorem Ol : OpR X (compareOp .LtE) (rI0 λ i j => .bl (decide (i <= j))) := Hb λ _ _ _ _ _ _ _ q => le_int q
theorem PQ : OpR X (compareOp .Gt) (rI0 λ i j => .bl (decide (j < i))) := Hb λ _ _ _ _ _ _ _ q => gt_int q
theorem Ql : OpR X (compareOp .GtE) (rI0 λ i j => .bl (decide (j <= i))) := Hb λ _ _ _ _ _ _ _ q => ge_int q
theorem Js : OpR X (compareOp .IsNot) (λ x y H Q => y = .non /\ Q (.bl (!decide (x = .non))) H) := by
 intro pins s σ H x y v u Q I rx ry h
 obtain ⟨rfl, q⟩ := h
 cases ry
 refine isnot_none_gen (KR I q ?_)
 cases x <;> first
  | (cases rx; rfl)
  | (obtain ⟨t, rfl⟩ := rx; rfl)
theorem OpR.or {f : Value -> Value -> Sem Value} {r r' : R2} (h : OpR X f r) (h' : OpR X f r') : OpR X f (λ x y H Q => r x y H Q ∨ r' x y H Q) := by
 intro pins s σ H x y v u Q I rx ry q
 rcases q with q | q
 .exact h pins s σ H x y v u Q I rx ry q
 .exact h' pins s σ H x y v u Q I rx ry q
theorem Ho {op : CmpOp} {r : R2} (ho : OpR X (compareOp op) r) (ha : PE X a ta) (hb : PE X b tb) (hm : behindInMarks op b = false) : PE X (.Compare a [op] [b] pos) (tOp r ta tb) := by
 intro pins s σ H Q I h
 exact wpAny_Compare1 (Ld ha hb I h λ v u s2 x y H2 I2 rx ry q => ho pins s2 σ H2 x y v u Q I2 rx ry q) hm
def PK (t : TE) : TT := λ σ H Q => t σ H λ x H' => ∃ k, x = .bl k /\ Q k H'
theorem Gs {op : CmpOp} {r : R2} (ho : OpR X (compareOp op) r) (ha : PE X a ta) (hb : PE X b tb) (hm : behindInMarks op b = false) : PT X (.Compare a [op] [b] pos) (PK (tOp r ta tb)) := by
 intro pins s σ H Q I h
 refine wpAny_isTrue_Compare1 (thn (ha pins s σ H _ I h) λ v s1 ⟨x, H1, I1, r1, q1⟩ => thn (hb pins s1 σ H1 _ I1 q1) λ u s2 ⟨y, H2, I2, r2, q2⟩ =>
  thn (ho pins s2 σ H2 x y v u _ I2 r1 r2 q2) λ c s3 ⟨z, H3, I3, r3, k, e, q3⟩ => ?_) hm
 subst e
 cases r3
 exact wpAny_truthy_bool ⟨H3, I3, q3⟩
def Fd (r r' : R2) (ta tb tc : TE) : TE := λ σ H Q => ta σ H λ x H1 => tb σ H1 λ y H2 => r x y H2 λ z H3 => ∃ k, z = .bl k /\
 (if k = true then tc σ H3 λ w' H4 => r' y w' H4 Q else Q (.bl false) H3)
theorem Gb {op op' : CmpOp} {r r' : R2} (ho : OpR X (compareOp op) r) (ho' : OpR X (compareOp op') r') (ha : PE X a ta) (hb : PE X b tb) (hc : PE X c tc)
  (hm : lastMarks [op, op'] [b, c] = false := by with_unfolding_all rfl) : PE X (.Compare a [op, op'] [b, c] pos) (Fd r r' ta tb tc) := by
 intro pins s σ H Q I h
 refine Compare_chain (thn (ha pins s σ H _ I h) λ v s1 ⟨x, H1, I1, r1, q1⟩ => chain_link (thn (hb pins s1 σ H1 _ I1 q1) λ u s2 ⟨y, H2, I2, r2, q2⟩ =>
  thn (ho pins s2 σ H2 x y v u _ I2 r1 r2 q2) λ d s3 ⟨z, H3, I3, r3, k, e, q3⟩ => ?_)) hm
 subst e
 cases r3
 refine wpAny_truthy_bool ?_
 cases k with
 | false => exact ite_ff ⟨.bl false, H3, I3, rfl, q3⟩
 | true => exact ite_tt (chain_last (thn (hc pins s3 σ H3 _ I3 q3) λ w' s4 ⟨z', H4, I4, r4, q4⟩ => ho' pins s4 σ H4 y z' u w' Q I4 r2 r4 q4))
def Kc (K : PySem.W.Frag) (x : V) (H : Hp) (k : Bool) : Prop :=
 match x with
 | .non => k = false
 | .bl b => k = b
 | .int i => k = (i != 0)
 | .str y => y.length <= sizeLine /\ k = ((y.length : Int) != 0)
 | .byt y => y.size <= sizeLine /\ k = ((y.size : Int) != 0)
 | .ref p => (∃ xs, SqL K H p xs /\ k = !xs.isEmpty) ∨ (∃ xs, SqT K H p xs /\ k = !xs.isEmpty) ∨ ∃ kvs, H p = some (.dK kvs) /\ k = !kvs.isEmpty
 | _ => False
theorem yR {κ : Type} {kvs : List (κ × V)} {vs : List (κ × Value)} (r : KV kvs vs) : (!vs.isEmpty) = !kvs.isEmpty := by
 cases r <;> rfl
theorem rT {xs : List V} {its : List Value} (r : Vals xs its) : (!its.toArray.isEmpty) = !xs.isEmpty := by
 cases r <;> simp
theorem pG : (sizeLine : Nat) < 2 ^ 63 := by rw [sizeLine_eq]; decide
theorem Ku : TruR X (λ x H Q => ∃ k, Kc X.K x H k /\ Q k H) := by
 intro pins s σ H x v Q I rx h
 obtain ⟨k, e, q⟩ := h
 have hl := pG
 have hs : sizeLine = 16777216 := sizeLine_eq
 cases x with
 | non =>
  cases rx
  have e' : k = false := e
  subst e'
  exact truthy_none ⟨H, I, q⟩
 | bl b =>
  cases rx
  have e' : k = b := e
  subst e'
  exact wpAny_truthy_bool ⟨H, I, q⟩
 | int i =>
  obtain ⟨t, rfl⟩ := rx
  have e' : k = (i != 0) := e
  subst e'
  exact PySem.P.truthy_int ⟨H, I, q⟩
 | str y =>
  obtain ⟨t, rfl⟩ := rx
  obtain ⟨hy, e'⟩ : y.length <= sizeLine /\ k = ((y.length : Int) != 0) := e
  subst e'
  exact PySem.P.truthy_str (by omega) ⟨H, I.tok _, q⟩
 | byt y =>
  obtain ⟨t, rfl⟩ := rx
  obtain ⟨hy, e'⟩ : y.size <= sizeLine /\ k = ((y.size : Int) != 0) := e
  subst e'
  exact PySem.W.truthy_bytes (by omega) ⟨H, I.tok _, q⟩
 | ref p =>
  cases rx
  have e' : (∃ xs, SqL X.K H p xs /\ k = !xs.isEmpty) ∨ (∃ xs, SqT X.K H p xs /\ k = !xs.isEmpty) ∨ ∃ kvs, H p = some (.dK kvs) /\ k = !kvs.isEmpty := e
  rcases e' with ⟨xs, hx, e'⟩ | ⟨xs, hx, e'⟩ | ⟨kvs, hx, e'⟩
  .subst e'
   obtain ⟨its, r, pl, hz⟩ := I.list hx
   have hlen := r.length
   exact wpAny_truthy_list pl.isList (by simp only [Zd]; omega) ⟨H, I.tok _, by rw [rT r]; exact q⟩
  .subst e'
   obtain ⟨its, r, pl, hz⟩ := I.tuple hx
   have hlen := r.length
   exact truthy_tuple pl (by simp only [Zd]; omega) ⟨H, I.tok _, by rw [rT r]; exact q⟩
  .subst e'
   obtain ⟨hz, hS, vs, r, m⟩ : kvs.length <= sizeLine /\ (p == sysModules) = false /\ ∃ vs, KV kvs vs /\ s.heap.DictOf (vW X.prog X.w) p vs := I.hok p _ hx
   have hlen : kvs.length = vs.length := Paired.length r
   exact wpAny_truthy_dict hS m (by omega) ⟨H, I.tok _, by rw [yR r]; exact q⟩
 | _ => exact (show False from e).elim
theorem Gm (ha : PE X a ta) (he : ∀ whole, isTrue a X.env whole = (do let v <- whole; standAt a.pos; holding [v] (truthy v))) :
  PT X a (λ σ H Q => ta σ H λ x H' => ∃ k, Kc X.K x H' k /\ Q k H') := by
 intro pins s σ H Q I h
 exact isTrue_plain (thn (ha pins s σ H _ I h) λ v s1 ⟨x, H1, I1, r1, q1⟩ => Ku pins s1 σ H1 x v Q I1 r1 q1) (he _)
theorem zu : OpR X (binaryOp .Add) (λ x y H Q => ∃ i j, x = .str i /\ y = .str j /\ i.length + j.length <= sizeLine /\ Q (.str (i ++ j)) H) := by
 intro pins s σ H x y v u Q I rx ry h
 obtain ⟨i, j, rfl, rfl, hz, q⟩ := h
 obtain ⟨t, rfl⟩ := rx
 obtain ⟨t', rfl⟩ := ry
 exact add_str (λ t' tk => ⟨.str (i ++ j), H, I.tok _, ⟨_, rfl⟩, q⟩) hz
theorem vals1 {x : V} {us : List Value} (r : Vals [x] us) : ∃ u, us = [u] /\ RelV x u := by
 cases r with
 | cons r1 r2 => cases r2; exact ⟨_, rfl, r1⟩
theorem vals2 {x y : V} {us : List Value} (r : Vals [x, y] us) : ∃ u w', us = [u, w'] /\ RelV x u /\ RelV y w' := by
 cases r with
 | cons r1 r2 =>
  cases r2 with
  | cons r3 r4 => cases r4; exact ⟨_, _, rfl, r1, r3⟩
theorem Gd : gR X (.builtin "abs") (λ xs H Q => ∃ i, xs = [.int i] /\ Q (.int (if i < 0 then -i else i)) H) := by
 intro pins s σ H xs us Q I r h
 obtain ⟨i, rfl, q⟩ := h
 obtain ⟨u, rfl, t, rfl⟩ := vals1 r
 exact call_abs_int λ u tk => ⟨.int (if i < 0 then -i else i), H, I.tok _, ⟨_, rfl⟩, q⟩
theorem Cq (hc : X.calm = true) : gR X (.builtin "min") (λ xs H Q => ∃ i j, xs = [.int i, .int j] /\ Q (.int (if j < i then j else i)) H) := by
 intro pins s σ H xs us Q I r h
 obtain ⟨i, j, rfl, q⟩ := h
 obtain ⟨u, w', rfl, ⟨t, rfl⟩, ⟨t', rfl⟩⟩ := vals2 r
 refine min_two_ints (I.ok.hd hc) λ h' tk k => ⟨_, H, I.kept k, ?_, q⟩
 by_cases hj : j < i
 .rw [if_pos hj, if_pos hj]; exact ⟨_, rfl⟩
 .rw [if_neg hj, if_neg hj]; exact ⟨_, rfl⟩
end
structure dU (k : Nat) (A : Around) : Prop where
 hd : A.handled = none
 dp : A.depth + 3 * k + 5 < recursionLimit
 un : A.units + 16 * k + 200 < cLine
theorem dU.mono {j k : Nat} {A : Around} (r : dU k A) (h : j <= k) : dU j A := ⟨r.hd, by have := r.dp; omega, by have := r.un; omega⟩
theorem dU.deeper {k : Nat} {A : Around} (r : dU (k + 1) A) (env : Env) : dU k (A.deeper env) :=
 ⟨r.hd, by have := r.dp; show A.depth + 1 + 3 * k + 5 < _; omega, by have := r.un; show A.units + 3 + 16 * k + 200 < _; omega⟩
theorem dU.depth {k : Nat} {A : Around} (r : dU k A) : A.depth < recursionLimit := by have := r.dp; omega
def tNil : TA := λ _ H Q => Q [] H
def Py (ta : TE) (tr : TA) : TA := λ σ H Q => ta σ H λ x H1 => tr σ H1 λ xs H2 => Q (x :: xs) H2
section
variable {X : Cx} {e : Expr} {es : List Expr} {te : TE} {t : TA} {pos : Pos}
theorem sy : PA X [] tNil := λ _ _ _ _ H Q I h => Calls.spliced_nil ⟨[], H, I, .nil, h⟩
theorem lM (ha : PE X e te) (hr : PA X es t) (hs : starEach (e :: es) X.env = (false, eval e X.env) :: starEach es X.env := by rfl) : PA X (e :: es) (Py te t) := by
 intro pos pins s σ H Q I h
 rw [hs]
 show wpAny _ _ (spliced ((false, eval e X.env) :: backTo pos (starEach es X.env))) _ _ s
 refine Calls.spliced_cons (thn (ha pins s σ H _ I h) λ u s1 zq46 => ?_)
 obtain ⟨x, H1, I1, r1, q1⟩ := zq46
 exact thn (hr pos pins s1 σ H1 _ I1 q1) λ us s2 ⟨xs, H2, I2, r2, q2⟩ => ⟨x :: xs, H2, I2, .cons r1 r2, q2⟩
def tTup (t : TA) : TE := λ σ H Q => t σ H λ xs H1 => xs.length <= sizeLine /\ ∀ p, H1 p = none -> Q (.ref p) (upd H1 p (.tup xs))
def tLst (t : TA) : TE := λ σ H Q => t σ H λ xs H1 => xs.length <= sizeLine /\ ∀ p, H1 p = none -> Q (.ref p) (upd H1 p (.lst xs))
theorem Mz {x1} (h : PA X es t) : PE X (.Tuple es x1 pos) (tTup t) := by
 intro pins s σ H Q I hq
 refine wpAny_Tuple_spliced (thn (h pos pins s σ H _ I hq) λ us s1 ⟨xs, H1, I1, r, z, q⟩ => ⟨by rw [<- r.length]; exact z, ?_⟩)
 have hf : H1 s1.heap.objs.size = none := I1.hok.fresh (Zg _)
 refine ⟨.ref s1.heap.objs.size, upd H1 s1.heap.objs.size (.tup xs), I1.laid (t' := s1.toks) (λ b u e => Zb _ e) (Zg _) ?_, rfl, q _ hf⟩
 exact ⟨z, us, r, ⟨_, Zf _ rfl, rfl, _, rfl⟩⟩
theorem FW (h : PA X es t) : PE X (.List es pos) (tLst t) := by
 intro pins s σ H Q I hq
 refine wpAny_List_spliced (thn (h pos pins s σ H _ I hq) λ us s1 ⟨xs, H1, I1, r, z, q⟩ => ⟨by rw [<- r.length]; exact z, ?_⟩)
 have hf : H1 s1.heap.objs.size = none := I1.hok.fresh (Zg _)
 refine ⟨.ref s1.heap.objs.size, upd H1 s1.heap.objs.size (.lst xs), I1.laid (t' := s1.toks) (λ b u e => Zb _ e) (Zg _) ?_, rfl, q _ hf⟩
 exact ⟨z, us, 0, r, Zf _ rfl⟩
end
abbrev Sp := List V -> Hp -> VK -> XK -> Prop
abbrev CXT := List Env -> Hp -> Shared -> XK -> Value -> Shared -> Prop
structure Jh (P : Program) (w : World) (K : PySem.W.Frag) (mg : Str -> Option Value) (base : Heap) (A : Around) (outer : List Env) (s : Shared) (H : Hp) : Prop where
 frames : A.frames = some outer
 mod : Mod K mg base
 bs : ∀ b o, base.get? b = some o -> s.heap.get? b = some o /\ H b = none
 bsz : base.objs.size <= s.heap.objs.size
 funs : s.heap.FunFrames base outer
 frf : ∀ b ∈ frs outer, H b = none
 hok : HOk P w H s.heap
 bare : AllBare s.gens
def CE (outer : List Env) (P : Program) (w : World) (H : Hp) (s : Shared) (Q : VK) (u : Value) (s' : Shared) : Prop :=
 ∃ v H', s'.os = s.os /\ GK s.gens s'.gens /\ Un (frs outer) [] H H' s.heap s'.heap /\ HOk P w H' s'.heap /\ RelV v u /\ Q v H'
def CR (CX : CXT) (outer : List Env) (P : Program) (w : World) (H : Hp) (s : Shared) (Q : VK) (E : XK) (r : Result) (s' : Shared) : Prop :=
 match r with
 | .ok (.ret u) => CE outer P w H s Q u s'
 | .ok _ => False
 | .error e => CX outer H s E e s'
structure qD (P : Program) (w : World) (K : PySem.W.Frag) (mg : Str -> Option Value) (base : Heap) (CX : CXT) (k : Nat) (f : Addr) (fd : FuncData) (ps : List Str) (sp : Sp) : Prop where
 len : ∀ vs H Q E, sp vs H Q E -> vs.length = ps.length
 run : ∀ (A : Around) (outer : List Env) (s : Shared) (H : Hp) (args : Args) (us : List Value) (vs : List V) (Q : VK) (E : XK), dU k A -> Jh P w K mg base A outer s H -> BindsTo s fd args (ps.zip us) -> Vals vs us -> sp vs H Q E ->
  codeAny (model P w) A (.call (.ref f) args) (CR CX outer P w H s Q E) s
theorem qD.imp {P : Program} {w : World} {K : PySem.W.Frag} {mg : Str -> Option Value} {base : Heap} {CX : CXT} {k : Nat} {f : Addr} {fd : FuncData} {ps : List Str} {sp sp' : Sp} (F : qD P w K mg base CX k f fd ps sp)
  (h : ∀ vs H Q E, sp' vs H Q E -> sp vs H Q E) : qD P w K mg base CX k f fd ps sp' :=
 ⟨λ vs H Q E q => F.len vs H Q E (h _ _ _ _ q), λ A outer s H args us vs Q E hr he hb hv hs => F.run A outer s H args us vs Q E hr he hb hv (h _ _ _ _ hs)⟩
section
variable {X : Cx} {pins : List (Addr × Obj)} {σ : St} {H : Hp} {s s' : Shared}
theorem Inv.env0 (I : Inv X pins σ H s) : Jh X.prog X.w X.K X.mg X.base X.A X.stack s H :=
 ⟨I.ok.frames, I.ok.mod, I.bs, Zl I.ok.bsz I.sz, I.stack, I.stkFree, I.hok, I.bare.bare⟩
theorem Inv.after {Q : VK} {u : Value} (I : Inv X pins σ H s) (h : CE X.stack X.prog X.w H s Q u s') : EP X pins σ Q u s' := by
 obtain ⟨v, H', os, bare, un, hok, r, q⟩ := h
 obtain ⟨hh, g, d, t, os'⟩ := s'
 obtain rfl : os' = s.os := os
 exact ⟨v, H', I.call (h' := hh) (g' := g) (d' := d) (t' := t) (ch := []) un hok bare (λ b z => absurd z (by simp)), r, q⟩
end
def Ou (sp : Sp) (dvs : List V) (E : XK) (t : TA) : TE := λ σ H Q => t σ H λ vs H1 => sp (vs ++ dvs) H1 Q E
def Binds (K : PySem.W.Frag) (fd : FuncData) (ps : List Str) (ds : List Value) : Prop :=
 ∀ (s : Shared) (us : List Value), K.In s.heap -> (us ++ ds).length = ps.length -> BindsTo s fd ⟨us, []⟩ (ps.zip (us ++ ds))
theorem Binds.all {K : PySem.W.Frag} {fd : FuncData} {ps : List Str} (h : ∀ us : List Value, us.length = ps.length -> bindArgs fd ⟨us, []⟩ = pure (ps.zip us)) : Binds K fd ps [] := λ s us _ hl => by
 rw [List.append_nil] at hl ⊢
 exact .of_eq (h us hl)
def zY (CX : CXT) (X : Cx) (E : XK) : Prop := ∀ (pins : List (Addr × Obj)) (σ : St) (H : Hp) (s : Shared) (e : Value) (s' : Shared), Inv X pins σ H s -> CX X.stack H s E e s' -> X.xe e s'
section
variable {X : Cx} {CX : CXT} {k : Nat} {f C : Addr} {fd : FuncData} {ps : List Str} {sp : Sp} {dvs : List V} {ds : List Value} {E : XK} {x m : Str} {p pos apos : Pos} {e o : Expr} {es : List Expr} {ta : TE} {t : TA}
theorem Mq {pins : List (Addr × Obj)} {σ : St} {H : Hp} {s : Shared} {Q : VK} {us : List Value} {vs : List V} (F : qD X.prog X.w X.K X.mg X.base CX k f fd ps sp) (hr : dU k X.A) (hb : Binds X.K fd ps ds) (hd : Vals dvs ds) (hx : zY CX X E)
  (I : Inv X pins σ H s) (r : Vals vs us) (h : sp (vs ++ dvs) H Q E) : wpAny (model X.prog X.w) X.A (call (.ref f) us) (EP X pins σ Q) X.xe s := by
 have r2 : Vals (vs ++ dvs) (us ++ ds) := r.append hd
 have hl : (us ++ ds).length = ps.length := by rw [<- r2.length]; exact F.len _ _ _ _ h
 refine wpAny_call (codeAny_mono (F.run X.A X.stack s H ⟨us, []⟩ (us ++ ds) (vs ++ dvs) Q E hr I.env0 (hb s us I.kIn hl) r2 h) λ r s' hq => ?_)
 cases r with
 | error e => exact hx pins σ H s e s' I hq
 | ok fl =>
  cases fl with
  | ret u => exact I.after hq
  | next => exact False.elim hq
  | brk => exact False.elim hq
  | cont => exact False.elim hq
theorem HR (F : qD X.prog X.w X.K X.mg X.base CX k f fd ps sp) (hr : dU k X.A) (hg : Gl X x) (hm : X.mg x = some (.ref f)) (hk : PySem.W.keepIn X.K (.ref f) = true) (hb : Binds X.K fd ps ds) (hd : Vals dvs ds) (hx : zY CX X E)
  (ha : PA X (e :: es) t) (hdb : (x == ("__debug__" : Str)) = false := by decide) (he : starEach (e :: es) X.env = (false, eval e X.env) :: starEach es X.env := by rfl) (hpl : (backTo pos (starEach es X.env)).any (·.1) = false := by rfl) :
  PE X (.Call (.Name x p) (e :: es) [] pos) (Ou sp dvs E t) := by
 intro pins s σ H Q I h
 refine wpAny_Call_Name_kw (Jo I hg hm ?_ hdb)
 refine PySem.W.callWith_K (h₀ := X.base) I.ok.mod.kin hk (thn (ha pos pins s σ H _ I h) λ us s1 ⟨vs, H1, I1, r, q⟩ => ⟨I1.kIn, ?_⟩) he hpl
 exact Mq F hr hb hd hx I1 r q
end
structure bu (N P : List Str) (sc : Scope) : Prop where
 kind : sc.kind = .function
 co : sc.isCoroutine = false
 gen : sc.isGenerator = false
 nd : N.Nodup
 pre : N.take P.length = P
 par : ∀ x ∈ P, sc.names.lookup x = some .local ∨ sc.names.lookup x = some .cell
 nofree : ∀ y ∈ sc.names, y.2 ≠ .free
theorem uy {kindOf : Str -> Option NameKind} {x : Str} : ∀ {binds : List (Str × Value)} {m : Str -> Option Value}, (∀ v, (x, v) ∉ binds) -> bindL kindOf binds m x = m x
 | [], _, _ => rfl
 | (n, v) :: r, m, h => by
  unfold bindL
  rw [uy λ w hw => h w (List.mem_cons_of_mem _ hw)]
  split
  .have : x ≠ n := by rintro rfl; exact h v List.mem_cons_self
   simp [this]
  .rfl
theorem uB {kindOf : Str -> Option NameKind} {x : Str} : ∀ {binds : List (Str × Value)} {m : Str -> Option Value}, (∀ v, (x, v) ∉ binds) -> bindC kindOf binds m x = m x
 | [], _, _ => rfl
 | (n, v) :: r, m, h => by
  unfold bindC
  rw [uB λ w hw => h w (List.mem_cons_of_mem _ hw)]
  split
  .rfl
  .have : x ≠ n := by rintro rfl; exact h v List.mem_cons_self
   simp [this]
theorem vg {kindOf : Str -> Option NameKind} {x : Str} {v : Value} : ∀ {P : List Str} {vs : List Value} {i : Nat} {m : Str -> Option Value}, P.Nodup -> P[i]? = some x -> vs[i]? = some v -> kindOf x = some .local ->
  bindL kindOf (P.zip vs) m x = some v
 | [], _, _, _, _, h, _, _ => by simp at h
 | _ :: _, [], _, _, _, _, h, _ => by simp at h
 | p :: P, w :: vs, 0, m, nd, h1, h2, hk => by
  simp at h1 h2; subst h1; subst h2
  show bindL kindOf ((p, w) :: P.zip vs) m p = _
  unfold bindL
  rw [uy λ v hv => (List.nodup_cons.mp nd).1 (List.of_mem_zip hv).1, if_pos hk]
  simp
 | p :: P, w :: vs, i + 1, m, nd, h1, h2, hk => by
  show bindL kindOf ((p, w) :: P.zip vs) m x = _
  unfold bindL
  exact vg (i := i) (List.nodup_cons.mp nd).2 (by simpa using h1) (by simpa using h2) hk
theorem uI {kindOf : Str -> Option NameKind} {x : Str} {v : Value} : ∀ {P : List Str} {vs : List Value} {i : Nat} {m : Str -> Option Value}, P.Nodup -> P[i]? = some x -> vs[i]? = some v -> kindOf x ≠ some .local ->
  bindC kindOf (P.zip vs) m x = some v
 | [], _, _, _, _, h, _, _ => by simp at h
 | _ :: _, [], _, _, _, _, h, _ => by simp at h
 | p :: P, w :: vs, 0, m, nd, h1, h2, hk => by
  simp at h1 h2; subst h1; subst h2
  show bindC kindOf ((p, w) :: P.zip vs) m p = _
  unfold bindC
  rw [uB λ v hv => (List.nodup_cons.mp nd).1 (List.of_mem_zip hv).1, if_neg hk]
  simp
 | p :: P, w :: vs, i + 1, m, nd, h1, h2, hk => by
  show bindC kindOf ((p, w) :: P.zip vs) m x = _
  unfold bindC
  exact uI (i := i) (List.nodup_cons.mp nd).2 (by simpa using h1) (by simpa using h2) hk
def start (N : List Str) (vs : List V) : St := vs.map some ++ List.replicate (N.length - vs.length) none
def zM (CX : CXT) (P : Program) (w : World) (K : PySem.W.Frag) (mg : Str -> Option Value) (base : Heap) (N : List Str) (qual : Str) (scope : Scope) (f : Addr) (cd : Value) (A : Around) (outer : List Env) (s : Shared) (H : Hp) (E : XK) : Cx where
 prog := P
 w := w
 K := K
 mg := mg
 base := base
 A := A.deeper (envOfC qual scope s.heap.objs.size f cd)
 N := N
 s₀ := s
 H₀ := H
 env := envOfC qual scope s.heap.objs.size f cd
 outer := outer
 stack := envOfC qual scope s.heap.objs.size f cd :: outer
 ex := []
 calm := true
 fn := λ _ => true
 pn := []
 xe := λ e s' => wpAny (model P w) (A.deeper (envOfC qual scope s.heap.objs.size f cd)) (leaving (envOfC qual scope s.heap.objs.size f cd) e) (λ _ s'' => CX outer H s E e s'') (λ e' s'' => CX outer H s E e' s'') s'
theorem yg {sc : Scope} {n : Nat} {x : Str} (h : sc.names.lookup x = some .cell) : ∃ c, (cellsFrom n sc.names []).lookup x = some c := by
 have q := PySem.W.cellsFrom_some sc.names n [] (.inl h)
 exact Option.isSome_iff_exists.mp q
theorem Bu {CX : CXT} {P : Program} {w : World} {K : PySem.W.Frag} {mg : Str -> Option Value} {base : Heap} {N ps : List Str} {qual : Str} {scope : Scope} {f : Addr} {cd : Value} {A : Around} {outer : List Env} {s s1 : Shared} {H : Hp} {E : XK} {us : List Value} {vs : List V}
  (S : bu N ps scope) (hd : A.handled = none) (e0 : Jh P w K mg base A outer s H) (hl : vs.length = ps.length) (r : Vals vs us)
  (x : InCallC s s.heap.objs.size (bindL (envOfC qual scope s.heap.objs.size f cd).kindOf (ps.zip us) λ _ => none) (cellsFrom (s.heap.objs.size + 1) scope.names []) (bindC (envOfC qual scope s.heap.objs.size f cd).kindOf (ps.zip us) λ _ => none) s1) :
  Inv (zM CX P w K mg base N qual scope f cd A outer s H E) [] (start N vs) H s1 := by
 have hpl : ps.length <= N.length := by have := congrArg List.length S.pre; rw [List.length_take] at this; omega
 obtain ⟨h1, tk, rfl, hk⟩ := x.done
 have noA : ∀ b : Addr, b ∉ (zM CX P w K mg base N qual scope f cd A outer s H E).ex := λ b z => absurd (show b ∈ ([] : List Addr) from z) (by simp)
 refine ⟨⟨e0.mod, S.kind, rfl, rfl, Zg _, λ y z c h1 h2 => ?_, λ y hy => ?_, λ y c _ h => ?_, λ _ => hd, Around.frames_deeper e0.frames, .inr ⟨rfl, rfl⟩, λ b z => absurd z (noA b), e0.bs, e0.bsz, λ b _ _ => noA b, λ b z => absurd z (noA b), e0.funs, e0.frf⟩,
  rfl, GK.refl e0.bare, Un.kept hk, ⟨_, x.toInCall.ns, λ i y v h1 h2 h3 => ?_⟩, λ y c h => ⟨_, x.cell y c h⟩, e0.hok.fresh (Zg _), λ y c h => ?_, λ p hp => absurd (show p ∈ ([] : List (Addr × Obj)) from hp) (by simp), e0.hok.kept hk, ?_⟩
 .exact name_of_addr x.apart (Zt h1) (Zt h2)
 .have hy : scope.names.lookup y = some .cell ∨ scope.names.lookup y = some .free := hy
  rcases hy with hy | hy
  .exact yg hy
  .exact absurd rfl (S.nofree _ (Zt hy))
 .exact Nat.le_of_lt (x.above y c (Zt h))
 .have hi : i < vs.length := by
   unfold start at h2
   by_cases hi : i < vs.length
   .exact hi
   .rw [List.getElem?_append_right (by simpa using hi)] at h2
    rw [List.getElem?_replicate] at h2
    split at h2 <;> cases h2
  have ha : vs[i]? = some v := by
   unfold start at h2
   rw [Zs (by simpa using hi), List.getElem?_map] at h2
   cases e : vs[i]? with
   | none => rw [e] at h2; cases h2
   | some a => rw [e] at h2; cases h2; rfl
  obtain ⟨u, hu, rv⟩ := r.get ha
  have hp : ps[i]? = some y := by
   rw [<- S.pre, List.getElem?_take_of_lt (by omega)]; exact h1
  have ndP : ps.Nodup := by rw [<- S.pre]; exact S.nd.sublist (List.take_sublist _ _)
  refine ⟨u, rv, ?_⟩
  rcases S.par y (List.mem_of_getElem? hp) with k | k
  .exact .inl ⟨k, vg ndP hp hu k⟩
  .obtain ⟨c, e⟩ := yg (n := s.heap.objs.size + 1) k
   refine .inr ⟨.inl k, c, e, ?_⟩
   have q := x.cell y c e
   rw [uI ndP hp hu (by show scope.names.lookup y ≠ _; rw [k]; decide)] at q
   exact q
 .exact e0.hok.fresh (Nat.le_of_lt (x.above y c (Zt h)))
 .unfold start
  show _ = N.length
  rw [List.length_append, Zu, List.length_replicate]
  omega
theorem Jv {CX : CXT} {P : Program} {w : World} {K : PySem.W.Frag} {mg : Str -> Option Value} {base : Heap} {k : Nat} {f : Addr} {name qual : Str} {params : Arguments} {body : List Stmt} {scope : Scope} {dV kV doc pm cdv ct oc : Value} {an od : Option Addr}
  {osl : Array (Option Value)} {N ps : List Str} {sp : Sp} (lk : K.lookup f = some ⟨oc, od, .func (PySem.W.fnOf name qual params body scope dV kV doc pm an cdv ct), osl⟩) (hcd : PySem.W.codeIn K cdv qual = true) (S : bu N ps scope)
  (len : ∀ vs H Q E, sp vs H Q E -> vs.length = ps.length)
  (hbody : ∀ (A : Around) (outer : List Env) (s : Shared) (H : Hp) (vs : List V) (Q : VK) (E : XK), dU k (A.deeper (envOfC qual scope s.heap.objs.size f cdv)) -> sp vs H Q E ->
   ∃ t, PSs (zM CX P w K mg base N qual scope f cdv A outer s H E) body t /\ t { nx := λ _ H' => Q .non H', rt := Q } (start N vs) H) :
  qD P w K mg base CX (k + 1) f (PySem.W.fnOf name qual params body scope dV kV doc pm an cdv ct) ps sp := by
 refine ⟨len, λ A outer s H args us vs Q E hr e0 hb r hsp => ?_⟩
 have hl := len _ _ _ _ hsp
 have KX : K.In s.heap := e0.mod.kin.keeps λ b o e => (e0.bs b o e).1
 have lim : s.heap.NoLimit := e0.mod.nolimit.keeps λ b o e => (e0.bs b o e).1
 have hkind : ∀ y ∈ ps.zip us, scope.names.lookup y.1 = some .local ∨ (scope.names.lookup y.1 = some .cell /\ ((cellsFrom (s.heap.objs.size + 1) scope.names []).lookup y.1).isSome = true) := λ zq49 hy => by
  obtain ⟨n, v⟩ := zq49
  rcases S.par n (List.of_mem_zip hy).1 with q | q
  .exact .inl q
  .exact .inr ⟨q, PySem.W.cellsFrom_some _ _ _ (.inl q)⟩
 refine codeAny_call_function hr.depth (KX _ _ lk) rfl S.co S.gen rfl (PySem.W.codeRec_of KX hcd) (hb _ _ _ _ ?_)
 refine wpAny_newFunctionEnv_cells S.kind hkind λ env he s1 x => ?_
 subst he
 refine ⟨lim.keeps x.toInCall.keep, codeAny_func ?_⟩
 obtain ⟨t, ht, hq⟩ := hbody A outer s H vs Q E (hr.deeper _) hsp
 have I : Inv (zM CX P w K mg base N qual scope f cdv A outer s H E) [] (start N vs) H s1 := Bu S hr.hd e0 hl r x
 refine wpAny_mono (ht [] s1 (start N vs) H _ I hq) (λ fl s' hs => ?_) λ e s' hs => hs
 have fin : ∀ {σ' : St} {H' : Hp} {v : V} {u : Value}, Inv (zM CX P w K mg base N qual scope f cdv A outer s H E) [] σ' H' s' -> RelV v u -> Q v H' -> CE outer P w H s Q u s' :=
  λ {σ' H' v u} J rv q => ⟨v, H', J.os, J.bare, J.base, J.hok, rv, q⟩
 cases fl with
 | ret u =>
  obtain ⟨v, σ', H', J, rv, q⟩ := hs
  exact fin J rv q
 | next =>
  obtain ⟨σ', H', J, q⟩ := hs
  exact fin (v := V.non) (u := Value.none) J rfl q
 | brk =>
  obtain ⟨_, _, _, q⟩ := hs
  exact False.elim q
 | cont =>
  obtain ⟨_, _, _, q⟩ := hs
  exact False.elim q
section
variable {X : Cx} {x : Str} {p pos : Pos} {e : Expr} {es : List Expr} {t : TA} {id T : String} {r : List V -> Hp -> VK -> Prop}
def tCB (r : List V -> Hp -> VK -> Prop) (t : TA) : TE := λ σ H Q => t σ H λ vs H1 => r vs H1 Q
theorem lC (hc : gR X (.builtin id) r) (hg : Gl X x) (hm : X.mg x = none) (hv : bootBuiltins x = some (.builtin id)) (ha : PA X (e :: es) t) (hn : x ≠ "__name__" := by decide) (hdb : (x == ("__debug__" : Str)) = false := by decide)
  (he : starEach (e :: es) X.env = (false, eval e X.env) :: starEach es X.env := by rfl) (hpl : (backTo pos (starEach es X.env)).any (·.1) = false := by rfl) : PE X (.Call (.Name x p) (e :: es) [] pos) (tCB r t) := by
 intro pins s σ H Q I h
 refine wpAny_Call_Name_kw (jN I hg hm hv ?_ hn hdb)
 exact PyProof.Rows.callWith_builtin1 (thn (ha pos pins s σ H _ I h) λ us s1 ⟨vs, H1, I1, r1, q1⟩ => hc pins s1 σ H1 vs us Q I1 r1 q1) he hpl
theorem pY (hc : gR X (.type T) r) (hg : Gl X x) (hm : X.mg x = none) (hv : bootBuiltins x = some (.type T)) (ha : PA X (e :: es) t) (hn : x ≠ "__name__" := by decide) (hdb : (x == ("__debug__" : Str)) = false := by decide)
  (he : starEach (e :: es) X.env = (false, eval e X.env) :: starEach es X.env := by rfl) (hpl : (backTo pos (starEach es X.env)).any (·.1) = false := by rfl) : PE X (.Call (.Name x p) (e :: es) [] pos) (tCB r t) := by
 intro pins s σ H Q I h
 refine wpAny_Call_Name_kw (jN I hg hm hv ?_ hn hdb)
 exact PyProof.Rows.callWith_type1 (thn (ha pos pins s σ H _ I h) λ us s1 ⟨vs, H1, I1, r1, q1⟩ => hc pins s1 σ H1 vs us Q I1 r1 q1) he hpl
end
end L2
namespace HT
open PySem PyProof.Rows
def lexLt : List Int -> List Int -> Bool
 | [], [] => false
 | [], _ :: _ => true
 | _ :: _, [] => false
 | x :: xs, y :: ys => if x = y then lexLt xs ys else decide (x < y)
theorem lexLt_cons (x y : Int) (xs ys : List Int) : lexLt (x :: xs) (y :: ys) = if x = y then lexLt xs ys else decide (x < y) := rfl
section
variable {prog : Program} {w : World} {A : Around} {E : Value -> Shared -> Prop} {s : Shared}
theorem cat_tup {t b : Addr} {vs ws : List Value} {Q : Value -> Shared -> Prop} (ht : IsTup s.heap t vs.toArray) (hb : IsTup s.heap b ws.toArray) (hv : vs ≠ [])
  (h1 : ws = [] -> Q (.ref t) s) (h2 : ws ≠ [] -> Q (.ref s.heap.objs.size) { s with heap := s.heap.push { cls := .type "tuple", data := .seq (vs ++ ws).toArray } })
  (hsz : vs.length + ws.length <= sizeLine) : wpAny (model prog w) A (binaryOp .Add (.ref t) (.ref b)) Q E s := by
 obtain ⟨⟨cls, dd, data, sl⟩, ho, hc, n, hd⟩ := id ht
 obtain ⟨⟨cls2, dd2, data2, sl2⟩, ho2, hc2, n2, hd2⟩ := id hb
 simp only at hc hd hc2 hd2
 subst hc hd hc2 hd2
 have e : vs.toArray ++ ws.toArray = (vs ++ ws).toArray := by simp
 by_cases hw : ws = []
 .exact concat_meets ⟨_, ho, rfl⟩ ⟨_, ho2, rfl⟩ noFill_tuple_add seq_tuple_add PySem.F.slot_tuple_add PySem.F.entry_tuple_add (PySem.F.args_tuple_add_2 _ _)
   (tuple_addW1 t b vs.toArray ws.toArray n n2 dd dd2 sl sl2 (by simpa using hv) (by simp [hw])) ⟨ho, ho2, h1 hw⟩
 .refine concat_meets ⟨_, ho, rfl⟩ ⟨_, ho2, rfl⟩ noFill_tuple_add seq_tuple_add PySem.F.slot_tuple_add PySem.F.entry_tuple_add (PySem.F.args_tuple_add_2 _ _)
   (tuple_addW2 t b vs.toArray ws.toArray n n2 dd dd2 sl sl2 (by simpa using hv) (by simpa using hw) (by rw [Zd, Zd]; exact hsz)) ⟨ho, ho2, ?_⟩
  rw [e]
  exact h2 hw
def sIx (n d : Nat) : Option Int -> Nat
 | none => d
 | some v => if v < 0 then (v + (n : Int)).toNat else min v.toNat n
theorem Ky (n d : Nat) (hd : d <= n) (o : Option Int) : sIx n d o <= n := by
 cases o with
 | none => exact hd
 | some v =>
  show (if v < 0 then (v + (n : Int)).toNat else min v.toNat n) <= n
  by_cases hv : v < 0
  .rw [if_pos hv]; omega
  .rw [if_neg hv]; exact Nat.min_le_right _ _
theorem Az (v : Int) (n d : Nat) : (if v < 0 then max (v + (n : Int)) 0 else min v (n : Int)) = ((sIx n d (some v) : Nat) : Int) := by
 show (if v < 0 then max (v + (n : Int)) 0 else min v (n : Int)) = (((if v < 0 then (v + (n : Int)).toNat else min v.toNat n) : Nat) : Int)
 by_cases hv : v < 0
 .simp only [if_pos hv]; omega
 .simp only [if_neg hv]; omega
theorem zX (lo hi : Option Int) (n : Nat) : Builtin.Slice.sliceAdjust lo hi 1 (n : Int) = (((sIx n 0 lo : Nat) : Int), ((sIx n n hi : Nat) : Int)) := by
 have h1 : ¬ ((1 : Int) < 0) := by omega
 unfold Builtin.Slice.sliceAdjust
 simp only [h1, if_false]
 refine Prod.ext ?_ ?_
 .cases lo with
  | none => rfl
  | some v => exact Az v n 0
 .cases hi with
  | none => rfl
  | some v => exact Az v n n
theorem zV (i j : Nat) : Builtin.Slice.slicePlaces (i : Int) (j : Int) 1 = j - i := by
 unfold Builtin.Slice.slicePlaces
 have h1 : (1 : Int) > 0 := by omega
 simp only [h1, if_true, Int.ediv_one]
 split <;> omega
theorem tZ {v : Value} {o : Option Int} {Q : Option Int -> Shared -> Prop} (p : IsPart v o) (h : Q o s) : wpAny (model prog w) A (Builtin.Slice.slicePartIndex v) Q E s := by
 cases p with
 | none => exact slicePart_none h
 | int i t => exact slicePart_int h
theorem jy {sl : Addr} {vl vu : Value} {lo hi : Option Int} {n : Nat} {Q : Int × Int × Nat -> Shared -> Prop} (hs : s.heap.IsSliceOf sl vl vu .none) (pl : IsPart vl lo) (pu : IsPart vu hi)
  (h : Q (((sIx n 0 lo : Nat) : Int), 1, sIx n n hi - sIx n 0 lo) s) : wpAny (model prog w) A (Builtin.Slice.sliceApplied (.ref sl) (pure (n : Int))) Q E s := by
 obtain ⟨os, hos, hcs, hds⟩ := id hs
 unfold Builtin.Slice.sliceApplied Builtin.Slice.sliceFields
 refine wpAny_bind (wpAny_bind (wpAny_field hos hds (x := vl) rfl (wpAny_bind (wpAny_field hos hds (x := vu) rfl (wpAny_bind (wpAny_field hos hds (x := .none) rfl (wpAny_pure ?_)))))))
 refine wpAny_bind (slicePart_none ?_)
 show wpAny _ _ (if ((1 : Int) == 0) = true then _ else _) _ _ s
 rw [if_neg (by decide)]
 refine wpAny_bind (tZ pl (wpAny_bind (tZ pu (wpAny_bind (wpAny_pure ?_)))))
 show wpAny _ _ (match Builtin.Slice.sliceAdjust lo hi 1 (n : Int) with | (lo, hi) => pure (lo, (1 : Int), Builtin.Slice.slicePlaces lo hi 1)) _ _ s
 rw [zX lo hi n]
 show wpAny _ _ (pure (((sIx n 0 lo : Nat) : Int), (1 : Int), Builtin.Slice.slicePlaces ((sIx n 0 lo : Nat) : Int) ((sIx n n hi : Nat) : Int) 1)) _ _ s
 rw [zV]
 exact wpAny_pure h
theorem Dv (xs : Array Value) (i k : Nat) : ((List.range k).filterMap λ (m : Nat) => xs[((i : Int) + (m : Int) * 1).toNat]?).toArray = ((xs.toList.drop i).take k).toArray := by
 have e : (λ (m : Nat) => xs[((i : Int) + (m : Int) * 1).toNat]?) = λ m => xs[i + m]? := by
  funext m
  have : ((i : Int) + (m : Int) * 1).toNat = i + m := by omega
  rw [this]
 rw [e]
 have := pick_run xs i k
 rw [List.filterMap_map] at this
 have e2 : ((λ x => xs[x]?) ∘ λ x => i + x) = λ m => xs[i + m]? := rfl
 rw [e2] at this
 rw [this]
theorem getItem_tuple_cut {t sl : Addr} {items : Array Value} {vl vu : Value} {lo hi : Option Int} {Q : Value -> Shared -> Prop} (ht : IsTup s.heap t items) (hs : s.heap.IsSliceOf sl vl vu .none) (pl : IsPart vl lo) (pu : IsPart vu hi)
  (hw : ¬ (sIx items.size 0 lo = 0 /\ sIx items.size items.size hi = items.size))
  (h : Q (.ref s.heap.objs.size) { s with heap := s.heap.push { cls := .type "tuple", data := .seq ((items.toList.drop (sIx items.size 0 lo)).take (sIx items.size items.size hi - sIx items.size 0 lo)).toArray } })
  (hsz : items.size <= sizeLine) : wpAny (model prog w) A (getItem (.ref t) (.ref sl)) Q E s := by
 have htake : sizeOk (.seq ((items.toList.drop (sIx items.size 0 lo)).take (sIx items.size items.size hi - sIx items.size 0 lo)).toArray) := by
  show ((items.toList.drop (sIx items.size 0 lo)).take (sIx items.size items.size hi - sIx items.size 0 lo)).toArray.size <= sizeLine
  rw [Zd, List.length_take, List.length_drop, Array.length_toList]
  omega
 have hj : sIx items.size items.size hi <= items.size := Ky _ _ (Zg _) hi
 obtain ⟨os, hos, hcs, hds⟩ := id hs
 have hTs : s.TypeIs (.ref sl) "slice" := ⟨os, hos, hcs⟩
 unfold getItem
 try with_reducible refine wpAny_holding ?_
 first | refine wpAny_bind (wpAny_pure ?_) | skip
 refine wpAny_bind (wpAny_sequenceKey ht.typeIs (by decide) ?_)
 refine wpAny_bind (wpAny_callSpecial?_slot (name := Str.ofString "__getitem__") ht.typeIs PyProof.Rows.slot_tuple_getitem
  (wpAny_call_entry PyProof.Rows.slot_tuple_getitem ht.typeIs entry_tuple_getitem ?_ (args_tuple_getitem _ _)))
 show wpAny _ _ (Builtin.Tuple.tupleItemsOf (.ref t) >>= _) _ _ s
 refine wpAny_bind (tupleItemsOf_ ht ?_)
 refine wpAny_bind (wpAny_typeOf hTs ?_)
 rw [if_pos (by decide)]
 refine wpAny_bind (jy hs pl pu ?_)
 have hno : ¬ ((((sIx items.size 0 lo : Nat) : Int) == 0 && (1 : Int) == 1 && (sIx items.size items.size hi - sIx items.size 0 lo) == items.size) = true) := by
  intro q
  rw [Zo, Zo] at q
  have q1 : ((sIx items.size 0 lo : Nat) : Int) = 0 := eq_of_beq q.1.1
  have q2 : sIx items.size items.size hi - sIx items.size 0 lo = items.size := eq_of_beq q.2
  exact hw ⟨by omega, by omega⟩
 show wpAny _ _ (if (((sIx items.size 0 lo : Nat) : Int) == 0 && (1 : Int) == 1 && (sIx items.size items.size hi - sIx items.size 0 lo) == items.size) = true then _ else _) _ _ s
 rw [if_neg hno, Dv]
 first
  | exact wpAny_bind (m := Builtin.Tuple.tupleExact _) (wpAny_newObj_type (wpAny_pure ⟨_, rfl, wpAny_pure h⟩) htake)
  | exact wpAny_bind (m := Builtin.Tuple.tupleExact _) (wpAny_newObj_type (wpAny_bind (wpAny_pure (wpAny_pure ⟨_, rfl, wpAny_pure h⟩))) htake)
  | exact wpAny_bind (wpAny_bind (m := Builtin.Tuple.tupleExact _) (wpAny_newObj_type (wpAny_pure (wpAny_pure ⟨_, rfl, wpAny_pure h⟩)) htake))
  | exact wpAny_bind (wpAny_bind (m := Builtin.Tuple.tupleExact _) (wpAny_newObj_type (wpAny_pure ⟨_, rfl, wpAny_pure h⟩) htake))
end
end HT
namespace L2
open PySem PySem.Spec PyProof.Rows
abbrev TO := St -> Hp -> (Option Int -> Hp -> Prop) -> Prop
def PO (X : Cx) (e : Option Expr) (t : TO) : Prop :=
 ∀ (pins : List (Addr × Obj)) (s : Shared) (σ : St) (H : Hp) (Q : Option Int -> Hp -> Prop), Inv X pins σ H s -> t σ H Q ->
  wpAny (model X.prog X.w) X.A (evalPart e X.env) (λ u s' => ∃ o H', Inv X pins σ H' s' /\ IsPart u o /\ Q o H') X.xe s
def HS : TO := λ _ H Q => Q none H
def PB (t : TE) : TO := λ σ H Q => t σ H λ x H1 => ∃ i, x = .int i /\ Q (some i) H1
section
variable {X : Cx} {e : Expr} {te : TE} {lo hi : Option Expr} {tl th : TO} {pos p2 : Pos}
theorem Jk : PO X none HS := by
 intro pins s σ H Q I h
 rw [evalPart_none]
 exact wpAny_pure ⟨none, H, I, .none, h⟩
theorem Iu (h : PE X e te) : PO X (some e) (PB te) := by
 intro pins s σ H Q I hw
 rw [evalPart_some]
 refine thn (h pins s σ H _ I hw) λ u s1 zq50 => ?_
 obtain ⟨x, H1, I1, r1, q1⟩ := zq50
 obtain ⟨i, rfl, q⟩ := q1
 obtain ⟨t, rfl⟩ := r1
 exact ⟨some i, H1, I1, .int i t, q⟩
def SlR (X : Cx) (r : V -> Option Int -> Option Int -> Hp -> VK -> Prop) : Prop :=
 ∀ (pins : List (Addr × Obj)) (s : Shared) (σ : St) (H : Hp) (x : V) (v vl vu : Value) (lo hi : Option Int) (sl : Addr) (Q : VK), Inv X pins σ H s -> RelV x v -> s.heap.IsSliceOf sl vl vu .none -> IsPart vl lo -> IsPart vu hi -> r x lo hi H Q ->
  ∃ T id, typeLookup (.type T) "__getitem__" = pure (some (.builtin id)) /\ s.TypeIs v T /\ wpAny (model X.prog X.w) X.A (getItem v (.ref sl)) (EP X pins σ Q) X.xe s
theorem SlR.or {r r' : V -> Option Int -> Option Int -> Hp -> VK -> Prop} (h : SlR X r) (h' : SlR X r') : SlR X (λ x lo hi H Q => r x lo hi H Q ∨ r' x lo hi H Q) := by
 intro pins s σ H x v vl vu lo hi sl Q I rx hs pl pu q
 rcases q with q | q
 .exact h pins s σ H x v vl vu lo hi sl Q I rx hs pl pu q
 .exact h' pins s σ H x v vl vu lo hi sl Q I rx hs pl pu q
def tSl (r : V -> Option Int -> Option Int -> Hp -> VK -> Prop) (te : TE) (tl th : TO) : TE := λ σ H Q => te σ H λ x H1 => tl σ H1 λ l H2 => th σ H2 λ u H3 => r x l u H3 Q
theorem Er {r : V -> Option Int -> Option Int -> Hp -> VK -> Prop} (hr : SlR X r) (he : PE X e te) (hl : PO X lo tl) (hu : PO X hi th) : PE X (.Subscript e (.Slice lo hi none p2) pos) (tSl r te tl th) := by
 intro pins s σ H Q I h
 refine Subscript_ (thn (he pins s σ H _ I h) λ v s1 zq51 => ?_)
 obtain ⟨x, H1, I1, r1, q1⟩ := zq51
 refine wpAny_Slice (thn (hl pins s1 σ H1 _ I1 q1) λ vl s2 ⟨l, H2, I2, pl, q2⟩ => thn (hu pins s2 σ H2 _ I2 q2) λ vu s3 zq52 => ?_)
 obtain ⟨u, H3, I3, pu, q3⟩ := zq52
 rw [evalPart_none]
 refine wpAny_pure ?_
 have I4 : Inv X pins σ H3 { s3 with heap := s3.heap.push { cls := .type "slice", data := .fields #[vl, vu, .none] } } := I3.kept (t' := s3.toks) λ b ob q => Zb _ q
 obtain ⟨T, id, hT, ht, hg⟩ := hr pins { s3 with heap := s3.heap.push { cls := .type "slice", data := .fields #[vl, vu, .none] } } σ H3 x v vl vu l u s3.heap.objs.size Q I4 r1 (Heap.IsSliceOf.new ..) pl pu q3
 show wpAny (model X.prog X.w) X.A (subscriptTail e (.Slice lo hi none p2) v (.ref s3.heap.objs.size)) (EP X pins σ Q) X.xe { s3 with heap := s3.heap.push { cls := .type "slice", data := .fields #[vl, vu, .none] } }
 exact tail_any (ops := [.ref s3.heap.objs.size, v]) ht hT hg (by with_unfolding_all rfl)
def wY (xs : List V) (lo hi : Option Int) : List V := (xs.drop (HT.sIx xs.length 0 lo)).take (HT.sIx xs.length xs.length hi - HT.sIx xs.length 0 lo)
theorem qt (xs : List V) (lo hi : Option Int) : (wY xs lo hi).length <= xs.length := by
 unfold wY
 rw [List.length_take, List.length_drop]
 omega
def rSlT (K : PySem.W.Frag) : V -> Option Int -> Option Int -> Hp -> VK -> Prop := λ x lo hi H Q => ∃ a xs, x = .ref a /\ SqT K H a xs /\
 ¬ (HT.sIx xs.length 0 lo = 0 /\ HT.sIx xs.length xs.length hi = xs.length) /\ ∀ p, H p = none -> Q (.ref p) (upd H p (.tup (wY xs lo hi)))
theorem Mw : SlR X (rSlT X.K) := by
 intro pins s σ H x v vl vu lo hi sl Q I rx hs pl pu h
 obtain ⟨a, xs, rfl, hx, hw, q⟩ := h
 cases rx
 obtain ⟨its, r, ht, hz⟩ := I.tuple hx
 have hlen : its.toArray.size = xs.length := by rw [Zd]; exact r.length.symm
 refine ⟨"tuple", _, PyProof.Rows.slot_tuple_getitem.lookup, ht.typeIs, ?_⟩
 refine HT.getItem_tuple_cut ht hs pl pu (by rw [hlen]; exact hw) ?_ (by rw [hlen]; exact hz)
 rw [hlen]
 refine ⟨.ref s.heap.objs.size, _, I.laid (t' := s.toks) (o := .tup (wY xs lo hi)) (λ b ob q => Zb _ q) (Zg _) ?_, rfl, q _ (I.hok.fresh (Zg _))⟩
 exact ⟨Zl (qt xs lo hi) hz, _, (r.drop (HT.sIx xs.length 0 lo)).take (HT.sIx xs.length xs.length hi - HT.sIx xs.length 0 lo), IsTup.new _ _⟩
def Oc (K : PySem.W.Frag) : R2 := λ x y H Q => ∃ a b xs ys, x = .ref a /\ y = .ref b /\ SqT K H a xs /\ SqT K H b ys /\ xs ≠ [] /\ xs.length + ys.length <= sizeLine /\
 (ys = [] -> Q (.ref a) H) /\ (ys ≠ [] -> ∀ p, H p = none -> Q (.ref p) (upd H p (.tup (xs ++ ys))))
theorem Vals.jG {xs : List V} {us : List Value} (r : Vals xs us) : us = [] ↔ xs = [] := by
 cases r with
 | nil => simp
 | cons _ _ => simp
theorem HD : OpR X (binaryOp .Add) (Oc X.K) := by
 intro pins s σ H x y v u Q I rx ry h
 obtain ⟨a, b, xs, ys, rfl, rfl, ha, hb, hx, hz, q1, q2⟩ := h
 cases rx
 cases ry
 obtain ⟨its, r1, p1, _⟩ := I.tuple ha
 obtain ⟨its2, r2, p2, _⟩ := I.tuple hb
 refine HT.cat_tup p1 p2 (λ z => hx (r1.jG.mp z)) (λ z => ⟨.ref a, H, I, rfl, q1 (r2.jG.mp z)⟩) (λ z => ?_) (by rw [<- r1.length, <- r2.length]; exact hz)
 refine ⟨.ref s.heap.objs.size, _, I.laid (t' := s.toks) (o := .tup (xs ++ ys)) (λ b ob q => Zb _ q) (Zg _) ?_, rfl, q2 (λ w => z (r2.jG.mpr w)) _ (I.hok.fresh (Zg _))⟩
 exact ⟨by rw [List.length_append]; exact hz, _, r1.append r2, IsTup.new _ _⟩
end
def ixN (n : Nat) (i : Int) : Option Nat := if 0 <= i then (if i < n then some i.toNat else none) else if -(n : Int) <= i then some (i + n).toNat else none
def atI {α : Type} (xs : List α) (i : Int) : Option α := (ixN xs.length i).bind λ j => xs[j]?
theorem Gx {n : Nat} {i : Int} {j : Nat} (h : ixN n i = some j) : seqIndex? i n = some j /\ j < n /\ -(n : Int) <= i /\ i < n := by
 unfold ixN at h
 by_cases h0 : 0 <= i
 .rw [if_pos h0] at h
  by_cases h1 : i < n
  .rw [if_pos h1] at h
   have e : i.toNat = j := Option.some.inj h
   exact ⟨by rw [seqIndex_of h0 h1, e], by omega, by omega, h1⟩
  .rw [if_neg h1] at h; cases h
 .rw [if_neg h0] at h
  by_cases h1 : -(n : Int) <= i
  .rw [if_pos h1] at h
   have e : (i + n).toNat = j := Option.some.inj h
   exact ⟨by rw [seqIndex_neg (by omega) h1, e], by omega, h1, by omega⟩
  .rw [if_neg h1] at h; cases h
theorem wQ {α : Type} {xs : List α} {i : Int} {v : α} (h : atI xs i = some v) : ∃ j, seqIndex? i xs.length = some j /\ xs[j]? = some v /\ j < xs.length /\ -(xs.length : Int) <= i /\ i < xs.length := by
 unfold atI at h
 cases e : ixN xs.length i with
 | none => rw [e] at h; cases h
 | some j =>
  rw [e] at h
  obtain ⟨h1, h2, h3, h4⟩ := Gx e
  exact ⟨j, h1, h, h2, h3, h4⟩
theorem Ji {α : Type} {xs : List α} {j : Nat} {v : α} (h : xs[j]? = some v) : atI xs (j : Int) = some v := by
 have hj : j < xs.length := (Zh.mp h).1
 have e : ixN xs.length (j : Int) = some j := by
  unfold ixN
  rw [if_pos (by omega), if_pos (by omega)]; simp
 unfold atI; rw [e]; exact h
theorem xW {α : Type} (xs : List α) (v : α) : atI (xs ++ [v]) (-1) = some v := by
 have hl : (xs ++ [v]).length = xs.length + 1 := by simp
 have e : ixN (xs ++ [v]).length (-1) = some xs.length := by
  unfold ixN
  rw [hl, if_neg (by decide), if_pos (by omega)]
  congr 1
  omega
 unfold atI
 rw [e]
 show (xs ++ [v])[xs.length]? = some v
 simp
def Aj (b : Expr) : Prop := ∀ o i, subscripted b false o i = operate [o, i] (getItem o i)
def IxR (X : Cx) (r : R2) : Prop :=
 ∀ (value slice : Expr) (pins : List (Addr × Obj)) (s : Shared) (σ : St) (H : Hp) (x y : V) (v u : Value) (Q : VK), Inv X pins σ H s -> RelV x v -> RelV y u -> r x y H Q ->
  subscripted slice false v u = operate [v, u] (getItem v u) -> wpAny (model X.prog X.w) X.A (subscriptTail value slice v u) (EP X pins σ Q) X.xe s
def MtR (X : Cx) (id : String) (r : V -> List V -> Hp -> VK -> Prop) : Prop :=
 ∀ (pins : List (Addr × Obj)) (s : Shared) (σ : St) (H : Hp) (x : V) (xs : List V) (v : Value) (us : List Value) (Q : VK), Inv X pins σ H s -> RelV x v -> Vals xs us -> r x xs H Q ->
  wpAny (model X.prog X.w) X.A (call (.builtin id) (v :: us)) (EP X pins σ Q) X.xe s
section
variable {X : Cx} {a b : Expr} {ta tb : TE} {pos : Pos}
theorem IxR.or {r r' : R2} (h : IxR X r) (h' : IxR X r') : IxR X (λ x y H Q => r x y H Q ∨ r' x y H Q) := by
 intro value slice pins s σ H x y v u Q I rx ry q hs
 rcases q with q | q
 .exact h value slice pins s σ H x y v u Q I rx ry q hs
 .exact h' value slice pins s σ H x y v u Q I rx ry q hs
theorem Px {r : R2} (hr : IxR X r) (ha : PE X a ta) (hb : PE X b tb) (hs : Aj b) : PE X (.Subscript a b pos) (tOp r ta tb) := by
 intro pins s σ H Q I h
 exact Subscript_ (Ld ha hb I h λ v u s2 x y H2 I2 rx ry q => hr a b pins s2 σ H2 x y v u Q I2 rx ry q (hs _ _))
def Qj (K : PySem.W.Frag) : R2 := λ x y H Q => ∃ p xs i v, x = .ref p /\ y = .int i /\ SqL K H p xs /\ atI xs i = some v /\ Q v H
def Oo (K : PySem.W.Frag) : R2 := λ x y H Q => ∃ p xs i v, x = .ref p /\ y = .int i /\ SqT K H p xs /\ atI xs i = some v /\ Q v H
def Qa : R2 := λ x y H Q => ∃ z i c, x = .str z /\ y = .int i /\ z.length <= sizeLine /\ atI z.cps.toList i = some c /\ Q (.str ⟨#[c]⟩) H
theorem Hm : IxR X (Qj X.K) := by
 intro value slice pins s σ H x y v u Q I rx ry h hs
 obtain ⟨p, xs, i, z, rfl, rfl, hq, he, q⟩ := h
 cases rx
 obtain ⟨t, rfl⟩ := ry
 obtain ⟨its, r, pl, hz⟩ := I.list hq
 obtain ⟨j, h1, h2, h3, h4, h5⟩ := wQ he
 obtain ⟨w, ew, rw'⟩ := r.get h2
 have hl := r.length
 have hn := pG
 have fin : EP X pins σ Q w s := ⟨z, H, I, rw', q⟩
 by_cases h0 : 0 <= i
 .have hj : i.toNat = j := by
   rw [seqIndex_of h0 h5] at h1
   exact Option.some.inj h1
  exact item_listR pl.isList h0 (by omega) (by rw [hj]; simpa using ew) fin hs
 .have hj : (i + (its.toArray.size : Int)).toNat = j := by
   rw [seqIndex_neg (by omega) h4] at h1
   rw [Zd, <- hl]
   exact Option.some.inj h1
  exact subscriptTail_builtinR (x := w) pl.isList.typeIs slot_list_getitem.lookup
   (wpAny_getItem_list_neg (Q := λ r s' => r = w /\ EP X pins σ Q r s') pl.isList (by omega) (by rw [Zd] <;> omega) (by omega) (by rw [hj]; simpa using ew) ⟨rfl, fin⟩) hs
theorem Ma : IxR X (Oo X.K) := by
 intro value slice pins s σ H x y v u Q I rx ry h hs
 obtain ⟨p, xs, i, z, rfl, rfl, hq, he, q⟩ := h
 cases rx
 obtain ⟨t, rfl⟩ := ry
 obtain ⟨its, r, pl, hz⟩ := I.tuple hq
 obtain ⟨j, h1, h2, h3, h4, h5⟩ := wQ he
 obtain ⟨w, ew, rw'⟩ := r.get h2
 have hl := r.length
 have hn := pG
 have fin : EP X pins σ Q w s := ⟨z, H, I, rw', q⟩
 exact subscriptTail_builtinR (x := w) pl.typeIs slot_tuple_getitem.lookup
  (getItem_tuple (j := j) (Q := λ r s' => r = w /\ EP X pins σ Q r s') pl (by omega) (by omega) (by rw [Zd, <- hl]; exact h1) (by simpa using ew) ⟨rfl, fin⟩) hs
theorem MT : IxR X Qa := by
 intro value slice pins s σ H x y v u Q I rx ry h hs
 obtain ⟨z, i, c, rfl, rfl, hz, he, q⟩ := h
 obtain ⟨t, rfl⟩ := rx
 obtain ⟨t', rfl⟩ := ry
 obtain ⟨j, h1, h2, h3, h4, h5⟩ := wQ he
 have hl : z.cps.toList.length = z.length := by simp [Str.length]
 rw [hl] at h1 h4 h5
 have hn := pG
 exact tail_any (typeIs_str s z t) slot_str_getitem.lookup (getItem_str (c := c) (by
  have e1 : decide (i < -(2 ^ 63 : Int)) = false := decide_eq_false (by omega)
  have e2 : decide (i >= 2 ^ 63) = false := decide_eq_false (by omega)
  rw [e1, e2, Bool.or_false]) (by rw [h1]; simpa using h2) ⟨.str ⟨#[c]⟩, H, I.tok _, ⟨_, rfl⟩, q⟩) hs
def rIx (K : PySem.W.Frag) : R2 := λ x y H Q => Qj K x y H Q ∨ Oo K x y H Q ∨ Qa x y H Q
theorem Nr : IxR X (rIx X.K) := Hm.or (Ma.or MT)
theorem wM (lo hi : Option Int) (n : Nat) : (sliceBounds lo hi none n).1 = ((HT.sIx n 0 lo : Nat) : Int) /\ (sliceBounds lo hi none n).2.1 = ((HT.sIx n n hi : Nat) : Int) /\ (sliceBounds lo hi none n).2.2 = 1 := by
 refine ⟨?_, ?_, rfl⟩
 .cases lo with
  | none => simp [sliceBounds, HT.sIx]
  | some i =>
   simp only [sliceBounds, HT.sIx, Option.getD_none, show (1 : Int) > 0 by decide, if_true]
   by_cases h : i < 0
   .simp only [h, if_true] <;> omega
   .simp only [h, if_false] <;> omega
 .cases hi with
  | none => simp [sliceBounds, HT.sIx]
  | some i =>
   simp only [sliceBounds, HT.sIx, Option.getD_none, show (1 : Int) > 0 by decide, if_true]
   by_cases h : i < 0
   .simp only [h, if_true] <;> omega
   .simp only [h, if_false] <;> omega
theorem um (its : List Value) (lo hi : Option Int) : slicePick its.toArray lo hi none = ((its.drop (HT.sIx its.length 0 lo)).take (HT.sIx its.length its.length hi - HT.sIx its.length 0 lo)).toArray := by
 obtain ⟨h1, h2, h3⟩ := wM lo hi its.toArray.size
 unfold slicePick
 rw [h1, h2, h3]
 simp only [sliceRange_one, pick_run, Zd] <;> rfl
def rSlL (K : PySem.W.Frag) : V -> Option Int -> Option Int -> Hp -> VK -> Prop := λ x lo hi H Q => ∃ a xs, x = .ref a /\ SqL K H a xs /\ ∀ p, H p = none -> Q (.ref p) (upd H p (.lst (wY xs lo hi)))
theorem Hg : SlR X (rSlL X.K) := by
 intro pins s σ H x v vl vu lo hi sl Q I rx hs pl pu h
 obtain ⟨a, xs, rfl, hx, q⟩ := h
 cases rx
 obtain ⟨its, r, ht, hz⟩ := I.list hx
 have hlen := r.length
 refine ⟨"list", _, slot_list_getitem.lookup, ht.isList.typeIs, ?_⟩
 refine wpAny_getItem_list_slice ht.isList hs pl pu .none (by simp) ?_ (by rw [Zd] <;> omega)
 rw [um, <- hlen]
 refine ⟨.ref s.heap.objs.size, _, I.laid (t' := s.toks) (o := .lst (wY xs lo hi)) (λ b ob q => Zb _ q) (Zg _) ?_, rfl, q _ (I.hok.fresh (Zg _))⟩
 exact ⟨Zl (qt xs lo hi) hz, _, 0, (r.drop (HT.sIx xs.length 0 lo)).take (HT.sIx xs.length xs.length hi - HT.sIx xs.length 0 lo), Zf _ rfl⟩
theorem vD : gR X (.builtin "len") (λ xs H Q => ∃ p ys, xs = [.ref p] /\ (SqL X.K H p ys ∨ SqT X.K H p ys) /\ Q (.int ys.length) H) := by
 intro pins s σ H xs us Q I r h
 obtain ⟨p, ys, rfl, hq, q⟩ := h
 obtain ⟨u, rfl, rx⟩ := vals1 r
 cases rx
 have hn := pG
 rcases hq with hq | hq
 .obtain ⟨its, r', pl, hz⟩ := I.list hq
  have hlen := r'.length
  exact Calls.call_len_list pl.isList (by simp only [Zd] <;> omega) ⟨.int ys.length, H, I.tok _, ⟨s.toks + 1, by rw [Zd, hlen]⟩, q⟩
 .obtain ⟨its, r', pl, hz⟩ := I.tuple hq
  have hlen := r'.length
  exact len_tuple pl (by simp only [Zd] <;> omega) ⟨.int ys.length, H, I.tok _, ⟨s.toks + 1, by rw [Zd, hlen]⟩, q⟩
theorem wO : gR X (.builtin "len") (λ xs H Q => ∃ z, xs = [.str z] /\ z.length <= sizeLine /\ Q (.int z.length) H) := by
 intro pins s σ H xs us Q I r h
 obtain ⟨z, rfl, hz, q⟩ := h
 obtain ⟨u, rfl, t, rfl⟩ := vals1 r
 have hn := pG
 exact len_str (by omega) ⟨.int z.length, H, I.tok _, ⟨_, rfl⟩, q⟩
theorem gR.or {f : Value} {r r' : List V -> Hp -> VK -> Prop} (h : gR X f r) (h' : gR X f r') : gR X f (λ xs H Q => r xs H Q ∨ r' xs H Q) := by
 intro pins s σ H xs us Q I rs q
 rcases q with q | q
 .exact h pins s σ H xs us Q I rs q
 .exact h' pins s σ H xs us Q I rs q
theorem ut : gR X (.type "tuple") (λ xs H Q => ∃ p ys, xs = [.ref p] /\ ((SqL X.K H p ys /\ ∀ l, H l = none -> Q (.ref l) (upd H l (.tup ys))) ∨ (SqT X.K H p ys /\ Q (.ref p) H))) := by
 intro pins s σ H xs us Q I r h
 obtain ⟨p, ys, rfl, h⟩ := h
 obtain ⟨u, rfl, rx⟩ := vals1 r
 cases rx
 rcases h with ⟨hq, q⟩ | ⟨hq, q⟩
 .obtain ⟨its, r', pl, hz⟩ := I.list hq
  have hlen := r'.length
  refine call_tuple_list pl.isList (λ h' kp => ?_) (by simp only [Zd] <;> omega)
  have I1 : Inv X pins σ H { s with heap := h' } := I.kept (t' := s.toks) kp
  have I2 : Inv X pins σ (upd H h'.objs.size (.tup ys)) { s with heap := h'.push { cls := .type "tuple", data := .seq its.toArray } } :=
   I1.laid (t' := s.toks) (λ b o e => Zb _ e) (Zg _) (show gk X.prog X.w _ _ _ (.tup ys) from ⟨hz, its, r', IsTup.new _ _⟩)
  exact ⟨.ref h'.objs.size, _, I2, rfl, q _ (I1.hok.fresh (Zg _))⟩
 .obtain ⟨its, r', pl, hz⟩ := I.tuple hq
  exact call_tuple_same pl ⟨.ref p, H, I, rfl, q⟩
def tyV (K : PySem.W.Frag) (T : String) (x : V) (H : Hp) : Prop := match x with
 | .str _ => T = "str"
 | .int _ => T = "int"
 | .ref p => (T = "list" /\ ∃ xs, SqL K H p xs) ∨ (T = "tuple" /\ ∃ o, K.lookup p = some o /\ o.cls = .type "tuple" /\ o.dict = none) ∨
   (T = "dict" /\ ((∃ kvs, H p = some (.dK kvs)) ∨ ∃ kvs, H p = some (.dT kvs))) ∨ (T = "set" /\ ∃ S n, H p = some (.set S n))
 | _ => False
theorem Mi {pins : List (Addr × Obj)} {σ : St} {H : Hp} {s : Shared} {T : String} {x : V} {v : Value} (I : Inv X pins σ H s) (r : RelV x v) (ty : tyV X.K T x H) :
  s.TypeIs v T /\ ∀ a, v = .ref a -> ∃ ob, s.heap.get? a = some ob /\ ob.dict = none := by
 cases x with
 | str z =>
  obtain ⟨t, rfl⟩ := r
  cases (show T = "str" from ty)
  exact ⟨typeIs_str s z t, λ _ e => nomatch e⟩
 | int i =>
  obtain ⟨t, rfl⟩ := r
  cases (show T = "int" from ty)
  exact ⟨typeIs_int s i t, λ _ e => nomatch e⟩
 | ref p =>
  cases r
  rcases ty with ⟨rfl, xs, hq⟩ | ⟨rfl, o, hk, hc, hd⟩ | ⟨rfl, hk⟩ | ⟨rfl, S, n, hk⟩
  .obtain ⟨its, _, pl, _⟩ := I.list hq
   refine ⟨pl.isList.typeIs, λ a e => ?_⟩
   cases e
   obtain ⟨o, n, e, c, hd, _⟩ := pl
   exact ⟨o, e, hd⟩
  .refine ⟨⟨o, I.kIn p o hk, hc⟩, λ a e => ?_⟩
   cases e
   exact ⟨o, I.kIn _ o hk, hd⟩
  .have z : ∃ o, s.heap.get? p = some o /\ o.ExactDict := by
    rcases hk with ⟨kvs, hk⟩ | ⟨kvs, hk⟩
    .obtain ⟨_, _, _, _, o, _, _, e, ex, _⟩ := I.hok p _ hk
     exact ⟨o, e, ex⟩
    .obtain ⟨_, _, _, _, o, _, _, e, ex, _⟩ := I.hok p _ hk
     exact ⟨o, e, ex⟩
   obtain ⟨o, e, ex⟩ := z
   refine ⟨⟨o, e, ex.1⟩, λ a e2 => ?_⟩
   cases e2
   exact ⟨o, e, ex.2.1⟩
  .obtain ⟨o, _, _, _, e, ex, _⟩ := I.hok p _ hk
   refine ⟨⟨o, e, ex.1⟩, λ a e2 => ?_⟩
   cases e2
   exact ⟨o, e, ex.2.1⟩
 | _ => exact False.elim ty
def tBM (K : PySem.W.Frag) (T : String) (r : V -> List V -> Hp -> VK -> Prop) (to : TE) (t : TA) : TE := λ σ H Q => to σ H λ x H1 => tyV K T x H1 /\ t σ H1 λ xs H2 => r x xs H2 Q
variable {o e : Expr} {es : List Expr} {to : TE} {t : TA} {name : Str} {apos cpos : Pos} {T id : String} {r : V -> List V -> Hp -> VK -> Prop}
theorem EY (pa : PlainAttrs T) (slot : Slot T name id) (hty : typeOf (.builtin id) = pure (.type "method_descriptor")) (hm : MtR X id r) (ho : PE X o to) (ha : PA X (e :: es) t)
  (hbase : attributeBase o name X.env (eval o X.env) = eval o X.env := by rfl)
  (hfew : ((backTo cpos (starEach (e :: es) X.env)).all (λ x => !x.1) && (backToKw cpos (keywordEach [] X.env)).all (λ x => x.1.isSome)
   && decide ((e :: es).length + ([] : List Keyword).length + (if ([] : List Keyword).isEmpty then 0 else 1) < 30)) = true := by rfl)
  (hline : (apos.endLine == cpos.line) = true := by rfl) (hs : starEach (e :: es) X.env = (false, eval e X.env) :: starEach es X.env := by rfl) (hplain : (backTo cpos (starEach es X.env)).any (·.1) = false := by rfl) :
  PE X (.Call (.Attribute o name apos) (e :: es) [] cpos) (tBM X.K T r to t) := by
 intro pins s σ H Q I h
 refine wpAny_Call_method_late hbase hfew hline rfl (thn (ho pins s σ H _ I h) λ v s1 zq54 => ?_)
 obtain ⟨x, H1, I1, r1, ty, q1⟩ := zq54
 obtain ⟨h1, h2⟩ := Mi I1 r1 ty
 refine ⟨T, id, pa, slot, hty, h1, h2, ?_⟩
 have hA := ha cpos pins s1 σ H1 _ I1 q1
 rw [hs] at hA ⊢
 refine Calls.callWith_builtin (by show (false || (backTo cpos (starEach es X.env)).any (·.1)) = false; rw [hplain] <;> rfl) (Calls.evalArgs_plain ?_)
 exact thn hA λ us s2 ⟨vs, H2, I2, r2, q2⟩ => hm pins s2 σ H2 x vs v us Q I2 r1 r2 q2
end
def MtM (X : Cx) (id : String) (r : V -> List V -> Hp -> VK -> Prop) : Prop :=
 ∀ (pins : List (Addr × Obj)) (s : Shared) (σ : St) (H : Hp) (x : V) (xs : List V) (v : Value) (us : List Value) (Q : VK), Inv X pins σ H s -> RelV x v -> Vals xs us -> r x xs H Q ->
  wpAny (model X.prog X.w) X.A (call (.builtin id) (v :: us)) (EP X pins σ Q) X.xe s
theorem Vals.one : ∀ {x : V} {us : List Value}, Vals [x] us -> ∃ u, us = [u] /\ RelV x u
 | _, _, .cons r .nil => ⟨_, rfl, r⟩
theorem Vals.eraseIdx : ∀ {xs : List V} {us : List Value} (i : Nat), Vals xs us -> Vals (xs.eraseIdx i) (us.eraseIdx i)
 | _, _, _, .nil => .nil
 | _, _, 0, .cons _ t => t
 | _, _, i + 1, .cons r t => .cons r (Vals.eraseIdx i t)
theorem Vals.rep {xs : List V} {us : List Value} (h : Vals xs us) : ∀ k : Nat, Vals (List.replicate k xs).flatten (List.replicate k us).flatten
 | 0 => .nil
 | k + 1 => by
  rw [List.replicate_succ, List.replicate_succ, List.flatten_cons, List.flatten_cons]
  exact Vals.append h (Vals.rep h k)
theorem uX {α : Type} : ∀ (l : List α) (i : Nat), (l.eraseIdx i).length <= l.length
 | [], _ => Zg _
 | _ :: _, 0 => Nat.le_succ _
 | _ :: r, i + 1 => Nat.succ_le_succ (uX r i)
theorem foldl_rep (its : List Value) : ∀ (k : Nat) (acc : List Value),
  List.foldl (λ x1 x2 => x1 ++ x2) acc.toArray (List.replicate k its.toArray) = (acc ++ (List.replicate k its).flatten).toArray
 | 0, acc => by simp
 | k + 1, acc => by
  have e : acc.toArray ++ its.toArray = (acc ++ its).toArray := by simp
  have e2 : (acc ++ its) ++ (List.replicate k its).flatten = acc ++ (List.replicate (k + 1) its).flatten := by
   rw [List.replicate_succ, List.flatten_cons, List.append_assoc]
  rw [<- e2, <- foldl_rep its k (acc ++ its), <- e, List.replicate_succ, List.foldl_cons]
section
variable {X : Cx} {pins : List (Addr × Obj)} {σ : St} {H : Hp} {s : Shared} {l b : Addr} {xs ys zs : List V}
theorem Inv.lset {its its' : List Value} {n : Nat} {f : Array Value -> Array Value} {t' : Nat} (I : Inv X pins σ H s) (hH : H l = some (.lst xs))
  (e : s.heap.get? l = some { cls := .type "list", data := .seq its.toArray n }) (hf : f its.toArray = its'.toArray) (hv : Vals ys its') (hz : ys.length <= sizeLine) :
  Inv X pins σ (upd H l (.lst ys)) { s with heap := s.heap.update l (Obj.mapSeq f), toks := t' } := by
 have q := PySem.IsL.update e f
 rw [hf] at q
 refine I.write (x := l) (e := l) (by rw [hH]; exact trivial) (.inl rfl) (λ b' u hb hu => (Heap.get?_update_other s.heap (Obj.mapSeq f) (Ne.symm hb)).trans hu) ⟨_, q⟩ ?_
 exact ⟨hz, its', _, hv, q⟩
theorem Inv.lnew {its : List Value} {t' : Nat} (I : Inv X pins σ H s) (hv : Vals ys its) (hz : ys.length <= sizeLine) :
  Inv X pins σ (upd H s.heap.objs.size (.lst ys)) { s with heap := s.heap.push { cls := .type "list", data := .seq its.toArray }, toks := t' } :=
 I.laid (λ _ _ q => Zb _ q) (Zg _) ⟨hz, its, 0, hv, Zf _ rfl⟩
theorem Inv.fresh (I : Inv X pins σ H s) : H s.heap.objs.size = none := I.hok.fresh (Zg _)
theorem Inv.lstM (I : Inv X pins σ H s) (hH : H l = some (.lst xs)) : xs.length <= sizeLine /\ ∃ (its : List Value) (n : Nat), Vals xs its /\ xs.length = its.length /\ s.heap.get? l = some { cls := .type "list", data := .seq its.toArray n } := by
 obtain ⟨z, its, n, r, e⟩ := I.hok l _ hH
 exact ⟨z, its, n, r, r.length, e⟩
theorem xG {n : Nat} (h : n <= sizeLine) : Builtin.List.listTooLong n = false := by
 unfold Builtin.List.listTooLong
 exact decide_eq_false (by omega)
end
section
variable {X : Cx}
def IW : V -> List V -> Hp -> VK -> Prop := λ x vs H Q => ∃ l xs y, x = .ref l /\ vs = [y] /\ H l = some (.lst xs) /\ xs.length < sizeLine /\ Q .non (upd H l (.lst (xs ++ [y])))
theorem BV : MtM X "list.append" IW := by
 intro pins s σ H x vs v us Q I rx rv h
 obtain ⟨l, xs, y, rfl, rfl, hH, hz, q⟩ := h
 cases rx
 obtain ⟨u, rfl, ru⟩ := rv.one
 obtain ⟨z, its, n, r, hl, e⟩ := I.lstM hH
 refine call_meets F.slot_list_append ⟨_, e, rfl⟩ F.entry_list_append (F.args_list_append_2 _ _) (PySem.list_append l its.toArray n u (by rw [Zd]; omega)) ⟨e, ?_⟩
 refine ⟨.non, _, I.lset (its' := its ++ [u]) hH e (by simp) (r.append (.cons ru .nil)) ?_, rfl, q⟩
 rw [List.length_append, List.length_singleton]
 omega
def Gu : V -> List V -> Hp -> VK -> Prop := λ x vs H Q => ∃ l b xs zs, x = .ref l /\ vs = [.ref b] /\ H l = some (.lst xs) /\ H b = some (.lst zs) /\ xs.length + zs.length <= sizeLine /\ Q .non (upd H l (.lst (xs ++ zs)))
theorem Cd : MtM X "list.extend" Gu := by
 intro pins s σ H x vs v us Q I rx rv h
 obtain ⟨l, b, xs, zs, rfl, rfl, hH, hB, hz, q⟩ := h
 cases rx
 obtain ⟨u, rfl, ru⟩ := rv.one
 cases ru
 obtain ⟨z, its, n, r, hl, e⟩ := I.lstM hH
 obtain ⟨z2, its2, n2, r2, hl2, e2⟩ := I.lstM hB
 have hsz : its.toArray.size + its2.toArray.size <= sizeLine := by rw [Zd, Zd]; omega
 have hlong : ¬ (!its.toArray.isEmpty && Builtin.List.listTooLong (its.toArray.size + its2.toArray.size)) = true := by
  rw [xG hsz, Bool.and_false]
  exact Zr
 refine call_meets F.slot_list_extend ⟨_, e, rfl⟩ F.entry_list_extend (F.args_list_extend_2 _ _)
  (AutoSeq1.list_extend_list_list_0 l its.toArray n b its2.toArray n2 hlong (by rw [Zd]; omega) (by omega)) ⟨e, e2, ?_⟩
 refine ⟨.non, _, I.lset (its' := its ++ its2) hH e (by simp) (r.append r2) ?_, rfl, q⟩
 rw [List.length_append]
 omega
def Mx : V -> List V -> Hp -> VK -> Prop := λ x vs H Q => ∃ l xs i k y, x = .ref l /\ vs = [.int i] /\ H l = some (.lst xs) /\ -(2 ^ 63) <= i /\ i < 2 ^ 63 /\ seqIndex? i xs.length = some k /\ xs[k]? = some y /\ Q y (upd H l (.lst (xs.eraseIdx k)))
theorem Cz : MtM X "list.pop" Mx := by
 intro pins s σ H x vs v us Q I rx rv h
 obtain ⟨l, xs, i, k, y, rfl, rfl, hH, h1, h2, hk, hy, q⟩ := h
 cases rx
 obtain ⟨u, rfl, ru⟩ := rv.one
 obtain ⟨t, rfl⟩ := ru
 obtain ⟨z, its, n, r, hl, e⟩ := I.lstM hH
 obtain ⟨w, hw, rw'⟩ := r.get hy
 refine call_meets F.slot_list_pop ⟨_, e, rfl⟩ F.entry_list_pop (F.args_list_pop_2 _ _)
  (MeetsSeq.list_pop_at l its.toArray n i t k w (fitsIndex_both h1 h2) (by rw [Zd, <- hl]; exact hk) (by rw [<- Array.getElem?_toList]; exact hw) (by rw [Zd]; omega)) ⟨e, ?_⟩
 refine ⟨y, _, I.lset (its' := its.eraseIdx k) hH e ?_ (r.eraseIdx k) ?_, rw', q⟩
 .show its.toArray.eraseIdxIfInBounds k = (its.eraseIdx k).toArray
  rw [List.eraseIdxIfInBounds_toArray]
 .have := uX xs k
  omega
def rCat : R2 := λ x y H Q => ∃ l b xs zs, x = .ref l /\ y = .ref b /\ H l = some (.lst xs) /\ H b = some (.lst zs) /\ xs.length + zs.length <= sizeLine /\ ∀ p, H p = none -> Q (.ref p) (upd H p (.lst (xs ++ zs)))
theorem CG : OpR X (binaryOp .Add) rCat := by
 intro pins s σ H x y v u Q I rx ry h
 obtain ⟨l, b, xs, zs, rfl, rfl, hH, hB, hz, q⟩ := h
 cases rx
 cases ry
 obtain ⟨z, its, n, r, hl, e⟩ := I.lstM hH
 obtain ⟨z2, its2, n2, r2, hl2, e2⟩ := I.lstM hB
 refine PySem.P.add_list e e2 ?_ (by rw [Zd, Zd]; omega)
 have ea : its.toArray ++ its2.toArray = (its ++ its2).toArray := by simp
 rw [ea]
 exact ⟨.ref _, _, I.lnew (t' := s.toks) (r.append r2) (by rw [List.length_append]; omega), rfl, q _ I.fresh⟩
def rRep : R2 := λ x y H Q => ∃ l k xs, x = .ref l /\ y = .int k /\ H l = some (.lst xs) /\ -(2 ^ 63) <= k /\ k < 2 ^ 63 /\ xs.length * k.toNat <= sizeLine /\
 ∀ p, H p = none -> Q (.ref p) (upd H p (.lst (List.replicate k.toNat xs).flatten))
theorem len_rep {α : Type} (xs : List α) (k : Nat) : (List.replicate k xs).flatten.length = k * xs.length := by
 induction k with
 | zero => simp
 | succ k ih => rw [List.replicate_succ, List.flatten_cons, List.length_append, ih, Nat.succ_mul, Nat.add_comm]
theorem JV : OpR X (binaryOp .Mult) rRep := by
 intro pins s σ H x y v u Q I rx ry h
 obtain ⟨l, k, xs, rfl, rfl, hH, h1, h2, hz, q⟩ := h
 cases rx
 obtain ⟨t, rfl⟩ := ry
 obtain ⟨z, its, n, r, hl, e⟩ := I.lstM hH
 have hlen : its.toArray.size * k.toNat <= sizeLine := by rw [Zd, <- hl]; exact hz
 have hcap : ¬ its.toArray.size * k.toNat > (2 ^ 63 - 1) / 8 := by
  have : (sizeLine : Nat) <= (2 ^ 63 - 1) / 8 := by decide
  omega
 have hfit : ¬ (!Builtin.List.listFitsIndex k) = true := by
  rw [fitsIndex_both h1 h2]
  exact Zr
 have hlong : ¬ Builtin.List.listTooLong (its.toArray.size * k.toNat) = true := by
  rw [xG hlen]
  exact Zr
 have hnew : List.foldl (λ x1 x2 => x1 ++ x2) #[] (List.replicate (if its.toArray.isEmpty = true then 0 else k.toNat) its.toArray) = (List.replicate k.toNat its).flatten.toArray := by
  have f0 : ∀ m : Nat, List.foldl (λ x1 x2 => x1 ++ x2) #[] (List.replicate m its.toArray) = (List.replicate m its).flatten.toArray := λ m => by
   have := foldl_rep its m []
   rw [List.nil_append] at this
   exact this
  rw [f0]
  cases its with
  | nil => simp
  | cons a r' => rw [if_neg (by simp)]
 refine wpAny_binaryOp_repeat_ref (T := "list") (U := "int") (by decide) ⟨_, e, rfl⟩ (λ s' => typeIs_int s' k t) noFill_list_mul F.fills_int_mul F.slot_int_rmul repeat_list F.slot_int_index.lookup
  (call_meets F.slot_int_rmul (typeIs_int s k t) F.entry_int_rmul (F.args_int_rmul_2 _ _) (int___rmul___int_list k t l its.toArray n)
   ⟨e, rfl, ⟨_, e, rfl⟩, call_meets F.slot_list_mul ⟨_, e, rfl⟩ F.entry_list_mul (F.args_list_mul_2 _ _) (AutoListH.list___mul___list_int_3 l its.toArray n k t hfit hcap hlong) ⟨e, ?_⟩⟩)
 rw [hnew]
 exact ⟨.ref _, _, I.lnew (t' := s.toks) (r.rep k.toNat) (by rw [len_rep, Nat.mul_comm]; exact hz), rfl, q _ I.fresh⟩
end
end L2
namespace Att
open PySem PySem.W PySem.Calls PyProof.Rows
theorem qC {P : Params} {h : Heap} : ∀ (ns : List Int) (vs : List Value), WellAll P h vs (ns.map WData.int) -> IntsAre vs ns := by
 intro ns
 induction ns with
 | nil =>
  intro vs w
  rw [List.map_nil] at w
  cases w
  exact .nil
 | cons n ns ih =>
  intro vs w
  rw [Zj] at w
  cases w with
  | cons a b =>
   cases a
   exact .cons _ _ (ih _ b)
theorem Bo {l : OpenLaw} {n : Nat} (hn : l.most = some n) {P : Params} {h : Heap} {args : List WData} {vals : List Value}
  (hpre : l.row.toRowW.claim.pre args = true) (hwl : WellAll P h vals args) :
  ∃ a vs ns, vals = [Value.ref a] /\ args = [WData.list (ns.map WData.int)] /\ h.get? a = some { cls := .type "list", data := .seq vs.toArray } /\ IntsAre vs ns /\ ns.length <= n := by
 have hsh : WShape.hasAll [] args [.list .int] = true := (pre_splitW hpre).1
 have hc : l.pre.holds [] { args := args } = true := (pre_splitW hpre).2
 obtain ⟨d, r, rfl, h1, h2⟩ := hasAllW_cons hsh
 obtain rfl := hasAllW_nil h2
 obtain ⟨xs, rfl, h3⟩ := hasW_list h1
 obtain ⟨ns, rfl⟩ := items_int h3
 have hlen : ns.length <= n := by
  unfold OpenLaw.pre at hc
  have h4 : (WTm.not (.lt (.lit (.int (n : Int))) (.len (.arg 0)))).holds [] { args := [.list (ns.map .int)] } = true := by
   have h4 := (holds_andW hc).1
   rw [hn] at h4
   exact h4
  have h5 := condW_of h4 (w_not (w_lt w_lit (w_len_list (w_arg rfl))))
  rw [Zu] at h5
  refine Nat.le_of_not_lt λ q => ?_
  have q' : (n : Int) < ((ns.length : Nat) : Int) := by omega
  first
   | (rw [decide_eq_true q'] at h5; exact absurd h5 (by decide))
   | (simp at h5; omega)
 cases hwl with
 | cons w1 w2 =>
  cases w2
  cases w1 with
  | list ho hall => exact ⟨_, _, ns, rfl, rfl, ho, qC ns _ hall, hlen⟩
theorem Bt (l : OpenLaw) (args : List WData) : l.row.toRowW.claim.post args (.bool true) args = true :=
 postW_of (r := l.row.toRowW) (X := (true == true))
  (show WShape.has [] (.bool true) .bool = true by first | rfl | decide | simp [WShape.has, WShape.arms, WShape.armsAll])
  (show (WTm.eq .res (.lit (.bool true))).value [] { args := args, res := some (.bool true), after := args } = some (.bool (true == true)) from w_eq_bool (w_res rfl) w_lit) rfl
theorem attach_call {l : OpenLaw} {n : Nat} {q : Program} {loose : List Str} {XP : (Str -> Option Value) -> Heap -> Prop} {YP : World -> Heap -> Prop} {d : DefRec}
  (hn : l.most = some n) (hdf : d.params.defaults = [])
  (call : ∀ (w : World) (s₀ s₁ : Shared) (mg mb : Str -> Option Value) (fa : Addr) (o : Obj) (pm cd doc : Value) (a : Addr) (vs : List Value) (ns : List Int),
   Ground q loose [] XP w s₀ mg mb s₁.heap -> YP w s₁.heap ->
   s₁.heap.get? fa = some o -> o.data = .func (docDef d.name d.params d.body d.scope pm cd doc) -> s₁.heap.CodeRec cd d.name -> mg d.name = some (.ref fa) ->
   s₁.heap.get? a = some { cls := .type "list", data := .seq vs.toArray } -> IntsAre vs ns -> ns.length <= n -> s₁.gens = #[] ->
   codeAny (model l.prog w) callerA (.call (.ref fa) ⟨[.ref a], []⟩) (λ r s' => r = .ok (.ret (.bool true)) /\ OldK s₁.heap s'.heap /\ s'.os = s₁.os /\ AllBare s'.gens) s₁) :
  WalkO q loose XP YP l.row.toRowW d [] (λ f vs => PySem.call f vs) := by
 intro w s₀ s₁ mg mb G Y fa o pm cd doc dV kV ho hd hcd hD hmg hg args vals as hpre hlay hrd hwl hlo
 obtain rfl : dV = .none := Dflts.none hD hdf
 obtain rfl : kV = .none := Dflts.noKw hD
 obtain ⟨a, vs, ns, rfl, rfl, hobj, hints, hlen⟩ := Bo hn hpre hwl
 refine enter_call (codeAny_mono (call w s₀ s₁ mg mb fa o pm cd doc a vs ns G Y ho (fd_plain hd) hcd hmg hobj hints hlen hg) λ r s' hq => ?_)
 obtain ⟨rfl, h2, h3, h4⟩ := hq
 exact ⟨.inl ⟨.bool true, .bool true, [], rfl, λ _ => rfl, .bool true, Bt l _, λ _ => ⟨List.Pairwise.nil, λ _ hm => (nomatch hm)⟩⟩, h2, h3, h4⟩
end Att
namespace L2
open PySem PySem.Spec PyProof.Rows
theorem pB : ∀ {vs : List Value} {ns : List Int}, IntsAre vs ns -> Vals (ns.map V.int) vs
 | _, _, .nil => .nil
 | _, _, .cons n t h => .cons ⟨t, rfl⟩ (pB h)
def jO (s : Stmt) : Arguments := match s with
 | .FunctionDef _ a _ _ _ _ _ _ _ _ => a
 | _ => { posonlyargs := [], args := [], vararg := none, kwonlyargs := [], kw_defaults := [], kwarg := none, defaults := [] }
def gY (s : Stmt) : List Stmt := match s with
 | .FunctionDef _ _ b _ _ _ _ _ _ _ => b
 | _ => []
def aO (s : Stmt) : Scope := match s with
 | .FunctionDef _ _ _ _ _ _ sc _ _ _ => sc
 | _ => { kind := .function, names := [], isGenerator := false, isCoroutine := false }
abbrev CX0 : CXT := λ _ _ _ _ _ _ => False
abbrev E0 : XK := λ _ _ _ => False
theorem NQ {X : Cx} : zY CX0 X E0 := λ _ _ _ _ _ _ _ h => h.elim
def jZ (H H' : Hp) : Prop := ∀ b o, H b = some o -> H' b = some o
theorem jZ.refl (H : Hp) : jZ H H := λ _ _ h => h
theorem jZ.trans {H H1 H2 : Hp} (a : jZ H H1) (b : jZ H1 H2) : jZ H H2 := λ c o h => b c o (a c o h)
def xx (X : Cx) : List Nat -> List Str -> Prop
 | [], [] => True
 | i :: is, x :: xs => (X.N[i]? = some x /\ (X.env.kindOf x = some .cell ∨ X.env.kindOf x = some .free)) /\ xx X is xs
 | _, _ => False
theorem xx.length {X : Cx} : ∀ {is : List Nat} {xs : List Str}, xx X is xs -> is.length = xs.length
 | [], [], _ => rfl
 | _ :: _, _ :: _, h => by rw [List.length_cons, List.length_cons, xx.length h.2]
theorem xx.get {X : Cx} : ∀ {is : List Nat} {xs : List Str} {j i : Nat}, xx X is xs -> is[j]? = some i -> ∃ x, xs[j]? = some x /\ X.N[i]? = some x /\ (X.env.kindOf x = some .cell ∨ X.env.kindOf x = some .free)
 | [], [], _, _, _, e => by simp at e
 | i :: is, x :: xs, 0, k, h, e => by
  simp at e; subst e
  exact ⟨x, rfl, h.1⟩
 | i :: is, x :: xs, j + 1, k, h, e => by
  obtain ⟨y, e1, e2⟩ := xx.get (j := j) (i := k) h.2 (by simpa using e)
  exact ⟨y, by simpa using e1, e2⟩
def ju (σ : St) (is : List Nat) : St := is.map λ i => (σ[i]?).join
theorem pI {σ : St} {is : List Nat} {j : Nat} {v : V} (e : (ju σ is)[j]? = some (some v)) : ∃ i, is[j]? = some i /\ σ[i]? = some (some v) := by
 unfold ju at e
 rw [List.getElem?_map] at e
 cases q : is[j]? with
 | none => rw [q] at e; cases e
 | some i =>
  rw [q] at e
  have e1 : (σ[i]?).join = some v := by simpa using e
  cases q2 : σ[i]? with
  | none => rw [q2] at e1; cases e1
  | some o =>
   rw [q2] at e1
   have e2 : o = some v := e1
   subst e2
   exact ⟨i, rfl, q2⟩
def bR (env : Env) : List (Str × NameKind) -> List (Str × Addr) -> List (Str × Addr)
 | [], acc => acc
 | (n, k) :: r, acc => bR env r (if k == .free then (match env.cells.lookup n with | some c => (n, c) :: acc | none => acc) else acc)
theorem xj {env : Env} : ∀ (names : List (Str × NameKind)) (acc : List (Str × Addr)), (∀ y ∈ names, y.2 = .free -> ∃ c, env.cells.lookup y.1 = some c) ->
  (forIn names acc λ (p : Str × NameKind) (r : List (Str × Addr)) => if p.2 == .free then (do let c <- cellOf env p.1; pure (ForInStep.yield ((p.1, c) :: r))) else pure (ForInStep.yield r) : Sem (List (Str × Addr))) = pure (bR env names acc)
 | [], acc, _ => rfl
 | (n, k) :: r, acc, h => by
  have hr := xj (env := env) r
  rw [List.forIn_cons]
  unfold bR
  by_cases hk : (k == NameKind.free) = true
  .obtain ⟨c, hc⟩ := h (n, k) List.mem_cons_self (by simpa using hk)
   simp only [hk, if_true]
   unfold cellOf
   simp only at hc
   rw [hc]
   simp only [pure_bind]
   exact hr _ λ y hy => h y (List.mem_cons_of_mem _ hy)
  .simp only [hk]
   simp only [pure_bind, Bool.false_eq_true, if_false]
   exact hr _ λ y hy => h y (List.mem_cons_of_mem _ hy)
theorem gB {scope : Scope} {env : Env} (h : ∀ y ∈ scope.names, y.2 = .free -> ∃ c, env.cells.lookup y.1 = some c) : closureFor scope env = pure (bR env scope.names []) := by
 have e := xj (env := env) scope.names [] h
 rw [<- e]
 unfold closureFor
 simp only [bind_pure]
theorem jl {env : Env} : ∀ {names : List (Str × NameKind)} {acc : List (Str × Addr)} {p : Str × Addr}, p ∈ bR env names acc -> p ∈ acc ∨ env.cells.lookup p.1 = some p.2
 | [], acc, p, h => .inl h
 | (n, k) :: r, acc, p, h => by
  unfold bR at h
  rcases jl h with h | h
  .split at h
   .split at h
    .rename_i c hc
     rcases Zi.mp h with e | h
     .subst e; exact .inr hc
     .exact .inl h
    .exact .inl h
   .exact .inl h
  .exact .inr h
theorem lQ {env : Env} {x : Str} : ∀ {names : List (Str × NameKind)} {acc : List (Str × Addr)}, (∀ k, (x, k) ∈ names -> k ≠ .free) -> (bR env names acc).lookup x = acc.lookup x
 | [], acc, _ => rfl
 | (n, k) :: r, acc, h => by
  unfold bR
  rw [lQ λ k hk => h k (List.mem_cons_of_mem _ hk)]
  by_cases hk : (k == NameKind.free) = true
  .rw [if_pos hk]
   have hne : x ≠ n := by
    rintro rfl
    exact h k List.mem_cons_self (by simpa using hk)
   split
   .rw [List.lookup_cons]
    have : (x == n) = false := by simpa using hne
    rw [this]
   .rfl
  .rw [if_neg hk]
theorem iz {env : Env} {x : Str} {c : Addr} (hc : env.cells.lookup x = some c) : ∀ {names : List (Str × NameKind)} {acc : List (Str × Addr)}, (x, NameKind.free) ∈ names ∨ acc.lookup x = some c -> (bR env names acc).lookup x = some c
 | [], acc, h => by
  rcases h with h | h
  .simp at h
  .exact h
 | (n, k) :: r, acc, h => by
  unfold bR
  apply iz hc
  by_cases hr : (x, NameKind.free) ∈ r
  .exact .inl hr
  .right
   by_cases hx : x = n
   .subst hx
    by_cases hk : (k == NameKind.free) = true
    .rw [if_pos hk, hc]
     simp
    .rw [if_neg hk]
     rcases h with h | h
     .rcases Zi.mp h with e | h
      .exfalso; apply hk
       cases e; rfl
      .exact absurd h hr
     .exact h
   .have h' : acc.lookup x = some c := by
     rcases h with h | h
     .rcases Zi.mp h with e | h
      .cases e; exact absurd rfl hx
      .exact absurd h hr
     .exact h
    have hxn : (x == n) = false := by simpa using hx
    split
    .split
     .rw [List.lookup_cons, hxn]; exact h'
     .exact h'
    .exact h'
structure CO (lo : Nat) (h : Heap) (acc : List (Str × Addr)) : Prop where
 lt : ∀ p ∈ acc, p.2 < h.objs.size
 em : ∀ p ∈ acc, lo <= p.2 -> h.IsCell p.2 none
 ap : ∀ p ∈ acc, ∀ q ∈ acc, p.2 = q.2 -> lo <= p.2 -> p.1 = q.1
theorem CO.go {lo : Nat} : ∀ (names : List (Str × NameKind)) (h : Heap) (acc : List (Str × Addr)), CO lo h acc -> lo <= h.objs.size -> CO lo (pushCells h names) (cellsFrom h.objs.size names acc)
 | [], h, acc, x, _ => x
 | (n, k) :: r, h, acc, x, hl => by
  unfold pushCells cellsFrom
  by_cases hk : (k == NameKind.cell) = true
  .rw [if_pos hk, if_pos hk]
   have := CO.go (lo := lo) r (h.push { cls := .type "cell", data := .cell none }) ((n, h.objs.size) :: acc) ⟨λ p hp => ?_, λ p hp hlo => ?_, λ p hp q hq e hlo => ?_⟩ (by rw [Heap.size_push]; omega)
   .rwa [Heap.size_push] at this
   .rw [Heap.size_push]
    rcases Zi.mp hp with e | hp
    .subst e; exact Nat.lt_succ_self _
    .exact Nat.lt_succ_of_lt (x.lt p hp)
   .rcases Zi.mp hp with e | hp
    .subst e; exact ⟨_, Zf _ rfl, rfl⟩
    .exact (x.em p hp hlo).keeps λ b o e => Zb _ e
   .rcases Zi.mp hp with e1 | hp <;> rcases Zi.mp hq with e2 | hq
    .subst e1; subst e2; rfl
    .subst e1
     have e' : h.objs.size = q.2 := e
     exact absurd (x.lt q hq) (by rw [<- e']; exact Nat.lt_irrefl _)
    .subst e2
     have e' : p.2 = h.objs.size := e
     exact absurd (x.lt p hp) (by rw [e']; exact Nat.lt_irrefl _)
    .exact x.ap p hp q hq e hlo
  .rw [if_neg hk, if_neg hk]
   exact CO.go r h acc x hl
theorem vA : ∀ {names : List (Str × NameKind)} {m : Nat} {acc : List (Str × Addr)} {p : Str × Addr}, p ∈ cellsFrom m names acc -> p ∈ acc ∨ m <= p.2
 | [], m, acc, p, h => .inl h
 | (n, k) :: r, m, acc, p, h => by
  unfold cellsFrom at h
  by_cases hk : (k == NameKind.cell) = true
  .rw [if_pos hk] at h
   rcases vA h with h | h
   .rcases Zi.mp h with e | h
    .subst e; exact .inr (Zg _)
    .exact .inl h
   .exact .inr (by omega)
  .rw [if_neg hk] at h
   exact vA h
theorem zQ {x : Str} : ∀ {names : List (Str × NameKind)} {m : Nat} {acc : List (Str × Addr)}, (∀ k, (x, k) ∈ names -> k ≠ .cell) -> (cellsFrom m names acc).lookup x = acc.lookup x
 | [], m, acc, _ => rfl
 | (n, k) :: r, m, acc, h => by
  unfold cellsFrom
  by_cases hk : (k == NameKind.cell) = true
  .rw [if_pos hk, zQ λ k hk => h k (List.mem_cons_of_mem _ hk), List.lookup_cons]
   have hne : x ≠ n := by
    rintro rfl
    exact h k List.mem_cons_self (by simpa using hk)
   have : (x == n) = false := by simpa using hne
   rw [this]
  .rw [if_neg hk]
   exact zQ λ k hk => h k (List.mem_cons_of_mem _ hk)
section
variable {M : Model} {A : Around} {E : Value -> Shared -> Prop} {s : Shared}
theorem mF {scope : Scope} {globals : Addr} {closure : List (Str × Addr)} {qual : Str} {func : Option Addr} {code : Value} {around : Option Env} {builtins : Addr} {Q : Env -> Shared -> Prop}
  (h : Q (newEnv scope s.heap.objs.size globals (cellsFrom (s.heap.objs.size + 1) scope.names closure) qual func code around builtins)
   { s with heap := pushCells (s.heap.push { cls := .type (if around.isSome then "dict" else "frame"), data := .dict #[] }) scope.names }) :
  wpAny M A (newFunctionEnv scope globals closure [] qual func code around builtins) Q E s := by
 simp only [newFunctionEnv]
 refine wpAny_bind (wpAny_alloc ?_)
 refine wpAny_bind (wpAny_layCells _ (λ name kind cells => by cases hkc : kind == NameKind.cell <;> simp [hkc]) _ _ _ _ ?_)
 rw [List.forIn_nil]
 refine wpAny_bind (wpAny_pure (wpAny_pure ?_))
 have e : (s.heap.push ({ cls := .type (if around.isSome then "dict" else "frame"), data := .dict #[] } : Obj)).objs.size = s.heap.objs.size + 1 := Heap.size_push ..
 rw [<- e] at h
 cases around <;> exact h
end
structure eQ (X : Cx) (own cap : List Str) (capI : List Nat) (scope : Scope) : Prop where
 kind : scope.kind = .function
 nd : (scope.names.map (·.1)).Nodup
 caps : xx X capI cap
 fre : ∀ y ∈ scope.names, y.2 = .free -> y.1 ∈ cap
 cfr : ∀ x ∈ cap, (x, NameKind.free) ∈ scope.names
theorem rG {x : Str} {k k' : NameKind} : ∀ {names : List (Str × NameKind)}, (names.map (·.1)).Nodup -> (x, k) ∈ names -> (x, k') ∈ names -> k = k'
 | [], _, h, _ => by simp at h
 | p :: r, nd, h1, h2 => by
  rw [Zj, List.nodup_cons] at nd
  rcases Zi.mp h1 with e1 | h1 <;> rcases Zi.mp h2 with e2 | h2
  .rw [<- e2] at e1; exact (Prod.mk.inj e1).2
  .exact absurd (by rw [<- e1]; exact Zq.mpr ⟨_, h2, rfl⟩) nd.1
  .exact absurd (by rw [<- e2]; exact Zq.mpr ⟨_, h1, rfl⟩) nd.1
  .exact rG nd.2 h1 h2
theorem cO {α : Type} {x : Str} {k : α} : ∀ {names : List (Str × α)}, (names.map (·.1)).Nodup -> (x, k) ∈ names -> names.lookup x = some k
 | [], _, h => by simp at h
 | (n, k') :: r, nd, h => by
  rw [Zj, List.nodup_cons] at nd
  rw [List.lookup_cons]
  rcases Zi.mp h with e | hr
  .cases e; simp
  .have hne : x ≠ n := by
    intro e
    subst e
    exact nd.1 (Zq.mpr ⟨_, hr, rfl⟩)
   have : (x == n) = false := by simpa using hne
   rw [this]
   exact cO nd.2 hr
theorem qg {scope : Scope} {env : Env} {x : Str} {k : NameKind} (h : (x, k) ∈ (relabel scope env).names) : (x, k) ∈ scope.names ∨ (k = .cell /\ (x, NameKind.free) ∈ scope.names) := by
 unfold relabel at h
 obtain ⟨⟨n, k'⟩, hm, e⟩ := Zq.mp h
 dsimp only at e
 split at e
 .rename_i hc
  cases e
  have hk : k' = NameKind.free := by
   simp only [Zo, beq_iff_eq] at hc
   exact hc.1.1
  subst hk
  exact .inr ⟨rfl, hm⟩
 .cases e; exact .inl hm
theorem wz {scope : Scope} {env : Env} : (relabel scope env).names.map (·.1) = scope.names.map (·.1) := by
 unfold relabel
 rw [List.map_map]
 apply List.map_congr_left
 rintro ⟨n, k⟩ _
 show (if _ then (n, NameKind.cell) else (n, k)).1 = n
 split <;> rfl
theorem wB {scope : Scope} {env : Env} {x : Str} (nd : (scope.names.map (·.1)).Nodup) (h : (x, NameKind.free) ∈ scope.names) : (relabel scope env).names.lookup x = some .cell ∨ (relabel scope env).names.lookup x = some .free := by
 have nd' : ((relabel scope env).names.map (·.1)).Nodup := by rw [wz]; exact nd
 by_cases hc : (NameKind.free == NameKind.free && env.scope.kind == .function && env.kindOf x == some .cell) = true
 .left
  refine cO nd' ?_
  unfold relabel
  refine Zq.mpr ⟨(x, NameKind.free), h, ?_⟩
  dsimp only
  rw [if_pos hc]
 .right
  refine cO nd' ?_
  unfold relabel
  refine Zq.mpr ⟨(x, NameKind.free), h, ?_⟩
  dsimp only
  rw [if_neg hc]
def dF (X : Cx) (own cap : List Str) (scope : Scope) (cs : List (Str × Addr)) (C : Addr) (fp : List Addr) (s2 : Shared) (H2 : Hp) : Cx where
 prog := X.prog
 w := X.w
 K := X.K
 mg := X.mg
 base := X.base
 A := X.A
 N := own ++ cap
 s₀ := s2
 H₀ := H2
 env := compEnvC scope cs C X.env
 outer := X.stack
 stack := X.stack
 ex := fp
 fn := λ x => own.contains x
 calm := X.calm
 pn := []
 xe := λ _ _ => False
def cF (own : List Str) (σ : St) (capI : List Nat) : St := List.replicate own.length none ++ ju σ capI
section
variable {X : Cx} {pins : List (Addr × Obj)} {σ : St} {H : Hp} {s : Shared} {own cap : List Str} {capI : List Nat} {scope : Scope}
theorem eQ.cells (B : eQ X own cap capI scope) (I : Inv X pins σ H s) : ∀ y ∈ scope.names, y.2 = .free -> ∃ c, X.env.cells.lookup y.1 = some c := λ y hy e => by
 have hm := B.fre y hy e
 obtain ⟨j, hj⟩ := List.getElem?_of_mem hm
 have hlt : j < capI.length := by rw [B.caps.length]; exact (Zh.mp hj).1
 obtain ⟨x, e1, _, k⟩ := B.caps.get (j := j) (i := capI[j]) (by simp [hlt])
 rw [hj] at e1
 cases e1
 exact I.ok.has _ k
theorem Inv.comp {fp : List Addr} {h0 h1 : Heap} {C : Addr} {tk : Nat} (I : Inv X pins σ H s) (B : eQ X own cap capI scope) (hown : ∀ x ∈ own, (x, NameKind.free) ∉ scope.names) (hf : ∀ b ∈ fp, jA X pins H b) (ho : ∀ b ∈ fp, ∃ o, s.heap.get? b = some o)
  (hk0 : ∀ b o, s.heap.get? b = some o -> h0.get? b = some o) (hsz : s.heap.objs.size <= h0.objs.size) (hC : C = h0.objs.size) (h1e : h1 = pushCells (h0.push { cls := .type "dict", data := .dict #[] }) scope.names) :
  Inv (dF X own cap scope (cellsFrom (C + 1) scope.names (bR X.env scope.names [])) C fp s H) [] (cF own σ capI) H { s with heap := h1, toks := tk } := by
 have hCs : s.heap.objs.size <= C := by rw [hC]; exact hsz
 have hpush : (h0.push ({ cls := .type "dict", data := .dict #[] } : Obj)).objs.size = C + 1 := by rw [hC]; exact Heap.size_push ..
 have keep1 : ∀ b o, h0.get? b = some o -> h1.get? b = some o := λ b o e => by rw [h1e]; exact pushCells_keeps _ _ _ _ (Zb _ e)
 have keep : ∀ b o, s.heap.get? b = some o -> h1.get? b = some o := λ b o e => keep1 b o (hk0 b o e)
 have hCo : h1.get? C = some { cls := .type "dict", data := .dict #[] } := by
  rw [h1e]
  refine pushCells_keeps _ _ _ _ ?_
  rw [hC]; exact Zf _ rfl
 have clo_old : ∀ p ∈ bR X.env scope.names [], X.env.cells.lookup p.1 = some p.2 := λ p hp => (jl hp).elim (λ z => by simp at z) id
 have old_lt : ∀ x c, X.env.cells.lookup x = some c -> c < s.heap.objs.size := λ x c e => let ⟨v, q⟩ := I.cell x c e; q.lt
 have co0 : CO (C + 1) (h0.push { cls := .type "dict", data := .dict #[] }) (bR X.env scope.names []) := by
  refine ⟨λ p hp => ?_, λ p hp hlo => ?_, λ p hp q hq e hlo => ?_⟩
  .rw [hpush]; exact Nat.lt_succ_of_lt (Zc (old_lt _ _ (clo_old p hp)) hCs)
  .exact absurd (Zc (old_lt _ _ (clo_old p hp)) (Zl hCs (Zl (Nat.le_succ _) hlo))) (Nat.lt_irrefl _)
  .exact absurd (Zc (old_lt _ _ (clo_old p hp)) (Zl hCs (Zl (Nat.le_succ _) hlo))) (Nat.lt_irrefl _)
 have co := CO.go scope.names _ _ co0 (by rw [hpush]; exact Zg _)
 rw [hpush, <- h1e] at co
 have csm : ∀ x c, (cellsFrom (C + 1) scope.names (bR X.env scope.names [])).lookup x = some c -> (X.env.cells.lookup x = some c /\ c < s.heap.objs.size) ∨ (C + 1 <= c /\ h1.IsCell c none) := λ x c e => by
  have hm := Zt e
  rcases vA hm with z | z
  .have q := clo_old _ z
   exact .inl ⟨q, old_lt _ _ q⟩
  .exact .inr ⟨z, co.em _ hm z⟩
 have fresh : ∀ b, s.heap.objs.size <= b -> H b = none := λ b hb => I.hok.fresh hb
 have eout : (dF X own cap scope (cellsFrom (C + 1) scope.names (bR X.env scope.names [])) C fp s H).fs = frs X.stack := rfl
 refine ⟨⟨I.ok.mod, ?_, I.ok.glob, I.ok.blt, hCs, ?_, ?_, ?_, I.ok.hd, I.ok.frames, .inl rfl, ?_, I.bs, Zl I.ok.bsz I.sz, ?_, ?_, I.stack, I.stkFree⟩, rfl, I.bare.again, Un.kept keep, ?_, ?_, fresh C hCs, ?_, ?_, I.hok.kept keep, ?_⟩
 .exact B.kind
 .
  intro x y c e1 e2
  have e1' : (cellsFrom (C + 1) scope.names (bR X.env scope.names [])).lookup x = some c := e1
  have e2' : (cellsFrom (C + 1) scope.names (bR X.env scope.names [])).lookup y = some c := e2
  rcases csm x c e1' with ⟨z1, l1⟩ | ⟨z1, _⟩
  .rcases csm y c e2' with ⟨z2, _⟩ | ⟨z2, _⟩
   .exact I.ok.inj x y c z1 z2
   .exact absurd (Zc l1 (Zl hCs (Zl (Nat.le_succ _) z2))) (Nat.lt_irrefl _)
  .exact co.ap _ (Zt e1') _ (Zt e2') rfl z1
 .
  intro x hx
  have hx' : (relabel scope X.env).names.lookup x = some .cell ∨ (relabel scope X.env).names.lookup x = some .free := hx
  have hm : (x, NameKind.cell) ∈ scope.names ∨ (x, NameKind.free) ∈ scope.names := by
   rcases hx' with e | e
   .rcases qg (Zt e) with q | q
    .exact .inl q
    .exact .inr q.2
   .rcases qg (Zt e) with q | q
    .exact .inr q
    .cases q.1
  rcases hm with q | q
  .exact Option.isSome_iff_exists.mp (PySem.W.cellsFrom_some scope.names (C + 1) _ (.inl (cO B.nd q)))
  .obtain ⟨c, hc⟩ := B.cells I _ q rfl
   exact Option.isSome_iff_exists.mp (PySem.W.cellsFrom_some scope.names (C + 1) _ (.inr (by rw [iz hc (.inl q)]; rfl)))
 .
  intro x c hx e
  have e' : (cellsFrom (C + 1) scope.names (bR X.env scope.names [])).lookup x = some c := e
  have hxo : x ∈ own := by simpa [dF] using hx
  rcases vA (Zt e') with z | z
  .exfalso
   have nf := hown x hxo
   have : (bR X.env scope.names []).lookup x = none := by
    rw [lQ λ k hk => by rintro rfl; exact nf hk]; rfl
   have hl : (cellsFrom (C + 1) scope.names (bR X.env scope.names [])).lookup x = some c := e'
   have q : ∀ (l : List (Str × Addr)), (x, c) ∈ l -> l.lookup x ≠ none := by
    intro l
    induction l with
    | nil => intro h; simp at h
    | cons p r ih =>
     intro h
     obtain ⟨n, d⟩ := p
     rw [List.lookup_cons]
     by_cases hn : (x == n) = true
     .rw [hn]; simp
     .have hn' : (x == n) = false := by simpa using hn
      rw [hn']
      rcases Zi.mp h with e | h
      .cases e; simp at hn'
      .exact ih h
   exact q _ z this
  .exact Zl hCs (Zl (Nat.le_succ _) z)
 .
  intro b hb
  obtain ⟨o, hbo⟩ := ho b hb
  have hlt := Ze hbo
  refine ⟨Zk (Zc hlt hCs), λ x c e => ?_⟩
  rcases csm x c e with ⟨z, _⟩ | ⟨z, _⟩
  .exact (hf b hb).2.2.2.2.1 x c z
  .exact Nat.ne_of_gt (Zc hlt (Zl hCs (Zl (Nat.le_succ _) z)))
 .
  intro b o e hb
  rcases (hf b hb).2.2.2.1 with z | z
  .exact I.ok.noex b o e z
  .exact absurd (Zc (Ze e) (Zl I.ok.bsz z)) (Nat.lt_irrefl _)
 .
  intro b hb hz
  rcases Zi.mp (I.stkSub b hz) with z | z
  .exact (hf b hb).2.1 z
  .exact (hf b hb).2.2.1 z
 .
  obtain ⟨m, hn, hl⟩ := I.loc
  refine ⟨λ _ => none, ⟨_, #[], 0, hCo, rfl, by intro e he; simp at he, λ _ => rfl⟩, λ i x v e1 e2 hv => ?_⟩
  have e2' : (cF own σ capI)[i]? = some (some v) := e2
  have e1' : (own ++ cap)[i]? = some x := e1
  unfold cF at e2'
  by_cases hi : i < own.length
  .rw [Zs (by simpa using hi), List.getElem?_replicate] at e2'
   split at e2' <;> cases e2'
  .rw [List.getElem?_append_right (by simpa using hi)] at e2'
   rw [List.getElem?_append_right (by simpa using hi)] at e1'
   rw [List.length_replicate] at e2'
   obtain ⟨i0, q1, q2⟩ := pI e2'
   obtain ⟨y, q3, q4, q5⟩ := B.caps.get q1
   rw [e1'] at q3
   cases q3
   have hxf : (x, NameKind.free) ∈ scope.names := B.cfr x (List.mem_of_getElem? e1')
   have vis : Vis X.env.scope x := by
    rcases q5 with q5 | q5
    .exact .inr (.inl q5)
    .exact .inr (.inr q5)
   obtain ⟨u, ru, lk⟩ := hl i0 x v q4 q2 vis
   refine ⟨u, ru, .inr ⟨wB B.nd hxf, ?_⟩⟩
   rcases lk with ⟨k, _⟩ | ⟨_, c, ec, hc⟩
   .rcases q5 with q5 | q5 <;> rw [k] at q5 <;> cases q5
   .refine ⟨c, ?_, hc.keeps keep⟩
    show (cellsFrom (C + 1) scope.names (bR X.env scope.names [])).lookup x = some c
    rw [zQ λ k hk => ?_]
    .exact iz ec (.inl hxf)
    .rintro rfl
     cases rG B.nd hk hxf
 .
  intro x c e
  rcases csm x c e with ⟨z, _⟩ | ⟨_, z⟩
  .obtain ⟨v, q⟩ := I.cell x c z
   exact ⟨v, q.keeps keep⟩
  .exact ⟨none, z⟩
 .
  intro x c e
  rcases csm x c e with ⟨z, _⟩ | ⟨z, _⟩
  .exact I.freeC x c z
  .exact fresh c (Zl hCs (Zl (Nat.le_succ _) z))
 .intro p hp
  exact absurd (show p ∈ ([] : List (Addr × Obj)) from hp) (by simp)
 .show (cF own σ capI).length = (own ++ cap).length
  unfold cF ju
  rw [List.length_append, List.length_append, List.length_replicate, Zu, B.caps.length]
end
section
variable {prog : Program} {w : World} {A : Around} {R : Result -> Shared -> Prop} {s : Shared}
theorem uF {elt target iter : Expr} {ifs : List Expr} {scope : Scope} {pos : Pos} {it acc : Value} {env : Env} {E' : Value -> Shared -> Prop} (I : Nat -> Shared -> Prop)
  (hE : ∀ e s', E' e s' -> notedBy (model prog w) A env (λ e s' => R (.error e) s') e s')
  (turn : ∀ n s, I n s -> wpAny (model prog w) A (pyNext it) (λ r s₁ => match r with
   | none => R (.ok .next) s₁
   | some v => wpAny (model prog w) A (letOwnedTupleGo target it v) (λ _ s₂ => wpAny (model prog w) A (assign target env v) (λ _ s₃ =>
     wpAny (model prog w) A (forIn ifs true λ c r => if r = true then do let ok <- isTrue c env (eval c env); pure (ForInStep.yield ok) else pure (ForInStep.yield r)) (λ ok s₄ =>
      if ok = true then wpAny (model prog w) A (eval elt env) (λ x s₅ =>
       wpAny (model prog w) A (call (.builtin "list.append") [acc, x]) (λ _ s₆ => ∃ m, m < n /\ I m s₆) E' s₅) E' s₄
      else ∃ m, m < n /\ I m s₄) E' s₃) E' s₂) E' s₁) E' s)
  (n : Nat) (h : I n s) :
  codeAny (model prog w) A (.compLoop (.ListComp elt [⟨target, iter, ifs, 0⟩] scope pos) 0 it acc env) R s := by
 refine codeAny_loop rfl I (λ n s hI => ?_) n h
 show wpAny _ A ((compTurn (.ListComp elt [⟨target, iter, ifs, 0⟩] scope pos) 0 it acc env).onRaise (λ x => do noteFrame x env; theTreesLotGoes x)) _ _ s
 refine wpAny_noted ?_
 rw [compTurn_list]
 refine wpAny_bind (wpAny_standAt (wpAny_bind (wpAny_mono (turn n s hI) (λ r s₁ h₁ => ?_) hE)))
 cases r with
 | none => exact wpAny_pure h₁
 | some v =>
  refine wpAny_bind (wpAny_mono h₁ (λ _ s₂ h₂ => ?_) hE)
  refine wpAny_bind (wpAny_mono h₂ (λ _ s₂ h₂ => wpAny_bind (wpAny_mono h₂ (λ ok s₃ h₃ => ?_) hE)) hE)
  cases ok with
  | false => exact wpAny_pure ⟨rfl, h₃⟩
  | true =>
   exact wpAny_bind (wpAny_bind (wpAny_mono h₃ (λ x s₄ h₄ => wpAny_bind (wpAny_mono h₄ (λ _ s₅ h₅ => wpAny_pure (wpAny_pure ⟨rfl, h₅⟩)) hE)) hE))
end
def PIf (X : Cx) (ifs : List Expr) (t : TT) : Prop :=
 ∀ (pins : List (Addr × Obj)) (s : Shared) (σ : St) (H : Hp) (Q : Bool -> Hp -> Prop), Inv X pins σ H s -> t σ H Q ->
  wpAny (model X.prog X.w) X.A (forIn ifs true λ c r => if r = true then do let ok <- isTrue c X.env (eval c X.env); pure (ForInStep.yield ok) else pure (ForInStep.yield r)) (TP X pins σ Q) X.xe s
def tYes : TT := λ _ H Q => Q true H
section
variable {X : Cx} {c : Expr} {t : TT}
theorem GX : PIf X [] tYes := λ _ _ _ H _ I h => wpAny_tests_nil ⟨H, I, h⟩
theorem Jp (h : PT X c t) : PIf X [c] t := λ pins s σ H Q I hq => wpAny_tests_one (h pins s σ H Q I hq)
end
def Fits (a b : St) : Prop := b.length = a.length /\ ∀ (i : Nat) v, a[i]? = some (some v) -> b[i]? = some (some v)
def tLC (own : List Str) (capI : List Nat) (wi : TI) (g : TG) (tt : TT) (te : TE) : TE := λ σ H Q => wi σ H λ J H1 => ∃ W : Nat -> Nat -> List V -> Hp -> Prop, (∃ m, W 0 m [] H1) /\ ∀ i m ys H, W i m ys H ->
 (J.stop i H /\ ∀ l, H l = none -> Q (.ref l) (upd H l (.lst ys))) ∨
 (J.go i H /\ ys.length < sizeLine /\ ∀ x H', J.yld i H x H' -> g x (cF own σ capI) H' λ σ2 H2 => Fits (cF own σ capI) σ2 /\ tt σ2 H2 λ b H3 =>
  if b = true then te σ2 H3 (λ y H4 => ∃ m', m' < m /\ W (i + 1) m' (ys ++ [y]) H4) else ∃ m', m' < m /\ W (i + 1) m' ys H3)
abbrev bG (us : List Value) (k : Nat) : Obj := { cls := .type "list", data := .seq us.toArray k }
section
variable {X : Cx} {tg iter elt : Expr} {ifs : List Expr} {wi : TI} {g : TG} {tt : TT} {te : TE} {own cap : List Str} {capI : List Nat} {scope : Scope} {pos : Pos}
theorem Inv.compEnd {X' : Cx} {pins pins' : List (Addr × Obj)} {σ σ' : St} {H H2 : Hp} {s2 s1 : Shared} {fp : List Addr} {l C : Addr} {ys : List V} {us : List Value} {k : Nat} {h' : Heap}
  (I2 : Inv X pins σ H2 s2) (f2 : ∀ b ∈ fp, jA X pins H2 b) (hP : X'.prog = X.prog) (hw : X'.w = X.w) (hfs : X'.fs = frs X.stack) (hex : X'.ex = fp) (hs : X'.s₀ = s2) (hH : X'.H₀ = H2) (hC : X'.env.locals = C)
  (I : Inv X' pins' σ' H s1) (hl : s2.heap.objs.size <= l) (hlC : l ≠ C) (hCs : s2.heap.objs.size <= C) (ho : s1.heap.get? l = some (bG us k)) (hn : H l = none) (hv : Vals ys us) (hz : ys.length <= sizeLine)
  (sb : Heap.SameBut C s1.heap h') : Inv X pins σ (upd H l (.lst ys)) { s1 with heap := h' } := by
 subst hs hH hC
 have ne2 : ∀ b o, X'.s₀.heap.get? b = some o -> b ≠ X'.env.locals /\ b ≠ l := λ b o e => ⟨Zk (Zc (Ze e) hCs), Zk (Zc (Ze e) hl)⟩
 have ub := I.base
 rw [hfs, hex] at ub
 have nl : ∀ b u, H b = some u -> b ≠ l := λ b u e z => by rw [z, hn] at e; cases e
 have nC : ∀ b u, H b = some u -> b ≠ X'.env.locals := λ b u e z => by rw [z, I.free] at e; cases e
 refine I2.call' (ch := fp) (s' := { s1 with heap := h' }) I.os ⟨λ b o e n hb hx => ?_, λ b o e n hb hx => ?_, λ b o e n hx => ?_, λ b o e hx => ?_, λ b xs e => ?_, λ b o u e => ?_, λ b ps e => ?_⟩ ?_ I.bare λ b hb => ?_
 .exact (sb.2 b (ne2 b o e).1).trans (ub.keep b o e n hb hx)
 .obtain ⟨sl, q⟩ := ub.slot b o e n hb hx
  exact ⟨sl, (sb.2 b (ne2 b o e).1).trans q⟩
 .rw [aN (ne2 b o e).2]
  exact ub.free b o e n hx
 .obtain ⟨o', q⟩ := ub.there b o e hx
  exact ⟨o', (sb.2 b (ne2 b o e).1).trans q⟩
 .have q := ub.tups b xs e
  rw [aN (nl b _ q)]; exact q
 .have q := ub.frzs b o u e
  rw [aN (nl b _ q)]; exact q
 .obtain ⟨more, q⟩ := ub.tbls b ps e
  exact ⟨more, by rw [aN (nl b _ q)]; exact q⟩
 .intro a o e
  have hok := I.hok
  rw [hP, hw] at hok
  by_cases ha : a = l
  .subst ha
   rw [dC] at e
   cases e
   exact ⟨hz, us, k, hv, (sb.2 a hlC).trans ho⟩
  .rw [aN ha] at e
   refine (hok a o e).stay (λ b u hb q => (sb.2 b ?_).trans q) (λ b q => by rw [aN (nl b _ q)]; exact q) λ b xs q => by rw [aN (nl b _ q)]; exact q
   rcases hb with z | z
   .rw [z]; exact nC a o e
   .exact nC b _ z
 .obtain ⟨q0, q1, q2, q3, q4, q5⟩ := f2 b hb
  exact ⟨q3.imp id λ z => z, q1, q4, q5⟩
theorem Ob (hc : X.calm = true) (B : eQ X own cap capI scope) (hown : ∀ x ∈ own, (x, NameKind.free) ∉ scope.names) (hi : PI X tg iter wi)
  (hg : ∀ cs C fp s2 H2, PG (dF X own cap scope cs C fp s2 H2) tg g) (ht : ∀ cs C fp s2 H2, PIf (dF X own cap scope cs C fp s2 H2) ifs tt) (he : ∀ cs C fp s2 H2, PE (dF X own cap scope cs C fp s2 H2) elt te)
  (hs : ∀ x, foldedSetIterable iter X.env x = pure x := by intro _; rfl) : PE X (.ListComp elt [⟨tg, iter, ifs, 0⟩] scope pos) (tLC own capI wi g tt te) := by
 intro pins s σ H Q I h
 rw [eval_ListComp]
 refine wpAny_comprehension_free (use := none) (cl := bR X.env scope.names []) rfl hs (gB (B.cells I)) B.kind (λ y hy e => cO B.nd (by rw [<- e]; exact hy)) ?_
 refine thn (hi pins s σ H _ I h) λ v s1 h1 => thn h1 λ itv s2 h2 => ?_
 obtain ⟨it, fp, tn, J, H2, e, I2, T, st2, f2, W, ⟨m0, w0⟩, turn⟩ := h2
 subst e
 refine wpAny_newObj_type (mF ?_)
 dsimp only
 generalize hl : s2.heap.objs.size = l
 generalize hh0 : s2.heap.push { cls := .type "list", dict := none, data := .seq ([] : List Value).toArray } = h0
 have hsz0 : h0.objs.size = l + 1 := by rw [<- hh0, Heap.size_push, hl]
 generalize hC : h0.objs.size = C
 generalize hh1 : pushCells (h0.push { cls := .type (if (some X.env).isSome = true then "dict" else "frame"), data := .dict #[] }) scope.names = h1
 have hl0 : h0.get? l = some (bG [] 0) := by rw [<- hh0, <- hl]; exact Zf _ rfl
 have hk0 : ∀ b o, s2.heap.get? b = some o -> h0.get? b = some o := λ b o e => by rw [<- hh0]; exact Zb _ e
 have hlC : l ≠ C := by rw [<- hC, hsz0]; exact Zk (Nat.lt_succ_self _)
 have hls : s2.heap.objs.size <= l := Nat.le_of_eq hl
 have hCs : s2.heap.objs.size <= C := by rw [<- hC, hsz0, hl]; exact Nat.le_succ _
 have ho2 : ∀ b ∈ fp, ∃ o, s2.heap.get? b = some o := λ b hb => let ⟨o, e, _⟩ := T.obj 0 _ st2 b hb; ⟨o, e⟩
 have hfl : ∀ b ∈ fp, b ≠ l /\ b ≠ C := λ b hb => let ⟨o, e⟩ := ho2 b hb; ⟨Zk (Zc (Ze e) hls), Zk (Zc (Ze e) hCs)⟩
 have hl1 : h1.get? l = some (bG [] 0) := by rw [<- hh1]; exact pushCells_keeps _ _ _ _ (Zb _ hl0)
 have keep1 : ∀ b o, s2.heap.get? b = some o -> h1.get? b = some o := λ b o e => by rw [<- hh1]; exact pushCells_keeps _ _ _ _ (Zb _ (hk0 b o e))
 generalize hcs : cellsFrom (C + 1) scope.names (bR X.env scope.names []) = cs
 have I0 : Inv (dF X own cap scope cs C fp s2 H2) [] (cF own σ capI) H2 { s2 with heap := h1 } := by
  have q := I2.comp (tk := s2.toks) B hown f2 ho2 hk0 (by rw [hsz0, hl]; exact Nat.le_succ _) hC.symm hh1.symm
  rw [hcs] at q
  exact q
 have henv : (newEnv scope C X.env.globals cs X.env.qual none .none (some X.env) builtinsNs) = { compEnvC scope cs C X.env with scope := scope } := rfl
 have henv2 : ({ newEnv scope C X.env.globals cs X.env.qual none .none (some X.env) builtinsNs with scope := relabel scope X.env } : Env) = (dF X own cap scope cs C fp s2 H2).env := rfl
 generalize hX' : dF X own cap scope cs C fp s2 H2 = X' at I0 henv2
 have eP : X'.prog = X.prog := by rw [<- hX']; rfl
 have eW : X'.w = X.w := by rw [<- hX']; rfl
 have eK : X'.K = X.K := by rw [<- hX']; rfl
 have eA : X'.A = X.A := by rw [<- hX']; rfl
 have eFs : X'.fs = frs X.stack := by rw [<- hX']; rfl
 have eEx : X'.ex = fp := by rw [<- hX']; rfl
 have eS : X'.s₀ = s2 := by rw [<- hX']; rfl
 have eH : X'.H₀ = H2 := by rw [<- hX']; rfl
 have eL : X'.env.locals = C := by rw [<- hX']; rfl
 have eC : X'.calm = true := by rw [<- hX']; exact hc
 have eX : X'.xe = λ _ _ => False := by rw [<- hX']; rfl
 have ePn : X'.pn = [] := by rw [<- hX']; rfl
 have hg' : PG X' tg g := by rw [<- hX']; exact hg cs C fp s2 H2
 have ht' : PIf X' ifs tt := by rw [<- hX']; exact ht cs C fp s2 H2
 have he' : PE X' elt te := by rw [<- hX']; exact he cs C fp s2 H2
 have stat : ∀ {H' : Hp} {P : List (Addr × Obj)}, X'.Ok -> (∀ b ∈ fp, H' b = none) -> (∀ p ∈ P, p.1 = l) -> ∀ b ∈ fp, jA X' P H' b := λ {H' P} ok hn hP b hb => by
  refine ⟨hn b hb, ?_, ?_, .inl (by rw [eEx]; exact hb), ?_, λ p hp => ?_⟩
  .exact (ok.exf b (by rw [eEx]; exact hb)).1
  .exact ok.exfs b (by rw [eEx]; exact hb)
  .exact (ok.exf b (by rw [eEx]; exact hb)).2
  .rw [ePn, List.nil_append] at hp
   rw [hP p hp]
   exact Ne.symm (hfl b hb).1
 have lfs : X'.Ok -> l ∉ X'.fs := λ ok hz => by
  rw [eFs] at hz
  exact (Inv.nofs (X := X) I2 hls) ((Zi.mp (I2.stkSub l hz)).elim (λ z => absurd I2.lt (by rw [<- z, hl]; exact Nat.lt_irrefl _)) id)
 have pinL : ∀ {σ' : St} {H' : Hp} {s' : Shared} {us : List Value} {k : Nat}, Inv X' [] σ' H' s' -> s'.heap.get? l = some (bG us k) -> H' l = none -> Inv X' [(l, bG us k)] σ' H' s' := λ {σ' H' s' us k} I' e n =>
  I'.pins_of λ p hp => by
   obtain rfl : p = (l, bG us k) := by simpa using hp
   exact ⟨e, n, by rw [eL]; exact hlC, lfs I'.ok, λ v z => by cases z⟩
 have loop : ∀ s3 : Shared, s3 = { s2 with heap := h1 } -> codeAny (model X.prog X.w) X.A (.compLoop (.ListComp elt [⟨tg, iter, ifs, 0⟩] scope pos) 0 (.ref it) (.ref l) X'.env) (compPost (model X.prog X.w) X.A X.xe none (EP X pins σ Q) (.ref l) C) s3 := by
  rintro s3 rfl
  refine uF (E' := λ _ _ => False) (λ n s' => ∃ i ys us k H', Inv X' [] (cF own σ capI) H' s' /\ tn i s'.heap /\ (∀ b ∈ fp, H' b = none) /\ W i n ys H' /\ Vals ys us /\ s'.heap.get? l = some (bG us k) /\ H' l = none /\ ys.length <= sizeLine) (λ _ _ z => z.elim) ?_ m0
   ⟨0, [], [], 0, H2, I0, T.keep _ _ _ st2 λ b _ o e => keep1 b o e, λ b hb => (f2 b hb).1, w0, .nil, hl1, I2.hok.fresh hls, Nat.zero_le _⟩
  rintro n s3 ⟨i, ys, us, k, H3, I3, st3, fr3, w3, v3, o3, n3, z3⟩
  have I3p := pinL I3 o3 n3
  have P1 : ∀ p ∈ [(l, bG us k)], p.1 = l := λ p hp => by
   obtain rfl : p = (l, bG us k) := by simpa using hp
   rfl
  rcases turn i n ys H3 w3 with ⟨stop, qn⟩ | ⟨go, hlt, step⟩
  .have q := T.done X' eP eW eK eC i _ s3 _ H3 (λ _ _ => False) I3p (stat I3.ok fr3 P1) st3 stop
   rw [eA] at q
   refine wpAny_mono q (λ r s4 ⟨hr, I4⟩ => ?_) λ _ _ z => z
   subst hr
   have pl := I4.pin (l, bG us k) (by simp)
   obtain ⟨m4, hn4, _⟩ := I4.loc
   rw [eL] at hn4
   refine ⟨m4, hn4, λ h' sb => ⟨.ref l, upd H3 l (.lst ys), ?_, rfl, qn l n3⟩⟩
   exact I2.compEnd f2 eP eW eFs eEx eS eH eL I4 hls hlC hCs pl.1 n3 v3 z3 sb
  .have q := T.item X' eP eW eK eC i _ s3 _ H3 (λ _ _ => False) I3p (stat I3.ok fr3 P1) st3 go
   rw [eA] at q
   refine wpAny_mono q (λ r s4 ⟨u, hr, h4⟩ => ?_) λ _ _ z => z
   subst hr
   refine wpAny_mono h4 (λ _ s5 ⟨x, H5, I5, r5, y5, st5, fr5⟩ => ?_) λ _ _ z => z
   have I5' := I5.pinned (stat I5.ok fr5 P1) (T.obj _ _ st5)
   have a1 := hg' _ s5 _ H5 x u _ I5' r5 (step x H5 y5)
   rw [eP, eW, eA, eX] at a1
   refine wpAny_mono a1 (λ _ s6 ⟨σ6, H6, I6, ft6, q6⟩ => ?_) λ _ _ z => z
   have a2 := ht' _ s6 σ6 H6 _ I6 q6
   rw [eP, eW, eA, eX] at a2
   refine wpAny_mono a2 (λ ok s7 ⟨H7, I7, q7⟩ => ?_) λ _ _ z => z
   have back : ∀ {H8 : Hp} {s8 : Shared}, Inv X' ([(l, bG us k)] ++ pK fp s5.heap) σ6 H8 s8 -> Inv X' [] (cF own σ capI) H8 s8 /\ tn (i + 1) s8.heap /\ (∀ b ∈ fp, H8 b = none) /\ s8.heap.get? l = some (bG us k) /\ H8 l = none := λ {H8 s8} I8 => by
    have pl := I8.pin (l, bG us k) (by simp)
    refine ⟨(I8.weak ft6.1.symm ft6.2).pins_of λ p hp => absurd hp (by simp), T.keep _ _ _ st5 λ b hb o e => ?_, λ b hb => ?_, pl.1, pl.2.1⟩
    .exact (I8.pin (b, o) (Zn _ (Zn _ (fD hb e)))).1
    .obtain ⟨o, e, d⟩ := T.obj _ _ st5 b hb
     exact (I8.pin (b, o) (Zn _ (Zn _ (fD hb e)))).2.1
   cases ok with
   | false =>
    rw [if_neg Zr]
    rw [if_neg Zr] at q7
    obtain ⟨m', hm, w7⟩ := q7
    obtain ⟨I8, st8, fr8, o8, n8⟩ := back I7
    exact ⟨m', hm, i + 1, ys, us, k, H7, I8, st8, fr8, w7, v3, o8, n8, z3⟩
   | true =>
    rw [if_pos rfl]
    rw [if_pos rfl] at q7
    have a3 := he' _ s7 σ6 H7 _ I7 q7
    rw [eP, eW, eA, eX] at a3
    refine wpAny_mono a3 (λ yv s8 ⟨y, H8, I8', r8, m', hm, w8⟩ => ?_) λ _ _ z => z
    obtain ⟨I8, st8, fr8, o8, n8⟩ := back I8'
    refine append_at (hsz := by show us.toArray.size <= sizeLine; rw [Zd, <- v3.length]; exact z3) o8 λ h9 sb9 o9 => ?_
    have I9 : Inv X' [] (cF own σ capI) H8 { s8 with heap := h9 } := I8.turned (t' := s8.toks) (λ b o hb e => (sb9.2 b hb).trans e) n8 (by rw [eL]; exact hlC) (.inr (by rw [eS]; exact hls)) (λ x c e => by
     rintro rfl
     obtain ⟨v', ho', hd', hd''⟩ := I8.cell x c e
     rw [o8] at hd'
     cases hd'
     cases hd'') (λ p hp => by rw [ePn] at hp; exact absurd hp (by simp))
    refine ⟨m', hm, i + 1, ys ++ [y], us ++ [yv], k + 1, H8, I9, T.keep _ _ _ st8 λ b hb o e => (sb9.2 b (hfl b hb).1).trans e, fr8, w8, v3.append (.cons r8 .nil), ?_, n8, ?_⟩
    .rw [o9]
     simp [bG]
    .rw [List.length_append]
     exact hlt
 have T0 := T.keep 0 s2.heap h1 st2 λ b _ o e => keep1 b o e
 rw [henv2]
 exact codeAny_compStart_list (loop _ rfl) (T.self X.A 0 _ _ _ T0 (loop _ rfl))
end
def cu (M : Model) (A : Around) (c : Code) (t : Sem Fin) (fs : List Frame) (s : Shared) (Φ : End -> Shared -> Prop) : Prop :=
 ∀ Γ p, Γ.code = c -> Γ.Woken A -> ∃ e s', Runs M Γ p t fs s e s' /\ Φ e s'
section
variable {M : Model} {A : Around} {c : Code} {fs : List Frame} {s : Shared} {Φ : End -> Shared -> Prop}
theorem cu.wrap {α : Type} {m : Sem α} {K : α -> Sem Fin} {H : Value -> Sem Fin} {gd : Bool -> Bool} {lv : List Value -> List Value}
  (h : wpAny M (A.over c fs) m (λ a s' => cu M A c (K a) fs s' Φ) (λ x s' => cu M A c (H x) fs s' Φ) s) : cu M A c (m.wrap K H gd lv) fs s Φ := by
 rintro Γ p rfl hΓ
 exact runs_wrap_of_wp K H gd lv m (h (Γ.over fs) p (hΓ.over fs)) (λ a p' s' h' => h' Γ p' rfl hΓ) (λ x p' s' h' => h' Γ p' rfl hΓ)
theorem cu.bindWrap {α β : Type} {m : Sem α} {K : α -> Sem β} {K' : β -> Sem Fin} {H' : Value -> Sem Fin} {gd : Bool -> Bool} {lv : List Value -> List Value}
  (h : wpAny M (A.over c fs) m (λ a s' => cu M A c ((K a).wrap K' H' gd lv) fs s' Φ) (λ x s' => cu M A c (H' x) fs s' Φ) s) : cu M A c ((m >>= K).wrap K' H' gd lv) fs s Φ := by
 rw [Sem.bind_eq_wrap', Sem.wrap_wrap]; exact cu.wrap h
theorem cu.at {p' : Pos} {k : Unit -> Sem Fin} (h : cu M A c (k ()) fs s Φ) : cu M A c (.at p' k) fs s Φ :=
 cu.wrap (m := standAt p') (K := k) (H := .raise) (gd := id) (lv := id) (wpAny_standAt h)
theorem cu.again {c' : Code} (hq : c'.quiet = true) (hc : cu M A c' (M.den c') fs s Φ) : cu M A c (.pure (.again c')) fs s Φ := by
 rintro Γ p rfl hΓ
 obtain ⟨e, s', hr, he⟩ := hc (Γ.goto c') p rfl (hΓ.goto c')
 exact ⟨e, s', Runs.head (c₁ := c') (λ _ _ x => .again hq x) hr, he⟩
theorem cu.end (r : Result) (h : Φ (.ret r) s) : cu M A c (leafOf r) [] s Φ := by
 rintro Γ p rfl _
 exact ⟨.ret r, s, Runs.leaf r, h⟩
theorem cu.yield {v : Value} {g : Bool} {l : List Value} {k : Resume -> Sem Fin} (hfs : splitAtGen fs = none) (h : ∀ p, Φ (.susp v g l k c p fs) s) : cu M A c (.yield v g l k) fs s Φ := by
 rintro Γ p rfl _
 exact ⟨_, s, Runs.yield' fs hfs, h p⟩
def JM (M : Model) (A : Around) (gs : GenState) (s : Shared) (Φ : End -> Shared -> Prop) : Prop :=
 match gs with
 | .fresh c => cu M A c (M.den c) [] s Φ
 | .suspended k _ c _ fs _ => cu M A c (k (.send .none)) fs s Φ
 | _ => False
theorem Hw {E : Value -> Shared -> Prop} {g : Nat} {gs : GenState} {l : List Value} {α : Type} {k : GenResult -> Sem α} {Q : α -> Shared -> Prop} (hg : s.gens[g]? = some gs)
  (hgo : JM M A gs (s.setGen g .running) Φ) (hq : ∀ e s₁, Φ e s₁ -> e.quiet = true) (hΦ : ∀ e s₁, Φ e s₁ -> wpAny M A (k e.result) Q E (s₁.setGen g e.genState)) :
  wpAny M A (.resume g (.send .none) l k) Q E s := by
 intro Γ p hΓ
 rw [Sem.wp_resume]
 have hB : ∀ c, (Γ.wake c p).Woken A := λ c => hΓ.wake c p
 cases gs with
 | fresh c =>
  obtain ⟨e₁, s₁, hr, he⟩ := hgo (Γ.wake c p) p rfl (hB c)
  exact ⟨_, _, by unfold Wakes; rw [hg]; exact ⟨e₁, s₁, hr, hq e₁ s₁ he, rfl, rfl⟩, hΦ e₁ s₁ he Γ p hΓ⟩
 | suspended k₀ l₀ c₀ p₀ fs₀ cl =>
  obtain ⟨e₁, s₁, hr, he⟩ := hgo (Γ.wake c₀ p) p₀ rfl (hB c₀)
  exact ⟨_, _, by unfold Wakes; rw [hg]; exact ⟨e₁, s₁, hr, hq e₁ s₁ he, rfl, rfl⟩, hΦ e₁ s₁ he Γ p hΓ⟩
 | running => exact hgo.elim
 | finished => exact hgo.elim
end
section
variable {prog : Program} {w : World} {A : Around} {E : Value -> Shared -> Prop} {s : Shared} {Φ : End -> Shared -> Prop}
theorem qm {a : Addr} {g : Nat} {gs : GenState} {Q : Option Value -> Shared -> Prop} (hh : A.handled = none) (hl : s.heap.NoLimit) (hroom : A.depth < recursionLimit)
  (hg : s.heap.IsGen a g) (hgs : s.gens[g]? = some gs) (hgo : JM (model prog w) A.in1 gs (s.setGen g .running) Φ) (hq : ∀ e s₁, Φ e s₁ -> e.quiet = true)
  (hΦ : ∀ e s₁, Φ e s₁ -> (∃ v gd l k c p fs, e = .susp v gd l k c p fs /\ Q (some v) (s₁.setGen g e.genState)) ∨
   (e = .ret (.ok .next) /\ ∀ h', (∀ b o, s₁.heap.get? b = some o -> h'.get? b = some o) -> Q none { s₁.setGen g .finished with heap := h' })) :
  wpAny (model prog w) A (pyNext (.ref a)) Q E s := by
 unfold pyNext
 refine wpAny_bind (wpAny_attempt (wpAny_callSpecial?_slot (name := Str.ofString "__next__") hg.typeIs slot_gen_next
  (wpAny_call_entry slot_gen_next hg.typeIs entry_gen_next ?_ (args_gen_next _))))
 show wpAny _ A.in1 (Builtin.Generator.genWake (.ref a) (.send .none)) _ _ s
 unfold Builtin.Generator.genWake
 refine wpAny_bind (wpAny_holding (wpAny_genNumber hg (wpAny_bind (wpAny_genState hgs ?_))))
 cases gs with
 | running => exact hgo.elim
 | finished => exact hgo.elim
 | _ =>
  refine wpAny_bind (wpAny_roomToWake hl hroom ?_)
  show wpAny _ A.in1 (.resume g (.send .none) [] _) _ _ s
  refine Hw hgs hgo hq λ e s₁ he => ?_
  rcases hΦ e s₁ he with ⟨v, gd, l, k, c, p, fs, rfl, hQ⟩ | ⟨rfl, hP⟩
  .exact wpAny_pure ⟨v, rfl, wpAny_pure hQ⟩
  .show wpAny _ A.in1 (newExc (.type "StopIteration") [] >>= _) _ _ _
   refine wpAny_bind ?_
   simp only [newExc, newTuple]
   refine wpAny_bind (wpAny_newObj_type ?_ (by size_fits))
   refine wpAny_bind (m := firstArgMember _ _) (wpAny_of_eq (a := Value.none) (by first | rfl | (simp only [firstArgMember]; rfl)) ?_)
   refine wpAny_newObj_type ?_ (by size_fits)
   simp only [raiseNew]
   refine wpAny_bind (wpAny_bind (wpAny_handled ?_))
   first | rw [show A.in1.handled = none from hh] | rw [hh]
   refine wpAny_throw ?_
   refine wpAny_bind (wpAny_isInstance (T := "StopIteration") (b := true) ⟨_, Zf _ rfl, rfl⟩ isSubtype_stop ?_)
   exact wpAny_pure (hP _ λ b o hb => Zb _ (Zb _ hb))
end
def sI (X : Cx) (AG : Around) (own cap : List Str) (scope : Scope) (cs : List (Str × Addr)) (C : Addr) (code : Value) (fp : List Addr) (s2 : Shared) (H2 : Hp) : Cx where
 prog := X.prog
 w := X.w
 K := X.K
 mg := X.mg
 base := X.base
 A := AG
 N := own ++ cap
 s₀ := { s2 with gens := s2.gens.push .running }
 H₀ := H2
 env := genEnv scope cs C code builtinsNs X.env
 outer := X.stack
 stack := genEnv scope cs C code builtinsNs X.env :: X.stack
 ex := fp
 fn := λ x => own.contains x
 calm := true
 pn := []
 xe := λ _ _ => False
section
variable {X : Cx} {pins : List (Addr × Obj)} {σ : St} {H : Hp} {s : Shared} {own cap : List Str} {capI : List Nat} {scope : Scope}
theorem Inv.gen {AG : Around} {fp : List Addr} {h1 : Heap} {C : Addr} {tk : Nat} {code : Value} {m : Str -> Option Value} (I : Inv X pins σ H s) (B : eQ X own cap capI scope) (hown : ∀ x ∈ own, (x, NameKind.free) ∉ scope.names) (hnc : ∀ y ∈ scope.names, y.2 ≠ .cell)
  (hf : ∀ b ∈ fp, jA X pins H b) (ho : ∀ b ∈ fp, ∃ o, s.heap.get? b = some o)
  (keep : ∀ b o, s.heap.get? b = some o -> h1.get? b = some o) (hCs : s.heap.objs.size <= C) (hm : h1.Ns C m) (hAf : AG.frames = some (genEnv scope (bR X.env scope.names []) C code builtinsNs X.env :: X.stack)) (hAh : AG.handled = none) :
  Inv (sI X AG own cap scope (bR X.env scope.names []) C code fp s H) [] (cF own σ capI) H { s with heap := h1, toks := tk, gens := s.gens.push .running } := by
 have clo_old : ∀ p ∈ bR X.env scope.names [], X.env.cells.lookup p.1 = some p.2 := λ p hp => (jl hp).elim (λ z => by simp at z) id
 have old_lt : ∀ x c, X.env.cells.lookup x = some c -> c < s.heap.objs.size := λ x c e => let ⟨v, q⟩ := I.cell x c e; q.lt
 have csm : ∀ x c, (bR X.env scope.names []).lookup x = some c -> X.env.cells.lookup x = some c /\ c < s.heap.objs.size := λ x c e => by
  have q := clo_old _ (Zt e)
  exact ⟨q, old_lt _ _ q⟩
 have fresh : ∀ b, s.heap.objs.size <= b -> H b = none := λ b hb => I.hok.fresh hb
 have brun : AllBare (s.gens.push .running) := AllBare.push I.bare.bare rfl
 refine ⟨⟨I.ok.mod, ?_, I.ok.glob, rfl, hCs, ?_, ?_, ?_, λ _ => hAh, hAf, .inr ⟨rfl, rfl⟩, ?_, I.bs, Zl I.ok.bsz I.sz, ?_, ?_, I.stack, I.stkFree⟩, rfl, GK.refl brun, Un.kept keep, ?_, ?_, fresh C hCs, ?_, ?_, I.hok.kept keep, ?_⟩
 .exact B.kind
 .intro x y c e1 e2
  exact I.ok.inj x y c (csm x c e1).1 (csm y c e2).1
 .intro x hx
  have hx' : scope.names.lookup x = some .cell ∨ scope.names.lookup x = some .free := hx
  rcases hx' with e | e
  .exact absurd rfl (hnc _ (Zt e))
  .have q := Zt e
   obtain ⟨c, hc⟩ := B.cells I _ q rfl
   exact ⟨c, iz hc (.inl q)⟩
 .intro x c hx e
  exfalso
  have hxo : x ∈ own := by simpa [sI] using hx
  have nf := hown x hxo
  have q : (bR X.env scope.names []).lookup x = none := by
   rw [lQ λ k hk => by rintro rfl; exact nf hk]; rfl
  have e' : (bR X.env scope.names []).lookup x = some c := e
  rw [q] at e'; cases e'
 .intro b hb
  obtain ⟨o, hbo⟩ := ho b hb
  have hlt := Ze hbo
  exact ⟨Zk (Zc hlt hCs), λ x c e => (hf b hb).2.2.2.2.1 x c (csm x c e).1⟩
 .intro b o e hb
  rcases (hf b hb).2.2.2.1 with z | z
  .exact I.ok.noex b o e z
  .exact absurd (Zc (Ze e) (Zl I.ok.bsz z)) (Nat.lt_irrefl _)
 .intro b hb hz
  rcases Zi.mp (I.stkSub b hz) with z | z
  .exact (hf b hb).2.1 z
  .exact (hf b hb).2.2.1 z
 .obtain ⟨m', hn, hl⟩ := I.loc
  refine ⟨m, hm, λ i x v e1 e2 hv => ?_⟩
  have e2' : (cF own σ capI)[i]? = some (some v) := e2
  have e1' : (own ++ cap)[i]? = some x := e1
  unfold cF at e2'
  by_cases hi : i < own.length
  .rw [Zs (by simpa using hi), List.getElem?_replicate] at e2'
   split at e2' <;> cases e2'
  .rw [List.getElem?_append_right (by simpa using hi)] at e2'
   rw [List.getElem?_append_right (by simpa using hi)] at e1'
   rw [List.length_replicate] at e2'
   obtain ⟨i0, q1, q2⟩ := pI e2'
   obtain ⟨y, q3, q4, q5⟩ := B.caps.get q1
   rw [e1'] at q3
   cases q3
   have hxf : (x, NameKind.free) ∈ scope.names := B.cfr x (List.mem_of_getElem? e1')
   have vis : Vis X.env.scope x := by
    rcases q5 with q5 | q5
    .exact .inr (.inl q5)
    .exact .inr (.inr q5)
   obtain ⟨u, ru, lk⟩ := hl i0 x v q4 q2 vis
   refine ⟨u, ru, .inr ⟨.inr (cO B.nd hxf), ?_⟩⟩
   rcases lk with ⟨k, _⟩ | ⟨_, c, ec, hc⟩
   .rcases q5 with q5 | q5 <;> rw [k] at q5 <;> cases q5
   .exact ⟨c, iz ec (.inl hxf), hc.keeps keep⟩
 .intro x c e
  obtain ⟨v, q⟩ := I.cell x c (csm x c e).1
  exact ⟨v, q.keeps keep⟩
 .intro x c e
  exact I.freeC x c (csm x c e).1
 .intro p hp
  exact absurd (show p ∈ ([] : List (Addr × Obj)) from hp) (by simp)
 .show (cF own σ capI).length = (own ++ cap).length
  unfold cF ju
  rw [List.length_append, List.length_append, List.length_replicate, Zu, B.caps.length]
end
abbrev Ce (elt tg iter : Expr) (scope : Scope) (pos : Pos) : Expr := .GeneratorExp elt [⟨tg, iter, [], 0⟩] scope pos
abbrev iy (elt tg iter : Expr) (scope : Scope) (pos : Pos) (it : Addr) (cenv : Env) : Code := .compLoop (Ce elt tg iter scope pos) 0 (.ref it) .none cenv
abbrev genS (elt tg iter : Expr) (scope : Scope) (pos : Pos) (it : Addr) (cenv : Env) : Code := .compStart (Ce elt tg iter scope pos) 0 (.ref it) .none cenv
section
variable {X' : Cx} {A1 : Around} {elt tg iter : Expr} {scope : Scope} {pos : Pos} {it : Addr} {fp : List Addr} {tn : Nat -> Heap -> Prop} {J : It} {σb : St} {g : TG} {te : TE}
theorem Ew (T : Turn X'.prog X'.w X'.K tg J fp it tn) (hA : X'.A = A1.over (iy elt tg iter scope pos it X'.env) []) (hc : X'.calm = true) (hex : X'.ex = fp) (hpn : X'.pn = []) (hco : X'.env.scope.isCoroutine = false)
  (hxe : X'.xe = λ _ _ => False) (hg : PG X' tg g) (he : PE X' elt te) {i : Nat} {H : Hp} {s : Shared} {Q : VK} {P : List (Addr × Obj)} (hP : ∀ p ∈ P, p.1 ∉ fp) (I : Inv X' P σb H s) (st : tn i s.heap) (fr : ∀ b ∈ fp, H b = none)
  (go : J.go i H) (step : ∀ x H', J.yld i H x H' -> g x σb H' λ σ2 H2 => Fits σb σ2 /\ te σ2 H2 Q) :
  cu (model X'.prog X'.w) A1 (iy elt tg iter scope pos it X'.env) ((model X'.prog X'.w).den (iy elt tg iter scope pos it X'.env)) [] s λ e s' =>
   ∃ v k p y H', e = .susp v false [] k (iy elt tg iter scope pos it X'.env) p [] /\ k (.send .none) = .pure (.again (iy elt tg iter scope pos it X'.env)) /\ RelV y v /\ Q y H' /\ Inv X' P σb H' s' /\ tn (i + 1) s'.heap /\ ∀ b ∈ fp, H' b = none := by
 have stat : ∀ {H' : Hp}, X'.Ok -> (∀ b ∈ fp, H' b = none) -> ∀ b ∈ fp, jA X' P H' b := λ {H'} ok hn b hb =>
  ⟨hn b hb, (ok.exf b (by rw [hex]; exact hb)).1, ok.exfs b (by rw [hex]; exact hb), .inl (by rw [hex]; exact hb), (ok.exf b (by rw [hex]; exact hb)).2, λ p hp e => by rw [hpn] at hp; exact hP p hp (e ▸ hb)⟩
 show cu _ A1 _ ((compTurn (Ce elt tg iter scope pos) 0 (.ref it) .none X'.env).onRaise (leaving X'.env)) [] s _
 rw [compTurn_gen, Sem.onRaise_eq_wrap]
 refine cu.bindWrap (wpAny_standAt ?_)
 have q := T.item X' rfl rfl rfl hc i P s σb H (λ _ _ => False) I (stat I.ok fr) st go
 rw [hA] at q
 refine cu.bindWrap (wpAny_mono q (λ r s1 ⟨u, hr, h1⟩ => ?_) λ _ _ z => z.elim)
 subst hr
 refine cu.bindWrap (wpAny_mono h1 (λ _ s2 ⟨x, H2, I2, r2, y2, st2, fr2⟩ => ?_) λ _ _ z => z.elim)
 have I2' := I2.pinned (stat I2.ok fr2) (T.obj _ _ st2)
 have a1 := hg _ s2 σb H2 x u _ I2' r2 (step x H2 y2)
 rw [hA, hxe] at a1
 refine cu.bindWrap (wpAny_mono a1 (λ _ s3 ⟨σ3, H3, I3, ft3, q3⟩ => ?_) λ _ _ z => z.elim)
 refine cu.bindWrap (wpAny_tests_nil ?_)
 simp only [if_true]
 have hy : ∀ v, yieldOut X'.env v = yieldValue v := λ v => by simp only [yieldOut, hco, Bool.false_eq_true, if_false]
 simp only [hy]
 rw [Sem.bind_eq_wrap', Sem.bind_eq_wrap', Sem.wrap_wrap, Sem.wrap_wrap]
 have a2 := he _ s3 σ3 H3 _ I3 q3
 rw [hA, hxe] at a2
 refine cu.wrap (wpAny_mono a2 (λ v s4 ⟨y, H4, I4, r4, q4⟩ => ?_) λ _ _ z => z.elim)
 refine cu.at (cu.yield rfl λ p => ⟨v, _, p, y, H4, rfl, rfl, r4, q4, (I4.weak ft3.1.symm ft3.2).unpinned, T.keep _ _ _ st2 λ b hb o e => ?_, λ b hb => ?_⟩)
 .exact (I4.pin (b, o) (Zn _ (Zn _ (fD hb e)))).1
 .obtain ⟨o, e, d⟩ := T.obj _ _ st2 b hb
  exact (I4.pin (b, o) (Zn _ (Zn _ (fD hb e)))).2.1
theorem Ez (T : Turn X'.prog X'.w X'.K tg J fp it tn) (hA : X'.A = A1.over (iy elt tg iter scope pos it X'.env) []) (hc : X'.calm = true) (hex : X'.ex = fp) (hpn : X'.pn = [])
  {i : Nat} {H : Hp} {s : Shared} {P : List (Addr × Obj)} (hP : ∀ p ∈ P, p.1 ∉ fp) (I : Inv X' P σb H s) (st : tn i s.heap) (fr : ∀ b ∈ fp, H b = none) (stop : J.stop i H) :
  cu (model X'.prog X'.w) A1 (iy elt tg iter scope pos it X'.env) ((model X'.prog X'.w).den (iy elt tg iter scope pos it X'.env)) [] s λ e s' => e = .ret (.ok .next) /\ Inv X' P σb H s' := by
 have stat : ∀ b ∈ fp, jA X' P H b := λ b hb =>
  ⟨fr b hb, (I.ok.exf b (by rw [hex]; exact hb)).1, I.ok.exfs b (by rw [hex]; exact hb), .inl (by rw [hex]; exact hb), (I.ok.exf b (by rw [hex]; exact hb)).2, λ p hp e => by rw [hpn] at hp; exact hP p hp (e ▸ hb)⟩
 show cu _ A1 _ ((compTurn (Ce elt tg iter scope pos) 0 (.ref it) .none X'.env).onRaise (leaving X'.env)) [] s _
 rw [compTurn_gen, Sem.onRaise_eq_wrap]
 refine cu.bindWrap (wpAny_standAt ?_)
 have q := T.done X' rfl rfl rfl hc i P s σb H (λ _ _ => False) I stat st stop
 rw [hA] at q
 refine cu.bindWrap (wpAny_mono q (λ r s1 ⟨hr, I1⟩ => ?_) λ _ _ z => z.elim)
 subst hr
 exact cu.end (.ok .next) ⟨rfl, I1⟩
theorem vh {A0 : Around} {P : Program} {w : World} {K : PySem.W.Frag} {cenv : Env} {Φ : End -> Shared -> Prop} {s : Shared} {i : Nat} (T : Turn P w K tg J fp it tn) (st : tn i s.heap)
  (h : cu (model P w) A0 (iy elt tg iter scope pos it cenv) ((model P w).den (iy elt tg iter scope pos it cenv)) [] s Φ) :
  cu (model P w) A0 (genS elt tg iter scope pos it cenv) ((model P w).den (genS elt tg iter scope pos it cenv)) [] s Φ := by
 show cu _ A0 _ ((compStart (Ce elt tg iter scope pos) 0 (.ref it) .none cenv).onRaise (leaving cenv)) [] s _
 unfold compStart
 rw [Sem.onRaise_eq_wrap]
 show cu _ A0 _ ((ask >>= _).wrap _ _ _ _) [] s _
 refine cu.bindWrap (wpAny_askSetting ?_)
 split
 .exact cu.again rfl h
 .first
   | exact cu.bindWrap (wpAny_rule (cu.bindWrap (wpAny_standAt (cu.bindWrap (T.self _ i s _ _ st (cu.again rfl h))))))
   | (refine cu.bindWrap (wpAny_rule ?_); show cu _ A0 _ ((standAt iter.pos >>= _).wrap _ _ _ _) [] s _; exact cu.bindWrap (wpAny_standAt (cu.bindWrap (T.self _ i s _ _ st (cu.again rfl h)))))
end
structure nJ where
 nxt : Nat -> Hp -> (V -> Hp -> Prop) -> Prop
 fin : Nat -> Hp -> Prop
structure xM (X : Cx) (pins : List (Addr × Obj)) (σ : St) (A' : Around) (it : Addr) (lo : Nat) (S : nJ) (SS : List (Addr × Obj) -> Nat -> Hp -> Shared -> Prop) : Prop where
 inv : ∀ {P i H s}, SS P i H s -> Inv X (pins ++ P) σ H s
 next : ∀ {P i H s Q} (E : Value -> Shared -> Prop), SS P i H s -> S.nxt i H Q -> wpAny (model X.prog X.w) A' (pyNext (.ref it)) (λ r s1 => ∃ u y H', r = some u /\ RelV y u /\ Q y H' /\ SS P (i + 1) H' s1) E s
 stop : ∀ {P i H s} (E : Value -> Shared -> Prop), SS P i H s -> S.fin i H -> wpAny (model X.prog X.w) A' (pyNext (.ref it)) (λ r s1 => r = none /\ Inv X (pins ++ P) σ H s1) E s
 keep : ∀ {P i H s h' tk}, SS P i H s -> (∀ b o, s.heap.get? b = some o -> h'.get? b = some o) -> SS P i H { s with heap := h', toks := tk }
 pin : ∀ {P i H s D o}, SS P i H s -> lo <= D -> s.heap.get? D = some o -> H D = none -> (∀ v, o.data ≠ .cell v) -> SS ((D, o) :: P) i H s
 unpin : ∀ {p P i H s}, SS (p :: P) i H s -> SS P i H s
 acc : ∀ {P i H s h' tk D}, SS P i H s -> lo <= D -> H D = none -> (∀ p ∈ P, p.1 ≠ D) -> (∀ b o, b ≠ D -> s.heap.get? b = some o -> h'.get? b = some o) -> SS P i H { s with heap := h', toks := tk }
def Ready (X : Cx) (pins : List (Addr × Obj)) (σ : St) (S : nJ) (v : Value) (H : Hp) (s : Shared) : Prop :=
 ∀ (A' : Around) (E : Value -> Shared -> Prop), A'.handled = none -> A'.frames = some X.stack -> A'.depth <= X.A.depth + 1 -> A'.units <= X.A.units + 8 ->
  wpAny (model X.prog X.w) A' (pyIter v) (λ itv s2 => ∃ it lo SS, itv = .ref it /\ xM X pins σ A' it lo S SS /\ SS [] 0 H s2 /\ lo <= s2.heap.objs.size) E s
abbrev qJ := St -> Hp -> (nJ -> Hp -> Prop) -> Prop
def zE (X : Cx) (e : Expr) (ts : qJ) : Prop :=
 ∀ (pins : List (Addr × Obj)) (s : Shared) (σ : St) (H : Hp) (R : nJ -> Hp -> Prop), Inv X pins σ H s -> ts σ H R ->
  wpAny (model X.prog X.w) X.A (eval e X.env) (λ v s1 => ∃ S H1, Inv X pins σ H1 s1 /\ Ready X pins σ S v H1 s1 /\ R S H1) X.xe s
def KY (X : Cx) (pins : List (Addr × Obj)) (σ : St) (S : nJ) (a : Addr) (H : Hp) (s : Shared) : Prop :=
 ∀ (A' : Around), A'.handled = none -> A'.frames = some X.stack -> A'.depth <= X.A.depth + 1 -> A'.units <= X.A.units + 8 ->
  ∃ lo SS, xM X pins σ A' a lo S SS /\ SS [] 0 H s /\ a < lo /\ lo <= s.heap.objs.size /\ ∀ P i H s, SS P i H s -> ∃ g, s.heap.IsGen a g
def uA (X : Cx) (e : Expr) (ts : qJ) : Prop :=
 ∀ (pins : List (Addr × Obj)) (s : Shared) (σ : St) (H : Hp) (R : nJ -> Hp -> Prop), Inv X pins σ H s -> ts σ H R ->
  wpAny (model X.prog X.w) X.A (eval e X.env) (λ v s1 => ∃ a S H1, v = .ref a /\ Inv X pins σ H1 s1 /\ KY X pins σ S a H1 s1 /\ R S H1) X.xe s
theorem xV {X : Cx} {e : Expr} {ts : qJ} (h : uA X e ts) : zE X e ts := by
 intro pins s σ H R I hq
 refine thn (h pins s σ H R I hq) λ v s1 ⟨a, S, H1, e, I1, rdy, r⟩ => ⟨S, H1, I1, ?_, r⟩
 subst e
 intro A' E h1 h2 h3 h4
 obtain ⟨lo, SS, sm, s0, _, hl, hg⟩ := rdy A' h1 h2 h3 h4
 obtain ⟨g, ig⟩ := hg _ _ _ _ s0
 exact wpAny_pyIter_gen ig ⟨a, lo, SS, rfl, sm, s0, hl⟩
section
variable {X : Cx} {pins : List (Addr × Obj)} {σ : St} {H : Hp} {s : Shared}
theorem Inv.grown {h' : Heap} {g' : Array GenState} {tk : Nat} (I : Inv X pins σ H s) (k : ∀ b o, s.heap.get? b = some o -> h'.get? b = some o) (hg : GK s.gens g') : Inv X pins σ H { s with heap := h', gens := g', toks := tk } :=
 I.call (ch := []) (g' := g') (t' := tk) (d' := s.drawn) (Un.kept k) (I.hok.kept k) hg λ b hb => absurd hb (by simp)
theorem Inv.more {Q : List (Addr × Obj)} (I : Inv X pins σ H s) (h : ∀ p ∈ Q, s.heap.get? p.1 = some p.2 /\ H p.1 = none /\ p.1 ≠ X.env.locals /\ p.1 ∉ X.fs /\ ∀ v, p.2.data ≠ .cell v) : Inv X (pins ++ Q) σ H s :=
 I.pins_of λ p hp => (Zm.mp hp).elim (λ z => I.pin p (Zn _ z)) (h p)
theorem Inv.tbl {P : Addr} {ps ps' : Array Value} {h' : Heap} {tk : Nat} (I : Inv X pins σ H s) (hP : H P = some (.tbl ps)) (hm : ∃ more, ps' = ps ++ more) (k : ∀ b o, b ≠ P -> s.heap.get? b = some o -> h'.get? b = some o)
  (ho : h'.get? P = some { cls := .none, data := .fields ps' }) : Inv X pins σ (upd H P (.tbl ps')) { s with heap := h', toks := tk } := by
 have nP : ∀ b, H b = none -> b ≠ P := λ b e z => by rw [z, hP] at e; cases e
 refine I.un ⟨λ b o e n _ _ => k b o (nP b n) e, λ b o e n _ _ => ⟨o.slots, k b o (nP b n) e⟩, λ b o e n _ => by rw [aN (nP b n)]; exact n, λ b o e _ => ?_, λ b xs e => ?_, λ b o u e => ?_, λ b qs e => ?_⟩ λ a o e => ?_
 .by_cases z : b = P
  .subst z; exact ⟨_, ho⟩
  .exact ⟨o, k b o z e⟩
 .have z : b ≠ P := λ z => by rw [z, hP] at e; cases e
  rw [aN z]; exact e
 .have z : b ≠ P := λ z => by rw [z, hP] at e; cases e
  rw [aN z]; exact e
 .by_cases z : b = P
  .subst z
   rw [hP] at e; cases e
   obtain ⟨more, e⟩ := hm
   exact ⟨more, by rw [dC, e]⟩
  .exact ⟨#[], by rw [aN z, e]; simp⟩
 .by_cases z : a = P
  .subst z
   rw [dC] at e; cases e
   exact ho
  .rw [aN z] at e
   refine (I.hok a o e).stay (λ b u hb q => k b u ?_ q) (λ b q => ?_) λ b xs q => ?_
   .rcases hb with r | r
    .rw [r]; exact z
    .exact λ y => by rw [y, hP] at r; cases r
   .have y : b ≠ P := λ y => by rw [y, hP] at q; cases q
    rw [aN y]; exact q
   .have y : b ≠ P := λ y => by rw [y, hP] at q; cases q
    rw [aN y]; exact q
def ww (H : Hp) (v : Value) : Prop := ∃ c o vs u, v = .ref c /\ H c = some (.frz o (.own 0)) /\ o.data = .fields vs /\ vs[1]? = some u
def TOk (H : Hp) (ps : Array Value) : Prop := TriplesOk ps.toList /\ ∀ pos v, codeAmong pos ps.toList = some v -> ww H v
theorem TOk.mono {H H' : Hp} {ps : Array Value} (h : TOk H ps) (k : ∀ c o, H c = some (.frz o (.own 0)) -> H' c = some (.frz o (.own 0))) : TOk H' ps :=
 ⟨h.1, λ pos v e => let ⟨c, o, vs, u, e1, e2, e3⟩ := h.2 pos v e; ⟨c, o, vs, u, e1, k c o e2, e3⟩⟩
theorem TOk.nil {H : Hp} : TOk H #[] := ⟨by unfold TriplesOk; trivial, λ pos v e => by simp [codeAmong] at e⟩
theorem zA {pos : Pos} {a b : Int} {c v : Value} : ∀ (l : List Value), TriplesOk l -> codeAmong pos (l ++ [rawInt a, rawInt b, c]) = some v -> codeAmong pos l = some v ∨ v = c := λ l h => by
 fun_induction TriplesOk l with
 | case1 =>
  intro e
  right
  simp only [List.nil_append, rawInt, codeAmong] at e
  split at e
  .cases e; rfl
  .cases e
 | case2 line t col u x rest ih =>
  intro e
  simp only [List.cons_append, codeAmong] at e ⊢
  split at e
  .rename_i hc
   left; rw [if_pos hc]; exact e
  .rename_i hc
   rw [if_neg hc]
   exact ih h e
 | case3 => exact h.elim
structure zK (lo : Nat) (P : Addr) (ps ps' : Array Value) (H H' : Hp) : Prop where
 tab : H' P = some (.tbl ps')
 more : ∃ more, ps' = ps ++ more
 ok : TOk H' ps'
 keep : ∀ b o, b ≠ P -> H b = some o -> H' b = some o
 none : ∀ b, b < lo -> H b = none -> H' b = none
theorem Inv.reg {c : Addr} {o : Obj} (I : Inv X pins σ H s) (ho : s.heap.get? c = some o) (hn : H c = none) (hnew : X.s₀.heap.objs.size <= c) (hL : c ≠ X.env.locals) (hc : ∀ x d, X.env.cells.lookup x = some d -> d ≠ c) (hp : ∀ p ∈ X.pn ++ pins, p.1 ≠ c) :
  Inv X pins σ (upd H c (.frz o (.own 0))) s := by
 have ne : ∀ b u, H b = some u -> b ≠ c := λ b u e z => by rw [z, hn] at e; cases e
 refine ⟨I.ok, I.os, I.bare, ⟨I.base.keep, I.base.slot, λ b ob e n hx => ?_, I.base.there, λ b xs e => ?_, λ b ob u e => ?_, λ b ps e => ?_⟩, I.loc, I.cell, ?_, λ x d e => ?_, λ p hp' => ?_, λ a u e => ?_, I.len⟩
 .rw [aN (Zk (Zc (Ze e) hnew))]; exact I.base.free b ob e n hx
 .have q := I.base.tups b xs e
  rw [aN (ne _ _ q)]; exact q
 .have q := I.base.frzs b ob u e
  rw [aN (ne _ _ q)]; exact q
 .obtain ⟨more, q⟩ := I.base.tbls b ps e
  exact ⟨more, by rw [aN (ne _ _ q)]; exact q⟩
 .rw [aN (Ne.symm hL)]; exact I.free
 .rw [aN (hc x d e)]; exact I.freeC x d e
 .obtain ⟨a, b, r⟩ := I.pin p hp'
  exact ⟨a, by rw [aN (hp p hp')]; exact b, r⟩
 .by_cases z : a = c
  .subst z
   rw [dC] at e; cases e
   exact ⟨ho, o, ho⟩
  .rw [aN z] at e
   exact (I.hok a u e).stay (λ b v _ q => q) (λ b q => by rw [aN (ne _ _ q)]; exact q) λ b xs q => by rw [aN (ne _ _ q)]; exact q
theorem uP {P c' : Addr} {ps vs : Array Value} {u : Value} {oc : Obj} {h' : Heap} {tk : Nat} {pos : Pos} {G : Prop} (I : Inv X pins σ H s) (hP : H P = some (.tbl ps)) (ht : TOk H ps) (hge : s.heap.objs.size <= c') (hoc : h'.get? c' = some oc) (hdd : oc.data = .fields vs) (hv : vs[1]? = some u)
  (k : ∀ b o, b ≠ P -> s.heap.get? b = some o -> h'.get? b = some o) (ho : h'.get? P = some { cls := .none, data := .fields (ps ++ #[rawInt pos.line, rawInt pos.col, .ref c']) })
  (h : zK s.heap.objs.size P ps (ps ++ #[rawInt pos.line, rawInt pos.col, .ref c']) H (upd (upd H P (.tbl (ps ++ #[rawInt pos.line, rawInt pos.col, .ref c']))) c' (.frz oc (.own 0))) -> Inv X pins σ (upd (upd H P (.tbl (ps ++ #[rawInt pos.line, rawInt pos.col, .ref c']))) c' (.frz oc (.own 0))) { s with heap := h', toks := tk } -> G) : G := by
 have lt := λ {b : Addr} {o : Obj} (e : s.heap.get? b = some o) => Zc (Ze e) hge
 have cP : P ≠ c' := Zk (lt (I.hok P _ hP))
 have hn : H c' = none := I.hok.fresh hge
 generalize hps : ps ++ #[rawInt pos.line, rawInt pos.col, .ref c'] = ps' at *
 have I1 : Inv X pins σ (upd H P (.tbl ps')) { s with heap := h', toks := tk } := I.tbl hP ⟨_, hps.symm⟩ k ho
 have I2 : Inv X pins σ (upd (upd H P (.tbl ps')) c' (.frz oc (.own 0))) { s with heap := h', toks := tk } := I1.reg hoc (by rw [aN (Ne.symm cP)]; exact hn) (Zl I.sz hge) (Nat.ne_of_gt (Zc I.lt hge))
  (λ x d e => by
   obtain ⟨v, o, e2, _⟩ := I.cell x d e
   exact Zk (lt e2)) λ p hp => Zk (lt (I.pin p hp).1)
 have kp : ∀ b o, b ≠ P -> H b = some o -> upd (upd H P (.tbl ps')) c' (.frz oc (.own 0)) b = some o := λ b o hb e => by
  have hbc : b ≠ c' := λ z => by rw [z, hn] at e; cases e
  rw [aN hbc, aN hb]; exact e
 refine h ⟨by rw [aN cP, dC], ⟨_, hps.symm⟩, ⟨?_, λ p v e => ?_⟩, kp, λ b hb e => ?_⟩ I2
 .rw [<- hps]
  have hl : (ps ++ #[rawInt pos.line, rawInt pos.col, Value.ref c']).toList = ps.toList ++ [rawInt pos.line, rawInt pos.col, .ref c'] := by simp
  rw [hl]; exact TriplesOk_snoc _ _ _ _ ht.1
 .rw [<- hps] at e
  have hl : (ps ++ #[rawInt pos.line, rawInt pos.col, Value.ref c']).toList = ps.toList ++ [rawInt pos.line, rawInt pos.col, .ref c'] := by simp
  rw [hl] at e
  rcases zA _ ht.1 e with e | e
  .obtain ⟨c, o, ws, w, q1, q2, q3⟩ := ht.2 p v e
   exact ⟨c, o, ws, w, q1, kp c _ (λ z => by rw [z, hP] at q2; cases q2) q2, q3⟩
  .exact ⟨c', oc, vs, u, e, dC, hdd, hv⟩
 .have hbc : b ≠ c' := Zk (Zc hb hge)
  have hbP : b ≠ P := λ z => by rw [z, hP] at e; cases e
  rw [aN hbc, aN hbP]; exact e
theorem Pb {c P : Addr} {ps : Array Value} {pos : Pos} {q : Str} {scope : Scope} {Q : Value -> Shared -> Prop} {A : Around} {E : Value -> Shared -> Prop} (I : Inv X pins σ H s) (hc : X.env.code = .ref c) (hd : PySem.W.CodeHd X.base c P) (hP : H P = some (.tbl ps)) (ht : TOk H ps)
  (h : ∀ code s' H' ps', zK s.heap.objs.size P ps ps' H H' -> Inv X pins σ H' s' -> s'.gens = s.gens -> (∀ b o, b ≠ P -> s.heap.get? b = some o -> s'.heap.get? b = some o) -> Q code s') :
  wpAny (model X.prog X.w) A (genexprCode X.env pos q scope) Q E s := by
 have hd' : PySem.W.CodeHd s.heap c P := hd.keeps I.bk
 have oP : s.heap.get? P = some (PySem.W.tabObj ps) := I.hok P _ hP
 have hok : s.heap.IsCode c P ps := hd'.code oP ht.1
 have htab : s.heap.TableAt c P ps := hd'.tab oP
 cases hnf : codeAmong pos ps.toList with
 | some cv =>
  obtain ⟨o, vs, file, tf, flags, tg, inF, text, tt, op, ho, hdd, h11, h2, h7, h9, h10, hop, hpd, htr, hne⟩ := id hok
  unfold genexprCode codeAt
  rw [hc, if_neg (show ¬ ((Value.ref c == Value.none) = true) from Zr)]
  refine wpAny_bind (wpAny_fieldsOf ho hdd ?_)
  rw [h11]
  refine wpAny_bind (wpAny_fieldsOf hop hpd ?_)
  rw [hnf]
  exact wpAny_pure (h cv s H ps ⟨hP, ⟨#[], by simp⟩, ht, λ _ _ _ e => e, λ _ _ e => e⟩ I rfl λ b o _ e => e)
 | none =>
  refine wpAny_genexprCodeX hc hok htab hnf λ c' h' tk hx hge hlt hcode hrec htab' _ => ?_
  obtain ⟨c2, oc, vs, t, e2, hoc, hdd, hv⟩ := hrec
  cases e2
  exact uP I hP ht hge hoc hdd hv (λ b o hb e => hx b o hb e) htab'.2 λ hG I' => h (.ref c') _ _ _ hG I' rfl λ b o hb e => hx b o hb e
end
def Dz (J : It) (g : TG) (te : TE) (σb : St) : nJ where
 nxt := λ i H Q => J.go i H /\ ∀ x H', J.yld i H x H' -> g x σb H' λ σ2 H2 => Fits σb σ2 /\ te σ2 H2 Q
 fin := λ i H => J.stop i H
def tGen (own : List Str) (capI : List Nat) (P : Addr) (wi : TI) (g : TG) (te : TE) : qJ := λ σ H R => wi σ H λ J H1 => ∃ ps, H1 P = some (.tbl ps) /\ TOk H1 ps /\
 ∀ lo H2 ps', zK lo P ps ps' H1 H2 -> R (Dz J g te (cF own σ capI)) H2
theorem yo {A : Around} {elt tg iter : Expr} {scope : Scope} {pos : Pos} {it : Addr} {cenv : Env} {l : List Env} (h : A.frames = some l) : (A.over (iy elt tg iter scope pos it cenv) []).frames = some (cenv :: l) := by
 unfold Around.over
 show pushEnvs (Code.envs (iy elt tg iter scope pos it cenv)) (pushEnvs (envsOf []) A.frames) = _
 rw [h]; rfl
theorem BW {X : Cx} {A' : Around} {elt tg iter : Expr} {scope : Scope} {pos : Pos} {it : Addr} {cenv : Env} (hh : A'.handled = none) (hd : A'.depth <= X.A.depth + 1) (hu : A'.units <= X.A.units + 8) :
  ∀ k, dU (k + 1) X.A -> dU k (A'.in1.over (iy elt tg iter scope pos it cenv) []) := λ k r => by
 have e1 : (A'.in1.over (iy elt tg iter scope pos it cenv) []).depth = A'.depth + 1 := rfl
 have e2 : (A'.in1.over (iy elt tg iter scope pos it cenv) []).units = A'.units + 1 + 3 := rfl
 have e3 : (A'.in1.over (iy elt tg iter scope pos it cenv) []).handled = A'.handled := rfl
 have := r.dp
 have := r.un
 exact ⟨e3.trans hh, by rw [e1]; omega, by rw [e2]; omega⟩
section
variable {X : Cx} {tg iter elt : Expr} {wi : TI} {g : TG} {te : TE} {own cap : List Str} {capI : List Nat} {scope : Scope} {pos : Pos} {P : Addr} {kr : Nat}
theorem DQ (hc : X.calm = true) (hr : dU kr X.A) (B : eQ X own cap capI scope) (hown : ∀ x ∈ own, (x, NameKind.free) ∉ scope.names) (hnc : ∀ y ∈ scope.names, y.2 ≠ .cell) (h0 : scope.names.lookup (".0" : Str) = some NameKind.local)
  (hco : scope.isCoroutine = false) (htb : ∃ c, X.env.code = .ref c /\ PySem.W.CodeHd X.base c P) (hi : PI X tg iter wi) (hg : ∀ AG cs C code fp s2 H2, PG (sI X AG own cap scope cs C code fp s2 H2) tg g)
  (he : ∀ AG cs C code fp s2 H2, (∀ k, dU (k + 1) X.A -> dU k AG) -> PE (sI X AG own cap scope cs C code fp s2 H2) elt te) (hs : ∀ x, genFold iter X.env x = pure x := by intro _; rfl) :
  uA X (Ce elt tg iter scope pos) (tGen own capI P wi g te) := by
 intro pins s σ H R I h
 obtain ⟨c, hcode, hhd⟩ := htb
 refine wpAny_GeneratorExp_make hco (gB (B.cells I)) hnc h0 B.kind hr.depth ?_ hs
 refine thn (hi pins s σ H _ I h) λ v s1 h1 => thn h1 λ itv s2 h2 => ?_
 obtain ⟨it, fp, tn, J, H2, e, I2, T, st2, f2, ps, hP, htr, hR⟩ := h2
 subst e
 refine ⟨I2.nolimit, Pb I2 hcode hhd hP htr λ code s4 H4 ps' hG I4 hgens hk4 => ?_⟩
 obtain ⟨bm, ob, b1, b2, b3, b4, b5, b6⟩ := I4.mod.bmain
 refine wpAny_builtinsFor (bm := bm) (by rw [I4.ok.glob]; exact I4.mod.glob.keeps I4.bk) b1 b2 (I4.bk _ _ b3) b4 b5 b6 ?_
 intro h5 hn5 hs5
 generalize hC : s4.heap.objs.size = C at hn5 hs5 ⊢
 have hCs : s4.heap.objs.size <= C := Nat.le_of_eq hC
 have hR' := hR _ H4 ps' hG
 have k5 : ∀ b o, s4.heap.get? b = some o -> h5.get? b = some o := λ b o e => hs5.extBut b o (Zk (Zc (Ze e) hCs)) (Zb _ e)
 have sz5 : h5.objs.size = C + 1 := by rw [hs5.1, Heap.size_push, hC]
 generalize ha : h5.objs.size = a
 have hCa : C < a := by rw [<- ha, sz5]; exact Nat.lt_succ_self _
 generalize hgi : s4.gens.size = gi
 generalize hgo : ({ cls := .type "generator", data := .fields #[.int (gi : Int) 0, .str "<genexpr>" (s4.toks + 1), .str (X.env.qual ++ "<genexpr>") (s4.toks + 1 + 1)] } : Obj) = gob
 generalize hh6 : h5.push gob = h6
 have k6 : ∀ b o, h5.get? b = some o -> h6.get? b = some o := λ b o e => by rw [<- hh6]; exact Zb _ e
 have k46 : ∀ b o, s4.heap.get? b = some o -> h6.get? b = some o := λ b o e => k6 b o (k5 b o e)
 have oa6 : h6.get? a = some gob := by rw [<- hh6, <- ha]; refine Zf _ ?_; rw [<- hgo]; rfl
 have isg : ∀ {h : Heap}, h.get? a = some gob -> h.IsGen a gi := λ {h} e => ⟨gob, .str "<genexpr>" (s4.toks + 1), .str (X.env.qual ++ "<genexpr>") (s4.toks + 1 + 1), e, by rw [<- hgo], by rw [<- hgo], by rw [<- hgo]⟩
 have hfr4 : ∀ b ∈ fp, H4 b = none := λ b hb => let ⟨o, e, _⟩ := T.obj 0 _ st2 b hb; hG.none b (Ze e) (f2 b hb).1
 have f4 : ∀ b ∈ fp, jA X pins H4 b := λ b hb => ⟨hfr4 b hb, (f2 b hb).2⟩
 have hbP : ∀ b ∈ fp, b ≠ P := λ b hb z => by have n2 := (f2 b hb).1; rw [z, hP] at n2; cases n2
 have o4 : ∀ b ∈ fp, ∃ o, s4.heap.get? b = some o := λ b hb => let ⟨o, e, _⟩ := T.obj 0 _ st2 b hb; ⟨o, hk4 b o (hbP b hb) e⟩
 have st4 : tn 0 s4.heap := T.keep _ _ _ st2 λ b hb o e => hk4 b o (hbP b hb) e
 have hfa : ∀ b ∈ fp, b ≠ a /\ b ≠ C := λ b hb => let ⟨o, e⟩ := o4 b hb
  have l := Zc (Ze e) hCs
  ⟨Zk (Nat.lt_trans l hCa), Zk l⟩
 generalize hcenv : genEnv scope (bR X.env scope.names []) C code builtinsNs X.env = cenv
 have gk6 : GK s4.gens (s4.gens.push (.fresh (genS elt tg iter scope pos it cenv))) := by
  refine ⟨AllBare.push I4.bare.bare rfl, λ k x e => ?_⟩
  have hlt : k < s4.gens.size := by
   rcases Nat.lt_or_ge k s4.gens.size with z | z
   .exact z
   .rw [Array.getElem?_eq_none z] at e; cases e
  rw [Array.getElem?_push_lt hlt, <- Array.getElem?_eq_getElem hlt]; exact e
 refine ⟨a, Dz J g te (cF own σ capI), H4, rfl, I4.grown k46 gk6, ?_, hR'⟩
 intro A' hAh hAf hAd hAu
 have gi6 : (s4.gens.push (.fresh (genS elt tg iter scope pos it cenv)))[gi]? = some (.fresh (genS elt tg iter scope pos it cenv)) := by rw [<- hgi]; simp
 generalize hX' : sI X (A'.in1.over (iy elt tg iter scope pos it cenv) []) own cap scope (bR X.env scope.names []) C code fp s4 H4 = X'
 have eP : X'.prog = X.prog := by rw [<- hX']; rfl
 have eW : X'.w = X.w := by rw [<- hX']; rfl
 have eK : X'.K = X.K := by rw [<- hX']; rfl
 have eFs : X'.fs = frs X.stack := by rw [<- hX']; rfl
 have eEx : X'.ex = fp := by rw [<- hX']; rfl
 have eS : X'.s₀ = { s4 with gens := s4.gens.push .running } := by rw [<- hX']; rfl
 have eH : X'.H₀ = H4 := by rw [<- hX']; rfl
 have eL : X'.env.locals = C := by rw [<- hX']; rfl
 have eC : X'.calm = true := by rw [<- hX']; rfl
 have eX : X'.xe = λ _ _ => False := by rw [<- hX']; rfl
 have ePn : X'.pn = [] := by rw [<- hX']; rfl
 have eE : X'.env = cenv := by rw [<- hX', <- hcenv]; rfl
 have eA : X'.A = A'.in1.over (iy elt tg iter scope pos it X'.env) [] := by rw [eE, <- hX']; rfl
 have eCo : X'.env.scope.isCoroutine = false := by rw [<- hX']; exact hco
 have hg' : PG X' tg g := by rw [<- hX']; exact hg _ _ _ _ _ _ _
 have he' : PE X' elt te := by rw [<- hX']; exact he _ _ _ _ _ _ _ (BW hAh hAd hAu)
 have T' : Turn X'.prog X'.w X'.K tg J fp it tn := by rw [eP, eW, eK]; exact T
 have pfp : ∀ {Q : List (Addr × Obj)}, (∀ p ∈ Q, a < p.1) -> ∀ p ∈ (a, gob) :: Q, p.1 ∉ fp := λ {Q} hQ p hp hb => by
  obtain ⟨o, e⟩ := o4 _ hb
  have l := Zc (Ze e) hCs
  rcases Zi.mp hp with z | z
  .subst z; exact absurd (Nat.lt_trans l hCa) (Nat.lt_irrefl _)
  .exact absurd (Nat.lt_trans (Nat.lt_trans l hCa) (hQ p z)) (Nat.lt_irrefl _)
 have afs : a ∉ X'.fs := λ hz => by
  rw [eFs] at hz
  have l4 : s4.heap.objs.size <= a := Zl hCs (Nat.le_of_lt hCa)
  rcases Zi.mp (I4.stkSub a hz) with z | z
  .exact absurd I4.lt (by rw [<- z]; exact Nat.not_lt.mpr l4)
  .exact I4.nofs l4 z
 have setg : ∀ (s : Shared) (x : GenState), (s.setGen gi x).gens = s.gens.setIfInBounds gi x := λ s x => rfl
 have hSS : ∀ {Q : List (Addr × Obj)} {i : Nat} {H : Hp} {s : Shared}, (∀ p ∈ Q, a < p.1) -> Inv X' ((a, gob) :: Q) (cF own σ capI) H s -> s.heap.get? a = some gob /\ s.gens[gi]? = some .running /\
   ∀ (x : GenState) (h' : Heap) (tk : Nat), x.bare = true -> (∀ b o, s.heap.get? b = some o -> h'.get? b = some o) -> Inv X (pins ++ Q) σ H { s.setGen gi x with heap := h', toks := tk } := λ {Q i H s} hQ I' => by
  have pa := (I'.pin (a, gob) (by simp)).1
  have gr : s.gens[gi]? = some .running := I'.bare.kept gi .running (by rw [eS, <- hgi]; simp)
  refine ⟨pa, gr, λ x h' tk hx hk => ?_⟩
  have ub := I'.base
  rw [eFs, eEx, eS, eH] at ub
  have hok := I'.hok
  rw [eP, eW] at hok
  refine Inv.more ?_ λ p hp => by
   have q := I'.pin p (by simp [hp])
   have l4 : s4.heap.objs.size <= p.1 := Zl hCs (Nat.le_of_lt (Nat.lt_trans hCa (hQ p hp)))
   exact ⟨hk _ _ q.1, q.2.1, λ z => absurd I4.lt (by rw [<- z]; exact Nat.not_lt.mpr l4), I4.nofs l4, q.2.2.2.2⟩
  refine I4.call' (ch := fp) (s' := { s.setGen gi x with heap := h', toks := tk }) (by have := I'.os; rw [eS] at this; exact this)
   ⟨λ b o e n hb hx' => hk b o (ub.keep b o e n hb hx'), λ b o e n hb hx' => let ⟨sl, q⟩ := ub.slot b o e n hb hx'; ⟨sl, hk b _ q⟩, ub.free, λ b o e hx' => let ⟨o', q⟩ := ub.there b o e hx'; ⟨o', hk b o' q⟩, ub.tups, ub.frzs, ub.tbls⟩
   (hok.kept hk) ⟨λ y hy => ?_, λ k y e => ?_⟩ λ b hb => ?_
  .have hy' : y ∈ s.gens.setIfInBounds gi x := hy
   rcases Array.mem_or_eq_of_mem_setIfInBounds hy' with z | z
   .exact I'.bare.bare y z
   .rw [z]; exact hx
  .have hlt : k < gi := by
    rw [<- hgi]
    rcases Nat.lt_or_ge k s4.gens.size with z | z
    .exact z
    .rw [Array.getElem?_eq_none z] at e; cases e
   have q := I'.bare.kept k y (by rw [eS]; show (s4.gens.push .running)[k]? = some y; rw [Array.getElem?_push_lt (by rw [hgi]; exact hlt), <- Array.getElem?_eq_getElem (by rw [hgi]; exact hlt)]; exact e)
   show (s.gens.setIfInBounds gi x)[k]? = some y
   rw [Array.getElem?_setIfInBounds_ne (Nat.ne_of_gt hlt)]
   exact q
  .obtain ⟨q0, q1, q2, q3, q4, q5⟩ := f4 b hb
   exact ⟨q3, q1, q4, q5⟩
 refine ⟨a + 1, λ Q i H s => (∀ p ∈ Q, a < p.1) /\ Inv X (pins ++ Q) σ H s /\ (∃ gs, s.gens[gi]? = some gs /\ gs.bare = true /\ (gs = .fresh (genS elt tg iter scope pos it X'.env) ∨ ∃ k l p cl, gs = .suspended k l (iy elt tg iter scope pos it X'.env) p [] cl /\ k (.send .none) = .pure (.again (iy elt tg iter scope pos it X'.env)))) /\
   Inv X' ((a, gob) :: Q) (cF own σ capI) H (s.setGen gi .running) /\ tn i s.heap /\ ∀ b ∈ fp, H b = none, ⟨λ st => st.2.1, ?_, ?_, ?_, ?_, ?_, ?_⟩, ?_, Nat.lt_succ_self _, ?_, λ Q i H s st => ⟨gi, isg (hSS (i := i) st.1 st.2.2.2.1).1⟩⟩
 .
  rintro PP i H s Q E ⟨hQ, I1, ⟨gs, hgs, hb, hgs'⟩, Ib, st, fr⟩ ⟨go, step⟩
  have tr := Ew (A1 := A'.in1) (elt := elt) (tg := tg) (iter := iter) (scope := scope) (pos := pos) T' eA eC eEx ePn eCo eX hg' he' (pfp hQ) Ib st fr go step
  have oa := (hSS (i := i) hQ Ib).1
  rw [eP, eW] at tr
  refine qm hAh I1.nolimit (by have := hr.dp; omega) (isg oa) hgs (Φ := λ e s' => ∃ v k p y H', e = .susp v false [] k (iy elt tg iter scope pos it X'.env) p [] /\ k (.send .none) = .pure (.again (iy elt tg iter scope pos it X'.env)) /\ RelV y v /\ Q y H' /\ Inv X' ((a, gob) :: PP) (cF own σ capI) H' s' /\ tn (i + 1) s'.heap /\ ∀ b ∈ fp, H' b = none) ?_ ?_ ?_
  .rcases hgs' with e | ⟨k, l, p, cl, e, ek⟩
   .subst e
    exact vh (i := i) T st tr
   .subst e
    show cu _ _ _ (k (.send .none)) [] _ _
    rw [ek]
    exact cu.again rfl tr
  .rintro e s' ⟨v, k, p, y, H', rfl, _⟩
   rfl
  .rintro e s' ⟨v, k, p, y, H', rfl, ek, ry, qy, I', st', fr'⟩
   left
   refine ⟨v, false, [], k, _, p, [], rfl, v, y, H', rfl, ry, qy, ?_⟩
   obtain ⟨oa', gr', mk⟩ := hSS (i := i) hQ I'
   have e1 : ((s'.setGen gi (End.susp v false [] k (iy elt tg iter scope pos it X'.env) p []).genState).setGen gi .running) = s' := by
    have hl : gi < s'.gens.size := by
     rcases Nat.lt_or_ge gi s'.gens.size with z | z
     .exact z
     .rw [Array.getElem?_eq_none z] at gr'; cases gr'
    obtain ⟨hh, gg, dd, tt, oo⟩ := s'
    show (Shared.mk hh ((gg.setIfInBounds gi _).setIfInBounds gi .running) dd tt oo) = _
    congr 1
    apply Array.ext_getElem?
    intro j
    by_cases hj : gi = j
    .subst hj
     have gr'' : gg[gi]? = some .running := gr'
     have hl' : gi < gg.size := hl
     rw [gr'']
     simp [hl']
    .simp [hj]
   refine ⟨hQ, mk _ s'.heap s'.toks rfl λ b o e => e, ⟨_, setGen_self gr', rfl, .inr ⟨k, [], p, _, rfl, ek⟩⟩, by rw [e1]; exact I', st', fr'⟩
 .
  rintro PP i H s E ⟨hQ, I1, ⟨gs, hgs, hb, hgs'⟩, Ib, st, fr⟩ hfin
  have tr := Ez (A1 := A'.in1) (elt := elt) (tg := tg) (iter := iter) (scope := scope) (pos := pos) T' eA eC eEx ePn (pfp hQ) Ib st fr hfin
  have oa := (hSS (i := i) hQ Ib).1
  rw [eP, eW] at tr
  refine qm hAh I1.nolimit (by have := hr.dp; omega) (isg oa) hgs (Φ := λ e s' => e = .ret (.ok .next) /\ Inv X' ((a, gob) :: PP) (cF own σ capI) H s') ?_ ?_ ?_
  .rcases hgs' with e | ⟨k, l, p, cl, e, ek⟩
   .subst e
    exact vh (i := i) T st tr
   .subst e
    show cu _ _ _ (k (.send .none)) [] _ _
    rw [ek]
    exact cu.again rfl tr
  .rintro e s' ⟨rfl, _⟩
   rfl
  .rintro e s' ⟨rfl, I'⟩
   right
   obtain ⟨oa', gr', mk⟩ := hSS (i := i) hQ I'
   exact ⟨rfl, λ h' hk => ⟨rfl, mk .finished h' s'.toks rfl hk⟩⟩
 .
  rintro PP i H s h' tk ⟨hQ, I1, hgs, Ib, st, fr⟩ hk
  exact ⟨hQ, I1.kept hk, hgs, Ib.kept (s := s.setGen gi .running) hk, T.keep _ _ _ st λ b _ o e => hk b o e, fr⟩
 .
  rintro PP i H s D o ⟨hQ, I1, hgs, Ib, st, fr⟩ hD ho hn hcell
  have hDa : a < D := hD
  have hD4 : s4.heap.objs.size <= D := Nat.le_of_lt (Nat.lt_of_le_of_lt hCs (Nat.lt_trans hCa hDa))
  refine ⟨λ p hp => ?_, ?_, hgs, ?_, st, fr⟩
  .rcases Zi.mp hp with z | z
   .subst z; exact hDa
   .exact hQ p z
  .refine I1.pins_of λ p hp => ?_
   rcases Zm.mp hp with z | z
   .exact I1.pin p (by simp [z])
   .rcases Zi.mp z with z | z
    .subst z
     exact ⟨ho, hn, λ z => absurd I4.lt (by rw [<- z]; exact Nat.not_lt.mpr hD4), I4.nofs hD4, hcell⟩
    .exact I1.pin p (by simp [z])
  .refine Ib.pins_of λ p hp => ?_
   rcases Zi.mp hp with z | z
   .exact Ib.pin p (by simp [z])
   .rcases Zi.mp z with z | z
    .subst z
     refine ⟨ho, hn, by rw [eL]; exact Nat.ne_of_gt (Nat.lt_trans hCa hDa), λ hz => ?_, hcell⟩
     rw [eFs] at hz
     rcases Zi.mp (I4.stkSub D hz) with z | z
     .exact absurd I4.lt (by rw [<- z]; exact Nat.not_lt.mpr hD4)
     .exact I4.nofs hD4 z
    .exact Ib.pin p (by simp [z])
 .
  rintro p PP i H s ⟨hQ, I1, hgs, Ib, st, fr⟩
  exact ⟨λ q hq => hQ q (List.mem_cons_of_mem _ hq), I1.pins_of λ q hq => I1.pin q (by rcases Zm.mp hq with z | z <;> simp [z]), hgs, Ib.pins_of λ q hq => Ib.pin q (by rcases Zi.mp hq with z | z <;> simp [z]), st, fr⟩
 .
  rintro PP i H s h' tk D ⟨hQ, I1, hgs, Ib, st, fr⟩ hD hn hPD hk
  have hDa : a < D := hD
  have hDC : C < D := Nat.lt_trans hCa hDa
  have hD4 : s4.heap.objs.size <= D := Nat.le_of_lt (Nat.lt_of_le_of_lt hCs hDC)
  have l4 : ∀ b, b < s4.heap.objs.size -> b ≠ D := λ b hb => Zk (Zc hb hD4)
  have cl4 : ∀ x c, X.env.cells.lookup x = some c -> c ≠ D := λ x c e => let ⟨v, q⟩ := I4.cell x c e; l4 c q.lt
  refine ⟨hQ, I1.turned hk hn (Ne.symm (l4 _ I4.lt)) (.inr (Zl I4.sz hD4)) cl4 (λ p hp => ?_), hgs, Ib.turned (s := s.setGen gi .running) hk hn (by rw [eL]; exact Nat.ne_of_gt hDC) (.inr (by rw [eS]; exact hD4)) (λ x c e => ?_) (λ p hp => ?_), T.keep _ _ _ st λ b hb o e => hk b o ?_ e, fr⟩
  .rcases Zm.mp hp with z | z
   .exact l4 _ (Ze (I4.pin p (by simp [z])).1)
   .rcases Zm.mp z with z | z
    .exact l4 _ (Ze (I4.pin p (by simp [z])).1)
    .exact hPD p z
  .obtain ⟨v, q⟩ := Ib.cell x c e
   have e' : (bR X.env scope.names []).lookup x = some c := by rw [<- hX'] at e; exact e
   exact cl4 x c ((jl (Zt e')).elim (λ z => by simp at z) id)
  .rw [ePn, List.nil_append] at hp
   rcases Zi.mp hp with z | z
   .subst z; exact Zk hDa
   .exact hPD p z
  .obtain ⟨o', e'⟩ := o4 b hb
   exact l4 b (Ze e')
 .
  have Ib0 : Inv X' [] (cF own σ capI) H4 { s4 with heap := h6, toks := s4.toks + 1 + 1 + 1, gens := s4.gens.push .running } := by
   rw [<- hX']
   refine I4.gen B hown hnc f4 o4 k46 hCs (hn5.at' λ o e => k6 _ o e) ?_ hAh
   rw [hcenv]
   exact yo hAf
  refine ⟨λ p hp => absurd hp (by simp), by rw [List.append_nil]; exact (I4.grown k46 gk6 : Inv X pins σ H4 _), ⟨_, gi6, rfl, .inl (by rw [eE])⟩, ?_, T.keep _ _ _ st4 λ b _ o e => k46 b o e, hfr4⟩
  have e1 : (Shared.setGen { s4 with gens := s4.gens.push (.fresh (genS elt tg iter scope pos it cenv)), toks := s4.toks + 1 + 1 + 1, heap := h6 } gi .running) = { s4 with heap := h6, toks := s4.toks + 1 + 1 + 1, gens := s4.gens.push .running } := by
   show Shared.mk _ ((s4.gens.push _).setIfInBounds gi .running) _ _ _ = _
   congr 1
   rw [<- hgi]
   apply Array.ext_getElem?
   intro j
   by_cases hj : s4.gens.size = j
   .subst hj; simp
   .simp [hj, Array.getElem?_push, Ne.symm hj]
  rw [e1]
  exact Ib0.pins_of λ p hp => by
   obtain rfl : p = (a, gob) := by simpa using hp
   refine ⟨oa6, ?_, by rw [eL]; exact Nat.ne_of_gt hCa, afs, λ v z => ?_⟩
   .exact I4.hok.fresh (Zl hCs (Nat.le_of_lt hCa))
   .rw [<- hgo] at z; cases z
 .show a + 1 <= h6.objs.size
  rw [<- hh6, Heap.size_push, ha]
  exact Zg _
end
end L2
namespace L3
open PySem PySem.Spec PyProof.Rows L2
inductive D where
 | non | bl (b : Bool) | int (i : Int) | str (x : Str) | tup (ds : List D) | lst (ds : List D) | ro (ds : List D) | dic (kvs : List (Key × D)) | cell (n : Nat)
abbrev Mu := List (Option (List D))
abbrev En := List (Option D)
mutual
def bc (K : PySem.W.Frag) (F : Hp) (ad : List Addr) : D -> V -> Prop
 | .non, v => v = .non
 | .bl b, v => v = .bl b
 | .int i, v => v = .int i
 | .str x, v => v = .str x
 | .tup ds, v => ∃ a xs, v = .ref a /\ SqT K F a xs /\ az K F ad ds xs
 | .lst ds, v => ∃ a xs, v = .ref a /\ F a = some (.lst xs) /\ az K F ad ds xs
 | .ro ds, v => ∃ a xs, v = .ref a /\ SqL K F a xs /\ az K F ad ds xs
 | .dic kvs, v => ∃ a ps, v = .ref a /\ F a = some (.dK ps) /\ gK K F ad kvs ps
 | .cell n, v => ∃ a, v = .ref a /\ ad[n]? = some a
def az (K : PySem.W.Frag) (F : Hp) (ad : List Addr) : List D -> List V -> Prop
 | [], vs => vs = []
 | d :: ds, vs => ∃ u us, vs = u :: us /\ bc K F ad d u /\ az K F ad ds us
def gK (K : PySem.W.Frag) (F : Hp) (ad : List Addr) : List (Key × D) -> List (Key × V) -> Prop
 | [], vs => vs = []
 | p :: ds, vs => ∃ u us, vs = u :: us /\ (u.1 = p.1 /\ bc K F ad p.2 u.2) /\ gK K F ad ds us
end
def my (a b : List Addr) : Prop := ∀ (i : Nat) x, a[i]? = some x -> b[i]? = some x
theorem my.refl (a : List Addr) : my a a := λ _ _ e => e
theorem my.trans {a b c : List Addr} (x : my a b) (y : my b c) : my a c := λ i z e => y i z (x i z e)
theorem SqT.mono {K : PySem.W.Frag} {F F' : Hp} {a : Addr} {xs : List V} (s : jZ F F') (h : SqT K F a xs) : SqT K F' a xs := by
 rcases h with (h | ⟨o, h⟩) | h
 .exact .inl (.inl (s _ _ h))
 .exact .inl (.inr ⟨o, s _ _ h⟩)
 .exact .inr h
theorem SqL.mono {K : PySem.W.Frag} {F F' : Hp} {a : Addr} {xs : List V} (s : jZ F F') (h : SqL K F a xs) : SqL K F' a xs := by
 rcases h with (h | ⟨o, h⟩) | h
 .exact .inl (.inl (s _ _ h))
 .exact .inl (.inr ⟨o, s _ _ h⟩)
 .exact .inr h
section
variable {K : PySem.W.Frag} {F F' : Hp} {ad ad' : List Addr}
mutual
theorem bc.mono (s : jZ F F') (l : my ad ad') : ∀ (d : D) (v : V), bc K F ad d v -> bc K F' ad' d v
 | .non, v, h => by unfold bc at h ⊢; exact h
 | .bl _, v, h => by unfold bc at h ⊢; exact h
 | .int _, v, h => by unfold bc at h ⊢; exact h
 | .str _, v, h => by unfold bc at h ⊢; exact h
 | .tup ds, v, h => by
  unfold bc at h ⊢
  obtain ⟨a, xs, e, q, r⟩ := h
  exact ⟨a, xs, e, SqT.mono s q, az.mono s l ds xs r⟩
 | .lst ds, v, h => by
  unfold bc at h ⊢
  obtain ⟨a, xs, e, q, r⟩ := h
  exact ⟨a, xs, e, s _ _ q, az.mono s l ds xs r⟩
 | .ro ds, v, h => by
  unfold bc at h ⊢
  obtain ⟨a, xs, e, q, r⟩ := h
  exact ⟨a, xs, e, SqL.mono s q, az.mono s l ds xs r⟩
 | .dic kvs, v, h => by
  unfold bc at h ⊢
  obtain ⟨a, ps, e, q, r⟩ := h
  exact ⟨a, ps, e, s _ _ q, gK.mono s l kvs ps r⟩
 | .cell n, v, h => by
  unfold bc at h ⊢
  obtain ⟨a, e, q⟩ := h
  exact ⟨a, e, l _ _ q⟩
theorem az.mono (s : jZ F F') (l : my ad ad') : ∀ (ds : List D) (vs : List V), az K F ad ds vs -> az K F' ad' ds vs
 | [], vs, h => by unfold az at h ⊢; exact h
 | d :: ds, vs, h => by
  unfold az at h ⊢
  obtain ⟨u, us, e, p, r⟩ := h
  exact ⟨u, us, e, bc.mono s l d u p, az.mono s l ds us r⟩
theorem gK.mono (s : jZ F F') (l : my ad ad') : ∀ (ds : List (Key × D)) (vs : List (Key × V)), gK K F ad ds vs -> gK K F' ad' ds vs
 | [], vs, h => by unfold gK at h ⊢; exact h
 | p :: ds, vs, h => by
  unfold gK at h ⊢
  obtain ⟨u, us, e, ⟨p1, p2⟩, r⟩ := h
  exact ⟨u, us, e, ⟨p1, bc.mono s l p.2 u.2 p2⟩, gK.mono s l ds us r⟩
end
theorem az.nil : az K F ad [] [] := by unfold az; rfl
theorem az.cons {d : D} {v : V} {ds : List D} {vs : List V} (h : bc K F ad d v) (r : az K F ad ds vs) : az K F ad (d :: ds) (v :: vs) := by unfold az; exact ⟨v, vs, rfl, h, r⟩
theorem az.length : ∀ {ds : List D} {vs : List V}, az K F ad ds vs -> ds.length = vs.length
 | [], vs, h => by unfold az at h; subst h; rfl
 | d :: ds, vs, h => by
  unfold az at h
  obtain ⟨u, us, rfl, _, r⟩ := h
  rw [List.length_cons, List.length_cons, az.length r]
theorem az.get : ∀ {ds : List D} {vs : List V} {i : Nat} {d : D}, az K F ad ds vs -> ds[i]? = some d -> ∃ v, vs[i]? = some v /\ bc K F ad d v
 | [], _, _, _, _, e => by simp at e
 | d :: ds, vs, 0, x, h, e => by
  unfold az at h
  obtain ⟨u, us, rfl, p, r⟩ := h
  simp at e; subst e
  exact ⟨u, rfl, p⟩
 | d :: ds, vs, i + 1, x, h, e => by
  unfold az at h
  obtain ⟨u, us, rfl, p, r⟩ := h
  obtain ⟨v, e1, e2⟩ := az.get (i := i) r (by simpa using e)
  exact ⟨v, by simpa using e1, e2⟩
theorem az.get' : ∀ {ds : List D} {vs : List V} {i : Nat} {v : V}, az K F ad ds vs -> vs[i]? = some v -> ∃ d, ds[i]? = some d /\ bc K F ad d v
 | [], vs, i, v, h, e => by unfold az at h; subst h; simp at e
 | d :: ds, vs, 0, x, h, e => by
  unfold az at h
  obtain ⟨u, us, rfl, p, r⟩ := h
  simp at e; subst e
  exact ⟨d, rfl, p⟩
 | d :: ds, vs, i + 1, x, h, e => by
  unfold az at h
  obtain ⟨u, us, rfl, p, r⟩ := h
  obtain ⟨y, e1, e2⟩ := az.get' (i := i) r (by simpa using e)
  exact ⟨y, by simpa using e1, e2⟩
theorem az.append : ∀ {ds es : List D} {vs us : List V}, az K F ad ds vs -> az K F ad es us -> az K F ad (ds ++ es) (vs ++ us)
 | [], es, vs, us, h, r => by unfold az at h; subst h; exact r
 | d :: ds, es, vs, us, h, r => by
  unfold az at h
  obtain ⟨u, ws, rfl, p, q⟩ := h
  exact az.cons p (az.append q r)
theorem az.drop : ∀ {ds : List D} {vs : List V} (n : Nat), az K F ad ds vs -> az K F ad (ds.drop n) (vs.drop n)
 | ds, vs, 0, h => h
 | [], vs, n + 1, h => by unfold az at h; subst h; exact az.nil
 | d :: ds, vs, n + 1, h => by
  unfold az at h
  obtain ⟨u, ws, rfl, p, q⟩ := h
  exact az.drop n q
theorem az.take : ∀ {ds : List D} {vs : List V} (n : Nat), az K F ad ds vs -> az K F ad (ds.take n) (vs.take n)
 | ds, vs, 0, h => az.nil
 | [], vs, n + 1, h => by unfold az at h; subst h; exact az.nil
 | d :: ds, vs, n + 1, h => by
  unfold az at h
  obtain ⟨u, ws, rfl, p, q⟩ := h
  exact az.cons p (az.take n q)
theorem az.two {d e : D} {vs : List V} (h : az K F ad [d, e] vs) : ∃ u v, vs = [u, v] /\ bc K F ad d u /\ bc K F ad e v := by
 unfold az at h
 obtain ⟨u, us, rfl, p, h⟩ := h
 unfold az at h
 obtain ⟨v, ws, rfl, q, h⟩ := h
 unfold az at h
 subst h
 exact ⟨u, v, rfl, p, q⟩
theorem az.one {d : D} {vs : List V} (h : az K F ad [d] vs) : ∃ u, vs = [u] /\ bc K F ad d u := by
 unfold az at h
 obtain ⟨u, us, rfl, p, h⟩ := h
 unfold az at h
 subst h
 exact ⟨u, rfl, p⟩
theorem az.zero {vs : List V} (h : az K F ad [] vs) : vs = [] := by unfold az at h; exact h
end
structure Wd where
 H : Hp
 ad : List Addr
 mu : Mu
def kO (ad : List Addr) (mu : Mu) (b : Addr) : Prop := ∃ (i : Nat) (ds : List D), ad[i]? = some b /\ mu[i]? = some (some ds)
open Classical in
noncomputable def Wd.fz (tb : List Addr) (W : Wd) : Hp := λ b => if kO W.ad W.mu b ∨ b ∈ tb then none else W.H b
abbrev Den (K : PySem.W.Frag) (tb : List Addr) (W : Wd) : D -> V -> Prop := bc K (W.fz tb) W.ad
abbrev bN (K : PySem.W.Frag) (tb : List Addr) (W : Wd) : List D -> List V -> Prop := az K (W.fz tb) W.ad
structure WOk (K : PySem.W.Frag) (tb : List Addr) (W : Wd) : Prop where
 len : W.ad.length = W.mu.length
 cont : ∀ (i : Nat) a ds, W.ad[i]? = some a -> W.mu[i]? = some (some ds) -> ∃ xs, W.H a = some (.lst xs) /\ bN K tb W ds xs
 inj : ∀ (i j : Nat) a ds es, W.ad[i]? = some a -> W.ad[j]? = some a -> W.mu[i]? = some (some ds) -> W.mu[j]? = some (some es) -> i = j
 tab : ∀ P ∈ tb, ∃ ps, W.H P = some (.tbl ps) /\ TOk W.H ps
structure Le (tb : List Addr) (W W' : Wd) : Prop where
 same : jZ (W.fz tb) (W'.fz tb)
 ad : my W.ad W'.ad
theorem Le.refl {tb : List Addr} (W : Wd) : Le tb W W := ⟨jZ.refl _, my.refl _⟩
theorem Le.trans {tb : List Addr} {W W1 W2 : Wd} (a : Le tb W W1) (b : Le tb W1 W2) : Le tb W W2 := ⟨a.same.trans b.same, a.ad.trans b.ad⟩
section
variable {K : PySem.W.Frag} {tb : List Addr} {W W' : Wd} {d : D} {v : V} {ds : List D} {vs : List V}
theorem Den.mono' (h : Den K tb W d v) (l : Le tb W W') : Den K tb W' d v := bc.mono l.same l.ad d v h
theorem bN.mono' (h : bN K tb W ds vs) (l : Le tb W W') : bN K tb W' ds vs := az.mono l.same l.ad ds vs h
theorem cY {b : Addr} {o : HO} (h : W.fz tb b = some o) : W.H b = some o /\ ¬ kO W.ad W.mu b /\ b ∉ tb := by
 unfold Wd.fz at h
 split at h
 .cases h
 .rename_i q
  exact ⟨h, λ z => q (.inl z), λ z => q (.inr z)⟩
theorem mG {b : Addr} (h1 : ¬ kO W.ad W.mu b) (h2 : b ∉ tb) : W.fz tb b = W.H b := by
 unfold Wd.fz
 rw [if_neg]
 rintro (z | z)
 .exact h1 z
 .exact h2 z
theorem SqT.fz {a : Addr} {xs : List V} (h : SqT K (W.fz tb) a xs) : SqT K W.H a xs := by
 rcases h with (h | ⟨o, h⟩) | h
 .exact .inl (.inl (cY h).1)
 .exact .inl (.inr ⟨o, (cY h).1⟩)
 .exact .inr h
theorem SqL.fz {a : Addr} {xs : List V} (h : SqL K (W.fz tb) a xs) : SqL K W.H a xs := by
 rcases h with (h | ⟨o, h⟩) | h
 .exact .inl (.inl (cY h).1)
 .exact .inl (.inr ⟨o, (cY h).1⟩)
 .exact .inr h
theorem WOk.live (ok : WOk K tb W) {b : Addr} (h : kO W.ad W.mu b) : ∃ xs, W.H b = some (.lst xs) := by
 obtain ⟨i, ds, e1, e2⟩ := h
 obtain ⟨xs, e, _⟩ := ok.cont i b ds e1 e2
 exact ⟨xs, e⟩
theorem WOk.alloc (ok : WOk K tb W) {p : Addr} {o : HO} (hp : W.H p = none) : WOk K tb ⟨upd W.H p o, W.ad, W.mu⟩ /\ Le tb W ⟨upd W.H p o, W.ad, W.mu⟩ /\ (Wd.fz tb ⟨upd W.H p o, W.ad, W.mu⟩) p = some o := by
 have nl : ¬ kO W.ad W.mu p := λ z => by obtain ⟨xs, e⟩ := ok.live z; rw [hp] at e; cases e
 have nt : p ∉ tb := λ z => by obtain ⟨ps, e, _⟩ := ok.tab p z; rw [hp] at e; cases e
 have le : Le tb W ⟨upd W.H p o, W.ad, W.mu⟩ := ⟨λ b u e => by
  obtain ⟨e1, e2, e3⟩ := cY e
  have hb : b ≠ p := cz e1 hp
  have q := mG (tb := tb) (W := ⟨upd W.H p o, W.ad, W.mu⟩) e2 e3
  rw [q]
  show upd W.H p o b = some u
  rw [aN hb]; exact e1, my.refl _⟩
 refine ⟨⟨ok.len, λ i a ds e1 e2 => ?_, ok.inj, λ P hP => ?_⟩, le, ?_⟩
 .obtain ⟨xs, e, r⟩ := ok.cont i a ds e1 e2
  refine ⟨xs, ?_, bN.mono' r le⟩
  show upd W.H p o a = _
  rw [aN (cz e hp)]; exact e
 .obtain ⟨ps, e, r⟩ := ok.tab P hP
  refine ⟨ps, ?_, r.mono λ c u q => (aN (cz q hp)).trans q⟩
  show upd W.H p o P = _
  rw [aN (cz e hp)]; exact e
 .have q := mG (tb := tb) (W := ⟨upd W.H p o, W.ad, W.mu⟩) nl nt
  rw [q]; exact dC
theorem WOk.new (ok : WOk K tb W) {p : Addr} (hp : W.H p = none) (r : bN K tb W ds vs) :
  WOk K tb ⟨upd W.H p (.lst vs), W.ad ++ [p], W.mu ++ [some ds]⟩ /\ Le tb W ⟨upd W.H p (.lst vs), W.ad ++ [p], W.mu ++ [some ds]⟩ /\ Den K tb ⟨upd W.H p (.lst vs), W.ad ++ [p], W.mu ++ [some ds]⟩ (.cell W.mu.length) (.ref p) := by
 have adl : my W.ad (W.ad ++ [p]) := λ i x e => by
  rw [Zs (Zh.mp e).1]; exact e
 have lv : ∀ b, kO (W.ad ++ [p]) (W.mu ++ [some ds]) b -> kO W.ad W.mu b ∨ b = p := λ b zq1 => by
  obtain ⟨i, es, e1, e2⟩ := zq1
  by_cases hi : i < W.ad.length
  .rw [Zs hi] at e1
   rw [Zs (by rw [<- ok.len]; exact hi)] at e2
   exact .inl ⟨i, es, e1, e2⟩
  .rw [List.getElem?_append_right (Nat.le_of_not_lt hi)] at e1
   right
   have : (i - W.ad.length) = 0 := by
    have := (Zh.mp e1).1
    simp at this
    omega
   rw [this] at e1
   simpa using e1.symm
 have le : Le tb W ⟨upd W.H p (.lst vs), W.ad ++ [p], W.mu ++ [some ds]⟩ := ⟨λ b u e => by
  obtain ⟨e1, e2, e3⟩ := cY e
  have hb : b ≠ p := cz e1 hp
  have q := mG (tb := tb) (W := ⟨upd W.H p (.lst vs), W.ad ++ [p], W.mu ++ [some ds]⟩) (b := b) (λ z => (lv b z).elim e2 hb) e3
  rw [q]
  show upd W.H p (.lst vs) b = some u
  rw [aN hb]; exact e1, adl⟩
 refine ⟨⟨by simp [ok.len], λ i a es e1 e2 => ?_, λ i j a es fs e1 e2 e3 e4 => ?_, λ P hP => ?_⟩, le, ?_⟩
 .by_cases hi : i < W.ad.length
  .have e1' : W.ad[i]? = some a := by rw [<- Zs (l₂ := [p]) hi]; exact e1
   have e2' : W.mu[i]? = some (some es) := by rw [<- Zs (l₂ := [some ds]) (by rw [<- ok.len]; exact hi)]; exact e2
   obtain ⟨xs, e, q⟩ := ok.cont i a es e1' e2'
   refine ⟨xs, ?_, bN.mono' q le⟩
   show upd W.H p (.lst vs) a = _
   rw [aN (cz e hp)]; exact e
  .have h0 : i = W.ad.length := by
    have h1 : i < (W.ad ++ [p]).length := (Zh.mp e1).1
    simp at h1
    omega
   have e1' : (W.ad ++ [p])[i]? = some a := e1
   have e2' : (W.mu ++ [some ds])[i]? = some (some es) := e2
   rw [h0] at e1' e2'
   rw [ok.len] at e2'
   simp at e1' e2'
   subst e1' e2'
   exact ⟨vs, dC, bN.mono' r le⟩
 .have old : ∀ (k : Nat) es, (W.ad ++ [p])[k]? = some a -> (W.mu ++ [some ds])[k]? = some (some es) -> (k < W.ad.length /\ W.ad[k]? = some a /\ W.mu[k]? = some (some es)) ∨ (k = W.ad.length /\ a = p) := λ k es q1 q2 => by
   by_cases hk : k < W.ad.length
   .left
    refine ⟨hk, ?_, ?_⟩
    .rw [<- Zs (l₂ := [p]) hk]; exact q1
    .rw [<- Zs (l₂ := [some ds]) (by rw [<- ok.len]; exact hk)]; exact q2
   .right
    have h1 : k < (W.ad ++ [p]).length := (Zh.mp q1).1
    simp at h1
    have h0 : k = W.ad.length := by omega
    subst h0
    simp at q1
    exact ⟨rfl, q1.symm⟩
  rcases old i es e1 e3 with ⟨_, a1, a2⟩ | ⟨a1, a2⟩ <;> rcases old j fs e2 e4 with ⟨_, b1, b2⟩ | ⟨b1, b2⟩
  .exact ok.inj i j a es fs a1 b1 a2 b2
  .obtain ⟨xs, e, _⟩ := ok.cont i a es a1 a2
   rw [b2, hp] at e; cases e
  .obtain ⟨xs, e, _⟩ := ok.cont j a fs b1 b2
   rw [a2, hp] at e; cases e
  .rw [a1, b1]
 .obtain ⟨ps, e, q⟩ := ok.tab P hP
  refine ⟨ps, ?_, q.mono λ c u q => (aN (cz q hp)).trans q⟩
  show upd W.H p (.lst vs) P = _
  rw [aN (cz e hp)]; exact e
 .show bc K _ _ (.cell W.mu.length) (.ref p)
  unfold bc
  refine ⟨p, rfl, ?_⟩
  rw [<- ok.len]
  simp
theorem WOk.write (ok : WOk K tb W) {i : Nat} {a : Addr} {es : List D} (e1 : W.ad[i]? = some a) (e2 : W.mu[i]? = some (some es)) (r : bN K tb W ds vs) :
  WOk K tb ⟨upd W.H a (.lst vs), W.ad, W.mu.set i (some ds)⟩ /\ Le tb W ⟨upd W.H a (.lst vs), W.ad, W.mu.set i (some ds)⟩ := by
 have hi : i < W.mu.length := (Zh.mp e2).1
 have lv : ∀ b, kO W.ad (W.mu.set i (some ds)) b -> kO W.ad W.mu b := λ b zq2 => by
  obtain ⟨j, fs, q1, q2⟩ := zq2
  by_cases hj : i = j
  .subst hj; exact ⟨i, es, q1, e2⟩
  .rw [List.getElem?_set_ne hj] at q2; exact ⟨j, fs, q1, q2⟩
 have la : kO W.ad W.mu a := ⟨i, es, e1, e2⟩
 have le : Le tb W ⟨upd W.H a (.lst vs), W.ad, W.mu.set i (some ds)⟩ := ⟨λ b u e => by
  obtain ⟨p1, p2, p3⟩ := cY e
  have hb : b ≠ a := λ z => p2 (z ▸ la)
  have q := mG (tb := tb) (W := ⟨upd W.H a (.lst vs), W.ad, W.mu.set i (some ds)⟩) (b := b) (λ z => p2 (lv b z)) p3
  rw [q]
  show upd W.H a (.lst vs) b = some u
  rw [aN hb]; exact p1, my.refl _⟩
 refine ⟨⟨by show W.ad.length = (W.mu.set i (some ds)).length; rw [List.length_set]; exact ok.len, λ j b fs q1 q2 => ?_, λ j k b fs gs q1 q2 q3 q4 => ?_, λ P hP => ?_⟩, le⟩
 .have q2' : (W.mu.set i (some ds))[j]? = some (some fs) := q2
  by_cases hj : i = j
  .subst hj
   have q1' : W.ad[i]? = some b := q1
   rw [e1] at q1'; cases q1'
   rw [List.getElem?_set_self hi] at q2'
   cases q2'
   exact ⟨vs, dC, bN.mono' r le⟩
  .rw [List.getElem?_set_ne hj] at q2'
   obtain ⟨xs, e, q⟩ := ok.cont j b fs q1 q2'
   refine ⟨xs, ?_, bN.mono' q le⟩
   show upd W.H a (.lst vs) b = _
   have hba : b ≠ a := by
    intro z
    subst z
    exact hj (ok.inj i j b es fs e1 q1 e2 q2')
   rw [aN hba]; exact e
 .have up : ∀ (j : Nat) fs, (W.mu.set i (some ds))[j]? = some (some fs) -> ∃ gs, W.mu[j]? = some (some gs) := λ j fs q => by
   by_cases hj : i = j
   .subst hj; exact ⟨es, e2⟩
   .rw [List.getElem?_set_ne hj] at q; exact ⟨fs, q⟩
  obtain ⟨fs', q3'⟩ := up j fs q3
  obtain ⟨gs', q4'⟩ := up k gs q4
  exact ok.inj j k b fs' gs' q1 q2 q3' q4'
 .obtain ⟨ps, e, q⟩ := ok.tab P hP
  obtain ⟨xs, ea, _⟩ := ok.cont i a es e1 e2
  refine ⟨ps, ?_, q.mono λ c u q => (aN (xJ q ea (by intro z; cases z))).trans q⟩
  show upd W.H a (.lst vs) P = _
  rw [aN (xJ e ea (by intro z; cases z))]; exact e
theorem WOk.freeze (ok : WOk K tb W) {i : Nat} {a : Addr} {es : List D} (e1 : W.ad[i]? = some a) (e2 : W.mu[i]? = some (some es)) :
  WOk K tb ⟨W.H, W.ad, W.mu.set i none⟩ /\ Le tb W ⟨W.H, W.ad, W.mu.set i none⟩ /\ Den K tb ⟨W.H, W.ad, W.mu.set i none⟩ (.lst es) (.ref a) := by
 have hi : i < W.mu.length := (Zh.mp e2).1
 have up : ∀ (j : Nat) fs, (W.mu.set i none)[j]? = some (some fs) -> i ≠ j /\ W.mu[j]? = some (some fs) := λ j fs q => by
  by_cases hj : i = j
  .subst hj; rw [List.getElem?_set_self hi] at q; cases q
  .rw [List.getElem?_set_ne hj] at q; exact ⟨hj, q⟩
 have lv : ∀ b, kO W.ad (W.mu.set i none) b -> kO W.ad W.mu b := λ b ⟨j, fs, q1, q2⟩ => ⟨j, fs, q1, (up j fs q2).2⟩
 have le : Le tb W ⟨W.H, W.ad, W.mu.set i none⟩ := ⟨λ b u e => by
  obtain ⟨p1, p2, p3⟩ := cY e
  have q := mG (tb := tb) (W := ⟨W.H, W.ad, W.mu.set i none⟩) (b := b) (λ z => p2 (lv b z)) p3
  rw [q]; exact p1, my.refl _⟩
 obtain ⟨xs, ea, ra⟩ := ok.cont i a es e1 e2
 refine ⟨⟨by show W.ad.length = (W.mu.set i none).length; rw [List.length_set]; exact ok.len, λ j b fs q1 q2 => ?_, λ j k b fs gs q1 q2 q3 q4 => ?_, ok.tab⟩, le, ?_⟩
 .obtain ⟨xs, e, q⟩ := ok.cont j b fs q1 (up j fs q2).2
  exact ⟨xs, e, bN.mono' q le⟩
 .exact ok.inj j k b fs gs q1 q2 (up j fs q3).2 (up k gs q4).2
 .show bc K _ _ (.lst es) (.ref a)
  unfold bc
  refine ⟨a, xs, rfl, ?_, bN.mono' ra le⟩
  have nl : ¬ kO W.ad (W.mu.set i none) a := λ zq3 => by
   obtain ⟨j, fs, q1, q2⟩ := zq3
   obtain ⟨hj, q⟩ := up j fs q2
   exact hj (ok.inj i j a es fs e1 q1 e2 q)
  have nt : a ∉ tb := λ z => by
   obtain ⟨ps, e, _⟩ := ok.tab a z
   rw [ea] at e; cases e
  have q := mG (tb := tb) (W := ⟨W.H, W.ad, W.mu.set i none⟩) nl nt
  rw [q]; exact ea
theorem WOk.tbl (ok : WOk K tb W) {P : Addr} {lo : Nat} {ps ps' : Array Value} {H' : Hp} (hP : P ∈ tb) (e : W.H P = some (.tbl ps)) (hG : zK lo P ps ps' W.H H') :
  WOk K tb ⟨H', W.ad, W.mu⟩ /\ Le tb W ⟨H', W.ad, W.mu⟩ := by
 have le : Le tb W ⟨H', W.ad, W.mu⟩ := ⟨λ b u q => by
  obtain ⟨p1, p2, p3⟩ := cY q
  have q := mG (tb := tb) (W := ⟨H', W.ad, W.mu⟩) (b := b) p2 p3
  rw [q]
  exact hG.keep b u (λ z => p3 (z ▸ hP)) p1, my.refl _⟩
 refine ⟨⟨ok.len, λ i a ds e1 e2 => ?_, ok.inj, λ Q hQ => ?_⟩, le⟩
 .obtain ⟨xs, ea, r⟩ := ok.cont i a ds e1 e2
  exact ⟨xs, hG.keep a _ (xJ ea e (by intro z; cases z)) ea, bN.mono' r le⟩
 .by_cases hq : Q = P
  .subst hq; exact ⟨ps', hG.tab, hG.ok⟩
  .obtain ⟨qs, e', r⟩ := ok.tab Q hQ
   exact ⟨qs, hG.keep Q _ hq e', r.mono λ c u q => hG.keep c _ (xJ q e (by intro z; cases z)) q⟩
end
abbrev SV := L2.St
abbrev EF := En -> Mu -> Option (D × Mu)
abbrev AF := En -> Mu -> Option (List D × Mu)
abbrev TF := En -> Mu -> Option (Bool × Mu)
inductive Fl where
 | nx | bk | ct | rt (d : D)
abbrev SF := En -> Mu -> Option (Fl × En × Mu)
def gO (K : PySem.W.Frag) (tb : List Addr) (W : Wd) (δ : En) (σ : SV) : Prop := δ.length = σ.length /\ ∀ (i : Nat) d, δ[i]? = some (some d) -> ∃ v, σ[i]? = some (some v) /\ Den K tb W d v
section
variable {K : PySem.W.Frag} {tb : List Addr} {W W' : Wd} {δ : En} {σ : SV}
theorem gO.mono' (h : gO K tb W δ σ) (l : Le tb W W') : gO K tb W' δ σ := ⟨h.1, λ i d e => let ⟨v, e1, e2⟩ := h.2 i d e; ⟨v, e1, Den.mono' e2 l⟩⟩
theorem gO.set (h : gO K tb W δ σ) {i : Nat} {d : D} {v : V} (r : Den K tb W d v) : gO K tb W (δ.set i (some d)) (σ.set i (some v)) := by
 refine ⟨by rw [List.length_set, List.length_set]; exact h.1, λ j e q => ?_⟩
 by_cases hj : i = j
 .subst hj
  have hi : i < δ.length := by
   have := (Zh.mp q).1
   rwa [List.length_set] at this
  rw [List.getElem?_set_self hi] at q
  cases q
  exact ⟨v, by rw [List.getElem?_set_self (by rw [<- h.1]; exact hi)], r⟩
 .rw [List.getElem?_set_ne hj] at q ⊢
  exact h.2 j e q
end
def tD (K : PySem.W.Frag) (tb : List Addr) (f : EF) : TE := λ σ H Q => ∃ W δ d μ', W.H = H /\ WOk K tb W /\ gO K tb W δ σ /\ f δ W.mu = some (d, μ') /\
 ∀ v W', WOk K tb W' -> Le tb W W' -> W'.mu = μ' -> Den K tb W' d v -> Q v W'.H
def tDA (K : PySem.W.Frag) (tb : List Addr) (f : AF) : TA := λ σ H Q => ∃ W δ ds μ', W.H = H /\ WOk K tb W /\ gO K tb W δ σ /\ f δ W.mu = some (ds, μ') /\
 ∀ vs W', WOk K tb W' -> Le tb W W' -> W'.mu = μ' -> bN K tb W' ds vs -> Q vs W'.H
def tDT (K : PySem.W.Frag) (tb : List Addr) (f : TF) : TT := λ σ H Q => ∃ W δ b μ', W.H = H /\ WOk K tb W /\ gO K tb W δ σ /\ f δ W.mu = some (b, μ') /\
 ∀ W', WOk K tb W' -> Le tb W W' -> W'.mu = μ' -> Q b W'.H
def EndD (K : PySem.W.Frag) (tb : List Addr) (E : Ends) (fl : Fl) (σ : SV) (W : Wd) : Prop := match fl with
 | .nx => E.nx σ W.H
 | .bk => E.bk σ W.H
 | .ct => E.ct σ W.H
 | .rt d => ∀ v, Den K tb W d v -> E.rt v W.H
def tDS (K : PySem.W.Frag) (tb : List Addr) (g : SF) : TS := λ E σ H => ∃ W δ fl δ' μ', W.H = H /\ WOk K tb W /\ gO K tb W δ σ /\ g δ W.mu = some (fl, δ', μ') /\
 ∀ σ' W', WOk K tb W' -> Le tb W W' -> W'.mu = μ' -> gO K tb W' δ' σ' -> EndD K tb E fl σ' W'
def PD (X : Cx) (tb : List Addr) (e : Expr) (f : EF) : Prop := PE X e (tD X.K tb f)
def PAD (X : Cx) (tb : List Addr) (es : List Expr) (f : AF) : Prop := PA X es (tDA X.K tb f)
def PTD (X : Cx) (tb : List Addr) (e : Expr) (f : TF) : Prop := PT X e (tDT X.K tb f)
def PWD (X : Cx) (tb : List Addr) (e : Expr) (f : TF) : Prop := PW X e (tDT X.K tb f)
def PSD (X : Cx) (tb : List Addr) (st : Stmt) (g : SF) : Prop := PS X st (tDS X.K tb g)
def ue (X : Cx) (tb : List Addr) (st : List Stmt) (g : SF) : Prop := PSs X st (tDS X.K tb g)
theorem dO {X : Cx} {e : Expr} {t t' : TE} (h : PE X e t) (k : ∀ σ H Q, t' σ H Q -> t σ H Q) : PE X e t' := λ pins s σ H Q I hq => h pins s σ H Q I (k σ H Q hq)
theorem Fx {X : Cx} {e : List Expr} {t t' : TA} (h : PA X e t) (k : ∀ σ H Q, t' σ H Q -> t σ H Q) : PA X e t' := λ pos pins s σ H Q I hq => h pos pins s σ H Q I (k σ H Q hq)
theorem Gp {X : Cx} {e : Expr} {t t' : TT} (h : PT X e t) (k : ∀ σ H Q, t' σ H Q -> t σ H Q) : PT X e t' := λ pins s σ H Q I hq => h pins s σ H Q I (k σ H Q hq)
theorem JN {X : Cx} {e : Expr} {t t' : TT} (h : PW X e t) (k : ∀ σ H Q, t' σ H Q -> t σ H Q) : PW X e t' := λ wh pins s σ H Q I hq => h wh pins s σ H Q I (k σ H Q hq)
theorem mK {X : Cx} {e : Stmt} {t t' : TS} (h : PS X e t) (k : ∀ E σ H, t' E σ H -> t E σ H) : PS X e t' := λ pins s σ H E I hq => h pins s σ H E I (k E σ H hq)
theorem Ep {X : Cx} {e : List Stmt} {t t' : TS} (h : PSs X e t) (k : ∀ E σ H, t' E σ H -> t E σ H) : PSs X e t' := λ pins s σ H E I hq => h pins s σ H E I (k E σ H hq)
def ao (i : Nat) : EF := λ δ μ => match δ[i]? with
 | some (some d) => some (d, μ)
 | _ => none
def mC (d : D) : EF := λ _ μ => some (d, μ)
def M1 (fa : EF) (op : D -> Mu -> Option (D × Mu)) : EF := λ δ μ => (fa δ μ).bind λ r => op r.1 r.2
def M2 (fa fb : EF) (op : D -> D -> Mu -> Option (D × Mu)) : EF := λ δ μ => (fa δ μ).bind λ r => (fb δ r.2).bind λ q => op r.1 q.1 q.2
def aG : AF := λ _ μ => some ([], μ)
def aq (f : EF) (fs : AF) : AF := λ δ μ => (f δ μ).bind λ r => (fs δ r.2).bind λ q => some (r.1 :: q.1, q.2)
def MC (fs : AF) (op : List D -> Mu -> Option (D × Mu)) : EF := λ δ μ => (fs δ μ).bind λ r => op r.1 r.2
def RD1 (K : PySem.W.Frag) (tb : List Addr) (r : V -> Hp -> VK -> Prop) (op : D -> Mu -> Option (D × Mu)) : Prop := ∀ (W : Wd) (x : D) (v : V) (d : D) (μ' : Mu) (Q : VK), WOk K tb W -> Den K tb W x v -> op x W.mu = some (d, μ') ->
 (∀ v W', WOk K tb W' -> Le tb W W' -> W'.mu = μ' -> Den K tb W' d v -> Q v W'.H) -> r v W.H Q
def RD2 (K : PySem.W.Frag) (tb : List Addr) (r : R2) (op : D -> D -> Mu -> Option (D × Mu)) : Prop := ∀ (W : Wd) (x y : D) (v u : V) (d : D) (μ' : Mu) (Q : VK), WOk K tb W -> Den K tb W x v -> Den K tb W y u -> op x y W.mu = some (d, μ') ->
 (∀ v W', WOk K tb W' -> Le tb W W' -> W'.mu = μ' -> Den K tb W' d v -> Q v W'.H) -> r v u W.H Q
def RDN (K : PySem.W.Frag) (tb : List Addr) (r : List V -> Hp -> VK -> Prop) (op : List D -> Mu -> Option (D × Mu)) : Prop := ∀ (W : Wd) (xs : List D) (vs : List V) (d : D) (μ' : Mu) (Q : VK), WOk K tb W -> bN K tb W xs vs -> op xs W.mu = some (d, μ') ->
 (∀ v W', WOk K tb W' -> Le tb W W' -> W'.mu = μ' -> Den K tb W' d v -> Q v W'.H) -> r vs W.H Q
section
variable {K : PySem.W.Frag} {tb : List Addr}
theorem put {W : Wd} {Q : VK} {d : D} {v : V} (ok : WOk K tb W) (h : ∀ v W', WOk K tb W' -> Le tb W W' -> W'.mu = W.mu -> Den K tb W' d v -> Q v W'.H) (r : Den K tb W d v) : Q v W.H := h v W ok (Le.refl _) rfl r
theorem dZ {W : Wd} {i : Int} : Den K tb W (.int i) (.int i) := by show bc _ _ _ _ _; unfold bc; rfl
theorem fj {W : Wd} {b : Bool} : Den K tb W (.bl b) (.bl b) := by show bc _ _ _ _ _; unfold bc; rfl
theorem lN {W : Wd} : Den K tb W .non .non := by show bc _ _ _ _ _; unfold bc; rfl
theorem GJ {W : Wd} {x : Str} : Den K tb W (.str x) (.str x) := by show bc _ _ _ _ _; unfold bc; rfl
theorem bA {W : Wd} {i : Int} {v : V} (h : Den K tb W (.int i) v) : v = .int i := by have h : bc _ _ _ _ _ := h; unfold bc at h; exact h
theorem jk {W : Wd} {b : Bool} {v : V} (h : Den K tb W (.bl b) v) : v = .bl b := by have h : bc _ _ _ _ _ := h; unfold bc at h; exact h
theorem wK {W : Wd} {v : V} (h : Den K tb W .non v) : v = .non := by have h : bc _ _ _ _ _ := h; unfold bc at h; exact h
theorem sY {W : Wd} {x : Str} {v : V} (h : Den K tb W (.str x) v) : v = .str x := by have h : bc _ _ _ _ _ := h; unfold bc at h; exact h
theorem fB {W : Wd} {ds : List D} {v : V} (h : Den K tb W (.tup ds) v) : ∃ a xs, v = .ref a /\ SqT K (W.fz tb) a xs /\ bN K tb W ds xs := by have h : bc _ _ _ _ _ := h; unfold bc at h; exact h
theorem ou {W : Wd} {ds : List D} {v : V} (h : Den K tb W (.lst ds) v) : ∃ a xs, v = .ref a /\ W.fz tb a = some (.lst xs) /\ bN K tb W ds xs := by have h : bc _ _ _ _ _ := h; unfold bc at h; exact h
theorem kJ {W : Wd} {ds : List D} {v : V} (h : Den K tb W (.lst ds) v) : ∃ a xs, v = .ref a /\ SqL K (W.fz tb) a xs /\ bN K tb W ds xs := let ⟨a, xs, e, q, r⟩ := ou h; ⟨a, xs, e, SqL.of q, r⟩
theorem uR {W : Wd} {ds : List D} {v : V} (h : Den K tb W (.ro ds) v) : ∃ a xs, v = .ref a /\ SqL K (W.fz tb) a xs /\ bN K tb W ds xs := by have h : bc _ _ _ _ _ := h; unfold bc at h; exact h
theorem Ec {W : Wd} {kvs : List (Key × D)} {v : V} (h : Den K tb W (.dic kvs) v) : ∃ a ps, v = .ref a /\ W.fz tb a = some (.dK ps) /\ gK K (W.fz tb) W.ad kvs ps := by have h : bc _ _ _ _ _ := h; unfold bc at h; exact h
theorem fQ {W : Wd} {n : Nat} {v : V} (h : Den K tb W (.cell n) v) : ∃ a, v = .ref a /\ W.ad[n]? = some a := by have h : bc _ _ _ _ _ := h; unfold bc at h; exact h
theorem lU {W : Wd} {Q : VK} {ds : List D} {vs : List V} {p : Addr} (ok : WOk K tb W) (h : ∀ v W', WOk K tb W' -> Le tb W W' -> W'.mu = W.mu -> Den K tb W' (.tup ds) v -> Q v W'.H) (r : bN K tb W ds vs) (hp : W.H p = none) : Q (.ref p) (upd W.H p (.tup vs)) := by
 obtain ⟨ok', le, e⟩ := ok.alloc (o := .tup vs) hp
 refine h (.ref p) _ ok' le rfl ?_
 show bc _ _ _ _ _
 unfold bc
 exact ⟨p, vs, rfl, .inl (.inl e), bN.mono' r le⟩
theorem iY {W : Wd} {Q : VK} {ds : List D} {vs : List V} {p : Addr} (ok : WOk K tb W) (h : ∀ v W', WOk K tb W' -> Le tb W W' -> W'.mu = W.mu -> Den K tb W' (.lst ds) v -> Q v W'.H) (r : bN K tb W ds vs) (hp : W.H p = none) : Q (.ref p) (upd W.H p (.lst vs)) := by
 obtain ⟨ok', le, e⟩ := ok.alloc (o := .lst vs) hp
 refine h (.ref p) _ ok' le rfl ?_
 show bc _ _ _ _ _
 unfold bc
 exact ⟨p, vs, rfl, e, bN.mono' r le⟩
end
section
variable {X : Cx} {tb : List Addr} {a b c e : Expr} {fa fb fc f : EF} {pos : Pos}
theorem Kg {i : Nat} {x : Str} (hN : X.N[i]? = some x) (hv : Vis X.env.scope x) (hd : (x == ("__debug__" : Str)) = false := by decide) (hcd : (x == ("__classdict__" : Str)) = false := by decide) : PD X tb (.Name x pos) (ao i) :=
 dO (KZ hN hv hd hcd) λ σ H Q zq1 => by
  obtain ⟨W, δ, d, μ', e, ok, hd, hf, h⟩ := zq1
  subst e
  unfold ao at hf
  split at hf
  .rename_i d' e
   cases hf
   obtain ⟨v, ev, r⟩ := hd.2 i _ e
   exact ⟨v, ev, put ok h r⟩
  .cases hf
theorem sU {d : D} {v : V} (hp : PE X e (tC v)) (hd : ∀ W, Den X.K tb W d v) : PD X tb e (mC d) :=
 dO hp λ σ H Q zq2 => by
  obtain ⟨W, δ, d', μ', e, ok, _, hf, h⟩ := zq2
  subst e
  cases hf
  exact put ok h (hd W)
theorem aC {i j} : PD X tb (.Constant (.int i) j pos) (mC (.int i)) := sU Dc λ _ => dZ
theorem lu {i j} : PD X tb (.Constant (.bool i) j pos) (mC (.bl i)) := sU Oq λ _ => fj
theorem Dd {j} : PD X tb (.Constant .none j pos) (mC .non) := sU JT λ _ => lN
theorem JX {r : V -> Hp -> VK -> Prop} {op : D -> Mu -> Option (D × Mu)} (hp : ∀ ta, PE X a ta -> PE X e (tUn r ta)) (ho : RD1 X.K tb r op) (ha : PD X tb a fa) : PD X tb e (M1 fa op) :=
 dO (hp _ ha) λ σ H Q zq3 => by
  obtain ⟨W, δ, d, μ', e, ok, hd, hf, h⟩ := zq3
  unfold M1 at hf
  obtain ⟨⟨x, μ1⟩, e1, e2⟩ := Za.mp hf
  exact ⟨W, δ, x, μ1, e, ok, hd, e1, λ v W1 ok1 l1 m1 d1 => ho W1 x v d μ' Q ok1 d1 (by rw [m1]; exact e2) λ v' W' ok' l' m' d' => h v' W' ok' (l1.trans l') m' d'⟩
theorem zU {r : R2} {op : D -> D -> Mu -> Option (D × Mu)} (hp : ∀ ta tb, PE X a ta -> PE X b tb -> PE X e (tOp r ta tb)) (ho : RD2 X.K tb r op) (ha : PD X tb a fa) (hb : PD X tb b fb) : PD X tb e (M2 fa fb op) :=
 dO (hp _ _ ha hb) λ σ H Q zq4 => by
  obtain ⟨W, δ, d, μ', e, ok, hd, hf, h⟩ := zq4
  unfold M2 at hf
  obtain ⟨⟨x, μ1⟩, e1, hf⟩ := Za.mp hf
  obtain ⟨⟨y, μ2⟩, e2, e3⟩ := Za.mp hf
  refine ⟨W, δ, x, μ1, e, ok, hd, e1, λ v W1 ok1 l1 m1 d1 => ⟨W1, δ, y, μ2, rfl, ok1, hd.mono' l1, (by rw [m1]; exact e2), λ u W2 ok2 l2 m2 d2 => ?_⟩⟩
  exact ho W2 x y v u d μ' Q ok2 (Den.mono' d1 l2) d2 (by rw [m2]; exact e3) λ v' W' ok' l' m' d' => h v' W' ok' ((l1.trans l2).trans l') m' d'
theorem aA : PAD X tb [] aG := Fx sy λ σ H Q zq5 => by
 obtain ⟨W, δ, d, μ', e, ok, hd, hf, h⟩ := zq5
 subst e; cases hf
 exact h [] W ok (Le.refl _) rfl az.nil
theorem au {es : List Expr} {fs : AF} (ha : PD X tb e f) (hr : PAD X tb es fs) (hs : starEach (e :: es) X.env = (false, eval e X.env) :: starEach es X.env := by rfl) : PAD X tb (e :: es) (aq f fs) :=
 Fx (lM ha hr hs) λ σ H Q zq6 => by
  obtain ⟨W, δ, ds, μ', e, ok, hd, hf, h⟩ := zq6
  unfold aq at hf
  obtain ⟨⟨x, μ1⟩, e1, hf⟩ := Za.mp hf
  obtain ⟨⟨xs, μ2⟩, e2, e3⟩ := Za.mp hf
  cases e3
  refine ⟨W, δ, x, μ1, e, ok, hd, e1, λ v W1 ok1 l1 m1 d1 => ⟨W1, δ, xs, _, rfl, ok1, hd.mono' l1, (by rw [m1]; exact e2), λ vs W2 ok2 l2 m2 d2 => ?_⟩⟩
  exact h (v :: vs) W2 ok2 (l1.trans l2) m2 (az.cons (Den.mono' d1 l2) d2)
theorem Cr {es : List Expr} {fs : AF} {r : List V -> Hp -> VK -> Prop} {op : List D -> Mu -> Option (D × Mu)} (hp : ∀ ta, PA X es ta -> PE X e (tCB r ta)) (ho : RDN X.K tb r op) (ha : PAD X tb es fs) : PD X tb e (MC fs op) :=
 dO (hp _ ha) λ σ H Q zq7 => by
  obtain ⟨W, δ, d, μ', e, ok, hd, hf, h⟩ := zq7
  unfold MC at hf
  obtain ⟨⟨x, μ1⟩, e1, e2⟩ := Za.mp hf
  exact ⟨W, δ, x, μ1, e, ok, hd, e1, λ v W1 ok1 l1 m1 d1 => ho W1 x v d μ' Q ok1 d1 (by rw [m1]; exact e2) λ v' W' ok' l' m' d' => h v' W' ok' (l1.trans l') m' d'⟩
def oTup (ds : List D) (μ : Mu) : Option (D × Mu) := if ds.length <= sizeLine then some (.tup ds, μ) else none
def oLst (ds : List D) (μ : Mu) : Option (D × Mu) := if ds.length <= sizeLine then some (.lst ds, μ) else none
theorem jd {es : List Expr} {fs : AF} {x1} (h : PAD X tb es fs) : PD X tb (.Tuple es x1 pos) (MC fs oTup) :=
 Cr (r := λ xs H Q => xs.length <= sizeLine /\ ∀ p, H p = none -> Q (.ref p) (upd H p (.tup xs))) (λ ta h => Mz h) (λ W xs vs d μ' Q ok r ho h => by
  unfold oTup at ho
  split at ho
  .rename_i hl
   cases ho
   exact ⟨by rw [<- az.length r]; exact hl, λ p hp => lU ok h r hp⟩
  .cases ho) h
theorem pA {es : List Expr} {fs : AF} (h : PAD X tb es fs) : PD X tb (.List es pos) (MC fs oLst) :=
 Cr (r := λ xs H Q => xs.length <= sizeLine /\ ∀ p, H p = none -> Q (.ref p) (upd H p (.lst xs))) (λ ta h => FW h) (λ W xs vs d μ' Q ok r ho h => by
  unfold oLst at ho
  split at ho
  .rename_i hl
   cases ho
   exact ⟨by rw [<- az.length r]; exact hl, λ p hp => iY ok h r hp⟩
  .cases ho) h
def xg : D -> Mu -> Option Bool
 | .bl b, _ => some b
 | .int i, _ => some (i != 0)
 | .non, _ => some false
 | .tup ds, _ => some !ds.isEmpty
 | .lst ds, _ => some !ds.isEmpty
 | .cell n, μ => match μ[n]? with
  | some (some ds) => some !ds.isEmpty
  | _ => none
 | _, _ => none
end
section
variable {K : PySem.W.Frag} {tb : List Addr}
theorem Jb {W : Wd} {x : D} {v : V} {k : Bool} (ok : WOk K tb W) (h : Den K tb W x v) (e : xg x W.mu = some k) : Kc K v W.H k := by
 cases x with
 | non => rw [wK h]; cases e; rfl
 | bl b => rw [jk h]; cases e; rfl
 | int i => rw [bA h]; cases e; rfl
 | str y => cases e
 | dic y => cases e
 | ro y => cases e
 | tup ds =>
  obtain ⟨a, xs, rfl, q, r⟩ := fB h
  cases e
  refine .inr (.inl ⟨xs, SqT.fz q, ?_⟩)
  have := az.length r
  cases ds <;> cases xs <;> simp_all
 | lst ds =>
  obtain ⟨a, xs, rfl, q, r⟩ := kJ h
  cases e
  refine .inl ⟨xs, SqL.fz q, ?_⟩
  have := az.length r
  cases ds <;> cases xs <;> simp_all
 | cell n =>
  obtain ⟨a, rfl, q⟩ := fQ h
  have e' : (match W.mu[n]? with | some (some ds) => some !ds.isEmpty | _ => none) = some k := e
  cases e2 : W.mu[n]? with
  | none => rw [e2] at e'; cases e'
  | some o =>
   cases o with
   | none => rw [e2] at e'; cases e'
   | some ds =>
    rw [e2] at e'
    have e'' : some (!ds.isEmpty) = some k := e'
    cases e''
    obtain ⟨xs, e3, r⟩ := ok.cont n a ds q e2
    refine .inl ⟨xs, SqL.of e3, ?_⟩
    have := az.length r
    cases ds <;> cases xs <;> simp_all
end
section
variable {X : Cx} {tb : List Addr} {a b c e : Expr} {fa fb fc f : EF} {ta tc : TF} {pos : Pos}
def jY (f : EF) : TF := λ δ μ => (f δ μ).bind λ r => (xg r.1 r.2).map λ k => (k, r.2)
theorem gD (h : PD X tb e f) (he : ∀ whole, isTrue e X.env whole = (do let v <- whole; standAt e.pos; holding [v] (truthy v)) := by intro _; rfl) : PTD X tb e (jY f) :=
 Gp (Gm h he) λ σ H Q zq1 => by
  obtain ⟨W, δ, k, μ', e, ok, hd, hf, h⟩ := zq1
  unfold jY at hf
  obtain ⟨⟨x, μ1⟩, e1, e2⟩ := Za.mp hf
  obtain ⟨k', e3, e4⟩ := Zp.mp e2
  cases e4
  exact ⟨W, δ, x, _, e, ok, hd, e1, λ v W1 ok1 l1 m1 d1 => ⟨k, Jb ok1 d1 (by rw [m1]; exact e3), h W1 ok1 l1 m1⟩⟩
structure OpD (X : Cx) (tb : List Addr) (sem : Value -> Value -> Sem Value) (op : D -> D -> Mu -> Option (D × Mu)) : Prop where
 ex : ∃ r, OpR X sem r /\ RD2 X.K tb r op
theorem aJ {o : Operator} {op : D -> D -> Mu -> Option (D × Mu)} (ho : OpD X tb (binaryOp o) op) (ha : PD X tb a fa) (hb : PD X tb b fb) : PD X tb (.BinOp a o b pos) (M2 fa fb op) := by
 obtain ⟨r, h1, h2⟩ := ho.ex
 exact zU (λ ta tb ha hb => JB h1 ha hb) h2 ha hb
theorem tB {o : CmpOp} {op : D -> D -> Mu -> Option (D × Mu)} (ho : OpD X tb (compareOp o) op) (ha : PD X tb a fa) (hb : PD X tb b fb) (hm : behindInMarks o b = false := by first | exact xF _ (by decide) (by decide) | rfl) : PD X tb (.Compare a [o] [b] pos) (M2 fa fb op) := by
 obtain ⟨r, h1, h2⟩ := ho.ex
 exact zU (λ ta tb ha hb => Ho h1 ha hb hm) h2 ha hb
def toB (f : EF) : TF := λ δ μ => (f δ μ).bind λ r => match r.1 with
 | .bl k => some (k, r.2)
 | _ => none
theorem bz {o : CmpOp} {op : D -> D -> Mu -> Option (D × Mu)} (ho : OpD X tb (compareOp o) op) (ha : PD X tb a fa) (hb : PD X tb b fb) (hm : behindInMarks o b = false := by first | exact xF _ (by decide) (by decide) | rfl) : PTD X tb (.Compare a [o] [b] pos) (toB (M2 fa fb op)) := by
 obtain ⟨r, h1, h2⟩ := ho.ex
 refine Gp (Gs h1 ha hb hm) λ σ H Q zq2 => ?_
 obtain ⟨W, δ, k, μ', e, ok, hd, hf, h⟩ := zq2
 unfold toB at hf
 obtain ⟨⟨z, μz⟩, hf, ez⟩ := Za.mp hf
 unfold M2 at hf
 obtain ⟨⟨x, μ1⟩, e1, hf⟩ := Za.mp hf
 obtain ⟨⟨y, μ2⟩, e2, e3⟩ := Za.mp hf
 cases z with
 | bl k' =>
  cases ez
  refine ⟨W, δ, x, μ1, e, ok, hd, e1, λ v W1 ok1 l1 m1 d1 => ⟨W1, δ, y, μ2, rfl, ok1, hd.mono' l1, (by rw [m1]; exact e2), λ u W2 ok2 l2 m2 d2 => ?_⟩⟩
  refine h2 W2 x y v u _ _ _ ok2 (Den.mono' d1 l2) d2 (by rw [m2]; exact e3) λ v' W' ok' l' m' d' => ?_
  exact ⟨k, jk d', h W' ok' ((l1.trans l2).trans l') m'⟩
 | _ => cases ez
def MCh (fa fb fc : EF) (op op' : D -> D -> Mu -> Option (D × Mu)) : EF := λ δ μ => (fa δ μ).bind λ r => (fb δ r.2).bind λ q => (op r.1 q.1 q.2).bind λ z => match z.1 with
 | .bl true => (fc δ z.2).bind λ t => op' q.1 t.1 t.2
 | .bl false => some (.bl false, z.2)
 | _ => none
theorem Ek {r r' : R2} {op op' : D -> D -> Mu -> Option (D × Mu)} (h1 : RD2 X.K tb r op) (h2 : RD2 X.K tb r' op') {σ : SV} {H : Hp} {Q : VK} (h : tD X.K tb (MCh fa fb fc op op') σ H Q) : Fd r r' (tD X.K tb fa) (tD X.K tb fb) (tD X.K tb fc) σ H Q := by
 obtain ⟨W, δ, d, μ', e, ok, hd, hf, h⟩ := h
 unfold MCh at hf
 obtain ⟨⟨x, μ1⟩, e1, hf⟩ := Za.mp hf
 obtain ⟨⟨y, μ2⟩, e2, hf⟩ := Za.mp hf
 obtain ⟨⟨z, μ3⟩, e3, hf⟩ := Za.mp hf
 refine ⟨W, δ, x, μ1, e, ok, hd, e1, λ v W1 ok1 l1 m1 d1 => ⟨W1, δ, y, μ2, rfl, ok1, hd.mono' l1, (by rw [m1]; exact e2), λ u W2 ok2 l2 m2 d2 => ?_⟩⟩
 refine h1 W2 x y v u _ _ _ ok2 (Den.mono' d1 l2) d2 (by rw [m2]; exact e3) λ v' W3 ok3 l3 m3 d3 => ?_
 cases z with
 | bl k =>
  cases k with
  | true =>
  refine ⟨true, jk d3, ?_⟩
  rw [if_pos rfl]
  obtain ⟨⟨t, μ4⟩, e4, e5⟩ := Za.mp hf
  refine ⟨W3, δ, t, μ4, rfl, ok3, hd.mono' ((l1.trans l2).trans l3), (by rw [m3]; exact e4), λ w' W4 ok4 l4 m4 d4 => ?_⟩
  exact h2 W4 y t u w' _ _ _ ok4 (Den.mono' d2 (l3.trans l4)) d4 (by rw [m4]; exact e5) λ v'' W' ok' l' m' d' => h v'' W' ok' ((((l1.trans l2).trans l3).trans l4).trans l') m' d'
  | false =>
  cases hf
  refine ⟨false, jk d3, ?_⟩
  rw [if_neg Zr]
  exact h _ W3 ok3 ((l1.trans l2).trans l3) m3 fj
 | _ => cases hf
theorem Gr {o o' : CmpOp} {op op' : D -> D -> Mu -> Option (D × Mu)} (ho : OpD X tb (compareOp o) op) (ho' : OpD X tb (compareOp o') op') (ha : PD X tb a fa) (hb : PD X tb b fb) (hc : PD X tb c fc)
  (hm : lastMarks [o, o'] [b, c] = false := by with_unfolding_all rfl) : PD X tb (.Compare a [o, o'] [b, c] pos) (MCh fa fb fc op op') := by
 obtain ⟨r, h1, h2⟩ := ho.ex
 obtain ⟨r', h1', h2'⟩ := ho'.ex
 exact dO (Gb h1 h1' ha hb hc hm) λ σ H Q h => Ek h2 h2' h
def oV (ta tc : TF) : TF := λ δ μ => (ta δ μ).bind λ r => if r.1 = true then tc δ r.2 else some (false, r.2)
def jT (ta tc : TF) : TF := λ δ μ => (ta δ μ).bind λ r => if r.1 = true then some (true, r.2) else tc δ r.2
def gj (ta : TF) : TF := λ δ μ => (ta δ μ).bind λ r => some (!r.1, r.2)
theorem Fi (ha : PTD X tb a ta) : PWD X tb (.BoolOp .And [a] pos) ta := HN ha
theorem lV (ha : PTD X tb a ta) : PWD X tb (.BoolOp .Or [a] pos) ta := Mj ha
theorem Jq {rest : List Expr} (ha : PTD X tb a ta) (hb : PWD X tb (.BoolOp .And (b :: rest) pos) tc) : PWD X tb (.BoolOp .And (a :: b :: rest) pos) (oV ta tc) :=
 JN (Lg ha hb) λ σ H Q zq4 => by
  obtain ⟨W, δ, k, μ', e, ok, hd, hf, h⟩ := zq4
  unfold oV at hf
  obtain ⟨⟨z, μz⟩, e1, e2⟩ := Za.mp hf
  refine ⟨W, δ, z, μz, e, ok, hd, e1, λ W1 ok1 l1 m1 => ?_⟩
  cases z with
  | true => exact ⟨W1, δ, k, μ', rfl, ok1, hd.mono' l1, (by rw [m1]; exact e2), λ W' ok' l' m' => h W' ok' (l1.trans l') m'⟩
  | false => cases e2; exact h W1 ok1 l1 m1
theorem jK {rest : List Expr} (ha : PTD X tb a ta) (hb : PWD X tb (.BoolOp .Or (b :: rest) pos) tc) : PWD X tb (.BoolOp .Or (a :: b :: rest) pos) (jT ta tc) :=
 JN (Pa ha hb) λ σ H Q zq5 => by
  obtain ⟨W, δ, k, μ', e, ok, hd, hf, h⟩ := zq5
  unfold jT at hf
  obtain ⟨⟨z, μz⟩, e1, e2⟩ := Za.mp hf
  refine ⟨W, δ, z, μz, e, ok, hd, e1, λ W1 ok1 l1 m1 => ?_⟩
  cases z with
  | false => exact ⟨W1, δ, k, μ', rfl, ok1, hd.mono' l1, (by rw [m1]; exact e2), λ W' ok' l' m' => h W' ok' (l1.trans l') m'⟩
  | true => cases e2; exact h W1 ok1 l1 m1
theorem nj (h : PWD X tb a ta) : PTD X tb a ta := PW.pt h
theorem gC (ha : PTD X tb a ta) : PTD X tb (.UnaryOp .Not a pos) (gj ta) :=
 Gp (Kz ha) λ σ H Q zq6 => by
  obtain ⟨W, δ, k, μ', e, ok, hd, hf, h⟩ := zq6
  unfold gj at hf
  obtain ⟨⟨z, μz⟩, e1, e2⟩ := Za.mp hf
  cases e2
  exact ⟨W, δ, z, _, e, ok, hd, e1, λ W1 ok1 l1 m1 => h W1 ok1 l1 m1⟩
def oH (fa fb : EF) : EF := λ δ μ => (fa δ μ).bind λ r => match r.1 with
 | .bl true => fb δ r.2
 | .bl false => some (.bl false, r.2)
 | _ => none
def uQ (fa : EF) : EF := λ δ μ => (fa δ μ).bind λ r => match r.1 with
 | .bl k => some (.bl !k, r.2)
 | _ => none
theorem nR {o} (ha : PD X tb a fa) : PD X tb (.BoolOp o [a] pos) fa := Km ha
theorem tM {rest : List Expr} (ha : PD X tb a fa) (hb : PD X tb (.BoolOp .And (b :: rest) pos) fb) : PD X tb (.BoolOp .And (a :: b :: rest) pos) (oH fa fb) :=
 dO (LK ha hb) λ σ H Q zq7 => by
  obtain ⟨W, δ, d, μ', e, ok, hd, hf, h⟩ := zq7
  unfold oH at hf
  obtain ⟨⟨z, μz⟩, e1, e2⟩ := Za.mp hf
  refine ⟨W, δ, z, μz, e, ok, hd, e1, λ v W1 ok1 l1 m1 d1 => ?_⟩
  cases z with
  | bl k =>
   cases k with
   | true =>
   refine ⟨true, jk d1, ?_⟩
   rw [if_pos rfl]
   exact ⟨W1, δ, d, μ', rfl, ok1, hd.mono' l1, (by rw [m1]; exact e2), λ v W' ok' l' m' d' => h v W' ok' (l1.trans l') m' d'⟩
   | false =>
   cases e2
   refine ⟨false, jk d1, ?_⟩
   rw [if_neg Zr]
   exact h _ W1 ok1 l1 m1 fj
  | _ => cases e2
theorem DR (ha : PD X tb a fa) : PD X tb (.UnaryOp .Not a pos) (uQ fa) :=
 dO (Lk ha) λ σ H Q zq9 => by
  obtain ⟨W, δ, d, μ', e, ok, hd, hf, h⟩ := zq9
  unfold uQ at hf
  obtain ⟨⟨z, μz⟩, e1, e2⟩ := Za.mp hf
  refine ⟨W, δ, z, μz, e, ok, hd, e1, λ v W1 ok1 l1 m1 d1 => ?_⟩
  cases z with
  | bl k =>
   cases e2
   exact ⟨k, jk d1, h _ W1 ok1 l1 m1 fj⟩
  | _ => cases e2
def mIf (tc : TF) (fa fb : EF) : EF := λ δ μ => (tc δ μ).bind λ r => if r.1 = true then fa δ r.2 else fb δ r.2
theorem NT (hc : PTD X tb c tc) (ha : PD X tb a fa) (hb : PD X tb b fb) : PD X tb (.IfExp c a b pos) (mIf tc fa fb) :=
 dO (Ft hc ha hb) λ σ H Q zq10 => by
  obtain ⟨W, δ, d, μ', e, ok, hd, hf, h⟩ := zq10
  unfold mIf at hf
  obtain ⟨⟨z, μz⟩, e1, e2⟩ := Za.mp hf
  refine ⟨W, δ, z, μz, e, ok, hd, e1, λ W1 ok1 l1 m1 => ?_⟩
  cases z with
  | true => exact ⟨W1, δ, d, μ', rfl, ok1, hd.mono' l1, (by rw [m1]; exact e2), λ v W' ok' l' m' d' => h v W' ok' (l1.trans l') m' d'⟩
  | false => exact ⟨W1, δ, d, μ', rfl, ok1, hd.mono' l1, (by rw [m1]; exact e2), λ v W' ok' l' m' d' => h v W' ok' (l1.trans l') m' d'⟩
end
def bF : SF := λ δ μ => some (.nx, δ, μ)
def sE : SF := λ δ μ => some (.bk, δ, μ)
def aR (g h : SF) : SF := λ δ μ => (g δ μ).bind λ r => match r.1 with
 | .nx => h r.2.1 r.2.2
 | _ => some r
def gb (f : EF) : SF := λ δ μ => (f δ μ).bind λ r => some (.nx, δ, r.2)
def bH (f : EF) : SF := λ δ μ => (f δ μ).bind λ r => some (.rt r.1, δ, r.2)
def sIf (c : TF) (g h : SF) : SF := λ δ μ => (c δ μ).bind λ r => if r.1 = true then g δ r.2 else h δ r.2
def bw (i : Nat) (f : EF) : SF := λ δ μ => (f δ μ).bind λ r => some (.nx, δ.set i (some r.1), r.2)
section
variable {X : Cx} {tb : List Addr} {e : Expr} {f : EF} {g h : SF} {st : Stmt} {rest : List Stmt} {pos : Pos}
theorem bB : ue X tb [] bF := Ep Jl λ E σ H zq11 => by
 obtain ⟨W, δ, fl, δ', μ', e, ok, hd, hf, h⟩ := zq11
 subst e; cases hf
 exact h σ W ok (Le.refl _) rfl hd
theorem aH (h1 : PSD X tb st g) : ue X tb [st] g := Il h1
theorem aF (h1 : PSD X tb st g) (h2 : ue X tb rest h) : ue X tb (st :: rest) (aR g h) :=
 Ep (Et h1 h2) λ E σ H zq12 => by
  obtain ⟨W, δ, fl, δ', μ', e, ok, hd, hf, k⟩ := zq12
  unfold aR at hf
  obtain ⟨⟨fl1, δ1, μ1⟩, e1, e2⟩ := Za.mp hf
  refine ⟨W, δ, fl1, δ1, μ1, e, ok, hd, e1, λ σ1 W1 ok1 l1 m1 d1 => ?_⟩
  cases fl1 with
  | nx => exact ⟨W1, δ1, fl, δ', μ', rfl, ok1, d1, (by rw [m1]; exact e2), λ σ' W' ok' l' m' d' => k σ' W' ok' (l1.trans l') m' d'⟩
  | bk => cases e2; exact k σ1 W1 ok1 l1 m1 d1
  | ct => cases e2; exact k σ1 W1 ok1 l1 m1 d1
  | rt d => cases e2; exact k σ1 W1 ok1 l1 m1 d1
theorem Cw : PSD X tb (.Break pos) sE := mK Ds λ E σ H zq14 => by
 obtain ⟨W, δ, fl, δ', μ', e, ok, hd, hf, h⟩ := zq14
 subst e; cases hf
 exact h σ W ok (Le.refl _) rfl hd
theorem kY (he : PD X tb e f) (hs : swapsWith e none pos.line X.env = pure false := by rfl) : PSD X tb (.Expr e pos) (gb f) :=
 mK (Hj he hs) λ E σ H zq16 => by
  obtain ⟨W, δ, fl, δ', μ', e, ok, hd, hf, h⟩ := zq16
  unfold gb at hf
  obtain ⟨⟨x, μ1⟩, e1, e2⟩ := Za.mp hf
  cases e2
  exact ⟨W, δ, x, _, e, ok, hd, e1, λ v W1 ok1 l1 m1 d1 => h σ W1 ok1 l1 m1 (hd.mono' l1)⟩
theorem aV (he : PD X tb e f) : PSD X tb (.Return (some e) pos) (bH f) :=
 mK (LR he) λ E σ H zq17 => by
  obtain ⟨W, δ, fl, δ', μ', e, ok, hd, hf, h⟩ := zq17
  unfold bH at hf
  obtain ⟨⟨x, μ1⟩, e1, e2⟩ := Za.mp hf
  cases e2
  exact ⟨W, δ, x, _, e, ok, hd, e1, λ v W1 ok1 l1 m1 d1 => h σ W1 ok1 l1 m1 (hd.mono' l1) v d1⟩
theorem cL {c : Expr} {tc : TF} {as bs : List Stmt} (hc : PTD X tb c tc) (ha : ue X tb as g) (hb : ue X tb bs h) : PSD X tb (.If c as bs pos) (sIf tc g h) :=
 mK (Oh hc ha hb) λ E σ H zq18 => by
  obtain ⟨W, δ, fl, δ', μ', e, ok, hd, hf, k⟩ := zq18
  unfold sIf at hf
  obtain ⟨⟨z, μ1⟩, e1, e2⟩ := Za.mp hf
  refine ⟨W, δ, z, μ1, e, ok, hd, e1, λ W1 ok1 l1 m1 => ?_⟩
  cases z with
  | true => exact ⟨W1, δ, fl, δ', μ', rfl, ok1, hd.mono' l1, (by rw [m1]; exact e2), λ σ' W' ok' l' m' d' => k σ' W' ok' (l1.trans l') m' d'⟩
  | false => exact ⟨W1, δ, fl, δ', μ', rfl, ok1, hd.mono' l1, (by rw [m1]; exact e2), λ σ' W' ok' l' m' d' => k σ' W' ok' (l1.trans l') m' d'⟩
theorem aZ {i : Nat} {x : Str} {pos' : Pos} (hN : X.N.Nodup) (he : PD X tb e f) (hi : X.N[i]? = some x := by rfl) (hx : Loc X.env.scope x := by first | exact Or.inl rfl | exact Or.inr rfl) (hs : swapsWith e (some (.Name x pos')) pos.line X.env = pure false := by rfl)
  (hf : X.fn x = true ∨ X.env.scope.names.lookup x = some .local := by first | exact .inl rfl | exact .inr rfl | assumption) : PSD X tb (.Assign [.Name x pos'] e pos) (bw i f) :=
 mK (La hN hi hx he hs hf) λ E σ H zq19 => by
  obtain ⟨W, δ, fl, δ', μ', e, ok, hd, hf, h⟩ := zq19
  unfold bw at hf
  obtain ⟨⟨x, μ1⟩, e1, e2⟩ := Za.mp hf
  cases e2
  exact ⟨W, δ, x, _, e, ok, hd, e1, λ v W1 ok1 l1 m1 d1 => h _ W1 ok1 l1 m1 ((hd.mono' l1).set d1)⟩
def ur (i j : Nat) (fs : AF) : SF := λ δ μ => (fs δ μ).bind λ r => match r.1 with
 | [x, y] => some (.nx, (δ.set i (some x)).set j (some y), r.2)
 | _ => none
theorem qO {i j : Nat} {x y : Str} {a b : Expr} {fs : AF} {px py pt : Pos} {kt k2 pt2} (hc : X.calm = true) (hN : X.N.Nodup) (ha : PAD X tb [a, b] fs) (hij : i ≠ j := by decide) (hi : X.N[i]? = some x := by rfl) (hj : X.N[j]? = some y := by rfl)
  (hx : X.env.scope.names.lookup x = some .local := by rfl) (hy : X.env.scope.names.lookup y = some .local := by rfl)
  (hw : swappedStores [.Tuple [.Name x px, .Name y py] kt pt] (.Tuple [a, b] k2 pt2) X.env = pure (some [x, y]) := by rfl)
  (hs : swapsWithSole [.Tuple [.Name x px, .Name y py] kt pt] (.Tuple [a, b] k2 pt2) pos.line X.env = pure false := by rfl) :
  PSD X tb (.Assign [.Tuple [.Name x px, .Name y py] kt pt] (.Tuple [a, b] k2 pt2) pos) (ur i j fs) :=
 mK (Ls hc hN hi hj hij hx hy ha hw hs) λ E σ H zq20 => by
  obtain ⟨W, δ, fl, δ', μ', e, ok, hd, hf, h⟩ := zq20
  unfold ur at hf
  obtain ⟨⟨xs, μ1⟩, e1, e2⟩ := Za.mp hf
  match xs, e1, e2 with
  | [x, y], e1, e2 =>
   cases e2
   refine ⟨W, δ, _, _, e, ok, hd, e1, λ vs W1 ok1 l1 m1 d1 => ?_⟩
   obtain ⟨u, v, rfl, du, dv⟩ := az.two d1
   exact ⟨u, v, rfl, h _ W1 ok1 l1 m1 (((hd.mono' l1).set du).set dv)⟩
def eV (c : TF) (b : SF) : Nat -> SF
 | 0 => λ _ _ => none
 | n + 1 => λ δ μ => (c δ μ).bind λ r => if r.1 = true then (b δ r.2).bind λ q => match q.1 with
   | .nx => eV c b n q.2.1 q.2.2
   | .ct => eV c b n q.2.1 q.2.2
   | .bk => some (.nx, q.2)
   | .rt d => some (.rt d, q.2)
  else some (.nx, δ, r.2)
theorem iT {c : TF} {b : SF} : ∀ {n m : Nat} {δ : En} {μ : Mu} {r : Fl × En × Mu}, n <= m -> eV c b n δ μ = some r -> eV c b m δ μ = some r
 | 0, _, _, _, _, _, h => by cases h
 | n + 1, 0, _, _, _, hl, _ => by omega
 | n + 1, m + 1, δ, μ, r, hl, h => by
  unfold eV at h ⊢
  obtain ⟨q, e1, e2⟩ := Za.mp h
  rw [e1]
  show (if q.1 = true then _ else _) = _
  by_cases hq : q.1 = true
  .rw [if_pos hq] at e2 ⊢
   obtain ⟨t, e3, e4⟩ := Za.mp e2
   rw [e3]
   show (match t.1 with | .nx => _ | .ct => _ | .bk => _ | .rt d => _) = _
   cases ht : t.1 with
   | nx => rw [ht] at e4; exact iT (by omega) e4
   | ct => rw [ht] at e4; exact iT (by omega) e4
   | bk => rw [ht] at e4; exact e4
   | rt d => rw [ht] at e4; exact e4
  .rw [if_neg hq] at e2 ⊢; exact e2
open Classical in
noncomputable def jD (c : TF) (b : SF) : SF := λ δ μ => if h : ∃ n r, eV c b n δ μ = some r then some (choose (choose_spec h)) else none
theorem pO {c : TF} {b : SF} {n : Nat} {δ : En} {μ : Mu} {r : Fl × En × Mu} (h : eV c b n δ μ = some r) : jD c b δ μ = some r := by
 have hx : ∃ n r, eV c b n δ μ = some r := ⟨n, r, h⟩
 unfold jD
 rw [dif_pos hx]
 have q := Classical.choose_spec (Classical.choose_spec hx)
 have a := iT (Nat.le_max_left n (Classical.choose hx)) h
 have b := iT (Nat.le_max_right n (Classical.choose hx)) q
 rw [a] at b
 exact b.symm
theorem Cu {c : TF} {b : SF} {δ : En} {μ : Mu} {r : Fl × En × Mu} (h : jD c b δ μ = some r) : ∃ n, eV c b n δ μ = some r := by
 unfold jD at h
 split at h
 .rename_i hx
  cases h
  exact ⟨_, Classical.choose_spec (Classical.choose_spec hx)⟩
 .cases h
theorem pF {c : Expr} {tc : TF} {body : List Stmt} (hp : PassesOwn (model X.prog X.w) X.A X.env X.xe) (hc : PTD X tb c tc) (hb : ue X tb body g) : PSD X tb (.While c body [] pos) (jD tc g) :=
 mK (Fy hp hc hb) λ E σ H zq21 => by
  obtain ⟨W, δ, fl, δ', μ', e, ok, hd, hf, h⟩ := zq21
  obtain ⟨n0, hn0⟩ := Cu hf
  refine ⟨λ m σ1 H1 => ∃ W1 δ1, W1.H = H1 /\ WOk X.K tb W1 /\ Le tb W W1 /\ gO X.K tb W1 δ1 σ1 /\ eV tc g m δ1 W1.mu = some (fl, δ', μ'), ⟨n0, W, δ, e, ok, Le.refl _, hd, hn0⟩, ?_⟩
  rintro m σ1 H1 ⟨W1, δ1, rfl, ok1, l1, d1, hn⟩
  cases m with
  | zero => cases hn
  | succ m =>
   unfold eV at hn
   obtain ⟨⟨k, μ2⟩, e1, e2⟩ := Za.mp hn
   refine ⟨W1, δ1, k, μ2, rfl, ok1, d1, e1, λ W2 ok2 l2 m2 => ?_⟩
   cases k with
   | false =>
    cases e2
    rw [if_neg Zr]
    exact h σ1 W2 ok2 (l1.trans l2) m2 (d1.mono' l2)
   | true =>
    rw [if_pos rfl]
    obtain ⟨⟨fl3, δ3, μ3⟩, e3, e4⟩ := Za.mp e2
    refine ⟨λ σ3 H3 => ∃ W3, W3.H = H3 /\ WOk X.K tb W3 /\ Le tb W W3 /\ gO X.K tb W3 δ3 σ3 /\ eV tc g m δ3 W3.mu = some (fl, δ', μ'), λ σ3 H3 ⟨W3, q1, q2, q3, q4, q5⟩ => ⟨m, Nat.lt_succ_self _, W3, δ3, q1, q2, q3, q4, q5⟩, ?_⟩
    refine ⟨W2, δ1, fl3, δ3, μ3, rfl, ok2, d1.mono' l2, (by rw [m2]; exact e3), λ σ3 W3 ok3 l3 m3 d3 => ?_⟩
    cases fl3 with
    | nx => exact ⟨W3, rfl, ok3, (l1.trans l2).trans l3, d3, by rw [m3]; exact e4⟩
    | ct => exact ⟨W3, rfl, ok3, (l1.trans l2).trans l3, d3, by rw [m3]; exact e4⟩
    | bk => cases e4; exact h σ3 W3 ok3 ((l1.trans l2).trans l3) m3 d3
    | rt d => cases e4; exact h σ3 W3 ok3 ((l1.trans l2).trans l3) m3 d3
end
abbrev GF := D -> En -> Mu -> Option En
abbrev GsF := List D -> En -> Mu -> Option En
def tDG (K : PySem.W.Frag) (tb : List Addr) (ts : List Nat) (h : GF) : TG := λ v σ H Q => ∃ W δ d δ', W.H = H /\ WOk K tb W /\ gO K tb W δ σ /\ Den K tb W d v /\ h d δ W.mu = some δ' /\
 ∀ σ', gO K tb W δ' σ' -> σ'.length = σ.length -> (∀ i, i ∉ ts -> σ'[i]? = σ[i]?) -> Q σ' H
def tDGs (K : PySem.W.Frag) (tb : List Addr) (ts : List Nat) (h : GsF) : TGs := λ vs σ H Q => ∃ W δ ds δ', W.H = H /\ WOk K tb W /\ gO K tb W δ σ /\ bN K tb W ds vs /\ h ds δ W.mu = some δ' /\
 ∀ σ', gO K tb W δ' σ' -> σ'.length = σ.length -> (∀ i, i ∉ ts -> σ'[i]? = σ[i]?) -> Q σ' H
def PGD (X : Cx) (tb : List Addr) (tg : Expr) (ts : List Nat) (h : GF) : Prop := PG X tg (tDG X.K tb ts h)
def Hz (X : Cx) (tb : List Addr) (tg : List Expr) (ts : List Nat) (h : GsF) : Prop := PGs X tg (tDGs X.K tb ts h)
theorem JP {X : Cx} {e : Expr} {t t' : TG} (h : PG X e t) (k : ∀ v σ H Q, t' v σ H Q -> t v σ H Q) : PG X e t' := λ pins s σ H v u Q I r hq => h pins s σ H v u Q I r (k v σ H Q hq)
theorem El {X : Cx} {e : List Expr} {t t' : TGs} (h : PGs X e t) (k : ∀ v σ H Q, t' v σ H Q -> t v σ H Q) : PGs X e t' := λ pins s σ H v u Q I r hq => h pins s σ H v u Q I r (k v σ H Q hq)
def hName (i : Nat) : GF := λ d δ _ => some (δ.set i (some d))
def ni : GsF := λ ds δ _ => match ds with
 | [] => some δ
 | _ => none
def dI (h : GF) (hs : GsF) : GsF := λ ds δ μ => match ds with
 | [] => none
 | d :: r => (h d δ μ).bind λ δ1 => hs r δ1 μ
def mY (n : Nat) (hs : GsF) : GF := λ d δ μ => match d with
 | .tup ds => if ds.length = n then hs ds δ μ else none
 | _ => none
section
variable {X : Cx} {tb : List Addr} {e tg iter elt : Expr} {f : EF} {pos : Pos}
theorem aL {i : Nat} {x : Str} (hN : X.N.Nodup) (hi : X.N[i]? = some x := by rfl) (hx : Loc X.env.scope x := by first | exact Or.inl rfl | exact Or.inr rfl)
  (hf : X.fn x = true ∨ X.env.scope.names.lookup x = some .local := by first | exact .inl rfl | exact .inr rfl | assumption) : PGD X tb (.Name x pos) [i] (hName i) :=
 JP (vC hN hi hx hf) λ v σ H Q zq1 => by
  obtain ⟨W, δ, d, δ', e, ok, hd, dv, hh, h⟩ := zq1
  cases hh
  refine h _ (hd.set dv) (by rw [List.length_set]) λ j hj => ?_
  rw [List.getElem?_set_ne (λ z => hj (by simp [z]))]
theorem jf : Hz X tb [] [] ni :=
 El Aw λ vs σ H Q zq2 => by
  obtain ⟨W, δ, ds, δ', e, ok, hd, dv, hh, h⟩ := zq2
  match ds, dv, hh with
  | [], dv, hh =>
   cases hh
   exact ⟨az.zero dv, h σ hd rfl λ _ _ => rfl⟩
theorem dh {es : List Expr} {ts us : List Nat} {h : GF} {hs : GsF} (h1 : PGD X tb e ts h) (h2 : Hz X tb es us hs)
  (ha : (assignEach (e :: es) X.env).map (·.2) = assign e X.env :: (assignEach es X.env).map (·.2) := by rfl) : Hz X tb (e :: es) (ts ++ us) (dI h hs) :=
 El (sH h1 h2 ha) λ vs σ H Q zq3 => by
  obtain ⟨W, δ, ds, δ', e, ok, hd, dv, hh, k⟩ := zq3
  match ds, dv, hh with
  | d :: r, dv, hh =>
   obtain ⟨δ1, e1, e2⟩ := Za.mp hh
   have dv' : az _ _ _ _ _ := dv
   unfold az at dv'
   obtain ⟨u, us', rfl, p, q⟩ := dv'
   refine ⟨u, us', rfl, W, δ, d, δ1, e, ok, hd, p, e1, λ σ1 d1 l1 s1 => ⟨W, δ1, r, δ', e, ok, d1, q, e2, λ σ2 d2 l2 s2 => ?_⟩⟩
   exact k σ2 d2 (l2.trans l1) λ i hi => (s2 i λ z => hi (Zn _ z)).trans (s1 i λ z => hi (List.mem_append_left _ z))
theorem lK {es : List Expr} {k : Nat} {ts : List Nat} {hs : GsF} {n : Nat} (hc : X.calm = true) (h : Hz X tb es ts hs) (hn : (assignEach es X.env).length = n := by rfl) (hst : (assignEach es X.env).findIdx? (·.1) = none := by rfl) :
  PGD X tb (.Tuple es k pos) ts (mY n hs) :=
 JP (JW hc h hn hst) λ v σ H Q zq4 => by
  obtain ⟨W, δ, d, δ', e, ok, hd, dv, hh, k⟩ := zq4
  cases d with
  | tup ds =>
   obtain ⟨a, xs, rfl, q, r⟩ := fB dv
   have hh' : (if ds.length = n then hs ds δ W.mu else none) = some δ' := hh
   by_cases hl : ds.length = n
   .rw [if_pos hl] at hh'
    have q' : SqT X.K H a xs := by rw [<- e]; exact SqT.fz q
    have hl' : xs.length = n := by rw [<- az.length r]; exact hl
    exact ⟨a, xs, rfl, q', hl', ⟨W, δ, ds, δ', e, ok, hd, r, hh', k⟩⟩
   .rw [if_neg hl] at hh'; cases hh'
  | _ => cases hh
structure Src where
 items : List D
 cel : Option Nat
def Src.ok (S : Src) (μ : Mu) : Prop := ∀ n, S.cel = some n -> μ[n]? = some (some S.items)
theorem Src.bj {S : Src} {μ : Mu} (h : S.cel = none) : S.ok μ := λ n e => by rw [h] at e; cases e
abbrev IF := En -> Mu -> Option (Src × Mu)
structure Bp (K : PySem.W.Frag) (tb : List Addr) (J : It) (S : Src) (W0 : Wd) : Prop where
 go : ∀ (i : Nat) W d, Le tb W0 W -> WOk K tb W -> S.ok W.mu -> S.items[i]? = some d -> J.go i W.H /\ ∀ x H', J.yld i W.H x H' -> ∃ W', W'.H = H' /\ WOk K tb W' /\ Le tb W W' /\ W'.mu = W.mu /\ Den K tb W' d x
 stop : ∀ (i : Nat) W, Le tb W0 W -> WOk K tb W -> S.ok W.mu -> S.items.length <= i -> J.stop i W.H
def tDI (K : PySem.W.Frag) (tb : List Addr) (f : IF) : TI := λ σ H R => ∃ W δ S μ', W.H = H /\ WOk K tb W /\ gO K tb W δ σ /\ f δ W.mu = some (S, μ') /\
 ∀ J W', WOk K tb W' -> Le tb W W' -> W'.mu = μ' -> Bp K tb J S W' -> R J W'.H
def PID (X : Cx) (tb : List Addr) (tg iter : Expr) (f : IF) : Prop := PI X tg iter (tDI X.K tb f)
theorem Fz {w w' : TI} (h : PI X tg iter w) (k : ∀ σ H R, w' σ H R -> w σ H R) : PI X tg iter w' := λ pins s σ H R I hq => h pins s σ H R I (k σ H R hq)
theorem Lw {l : Expr} {tl : TE} (hl : PE X l tl) : PI X tg l (λ σ H R => tl σ H λ x H1 => ∃ a, x = .ref a /\ ((∃ xs, SqL X.K H1 a xs) /\ R (Itl X.K a) H1 ∨ (∃ xs, SqT X.K H1 a xs) /\ R (Itt X.K a) H1)) := by
 intro pins s σ H R I h
 refine thn (hl pins s σ H _ I h) λ v s1 zq6 => ?_
 obtain ⟨x, H1, I1, r1, q1⟩ := zq6
 obtain ⟨a, e, q⟩ := q1
 subst e
 cases r1
 rcases q with ⟨⟨xs, hq⟩, q⟩ | ⟨⟨xs, hq⟩, q⟩
 .obtain ⟨its, rv, p, hz⟩ := I1.list hq
  refine wpAny_pyIter_list p.isList ?_
  refine ⟨s1.heap.objs.size, [s1.heap.objs.size], _, _, H1, rfl, I1.kept (t' := s1.toks) λ b o e => Zb _ e, uZ a _, ⟨_, Zf _ rfl, rfl, rfl⟩, λ b hb => ?_, q⟩
  have e : b = s1.heap.objs.size := by simpa using hb
  subst e
  exact I1.fpOk (Zg _) (I1.hok.fresh (Zg _))
 .obtain ⟨its, rv, p, hz⟩ := I1.tuple hq
  refine wpAny_pyIter_tuple (show s1.heap.IsTuple a its.toArray from p) ?_
  refine ⟨s1.heap.objs.size, [s1.heap.objs.size], _, _, H1, rfl, I1.kept (t' := s1.toks) λ b o e => Zb _ e, qX a _, ⟨_, Zf _ rfl, rfl, rfl⟩, λ b hb => ?_, q⟩
  have e : b = s1.heap.objs.size := by simpa using hb
  subst e
  exact I1.fpOk (Zg _) (I1.hok.fresh (Zg _))
def srcOf (d : D) (μ : Mu) : Option Src := match d with
 | .tup ds => some ⟨ds, none⟩
 | .lst ds => some ⟨ds, none⟩
 | .cell n => match μ[n]? with
  | some (some ds) => some ⟨ds, some n⟩
  | _ => none
 | _ => none
theorem Fb {K : PySem.W.Frag} {W0 : Wd} {a : Addr} {xs : List V} {ds : List D} (q : SqL K (W0.fz tb) a xs) (r : bN K tb W0 ds xs) : Bp K tb (Itl K a) ⟨ds, none⟩ W0 where
 go := λ i W d l ok _ e => by
  have q' : SqL K W.H a xs := SqL.fz (SqL.mono l.same q)
  obtain ⟨v, ev, dv⟩ := az.get (bN.mono' r l) e
  exact ⟨⟨xs, v, q', ev⟩, λ x H' ⟨e1, e2⟩ => ⟨W, e1.symm, ok, Le.refl _, rfl, by have := e2 xs q'; rw [ev] at this; cases this; exact dv⟩⟩
 stop := λ i W l ok _ hi => ⟨xs, SqL.fz (SqL.mono l.same q), by rw [<- az.length r]; exact hi⟩
theorem Fe {K : PySem.W.Frag} {W0 : Wd} {a : Addr} {xs : List V} {ds : List D} (q : SqT K (W0.fz tb) a xs) (r : bN K tb W0 ds xs) : Bp K tb (Itt K a) ⟨ds, none⟩ W0 where
 go := λ i W d l ok _ e => by
  have q' : SqT K W.H a xs := SqT.fz (SqT.mono l.same q)
  obtain ⟨v, ev, dv⟩ := az.get (bN.mono' r l) e
  exact ⟨⟨xs, v, q', ev⟩, λ x H' ⟨e1, e2⟩ => ⟨W, e1.symm, ok, Le.refl _, rfl, by have := e2 xs q'; rw [ev] at this; cases this; exact dv⟩⟩
 stop := λ i W l ok _ hi => ⟨xs, SqT.fz (SqT.mono l.same q), by rw [<- az.length r]; exact hi⟩
theorem Np {K : PySem.W.Frag} {W0 : Wd} {a : Addr} {n : Nat} {ds : List D} (q : W0.ad[n]? = some a) : Bp K tb (Itl K a) ⟨ds, some n⟩ W0 where
 go := λ i W d l ok hs e => by
  obtain ⟨xs, ex, r⟩ := ok.cont n a ds (l.ad _ _ q) (hs n rfl)
  obtain ⟨v, ev, dv⟩ := az.get r e
  exact ⟨⟨xs, v, SqL.of ex, ev⟩, λ x H' ⟨e1, e2⟩ => ⟨W, e1.symm, ok, Le.refl _, rfl, by have := e2 xs (SqL.of ex); rw [ev] at this; cases this; exact dv⟩⟩
 stop := λ i W l ok hs hi => by
  obtain ⟨xs, ex, r⟩ := ok.cont n a ds (l.ad _ _ q) (hs n rfl)
  exact ⟨xs, SqL.of ex, by rw [<- az.length r]; exact hi⟩
def cj (f : EF) : IF := λ δ μ => (f δ μ).bind λ r => (srcOf r.1 r.2).map λ S => (S, r.2)
theorem bx (he : PD X tb e f) : PID X tb tg e (cj f) :=
 Fz (Lw he) λ σ H R zq7 => by
  obtain ⟨W, δ, S, μ', e, ok, hd, hf, h⟩ := zq7
  unfold cj at hf
  obtain ⟨⟨x, μ1⟩, e1, hf⟩ := Za.mp hf
  obtain ⟨S', e2, e3⟩ := Zp.mp hf
  cases e3
  refine ⟨W, δ, x, _, e, ok, hd, e1, λ v W1 ok1 l1 m1 d1 => ?_⟩
  cases x with
  | tup ds =>
   cases e2
   obtain ⟨a, xs, rfl, q, r⟩ := fB d1
   exact ⟨a, rfl, .inr ⟨⟨xs, SqT.fz q⟩, h _ W1 ok1 l1 m1 (Fe q r)⟩⟩
  | lst ds =>
   cases e2
   obtain ⟨a, xs, rfl, q, r⟩ := kJ d1
   exact ⟨a, rfl, .inl ⟨⟨xs, SqL.fz q⟩, h _ W1 ok1 l1 m1 (Fb q r)⟩⟩
  | cell n =>
   obtain ⟨a, rfl, q⟩ := fQ d1
   have e2' : (match μ1[n]? with | some (some ds) => some (⟨ds, some n⟩ : Src) | _ => none) = some S := e2
   cases e4 : μ1[n]? with
   | none => rw [e4] at e2'; cases e2'
   | some o =>
    cases o with
    | none => rw [e4] at e2'; cases e2'
    | some ds =>
     rw [e4] at e2'
     cases e2'
     obtain ⟨xs, ex, _⟩ := ok1.cont n a ds q (by rw [m1]; exact e4)
     exact ⟨a, rfl, .inl ⟨⟨xs, SqL.of ex⟩, h _ W1 ok1 l1 m1 (Np q)⟩⟩
  | _ => cases e2
def cX (lo : Int) (n : Nat) : List D := (List.range n).map λ (k : Nat) => D.int (lo + (k : Int))
theorem Ln {K : PySem.W.Frag} {W0 : Wd} {lo : Int} {n : Nat} : Bp K tb (Itr lo n) ⟨cX lo n, none⟩ W0 where
 go := λ i W d l ok _ e => by
  unfold cX at e
  rw [List.getElem?_map] at e
  by_cases hi : i < n
  .rw [List.getElem?_range hi] at e
   cases e
   exact ⟨hi, λ x H' ⟨e1, e2⟩ => ⟨W, e1.symm, ok, Le.refl _, rfl, by rw [e2]; exact dZ⟩⟩
  .rw [List.getElem?_eq_none (by simpa using hi)] at e; cases e
 stop := λ i W l ok _ hi => by
  unfold cX at hi
  have hi' : n <= i := by simpa using hi
  exact hi'
def bW (fs : AF) : IF := λ δ μ => (fs δ μ).bind λ r => match r.1 with
 | [.int j] => if -(2 ^ 62) <= j /\ j < 2 ^ 62 then some (⟨cX 0 j.toNat, none⟩, r.2) else none
 | _ => none
theorem cW {a : Expr} {fs : AF} {p : Pos} (hm : X.mg "range" = none) (ha : PAD X tb [a] fs) (hg : Gl X "range" := by rfl) (hs : starEach [a] X.env = [(false, eval a X.env)] := by rfl) : PID X tb tg (.Call (.Name "range" p) [a] [] pos) (bW fs) :=
 Fz (Cj hg hm ha hs) λ σ H R zq8 => by
  obtain ⟨W, δ, S, μ', e, ok, hd, hf, h⟩ := zq8
  unfold bW at hf
  obtain ⟨⟨xs, μ1⟩, e1, e2⟩ := Za.mp hf
  match xs, e1, e2 with
  | [.int j], e1, e2 =>
   have e2' : (if -(2 ^ 62) <= j /\ j < 2 ^ 62 then some ((⟨cX 0 j.toNat, none⟩ : Src), μ1) else none) = some (S, μ') := e2
   split at e2'
   .rename_i hj
    cases e2'
    refine ⟨W, δ, _, _, e, ok, hd, e1, λ vs W1 ok1 l1 m1 d1 => ?_⟩
    obtain ⟨u, rfl, du⟩ := az.one d1
    rw [bA du]
    exact ⟨j, rfl, hj.1, hj.2, h _ W1 ok1 l1 m1 Ln⟩
   .cases e2'
open Classical in
noncomputable def forL (S : Src) (h : GF) (b : SF) : List D -> SF
 | [], δ, μ => if S.ok μ then some (.nx, δ, μ) else none
 | d :: r, δ, μ => if S.ok μ then (h d δ μ).bind λ δ1 => (b δ1 μ).bind λ q => match q.1 with
   | .nx => forL S h b r q.2.1 q.2.2
   | .ct => forL S h b r q.2.1 q.2.2
   | .bk => some (.nx, q.2)
   | .rt d => some (.rt d, q.2)
  else none
noncomputable def iK (f : IF) (h : GF) (b : SF) : SF := λ δ μ => (f δ μ).bind λ r => forL r.1 h b r.1.items δ r.2
theorem gU {body : List Stmt} {fi : IF} {ts : List Nat} {h : GF} {b : SF} (hp : PassesOwn (model X.prog X.w) X.A X.env X.xe) (hc : X.calm = true) (hi : PID X tb tg iter fi) (hg : PGD X tb tg ts h) (hb : ue X tb body b)
  (hs : ∀ x, foldedSetIterable iter X.env x = pure x := by intro _; rfl) : PSD X tb (.For tg iter body [] pos) (iK fi h b) :=
 mK (Ka hp hc hi hg hb hs) λ E σ H zq10 => by
  obtain ⟨W, δ, fl, δ', μ', e, ok, hd, hf, k⟩ := zq10
  unfold iK at hf
  obtain ⟨⟨S, μ1⟩, e1, e2⟩ := Za.mp hf
  refine ⟨W, δ, S, μ1, e, ok, hd, e1, λ J W1 ok1 l1 m1 io => ?_⟩
  refine ⟨λ i m σ2 H2 => m = S.items.length - i /\ i <= S.items.length /\ ∃ W2 δ2, W2.H = H2 /\ WOk X.K tb W2 /\ Le tb W1 W2 /\ gO X.K tb W2 δ2 σ2 /\ forL S h b (S.items.drop i) δ2 W2.mu = some (fl, δ', μ'),
   ⟨S.items.length, rfl, Nat.zero_le _, W1, δ, rfl, ok1, Le.refl _, hd.mono' l1, by rw [m1]; exact e2⟩, ?_⟩
  rintro i m σ2 H2 ⟨hm, hi', W2, δ2, rfl, ok2, l2, d2, hn⟩
  by_cases hlt : i < S.items.length
  .right
   have hdr : S.items.drop i = S.items[i] :: S.items.drop (i + 1) := List.drop_eq_getElem_cons hlt
   rw [hdr] at hn
   unfold forL at hn
   split at hn
   .rename_i hok
    obtain ⟨δ3, e3, hn⟩ := Za.mp hn
    obtain ⟨⟨fl4, δ4, μ4⟩, e4, e5⟩ := Za.mp hn
    obtain ⟨go, yl⟩ := io.go i W2 S.items[i] l2 ok2 hok (by simp [hlt])
    refine ⟨go, λ σ5 H5 => ∃ W5, W5.H = H5 /\ WOk X.K tb W5 /\ Le tb W1 W5 /\ gO X.K tb W5 δ4 σ5 /\ forL S h b (S.items.drop (i + 1)) δ4 W5.mu = some (fl, δ', μ'), λ σ5 H5 ⟨W5, q1, q2, q3, q4, q5⟩ => ⟨S.items.length - (i + 1), by omega, rfl, hlt, W5, δ4, q1, q2, q3, q4, q5⟩, λ x H' y => ?_⟩
    obtain ⟨W3, rfl, ok3, l3, m3, d3⟩ := yl x H' y
    refine ⟨W3, δ2, S.items[i], δ3, rfl, ok3, d2.mono' l3, d3, (by rw [m3]; exact e3), λ σ3 d3' _ _ => ?_⟩
    refine ⟨W3, δ3, fl4, δ4, μ4, rfl, ok3, d3', (by rw [m3]; exact e4), λ σ4 W4 ok4 l4 m4 d4 => ?_⟩
    cases fl4 with
    | nx => exact ⟨W4, rfl, ok4, (l2.trans l3).trans l4, d4, by rw [m4]; exact e5⟩
    | ct => exact ⟨W4, rfl, ok4, (l2.trans l3).trans l4, d4, by rw [m4]; exact e5⟩
    | bk => cases e5; exact k σ4 W4 ok4 (((l1.trans l2).trans l3).trans l4) m4 d4
    | rt d => cases e5; exact k σ4 W4 ok4 (((l1.trans l2).trans l3).trans l4) m4 d4
   .cases hn
  .left
   have hdr : S.items.drop i = [] := List.drop_of_length_le (by omega)
   rw [hdr] at hn
   unfold forL at hn
   split at hn
   .rename_i hok
    have hn' : some (Fl.nx, δ2, W2.mu) = some (fl, δ', μ') := hn
    cases hn'
    exact ⟨io.stop i W2 l2 ok2 hok (by omega), k σ2 W2 ok2 (l1.trans l2) rfl d2⟩
   .cases hn
abbrev LF := En -> Mu -> Option (List D × Mu)
def tDN (K : PySem.W.Frag) (tb : List Addr) (f : LF) : TE := λ σ H Q => ∃ W δ ds μ', W.H = H /\ WOk K tb W /\ gO K tb W δ σ /\ f δ W.mu = some (ds, μ') /\
 ∀ p vs W', WOk K tb W' -> Le tb W W' -> W'.mu = μ' -> W'.H p = none -> bN K tb W' ds vs -> Q (.ref p) (upd W'.H p (.lst vs))
def PDN (X : Cx) (tb : List Addr) (e : Expr) (f : LF) : Prop := PE X e (tDN X.K tb f)
def mFz (f : LF) : EF := λ δ μ => (f δ μ).bind λ r => some (.lst r.1, r.2)
def mx (f : LF) : EF := λ δ μ => (f δ μ).bind λ r => some (.cell r.2.length, r.2 ++ [some r.1])
theorem cg {f : LF} (h : PDN X tb e f) : PD X tb e (mFz f) := dO h λ σ H Q zq11 => by
 obtain ⟨W, δ, d, μ', e, ok, hd, hf, k⟩ := zq11
 unfold mFz at hf
 obtain ⟨⟨ds, μ1⟩, e1, e2⟩ := Za.mp hf
 cases e2
 refine ⟨W, δ, ds, _, e, ok, hd, e1, λ p vs W1 ok1 l1 m1 hp r => ?_⟩
 exact iY ok1 (λ v W' ok' l' m' d' => k v W' ok' (l1.trans l') (m'.trans m1) d') r hp
theorem lL {f : LF} (h : PDN X tb e f) : PD X tb e (mx f) := dO h λ σ H Q zq12 => by
 obtain ⟨W, δ, d, μ', e, ok, hd, hf, k⟩ := zq12
 unfold mx at hf
 obtain ⟨⟨ds, μ1⟩, e1, e2⟩ := Za.mp hf
 cases e2
 refine ⟨W, δ, ds, μ1, e, ok, hd, e1, λ p vs W1 ok1 l1 m1 hp r => ?_⟩
 obtain ⟨ok2, l2, d2⟩ := ok1.new hp r
 exact k _ _ ok2 (l1.trans l2) (by show W1.mu ++ [some ds] = _; rw [m1]) (by rw [<- m1]; exact d2)
def zO (fs : AF) : LF := λ δ μ => (fs δ μ).bind λ r => if r.1.length <= sizeLine then some r else none
theorem Iv {es : List Expr} {fs : AF} (h : PAD X tb es fs) : PDN X tb (.List es pos) (zO fs) := dO (FW h) λ σ H Q zq13 => by
 obtain ⟨W, δ, ds, μ', e, ok, hd, hf, k⟩ := zq13
 unfold zO at hf
 obtain ⟨⟨xs, μ1⟩, e1, e2⟩ := Za.mp hf
 split at e2
 .rename_i hl
  cases e2
  exact ⟨W, δ, _, _, e, ok, hd, e1, λ vs W1 ok1 l1 m1 d1 => ⟨by rw [<- az.length d1]; exact hl, λ p hp => k p vs W1 ok1 l1 m1 hp d1⟩⟩
 .cases e2
def bQ (own : List Str) (δ : En) (capI : List Nat) : En := List.replicate own.length none ++ capI.map λ i => (δ[i]?).join
theorem qM {K : PySem.W.Frag} {W : Wd} {own : List Str} {capI : List Nat} {δ : En} {σ : SV} (h : gO K tb W δ σ) : gO K tb W (bQ own δ capI) (cF own σ capI) := by
 refine ⟨by unfold bQ cF ju; simp, λ i d e => ?_⟩
 unfold bQ at e
 unfold cF ju
 by_cases hi : i < own.length
 .rw [Zs (by simpa using hi), List.getElem?_replicate] at e
  split at e <;> cases e
 .rw [List.getElem?_append_right (by simpa using hi), List.getElem?_map] at e
  rw [List.getElem?_append_right (by simpa using hi), List.getElem?_map]
  rw [List.length_replicate] at e ⊢
  cases q : capI[i - own.length]? with
  | none => rw [q] at e; cases e
  | some j =>
   rw [q] at e
   have e' : (δ[j]?).join = some d := by simpa using e
   cases q2 : δ[j]? with
   | none => rw [q2] at e'; cases e'
   | some o =>
    rw [q2] at e'
    have e2 : o = some d := e'
    subst e2
    obtain ⟨v, ev, dv⟩ := h.2 j d q2
    exact ⟨v, by simp [ev], dv⟩
theorem fits_of {own : List Str} {capI : List Nat} {σ σ' : SV} {ts : List Nat} (hts : ∀ i ∈ ts, i < own.length) (hl : σ'.length = (cF own σ capI).length) (h : ∀ i, i ∉ ts -> σ'[i]? = (cF own σ capI)[i]?) : Fits (cF own σ capI) σ' :=
 ⟨hl, λ i v e => by
  rw [h i λ z => ?_]
  .exact e
  .unfold cF at e
   rw [Zs (by simpa using hts i z), List.getElem?_replicate] at e
   split at e <;> cases e⟩
open Classical in
noncomputable def lcL (S : Src) (h : GF) (tt : TF) (fe : EF) (δb : En) : List D -> Mu -> Option (List D × Mu)
 | [], μ => if S.ok μ then some ([], μ) else none
 | d :: r, μ => if S.ok μ then (h d δb μ).bind λ δ1 => (tt δ1 μ).bind λ k => if k.1 = true then (fe δ1 k.2).bind λ y => (lcL S h tt fe δb r y.2).bind λ ys => some (y.1 :: ys.1, ys.2) else lcL S h tt fe δb r k.2 else none
noncomputable def lLC (own : List Str) (capI : List Nat) (fi : IF) (h : GF) (tt : TF) (fe : EF) : LF := λ δ μ => (fi δ μ).bind λ r => if r.1.items.length <= sizeLine then lcL r.1 h tt fe (bQ own δ capI) r.1.items r.2 else none
def HF (X : Cx) (tb : List Addr) (ifs : List Expr) (t : TF) : Prop := PIf X ifs (tDT X.K tb t)
def aQ : TF := λ _ μ => some (true, μ)
theorem MF {X : Cx} {e : List Expr} {t t' : TT} (h : PIf X e t) (k : ∀ σ H Q, t' σ H Q -> t σ H Q) : PIf X e t' := λ pins s σ H Q I hq => h pins s σ H Q I (k σ H Q hq)
theorem bf : HF X tb [] aQ := MF GX λ σ H Q zq14 => by
 obtain ⟨W, δ, k, μ', e, ok, hd, hf, h⟩ := zq14
 subst e; cases hf
 exact h W ok (Le.refl _) rfl
theorem xf {c : Expr} {t : TF} (h : PTD X tb c t) : HF X tb [c] t := Jp h
theorem bZ {ifs : List Expr} {fi : IF} {h : GF} {tt : TF} {fe : EF} {own cap : List Str} {capI ts : List Nat} {scope : Scope} (hc : X.calm = true) (B : eQ X own cap capI scope) (hown : ∀ x ∈ own, (x, NameKind.free) ∉ scope.names) (hi : PID X tb tg iter fi)
  (hg : ∀ cs C fp s2 H2, PGD (dF X own cap scope cs C fp s2 H2) tb tg ts h) (ht : ∀ cs C fp s2 H2, HF (dF X own cap scope cs C fp s2 H2) tb ifs tt) (he : ∀ cs C fp s2 H2, PD (dF X own cap scope cs C fp s2 H2) tb elt fe)
  (hts : ∀ i ∈ ts, i < own.length := by decide) (hs : ∀ x, foldedSetIterable iter X.env x = pure x := by intro _; rfl) : PDN X tb (.ListComp elt [⟨tg, iter, ifs, 0⟩] scope pos) (lLC own capI fi h tt fe) :=
 dO (Ob (g := tDG X.K tb ts h) (tt := tDT X.K tb tt) (te := tD X.K tb fe) hc B hown hi hg ht he hs) λ σ H Q zq15 => by
  obtain ⟨W, δ, ds, μ', e, ok, hd, hf, k⟩ := zq15
  unfold lLC at hf
  obtain ⟨⟨S, μ1⟩, e1, e2⟩ := Za.mp hf
  split at e2
  .rename_i hz
   refine ⟨W, δ, S, μ1, e, ok, hd, e1, λ J W1 ok1 l1 m1 io => ?_⟩
   refine ⟨λ i m ys H2 => m = S.items.length - i /\ i <= S.items.length /\ ys.length <= i /\ ∃ W2 zs rs, W2.H = H2 /\ WOk X.K tb W2 /\ Le tb W1 W2 /\ bN X.K tb W2 zs ys /\ lcL S h tt fe (bQ own δ capI) (S.items.drop i) W2.mu = some (rs, μ') /\ zs ++ rs = ds,
    ⟨S.items.length, rfl, Nat.zero_le _, Nat.zero_le _, W1, [], ds, rfl, ok1, Le.refl _, az.nil, by rw [m1]; exact e2, rfl⟩, ?_⟩
   rintro i m ys H2 ⟨hm, hi', hy, W2, zs, rs, rfl, ok2, l2, d2, hn, hzs⟩
   by_cases hlt : i < S.items.length
   .right
    have hdr : S.items.drop i = S.items[i] :: S.items.drop (i + 1) := List.drop_eq_getElem_cons hlt
    rw [hdr] at hn
    unfold lcL at hn
    split at hn
    .rename_i hok
     obtain ⟨δ3, e3, hn⟩ := Za.mp hn
     obtain ⟨⟨kk, μ4⟩, e4, hn⟩ := Za.mp hn
     obtain ⟨go, yl⟩ := io.go i W2 S.items[i] l2 ok2 hok (by simp [hlt])
     refine ⟨go, Zc (Nat.lt_of_le_of_lt hy hlt) hz, λ x H' y => ?_⟩
     obtain ⟨W3, rfl, ok3, l3, m3, d3⟩ := yl x H' y
     refine ⟨W3, bQ own δ capI, S.items[i], δ3, rfl, ok3, (qM hd).mono' ((l1.trans l2).trans l3), d3, (by rw [m3]; exact e3), λ σ3 d3' hl3 ht3 => ⟨fits_of hts hl3 ht3, ?_⟩⟩
     refine ⟨W3, δ3, kk, μ4, rfl, ok3, d3', (by rw [m3]; exact e4), λ W4 ok4 l4 m4 => ?_⟩
     cases kk with
     | false =>
      rw [if_neg Zr]
      exact ⟨S.items.length - (i + 1), by omega, rfl, hlt, by omega, W4, zs, rs, rfl, ok4, (l2.trans l3).trans l4, bN.mono' d2 (l3.trans l4), by rw [m4]; exact hn, hzs⟩
     | true =>
      rw [if_pos rfl]
      have hn' : ((fe δ3 μ4).bind λ y => (lcL S h tt fe (bQ own δ capI) (S.items.drop (i + 1)) y.2).bind λ ys => some (y.1 :: ys.1, ys.2)) = some (rs, μ') := hn
      obtain ⟨⟨yd, μ5⟩, e5, hn'⟩ := Za.mp hn'
      obtain ⟨⟨rs', μ6⟩, e6, e7⟩ := Za.mp hn'
      cases e7
      refine ⟨W4, δ3, yd, μ5, rfl, ok4, d3'.mono' l4, (by rw [m4]; exact e5), λ v W5 ok5 l5 m5 d5 => ?_⟩
      refine ⟨S.items.length - (i + 1), by omega, rfl, hlt, by rw [List.length_append]; simp; omega, W5, zs ++ [yd], rs', rfl, ok5, ((l2.trans l3).trans l4).trans l5, az.append (bN.mono' d2 ((l3.trans l4).trans l5)) (az.cons d5 az.nil), by rw [m5]; exact e6, by rw [List.append_assoc]; exact hzs⟩
    .cases hn
   .left
    have hdr : S.items.drop i = [] := List.drop_of_length_le (by omega)
    rw [hdr] at hn
    unfold lcL at hn
    split at hn
    .rename_i hok
     cases hn
     rw [List.append_nil] at hzs
     subst hzs
     exact ⟨io.stop i W2 l2 ok2 hok (by omega), λ l hl => k l ys W2 ok2 (l1.trans l2) rfl hl d2⟩
    .cases hn
  .cases e2
end
end L3
namespace L2
open PySem PySem.Spec PyProof.Rows
theorem wj {X : Cx} {pins : List (Addr × Obj)} {σ : L2.St} {H : Hp} {s : Shared} (I : Inv X pins σ H s) (hc : X.calm = true) {A' : Around} (h1 : A'.handled = X.A.handled) (h2 : A'.frames = X.A.frames) : A'.handled = none /\ A'.frames = some X.stack :=
 ⟨h1.trans (I.ok.hd hc), h2.trans I.ok.frames⟩
theorem qQ {X : Cx} {e : Expr} {pos : Pos} {s : Shared} {Q : List Value -> Shared -> Prop} (h : wpAny (model X.prog X.w) X.A (eval e X.env) (λ u s1 => Q [u] s1) X.xe s) (hs : starEach [e] X.env = (false, eval e X.env) :: starEach [] X.env := by rfl) :
  wpAny (model X.prog X.w) X.A (spliced (backTo pos (starEach [e] X.env))) Q X.xe s := by
 rw [hs]
 show wpAny _ _ (spliced ((false, eval e X.env) :: backTo pos (starEach [] X.env))) _ _ s
 exact Calls.spliced_cons (thn h λ u s1 q => Calls.spliced_nil q)
def GD (y : V) (k : Bool) : Prop := y = .bl k ∨ ∃ i, y = .int i /\ k = (i != 0)
theorem Hh {P : Program} {w : World} {A : Around} {E : Value -> Shared -> Prop} {s : Shared} {y : V} {v : Value} {k : Bool} {Q : Bool -> Shared -> Prop} (r : RelV y v) (h : GD y k) (hq : Q k s) : wpAny (model P w) A (truthy v) Q E s := by
 rcases h with rfl | ⟨i, rfl, rfl⟩
 .cases r; exact wpAny_truthy_bool hq
 .obtain ⟨t, rfl⟩ := r; exact PySem.P.truthy_int hq
theorem xT {M : Model} {A : Around} {E : Value -> Shared -> Prop} {s : Shared} {t : Sem (Option Value)} {P : Value -> Shared -> Prop} {f : Value -> Sem Unit} (hf : ∀ u, f u = pure ())
  (h : wpAny M A t (λ r s1 => ∃ u, r = some u /\ wpAny M A (f u) (λ _ s2 => P u s2) E s1) E s) : wpAny M A t (λ r s1 => ∃ u, r = some u /\ P u s1) E s := λ Γ p hΓ =>
 Sem.wp_mono M Γ t (λ a p' s ⟨u, e, q⟩ => ⟨u, e, by rw [hf] at q; exact q Γ p' hΓ⟩) (λ _ _ _ e => e) p s (h Γ p hΓ)
section
variable {X : Cx} {e : Expr} {ts : qJ} {p pos : Pos} {pins : List (Addr × Obj)} {σ : L2.St}
def Qh (ts : qJ) : TE := λ σ H Q => ts σ H λ S H1 => ∃ W : Nat -> Nat -> Hp -> Prop, (∃ m, W 0 m H1) /\ ∀ i m H, W i m H ->
 (S.fin i H /\ Q (.bl true) H) ∨ S.nxt i H λ y H' => ∃ k, GD y k /\ if k = true then ∃ m', m' < m /\ W (i + 1) m' H' else Q (.bl false) H'
theorem Gh {it : Addr} {lo : Nat} {S : nJ} {SS : List (Addr × Obj) -> Nat -> Hp -> Shared -> Prop} {Q : VK} {W : Nat -> Nat -> Hp -> Prop} (sm : xM X pins σ X.A.in1 it lo S SS)
  (st : ∀ i m H, W i m H -> (S.fin i H /\ Q (.bl true) H) ∨ S.nxt i H λ y H' => ∃ k, GD y k /\ if k = true then ∃ m', m' < m /\ W (i + 1) m' H' else Q (.bl false) H') :
  ∀ (m i : Nat) (H : Hp) (s : Shared), SS [] i H s -> W i m H -> codeAny (model X.prog X.w) X.A (.builtin "all.loop" ⟨[.ref it], []⟩) (λ r s' => ∃ u, r = .ok (.ret u) /\ EP X pins σ Q u s') s := by
 intro m
 induction m using Nat.strongRecOn with
 | ind m ih =>
  intro i H s hs hw
  refine codeAny_builtin F.entry_all_loop ?_
  rw [Around.under_plainId F.plain_all_loop _]
  show wpAny _ X.A.in1 (pyNext (.ref it) >>= _) _ _ s
  rcases st i m H hw with ⟨hf, q⟩ | hn
  .refine wpAny_bind (wpAny_mono (sm.stop (λ _ _ => False) hs hf) (λ r s1 ⟨hr, I1⟩ => ?_) λ _ _ z => z.elim)
   subst hr
   refine wpAny_bind (wpAny_rule (wpAny_pure ⟨_, rfl, .bl true, H, ?_, rfl, q⟩))
   rw [List.append_nil] at I1
   exact I1
  .refine wpAny_bind (wpAny_mono (sm.next (λ _ _ => False) hs hn) (λ r s1 ⟨u, y, H', hr, ry, ⟨k, tk, q⟩, hs'⟩ => ?_) λ _ _ z => z.elim)
   subst hr
   refine wpAny_bind (wpAny_holding (Hh ry tk ?_))
   refine wpAny_bind (wpAny_letGo ?_)
   cases k with
   | true =>
    simp only [if_true]
    rw [if_pos rfl] at q
    obtain ⟨m', hm, hw'⟩ := q
    exact wpAny_pure ⟨plainId_quiet F.plain_all_loop _, ih m' hm (i + 1) H' s1 hs' hw'⟩
   | false =>
    simp only [Bool.false_eq_true, if_false]
    rw [if_neg Zr] at q
    refine wpAny_bind (wpAny_rule (wpAny_pure ⟨_, rfl, .bl false, H', ?_, rfl, q⟩))
    have I1 := sm.inv hs'
    rw [List.append_nil] at I1
    exact I1
theorem HJ (hc : X.calm = true) (hm : X.mg "all" = none) (hstr : zE X e ts) (hg : Gl X "all" := by rfl) (hs : starEach [e] X.env = (false, eval e X.env) :: starEach [] X.env := by rfl) : PE X (.Call (.Name "all" p) [e] [] pos) (Qh ts) := by
 intro pins s σ H Q I h
 refine wpAny_Call_Name_kw (jN I hg hm boot_all ?_ (by decide) (by decide))
 refine PyProof.Rows.callWith_builtin1 (qQ (thn (hstr pins s σ H _ I h) λ u s1 ⟨S, H1, I1, rdy, W, ⟨m, w0⟩, st⟩ => ?_) hs) hs rfl
 refine call_function_tree F.kind_all F.plain_all F.entry_all (F.args_all1 _) ?_
 unfold Builtin.«all»
 refine wpAny_bind (m := oneArg "all" _) (wpAny_pure ?_)
 obtain ⟨a1, a2⟩ := wj I1 hc (A' := X.A.in1) rfl rfl
 refine wpAny_bind (wpAny_mono (rdy X.A.in1 (λ _ _ => False) a1 a2 (Nat.le_succ _) (by show X.A.units + 1 <= _; omega)) (λ itv s2 ⟨it, lo, SS, e, sm, s0, _⟩ => ?_) λ _ _ z => z.elim)
 subst e
 refine wpAny_pure ⟨plainId_quiet F.plain_all_loop _, codeAny_mono (Gh sm st m 0 H1 s2 s0 w0) λ r s' ⟨u, hr, q⟩ => ?_⟩
 subst hr
 exact q
def Ah (J : It) : nJ := ⟨λ i H Q => J.go i H /\ ∀ x H', J.yld i H x H' -> Q x H', λ i H => J.stop i H⟩
theorem uU {A' : Around} {it : Addr} {fp : List Addr} {tn : Nat -> Heap -> Prop} {J : It} {H : Hp} {s : Shared} (hc : X.calm = true) (hP : A'.handled = none) (hf : A'.frames = some X.stack)
  (T : Turn X.prog X.w X.K (.Name "x" ⟨0, 0, 0, 0⟩) J fp it tn) (I : Inv X pins σ H s) (st : tn 0 s.heap) (fk : ∀ b ∈ fp, jA X pins H b) :
  ∃ lo SS, xM X pins σ A' it lo (Ah J) SS /\ SS [] 0 H s /\ lo <= s.heap.objs.size := by
 have toA : ∀ {P : List (Addr × Obj)} {H : Hp} {s : Shared}, Inv X P σ H s -> Inv ({ X with A := A' } : Cx) P σ H s := λ I =>
  ⟨⟨I.ok.mod, I.ok.kind, I.ok.glob, I.ok.blt, I.ok.above, I.ok.inj, I.ok.has, I.ok.cab, λ _ => hP, hf, I.ok.stk, I.ok.exf, I.ok.bs, I.ok.bsz, I.ok.noex, I.ok.exfs, I.ok.funs, I.ok.frf⟩, I.os, I.bare, I.base, I.loc, I.cell, I.free, I.freeC, I.pin, I.hok, I.len⟩
 have ofA : ∀ {P : List (Addr × Obj)} {H : Hp} {s : Shared}, X.Ok -> Inv ({ X with A := A' } : Cx) P σ H s -> Inv X P σ H s := λ ok I =>
  ⟨ok, I.os, I.bare, I.base, I.loc, I.cell, I.free, I.freeC, I.pin, I.hok, I.len⟩
 have flt : ∀ b ∈ fp, b < s.heap.objs.size := λ b hb => let ⟨o, e, _⟩ := T.obj 0 _ st b hb; Ze e
 have fkA : ∀ {P : List (Addr × Obj)} {H' : Hp}, (∀ p ∈ P, s.heap.objs.size <= p.1) -> (∀ b ∈ fp, H' b = none) -> ∀ b ∈ fp, jA ({ X with A := A' } : Cx) (pins ++ P) H' b := λ {P H'} hP hn b hb => by
  obtain ⟨q0, q1, q2, q3, q4, q5⟩ := fk b hb
  refine ⟨hn b hb, q1, q2, q3, q4, λ p hp => ?_⟩
  rcases Zm.mp hp with z | z
  .exact q5 p (by simp only [Zm]; exact .inl z)
  .rcases Zm.mp z with z | z
   .exact q5 p (by simp only [Zm]; exact .inr z)
   .exact λ e => absurd (flt b hb) (by rw [<- e]; exact Nat.not_lt.mpr (hP p z))
 refine ⟨s.heap.objs.size, λ P i H' s' => (∀ p ∈ P, s.heap.objs.size <= p.1) /\ Inv X (pins ++ P) σ H' s' /\ tn i s'.heap /\ ∀ b ∈ fp, H' b = none, ⟨λ st => st.2.1, ?_, ?_, ?_, ?_, ?_, ?_⟩, ⟨λ p hp => absurd hp (by simp), by rw [List.append_nil]; exact I, st, λ b hb => (fk b hb).1⟩, Zg _⟩
 .rintro P i H1 s1 Q E ⟨hP1, I1, st1, fr1⟩ ⟨go, yl⟩
  have q := T.item ({ X with A := A' } : Cx) rfl rfl rfl hc i (pins ++ P) s1 σ H1 (λ _ _ => False) (toA I1) (fkA hP1 fr1) st1 go
  refine wpAny_mono (xT (λ u => rfl) q) (λ r s2 ⟨u, hr, x, H', I3, r3, y3, st3, fr3⟩ => ?_) λ _ _ z => z.elim
  exact ⟨u, x, H', hr, r3, yl x H' y3, hP1, ofA I1.ok I3, st3, fr3⟩
 .rintro P i H1 s1 E ⟨hP1, I1, st1, fr1⟩ hf
  exact wpAny_mono (T.done ({ X with A := A' } : Cx) rfl rfl rfl hc i (pins ++ P) s1 σ H1 (λ _ _ => False) (toA I1) (fkA hP1 fr1) st1 hf) (λ r s2 ⟨hr, I2⟩ => ⟨hr, ofA I1.ok I2⟩) λ _ _ z => z.elim
 .rintro P i H1 s1 h' tk ⟨hP1, I1, st1, fr1⟩ hk
  exact ⟨hP1, I1.kept hk, T.keep _ _ _ st1 λ b _ o e => hk b o e, fr1⟩
 .rintro P i H1 s1 D o ⟨hP1, I1, st1, fr1⟩ hD ho hn hcell
  refine ⟨λ p hp => ?_, I1.pins_of λ p hp => ?_, st1, fr1⟩
  .rcases Zi.mp hp with z | z
   .subst z; exact hD
   .exact hP1 p z
  .rcases Zm.mp hp with z | z
   .exact I1.pin p (by simp [z])
   .rcases Zi.mp z with z | z
    .subst z
     exact ⟨ho, hn, λ z => absurd I.lt (by rw [<- z]; exact Nat.not_lt.mpr hD), I.nofs hD, hcell⟩
    .exact I1.pin p (by simp [z])
 .rintro p P i H1 s1 ⟨hP1, I1, st1, fr1⟩
  exact ⟨λ q hq => hP1 q (List.mem_cons_of_mem _ hq), I1.pins_of λ q hq => I1.pin q (by rcases Zm.mp hq with z | z <;> simp [z]), st1, fr1⟩
 .rintro P i H1 s1 h' tk D ⟨hP1, I1, st1, fr1⟩ hD hn hPD hk
  have l4 : ∀ b, b < s.heap.objs.size -> b ≠ D := λ b hb => Zk (Zc hb hD)
  refine ⟨hP1, I1.turned hk hn (Ne.symm (l4 _ I.lt)) (.inr (Zl I.sz hD)) (λ x c e => let ⟨v, q⟩ := I.cell x c e; l4 c q.lt) (λ p hp => ?_), T.keep _ _ _ st1 λ b hb o e => hk b o (l4 b (flt b hb)) e, fr1⟩
  rcases Zm.mp hp with z | z
  .exact l4 _ (Ze (I.pin p (by simp [z])).1)
  .rcases Zm.mp z with z | z
   .exact l4 _ (Ze (I.pin p (by simp [z])).1)
   .exact hPD p z
theorem FN {te : TE} (hc : X.calm = true) (he : PE X e te) : zE X e (λ σ H R => te σ H λ x H1 => ∃ a, x = .ref a /\ ((∃ xs, SqL X.K H1 a xs) /\ R (Ah (Itl X.K a)) H1 ∨ (∃ xs, SqT X.K H1 a xs) /\ R (Ah (Itt X.K a)) H1)) := by
 intro pins s σ H R I h
 refine thn (he pins s σ H _ I h) λ v s1 zq1 => ?_
 obtain ⟨x, H1, I1, r1, a, e, q⟩ := zq1
 subst e
 cases r1
 rcases q with ⟨⟨xs, hq⟩, q⟩ | ⟨⟨xs, hq⟩, q⟩
 .refine ⟨_, H1, I1, λ A' E h1 h2 h3 h4 => ?_, q⟩
  obtain ⟨its, rv, p, hz⟩ := I1.list hq
  refine wpAny_pyIter_list p.isList ?_
  obtain ⟨lo, SS, sm, s0, hl⟩ := uU (A' := A') (H := H1) (s := { s1 with heap := s1.heap.push { cls := .type "list_iterator", data := .fields #[.ref a, .int 0 0] } }) hc h1 h2 (uZ a s1.heap.objs.size) (I1.kept (t' := s1.toks) λ b o e => Zb _ e) ⟨_, Zf _ rfl, rfl, rfl⟩ λ b hb => by
   have e : b = s1.heap.objs.size := by simpa using hb
   subst e
   exact I1.fpOk (Zg _) (I1.hok.fresh (Zg _))
  exact ⟨_, lo, SS, rfl, sm, s0, hl⟩
 .refine ⟨_, H1, I1, λ A' E h1 h2 h3 h4 => ?_, q⟩
  obtain ⟨its, rv, p, hz⟩ := I1.tuple hq
  refine wpAny_pyIter_tuple (show s1.heap.IsTuple a its.toArray from p) ?_
  obtain ⟨lo, SS, sm, s0, hl⟩ := uU (A' := A') (H := H1) (s := { s1 with heap := s1.heap.push { cls := .type "tuple_iterator", data := .fields #[.ref a, .int 0 0] } }) hc h1 h2 (qX a s1.heap.objs.size) (I1.kept (t' := s1.toks) λ b o e => Zb _ e) ⟨_, Zf _ rfl, rfl, rfl⟩ λ b hb => by
   have e : b = s1.heap.objs.size := by simpa using hb
   subst e
   exact I1.fpOk (Zg _) (I1.hok.fresh (Zg _))
  exact ⟨_, lo, SS, rfl, sm, s0, hl⟩
end
section
variable {X : Cx} {e : Expr} {ts : qJ} {p pos : Pos} {pins : List (Addr × Obj)} {σ : L2.St}
def LC (S : nJ) (Fin : List V -> Hp -> Prop) (H1 : Hp) : Prop := ∃ W : Nat -> Nat -> List V -> Hp -> Prop, (∃ m, W 0 m [] H1) /\ ∀ i m ys H, W i m ys H ->
 (S.fin i H /\ Fin ys H) ∨ (ys.length < sizeLine /\ S.nxt i H λ y H' => ∃ m', m' < m /\ W (i + 1) m' (ys ++ [y]) H')
theorem xP {A : Around} {it D : Addr} {lo : Nat} {S : nJ} {SS : List (Addr × Obj) -> Nat -> Hp -> Shared -> Prop} {Fin : List V -> Hp -> Prop} {W : Nat -> Nat -> List V -> Hp -> Prop} {res : Value} (sm : xM X pins σ A.in1 it lo S SS) (hD : lo <= D)
  (st : ∀ i m ys H, W i m ys H -> (S.fin i H /\ Fin ys H) ∨ (ys.length < sizeLine /\ S.nxt i H λ y H' => ∃ m', m' < m /\ W (i + 1) m' (ys ++ [y]) H')) :
  ∀ (m i : Nat) (ys : List V) (us : List Value) (c : Nat) (H : Hp) (s : Shared), SS [] i H s -> W i m ys H -> Vals ys us -> ys.length <= sizeLine -> s.heap.get? D = some (bG us c) -> H D = none ->
   codeAny (model X.prog X.w) A (.builtin "list.extend.loop" ⟨[.ref D, .ref it, res], []⟩) (λ r s' => r = .ok (.ret res) /\ ∃ ys us c H', Inv X pins σ H' s' /\ Vals ys us /\ ys.length <= sizeLine /\ s'.heap.get? D = some (bG us c) /\ H' D = none /\ Fin ys H') s := by
 intro m
 induction m using Nat.strongRecOn with
 | ind m ih =>
  intro i ys us c H s hs hw hv hz ho hn
  have hsp := sm.pin hs hD ho hn (λ v z => by cases z)
  refine codeAny_builtin F.entry_extend_loop ?_
  rw [Around.under_plainId F.plain_extend_loop _]
  show wpAny _ A.in1 (pyNext (.ref it) >>= _) _ _ s
  rcases st i m ys H hw with ⟨hf, q⟩ | ⟨hlt, hn'⟩
  .refine wpAny_bind (wpAny_mono (sm.stop (λ _ _ => False) hsp hf) (λ r s1 ⟨hr, I1⟩ => ?_) λ _ _ z => z.elim)
   subst hr
   have pl := I1.pin (D, bG us c) (by simp)
   exact wpAny_pure ⟨rfl, ys, us, c, H, I1.pins_of λ p hp => I1.pin p (by simp [hp]), hv, hz, pl.1, hn, q⟩
  .refine wpAny_bind (wpAny_mono (sm.next (λ _ _ => False) hsp hn') (λ r s1 ⟨u, y, H', hr, ry, ⟨m', hm, hw'⟩, hs'⟩ => ?_) λ _ _ z => z.elim)
   subst hr
   have pl := (sm.inv hs').pin (D, bG us c) (by simp)
   have hul : us.length = ys.length := hv.length.symm
   show wpAny _ A.in1 (updateSeq D (·.push u) >>= _) _ _ _
   refine wpAny_bind ?_
   refine wpAny_updateSeq pl.1 rfl (wpAny_pure ⟨plainId_quiet F.plain_extend_loop _, ih m' hm (i + 1) (ys ++ [y]) (us ++ [u]) (c + 1) H' _ (sm.acc (tk := s1.toks) (sm.unpin hs') hD pl.2.1 (λ p hp => absurd hp (by simp)) λ b o hb e => (Heap.get?_update_other _ _ (Ne.symm hb)).trans e) hw' (hv.append (.cons ry .nil)) (by rw [List.length_append]; exact hlt) ?_ pl.2.1⟩) ?_ ?_
   .rw [Heap.get?_update_self _ pl.1 rfl]
    simp [Obj.mapSeq, bG]
   .show us.toArray.size <= sizeLine
    rw [Zd, hul]; exact hz
   .show (us.toArray.push u).size <= sizeLine + 1
    rw [Array.size_push, Zd, hul]; omega
theorem xN {A : Around} {E : Value -> Shared -> Prop} {a : Addr} {lo : Nat} {S : nJ} {SS : List (Addr × Obj) -> Nat -> Hp -> Shared -> Prop} {Fin : List V -> Hp -> Prop} {H : Hp} {s : Shared} {Q : List Value -> Shared -> Prop} (sm : xM X pins σ A.in1 a lo S SS) (hs : SS [] 0 H s) (hal : a < lo) (hlo : lo <= s.heap.objs.size)
  (hg : ∀ P i H s, SS P i H s -> ∃ g, s.heap.IsGen a g) (hC : LC S Fin H) (hQ : ∀ ys us H' s', Inv X pins σ H' s' -> Vals ys us -> ys.length <= sizeLine -> Fin ys H' -> Q us s') : wpAny (model X.prog X.w) A (collect (.ref a)) Q E s := by
 obtain ⟨W, ⟨m, w0⟩, st⟩ := hC
 have hT : ∀ {P i H s}, SS P i H s -> s.TypeIs (.ref a) "generator" := λ h => let ⟨g, ig⟩ := hg _ _ _ _ h; ig.typeIs
 have hSa : s.heap.objs.size ≠ a := Nat.ne_of_gt (Zc hal hlo)
 unfold collect
 refine wpAny_bind (wpAny_runValue (codeAny_builtin F.entry_proto_collect ?_))
 rw [Around.under_plainId F.plain_proto_collect _]
 show wpAny _ A.in1 (newList [] >>= λ l => again (.builtin "list.__iadd__" ⟨[l, .ref a], []⟩)) _ _ s
 refine wpAny_bind (wpAny_newObj_type ?_)
 refine wpAny_pure ⟨plainId_quiet F.plain_list_iadd _, codeAny_builtin F.entry_list_iadd ?_⟩
 rw [Around.under_plainId F.plain_list_iadd _]
 have hn : H s.heap.objs.size = none := (sm.inv hs).hok.fresh (Zg _)
 have hst₁ := sm.keep (h' := s.heap.push { cls := .type "list", data := .seq ([] : List Value).toArray }) (tk := s.toks) hs λ b o e => Zb _ e
 show wpAny _ A.in1 (Builtin.List.listExtendWith (.ref s.heap.objs.size) (.ref a) (.ref s.heap.objs.size)) _ _ _
 unfold Builtin.List.listExtendWith
 refine wpAny_bind (wpAny_typeOf (hT hst₁) ?_)
 have h1 : Builtin.List.listSameRef (.ref s.heap.objs.size) (.ref a) = false := by simp [Builtin.List.listSameRef, hSa]
 have h2 : (Value.type "generator" == Value.type "list") = false := by decide
 have h3 : (Value.type "generator" == Value.type "tuple") = false := by decide
 simp only [h1, h2, h3, Bool.or_false, Bool.false_eq_true, if_false]
 obtain ⟨g1, ig1⟩ := hg _ _ _ _ hst₁
 refine wpAny_bind (wpAny_pyIter_gen ig1 ?_)
 refine wpAny_bind (wpAny_holding ?_)
 unfold Builtin.List.listLengthHint
 refine wpAny_bind (wpAny_specialOf (hT hst₁) F.gen_no_len ?_)
 show wpAny _ A.in1 (specialOf (Value.ref a) (Str.ofString "__length_hint__") >>= _) _ _ _
 refine wpAny_bind (wpAny_specialOf (hT hst₁) F.gen_no_hint ?_)
 refine wpAny_pure ?_
 show wpAny _ A.in1 (rule "list.extend.makes-room" >>= λ _ => Builtin.List.listTouch (.ref s.heap.objs.size) >>= λ _ =>
  again (.builtin "list.extend.loop" ⟨[.ref s.heap.objs.size, .ref a, .ref s.heap.objs.size], []⟩)) _ _ _
 refine wpAny_bind (wpAny_rule ?_)
 have hS₁ : (s.heap.push { cls := .type "list", data := .seq ([] : List Value).toArray }).get? s.heap.objs.size = some { cls := .type "list", data := .seq ([] : List Value).toArray } := Zf _ rfl
 refine wpAny_bind ?_
 show wpAny _ A.in1 (updateSeq s.heap.objs.size (·.push .none) >>= λ _ => updateSeq s.heap.objs.size (·.pop)) _ _ _
 refine wpAny_bind (wpAny_updateSeq hS₁ rfl ?_)
 have hS₂ := Heap.get?_update_self (Obj.mapSeq (·.push Value.none)) hS₁ rfl
 refine wpAny_updateSeq hS₂ rfl ?_
 have hS₃ := Heap.get?_update_self (Obj.mapSeq (·.pop)) hS₂ rfl
 have oth : ∀ b o, b ≠ s.heap.objs.size -> (s.heap.push { cls := .type "list", data := .seq ([] : List Value).toArray }).get? b = some o ->
   (((s.heap.push { cls := .type "list", data := .seq ([] : List Value).toArray }).update s.heap.objs.size (Obj.mapSeq (·.push Value.none))).update s.heap.objs.size (Obj.mapSeq (·.pop))).get? b = some o :=
  λ b o hb e => (Heap.get?_update_other _ _ (Ne.symm hb)).trans ((Heap.get?_update_other _ _ (Ne.symm hb)).trans e)
 refine wpAny_pure ⟨plainId_quiet F.plain_extend_loop _, codeAny_mono (xP (res := .ref s.heap.objs.size) sm hlo st m 0 [] [] _ H _ (sm.acc (s := ({ s with heap := s.heap.push { cls := .type "list", data := .seq ([] : List Value).toArray } } : Shared)) (h' := ((s.heap.push { cls := .type "list", data := .seq ([] : List Value).toArray }).update s.heap.objs.size (Obj.mapSeq (·.push Value.none))).update s.heap.objs.size (Obj.mapSeq (·.pop))) (tk := s.toks) hst₁ hlo hn (λ p hp => absurd hp (by simp)) oth) w0 .nil (Nat.zero_le _) hS₃ hn) λ r s' ⟨hr, ys, us, c, H', I', hv, hz, ho, hn', hfin⟩ => ?_⟩
 subst hr
 show wpAny _ A (load s.heap.objs.size >>= _) _ _ s'
 refine wpAny_bind (wpAny_load ho ?_)
 refine wpAny_pure ?_
 have e : (us.toArray).toList = us := by simp
 show Q (us.toArray).toList s'
 rw [e]
 exact hQ ys us H' s' I' hv hz hfin
def Qk (ts : qJ) : TE := λ σ H Q => ts σ H λ S H1 => LC S (λ ys H' => ∀ p, H' p = none -> Q (.ref p) (upd H' p (.tup ys))) H1
theorem qU {A : Around} {E : Value -> Shared -> Prop} {a : Addr} {lo : Nat} {S : nJ} {SS : List (Addr × Obj) -> Nat -> Hp -> Shared -> Prop} {Fin : List V -> Hp -> Prop} {H : Hp} {s : Shared} {Q₁ : Value -> Shared -> Prop} (sm : xM X pins σ A.in1.in1 a lo S SS) (hs : SS [] 0 H s) (hal : a < lo) (hlo : lo <= s.heap.objs.size)
  (hg : ∀ P i H s, SS P i H s -> ∃ g, s.heap.IsGen a g) (hC : LC S Fin H) (h : ∀ ys us H' s', Inv X pins σ H' s' -> Vals ys us -> ys.length <= sizeLine -> Fin ys H' -> Q₁ (.ref s'.heap.objs.size) { s' with heap := s'.heap.push { cls := .type "tuple", data := .seq us.toArray } }) :
  codeAny (model X.prog X.w) A (.call (.builtin "tuple.__new__") ⟨[.type "tuple", .ref a], []⟩) (wants Q₁ E) s := by
 refine codeAny_of_tree ?_
 show wpAny _ A.in1 (do checkBuiltinCall "tuple.__new__" ⟨[.type "tuple", .ref a], []⟩; again (.builtin "tuple.__new__" ⟨[.type "tuple", .ref a], []⟩)) _ _ s
 refine wpAny_bind (wpAny_of_eq (F.newCall_tuple_1 _) (wpAny_pure ⟨plainId_quiet F.plain_tuple_new _, codeAny_builtin F.entry_tuple_new ?_⟩))
 rw [Around.under_plainId F.plain_tuple_new _]
 have hsub := sub_tuple_self
 have hinit := init_tuple_lookup
 have hmh := madeHere_tuple
 obtain ⟨g0, ig0⟩ := hg _ _ _ _ hs
 have hTI := ig0.typeIs
 have col : ∀ {Q : List Value -> Shared -> Prop} {E : Value -> Shared -> Prop}, (∀ ys us H' s', Inv X pins σ H' s' -> Vals ys us -> ys.length <= sizeLine -> Fin ys H' -> Q us s') -> wpAny (model X.prog X.w) A.in1 (collect (.ref a)) Q E s := λ hQ => xN sm hs hal hlo hg hC hQ
 wp_walk using wpAny_typeOf hTI, col
 intro ys us H' s' I' hv hz hfin
 show wpAny _ _ (Builtin.Tuple.tupleExact us.toArray >>= λ v => ret v) _ _ _
 unfold Builtin.Tuple.tupleExact
 refine wpAny_bind (wpAny_newObj_type ?_ (by show us.toArray.size <= sizeLine; rw [Zd, <- hv.length]; exact hz))
 refine wpAny_pure ?_
 exact h ys us H' s' I' hv hz hfin
theorem Hq (hc : X.calm = true) (hm : X.mg "tuple" = none) (hstr : uA X e ts) (hg : Gl X "tuple" := by rfl) (hs : starEach [e] X.env = (false, eval e X.env) :: starEach [] X.env := by rfl) : PE X (.Call (.Name "tuple" p) [e] [] pos) (Qk ts) := by
 intro pins s σ H Q I h
 refine wpAny_Call_Name_kw (jN I hg hm PyProof.Rows.boot_tuple ?_ (by decide) (by decide))
 refine PyProof.Rows.callWith_type1 (qQ (thn (hstr pins s σ H _ I h) λ u s1 ⟨a, S, H1, e, I1, rdy, hC⟩ => ?_) hs) hs rfl
 subst e
 obtain ⟨a1, a2⟩ := wj I1 hc (A' := X.A.in1.in1.in1) rfl rfl
 obtain ⟨lo, SS, sm, s0, hal, hlo, hgn⟩ := rdy X.A.in1.in1.in1 a1 a2 (Nat.le_succ _) (by show X.A.units + 1 + 1 + 1 <= _; omega)
 refine callType_codes (Q₁ := λ obj s₁ => s₁.TypeIs obj "tuple" /\ EP X pins σ Q obj s₁) F.called_tuple (F.typeCall_tuple_1 _) F.entry_object_init
  (qU (A := X.A.in1) sm s0 hal hlo hgn hC λ ys us H' s' I' hv hz hfin => ⟨⟨_, Zf _ rfl, rfl⟩, ?_⟩) λ obj s₁ h₁ => ?_
 .have hf : H' s'.heap.objs.size = none := I'.hok.fresh (Zg _)
  refine ⟨.ref s'.heap.objs.size, upd H' s'.heap.objs.size (.tup ys), I'.laid (t' := s'.toks) (λ b u e => Zb _ e) (Zg _) ?_, rfl, hfin _ hf⟩
  exact ⟨hz, us, hv, ⟨_, Zf _ rfl, rfl, _, rfl⟩⟩
 .exact ⟨h₁.1, F.args_object_init_2 obj _, object_init_meets F.called_tuple.init.lookup F.called_tuple.made (by decide) X.prog X.w X.A.in1 _ s₁ ⟨h₁.1, rfl, h₁.2⟩⟩
def Oe (ts : qJ) : TE := λ σ H Q => ts σ H λ S H1 => ∃ W : Nat -> Nat -> Int -> Hp -> Prop, (∃ m, W 0 m 0 H1) /\ ∀ i m t H, W i m t H ->
 (S.fin i H /\ Q (.int t) H) ∨ S.nxt i H λ y H' => ∃ j, y = .int j /\ ∃ m', m' < m /\ W (i + 1) m' (t + j) H'
theorem Dy {A : Around} {it D : Addr} {lo : Nat} {S : nJ} {SS : List (Addr × Obj) -> Nat -> Hp -> Shared -> Prop} {Q : VK} {W : Nat -> Nat -> Int -> Hp -> Prop} (sm : xM X pins σ A.in1 it lo S SS) (hD : lo <= D)
  (st : ∀ i m t H, W i m t H -> (S.fin i H /\ Q (.int t) H) ∨ S.nxt i H λ y H' => ∃ j, y = .int j /\ ∃ m', m' < m /\ W (i + 1) m' (t + j) H') :
  ∀ (m i : Nat) (t : Int) (tA : Tok) (c : Nat) (stage : Int) (H : Hp) (s : Shared), (stage = 0 ∨ stage = 2) -> SS [] i H s -> W i m t H -> s.heap.get? D = some (bG [.int t tA] c) -> H D = none ->
   codeAny (model X.prog X.w) A (.builtin "sum.loop" ⟨[.ref it, .ref D, rawInt stage, rawInt 0], []⟩) (λ r s' => ∃ u, r = .ok (.ret u) /\ EP X pins σ Q u s') s := by
 intro m
 induction m using Nat.strongRecOn with
 | ind m ih =>
  intro i t tA c stage H s hstg hs hw ho hn
  have hsp := sm.pin hs hD ho hn (λ v z => by cases z)
  refine codeAny_builtin F.entry_sum_loop ?_
  rw [Around.under_plainId F.plain_sum_loop _]
  show wpAny _ A.in1 (seqItems? (.ref D) >>= _) _ _ s
  refine wpAny_bind (wpAny_seqItems ho rfl ?_)
  show wpAny _ A.in1 (tryCatch (pyNext (.ref it)) _ >>= _) _ _ s
  rcases st i m t H hw with ⟨hf, q⟩ | hn'
  .refine wpAny_bind (wpAny_tryCatch (wpAny_mono (sm.stop (λ _ _ => False) hsp hf) (λ r s1 ⟨hr, I1⟩ => ?_) λ _ _ z => z.elim))
   subst hr
   exact wpAny_pure ⟨_, rfl, .int t, H, I1.pins_of λ p hp => I1.pin p (by simp [hp]), ⟨tA, rfl⟩, q⟩
  .refine wpAny_bind (wpAny_tryCatch (wpAny_mono (sm.next (λ _ _ => False) hsp hn') (λ r s1 ⟨u, y, H', hr, ry, ⟨j, ey, m', hm, hw'⟩, hs'⟩ => ?_) λ _ _ z => z.elim))
   subst hr ey
   obtain ⟨tj, rfl⟩ := ry
   have pl := (sm.inv hs').pin (D, bG [.int t tA] c) (by simp)
   have hs0 := sm.unpin hs'
   have plain : ∀ (next : Value -> Int), (∀ r, next r = 2) -> wpAny (model X.prog X.w) A.in1 (do
     match <- (holding [Value.int j tj] (binaryOp .Add (Value.int t tA) (Value.int j tj))).attempt with
     | .ok r => updateSeq D λ _ => #[r]; letGo [Value.int t tA, Value.int j tj]; (do updateSeq D λ _ => #[r]; again (.builtin "sum.loop" ⟨[.ref it, .ref D, rawInt (next r), rawInt 0], []⟩))
     | .error e => updateSeq D λ _ => #[]; letGo [Value.int t tA, Value.int j tj] [e]; throw e) (λ fin s' => match fin with
      | .done f => ∃ u, (Except.ok f : Result) = .ok (.ret u) /\ EP X pins σ Q u s'
      | .again c => c.quiet = true /\ codeAny (model X.prog X.w) A c (λ r s' => ∃ u, r = .ok (.ret u) /\ EP X pins σ Q u s') s') (λ e s' => ∃ u, (Except.error e : Result) = .ok (.ret u) /\ EP X pins σ Q u s') s1 := by
    intro next hnx
    refine wpAny_bind (wpAny_attempt (wpAny_holding (add_int ?_)))
    refine wpAny_bind (wpAny_updateSeq (s := { s1 with toks := s1.toks + 1 }) pl.1 rfl ?_)
    have o1 := Heap.get?_update_self (Obj.mapSeq (λ _ => #[Value.int (t + j) s1.toks])) pl.1 rfl
    refine wpAny_bind (wpAny_letGo ?_)
    refine wpAny_bind (wpAny_updateSeq o1 rfl ?_)
    have o2 := Heap.get?_update_self (Obj.mapSeq (λ _ => #[Value.int (t + j) s1.toks])) o1 rfl
    rw [hnx]
    refine wpAny_pure ⟨plainId_quiet F.plain_sum_loop _, ih m' hm (i + 1) (t + j) s1.toks _ 2 H' _ (.inr rfl) (sm.acc (s := s1) (h' := (s1.heap.update D (Obj.mapSeq (λ _ => #[Value.int (t + j) s1.toks]))).update D (Obj.mapSeq (λ _ => #[Value.int (t + j) s1.toks]))) (tk := s1.toks + 1) hs0 hD pl.2.1 (λ p hp => absurd hp (by simp)) λ b o hb e => (Heap.get?_update_other _ _ (Ne.symm hb)).trans ((Heap.get?_update_other _ _ (Ne.symm hb)).trans e)) hw' o2 pl.2.1⟩
   rcases hstg with rfl | rfl
   .show wpAny _ A.in1 (if (_ : Bool) = true then (mkInt (t + j) >>= _) else _) _ _ _
    split
    .refine wpAny_bind (wpAny_mkInt ?_)
     show wpAny _ A.in1 (updateSeq D (λ _ => #[.int (t + j) s1.toks]) >>= _) _ _ _
     refine wpAny_bind (wpAny_updateSeq (s := { s1 with toks := s1.toks + 1 }) pl.1 rfl ?_)
     have o1 := Heap.get?_update_self (Obj.mapSeq (λ _ => #[Value.int (t + j) s1.toks])) pl.1 rfl
     exact wpAny_pure ⟨plainId_quiet F.plain_sum_loop _, ih m' hm (i + 1) (t + j) s1.toks _ 0 H' _ (.inl rfl) (sm.acc (s := s1) (h' := s1.heap.update D (Obj.mapSeq (λ _ => #[Value.int (t + j) s1.toks]))) (tk := s1.toks + 1) hs0 hD pl.2.1 (λ p hp => absurd hp (by simp)) λ b o hb e => (Heap.get?_update_other _ _ (Ne.symm hb)).trans e) hw' o1 pl.2.1⟩
    .exact wpAny_bind (wpAny_rule (plain (λ _ => 2) λ _ => rfl))
   .exact plain (λ _ => 2) λ _ => rfl
theorem Ir (hc : X.calm = true) (hm : X.mg "sum" = none) (hstr : zE X e ts) (hg : Gl X "sum" := by rfl) (hs : starEach [e] X.env = (false, eval e X.env) :: starEach [] X.env := by rfl) : PE X (.Call (.Name "sum" p) [e] [] pos) (Oe ts) := by
 intro pins s σ H Q I h
 refine wpAny_Call_Name_kw (jN I hg hm boot_sum ?_ (by decide) (by decide))
 refine PyProof.Rows.callWith_builtin1 (qQ (thn (hstr pins s σ H _ I h) λ u s1 ⟨S, H1, I1, rdy, W, ⟨m, w0⟩, st⟩ => ?_) hs) hs rfl
 refine call_function_tree F.kind_sum F.plain_sum F.entry_sum (F.args_sum1 _) ?_
 unfold Builtin.«sum»
 simp only [List.length_cons, List.length_nil]
 rw [if_neg (by decide)]
 refine wpAny_bind (wpAny_of_eq (show Builtin.Builtins.bindParams "sum" ["start"] 0 { } = pure [none] from rfl) ?_)
 obtain ⟨a1, a2⟩ := wj I1 hc (A' := X.A.in1) rfl rfl
 refine wpAny_bind (wpAny_mono (rdy X.A.in1 (λ _ _ => False) a1 a2 (Nat.le_succ _) (by show X.A.units + 1 <= _; omega)) (λ itv s2 ⟨it, lo, SS, e, sm, s0, hlo⟩ => ?_) λ _ _ z => z.elim)
 subst e
 refine wpAny_bind (wpAny_mkInt ?_)
 refine wpAny_bind (wpAny_pure ?_)
 simp only [List.forIn_cons, List.forIn_nil]
 refine wpAny_bind (wpAny_bind (wpAny_bind (wpAny_isInstance (T := "int") (b := false) (typeIs_int _ _ _) PySem.sub_int_str ?_)))
 simp only [Bool.false_eq_true, if_false]
 refine wpAny_pure (wpAny_bind (wpAny_bind (wpAny_isInstance (T := "int") (b := false) (typeIs_int _ _ _) PySem.sub_int_bytes ?_)))
 simp only [Bool.false_eq_true, if_false]
 refine wpAny_pure (wpAny_bind (wpAny_bind (wpAny_isInstance (T := "int") (b := false) (typeIs_int _ _ _) PySem.sub_int_bytearray ?_)))
 simp only [Bool.false_eq_true, if_false]
 refine wpAny_pure (wpAny_pure ?_)
 refine wpAny_bind (wpAny_newObj_type ?_)
 have hn : H1 s2.heap.objs.size = none := (sm.inv s0).hok.fresh (Zg _)
 refine wpAny_pure ⟨plainId_quiet F.plain_sum_loop _, codeAny_mono (Dy sm hlo st m 0 0 s2.toks 0 0 H1 _ (.inl rfl) (sm.keep (s := s2) (h' := s2.heap.push { cls := .type "list", dict := none, data := .seq [Value.int 0 s2.toks].toArray }) (tk := s2.toks + 1) s0 λ b o e => Zb _ e) w0 (Zf _ rfl) hn) λ r s' ⟨u, hr, q⟩ => ?_⟩
 subst hr
 exact q
end
end L2
namespace L3
open PySem PySem.Spec PyProof.Rows L2
abbrev fU := Mu -> Option (D × Mu)
structure JF (K : PySem.W.Frag) (tb : List Addr) (S : nJ) (ths : List fU) (W0 : Wd) : Prop where
 nxt : ∀ (i : Nat) W th d μ' Q, Le tb W0 W -> WOk K tb W -> ths[i]? = some th -> th W.mu = some (d, μ') -> (∀ v W', WOk K tb W' -> Le tb W W' -> W'.mu = μ' -> Den K tb W' d v -> Q v W'.H) -> S.nxt i W.H Q
 fin : ∀ (i : Nat) W, Le tb W0 W -> WOk K tb W -> ths.length <= i -> S.fin i W.H
abbrev StF := En -> Mu -> Option (List fU × Mu)
def Jw (K : PySem.W.Frag) (tb : List Addr) (f : StF) : qJ := λ σ H R => ∃ W δ ths μ', W.H = H /\ WOk K tb W /\ gO K tb W δ σ /\ f δ W.mu = some (ths, μ') /\
 ∀ S W', WOk K tb W' -> Le tb W W' -> W'.mu = μ' -> JF K tb S ths W' -> R S W'.H
def Ae (X : Cx) (tb : List Addr) (e : Expr) (f : StF) : Prop := zE X e (Jw X.K tb f)
def yV (X : Cx) (tb : List Addr) (e : Expr) (f : StF) : Prop := uA X e (Jw X.K tb f)
section
variable {X : Cx} {tb : List Addr} {e tg iter elt : Expr} {f : EF} {pos p : Pos} {fs : StF}
theorem Hf {t t' : qJ} (h : zE X e t) (k : ∀ σ H R, t' σ H R -> t σ H R) : zE X e t' := λ pins s σ H R I hq => h pins s σ H R I (k σ H R hq)
theorem Ge {t t' : qJ} (h : uA X e t) (k : ∀ σ H R, t' σ H R -> t σ H R) : uA X e t' := λ pins s σ H R I hq => h pins s σ H R I (k σ H R hq)
theorem lr (h : yV X tb e fs) : Ae X tb e fs := xV h
def thE (d : D) : fU := λ μ => some (d, μ)
def nO (f : EF) : StF := λ δ μ => (f δ μ).bind λ r => match r.1 with
 | .tup ds => some (ds.map thE, r.2)
 | .lst ds => some (ds.map thE, r.2)
 | _ => none
theorem Ff {K : PySem.W.Frag} {J : It} {ds : List D} {W0 : Wd} (io : Bp K tb J ⟨ds, none⟩ W0) : JF K tb (Ah J) (ds.map thE) W0 where
 nxt := λ i W th d μ' Q l ok e1 e2 hQ => by
  rw [List.getElem?_map] at e1
  cases q : ds[i]? with
  | none => rw [q] at e1; cases e1
  | some d0 =>
   rw [q] at e1
   cases e1
   cases e2
   obtain ⟨go, yl⟩ := io.go i W d l ok (Src.bj rfl) q
   exact ⟨go, λ x H' y => by
    obtain ⟨W', rfl, ok', l', m', d'⟩ := yl x H' y
    exact hQ x W' ok' l' m' d'⟩
 fin := λ i W l ok hi => io.stop i W l ok (Src.bj rfl) (by simpa using hi)
theorem pU (hc : X.calm = true) (he : PD X tb e f) : Ae X tb e (nO f) :=
 Hf (FN hc he) λ σ H R zq1 => by
  obtain ⟨W, δ, ths, μ', e, ok, hd, hf, h⟩ := zq1
  unfold nO at hf
  obtain ⟨⟨x, μ1⟩, e1, e2⟩ := Za.mp hf
  refine ⟨W, δ, x, μ1, e, ok, hd, e1, λ v W1 ok1 l1 m1 d1 => ?_⟩
  cases x with
  | tup ds =>
   cases e2
   obtain ⟨a, xs, rfl, q, r⟩ := fB d1
   exact ⟨a, rfl, .inr ⟨⟨xs, SqT.fz q⟩, h _ W1 ok1 l1 m1 (Ff (Fe q r))⟩⟩
  | lst ds =>
   cases e2
   obtain ⟨a, xs, rfl, q, r⟩ := kJ d1
   exact ⟨a, rfl, .inl ⟨⟨xs, SqL.fz q⟩, h _ W1 ok1 l1 m1 (Ff (Fb q r))⟩⟩
  | _ => cases e2
def thG (h : GF) (fe : EF) (δb : En) (d : D) : fU := λ μ => (h d δb μ).bind λ δ1 => fe δ1 μ
def mL (own : List Str) (capI : List Nat) (fi : IF) (h : GF) (fe : EF) : StF := λ δ μ => (fi δ μ).bind λ r => match r.1.cel with
 | none => some (r.1.items.map (thG h fe (bQ own δ capI)), r.2)
 | some _ => none
theorem ik {fi : IF} {h : GF} {fe : EF} {own cap : List Str} {capI ts : List Nat} {scope : Scope} {P : Addr} {kr : Nat} (hc : X.calm = true) (hr : dU kr X.A) (B : eQ X own cap capI scope) (hown : ∀ x ∈ own, (x, NameKind.free) ∉ scope.names) (hnc : ∀ y ∈ scope.names, y.2 ≠ .cell)
  (hP : P ∈ tb) (htb : ∃ c, X.env.code = .ref c /\ PySem.W.CodeHd X.base c P) (hi : PID X tb tg iter fi)
  (hg : ∀ AG cs C code fp s2 H2, PGD (sI X AG own cap scope cs C code fp s2 H2) tb tg ts h)
  (he : ∀ AG cs C code fp s2 H2, (∀ k, dU (k + 1) X.A -> dU k AG) -> PD (sI X AG own cap scope cs C code fp s2 H2) tb elt fe)
  (hts : ∀ i ∈ ts, i < own.length := by decide) (h0 : scope.names.lookup (".0" : Str) = some NameKind.local := by rfl) (hco : scope.isCoroutine = false := by rfl) (hs : ∀ x, genFold iter X.env x = pure x := by intro _; rfl) :
  yV X tb (.GeneratorExp elt [⟨tg, iter, [], 0⟩] scope pos) (mL own capI fi h fe) :=
 Ge (DQ (g := tDG X.K tb ts h) (te := tD X.K tb fe) hc hr B hown hnc h0 hco htb hi hg he hs) λ σ H R zq2 => by
  obtain ⟨W, δ, ths, μ', e, ok, hd, hf, k⟩ := zq2
  unfold mL at hf
  obtain ⟨⟨S, μ1⟩, e1, e2⟩ := Za.mp hf
  obtain ⟨items, cel⟩ := S
  cases cel with
  | some n => cases e2
  | none =>
   cases e2
   refine ⟨W, δ, ⟨items, none⟩, _, e, ok, hd, e1, λ J W1 ok1 l1 m1 io => ?_⟩
   obtain ⟨ps, ep, tp⟩ := ok1.tab P hP
   refine ⟨ps, ep, tp, λ lo H2 ps' hG => ?_⟩
   obtain ⟨ok2, l2⟩ := ok1.tbl hP ep hG
   refine k _ ⟨H2, W1.ad, W1.mu⟩ ok2 (l1.trans l2) m1 ⟨λ i W3 th d μ3 Q l3 ok3 e3 e4 hQ => ?_, λ i W3 l3 ok3 hi3 => ?_⟩
   .rw [List.getElem?_map] at e3
    cases q : items[i]? with
    | none => rw [q] at e3; cases e3
    | some d0 =>
     rw [q] at e3
     cases e3
     unfold thG at e4
     obtain ⟨δ1, e5, e6⟩ := Za.mp e4
     obtain ⟨go, yl⟩ := io.go i W3 d0 (l2.trans l3) ok3 (Src.bj rfl) q
     refine ⟨go, λ x H' y => ?_⟩
     obtain ⟨W4, rfl, ok4, l4, m4, d4⟩ := yl x H' y
     refine ⟨W4, bQ own δ capI, d0, δ1, rfl, ok4, (qM hd).mono' (((l1.trans l2).trans l3).trans l4), d4, (by rw [m4]; exact e5), λ σ' d' hl ht => ⟨fits_of hts hl ht, ?_⟩⟩
     exact ⟨W4, δ1, d, μ3, rfl, ok4, d', (by rw [m4]; exact e6), λ v W5 ok5 l5 m5 d5 => hQ v W5 ok5 (l4.trans l5) m5 d5⟩
   .exact io.stop i W3 (l2.trans l3) ok3 (Src.bj rfl) (by simpa using hi3)
def Kq : D -> Option Bool
 | .bl b => some b
 | .int i => some (i != 0)
 | _ => none
theorem Gj {K : PySem.W.Frag} {W : Wd} {x : D} {v : V} {k : Bool} (h : Den K tb W x v) (e : Kq x = some k) : GD v k := by
 cases x with
 | bl b => cases e; exact .inl (jk h)
 | int i => cases e; exact .inr ⟨i, bA h, rfl⟩
 | _ => cases e
def yf : List fU -> Mu -> Option (Bool × Mu)
 | [], μ => some (true, μ)
 | t :: r, μ => (t μ).bind λ x => (Kq x.1).bind λ k => if k = true then yf r x.2 else some (false, x.2)
def wR : List fU -> Mu -> Option (List D × Mu)
 | [], μ => some ([], μ)
 | t :: r, μ => (t μ).bind λ x => (wR r x.2).bind λ q => some (x.1 :: q.1, q.2)
def qF : Int -> List fU -> Mu -> Option (Int × Mu)
 | a, [], μ => some (a, μ)
 | a, t :: r, μ => (t μ).bind λ x => match x.1 with
  | .int j => qF (a + j) r x.2
  | _ => none
def yQ (f : StF) : EF := λ δ μ => (f δ μ).bind λ r => (yf r.1 r.2).bind λ q => some (.bl q.1, q.2)
def xm (f : StF) : EF := λ δ μ => (f δ μ).bind λ r => if r.1.length <= sizeLine then (wR r.1 r.2).bind λ q => some (.tup q.1, q.2) else none
def uf (f : StF) : EF := λ δ μ => (f δ μ).bind λ r => (qF 0 r.1 r.2).bind λ q => some (.int q.1, q.2)
theorem wC (hc : X.calm = true) (hm : X.mg "all" = none) (hstr : Ae X tb e fs) (hg : Gl X "all" := by rfl) (hs : starEach [e] X.env = (false, eval e X.env) :: starEach [] X.env := by rfl) : PD X tb (.Call (.Name "all" p) [e] [] pos) (yQ fs) :=
 dO (HJ hc hm hstr hg hs) λ σ H Q zq3 => by
  obtain ⟨W, δ, d, μ', e, ok, hd, hf, h⟩ := zq3
  unfold yQ at hf
  obtain ⟨⟨ths, μ1⟩, e1, hf⟩ := Za.mp hf
  obtain ⟨⟨b, μ2⟩, e2, e3⟩ := Za.mp hf
  cases e3
  refine ⟨W, δ, ths, μ1, e, ok, hd, e1, λ S W1 ok1 l1 m1 so => ?_⟩
  refine ⟨λ i m H2 => m = ths.length - i /\ ∃ W2, W2.H = H2 /\ WOk X.K tb W2 /\ Le tb W1 W2 /\ yf (ths.drop i) W2.mu = some (b, μ2), ⟨_, rfl, W1, rfl, ok1, Le.refl _, by rw [m1]; exact e2⟩, ?_⟩
  rintro i m H2 ⟨rfl, W2, rfl, ok2, l2, ha⟩
  by_cases hlt : i < ths.length
  .right
   rw [List.drop_eq_getElem_cons hlt] at ha
   unfold yf at ha
   obtain ⟨⟨x, μ3⟩, e3, ha⟩ := Za.mp ha
   obtain ⟨k, e4, ha⟩ := Za.mp ha
   refine so.nxt i W2 ths[i] x μ3 _ l2 ok2 (by simp [hlt]) e3 λ v W3 ok3 l3 m3 d3 => ⟨k, Gj d3 e4, ?_⟩
   cases k with
   | true =>
    rw [if_pos rfl]
    exact ⟨ths.length - (i + 1), by omega, rfl, W3, rfl, ok3, l2.trans l3, by rw [m3]; exact ha⟩
   | false =>
    rw [if_neg Zr]
    cases ha
    exact h _ W3 ok3 ((l1.trans l2).trans l3) m3 fj
  .left
   rw [List.drop_of_length_le (by omega)] at ha
   cases ha
   exact ⟨so.fin i W2 l2 ok2 (by omega), h _ W2 ok2 (l1.trans l2) rfl fj⟩
theorem wN (hc : X.calm = true) (hm : X.mg "sum" = none) (hstr : Ae X tb e fs) (hg : Gl X "sum" := by rfl) (hs : starEach [e] X.env = (false, eval e X.env) :: starEach [] X.env := by rfl) : PD X tb (.Call (.Name "sum" p) [e] [] pos) (uf fs) :=
 dO (Ir hc hm hstr hg hs) λ σ H Q zq5 => by
  obtain ⟨W, δ, d, μ', e, ok, hd, hf, h⟩ := zq5
  unfold uf at hf
  obtain ⟨⟨ths, μ1⟩, e1, hf⟩ := Za.mp hf
  obtain ⟨⟨b, μ2⟩, e2, e3⟩ := Za.mp hf
  cases e3
  refine ⟨W, δ, ths, μ1, e, ok, hd, e1, λ S W1 ok1 l1 m1 so => ?_⟩
  refine ⟨λ i m t H2 => m = ths.length - i /\ ∃ W2, W2.H = H2 /\ WOk X.K tb W2 /\ Le tb W1 W2 /\ qF t (ths.drop i) W2.mu = some (b, μ2), ⟨_, rfl, W1, rfl, ok1, Le.refl _, by rw [m1]; exact e2⟩, ?_⟩
  rintro i m t H2 ⟨rfl, W2, rfl, ok2, l2, ha⟩
  by_cases hlt : i < ths.length
  .right
   rw [List.drop_eq_getElem_cons hlt] at ha
   unfold qF at ha
   obtain ⟨⟨x, μ3⟩, e3, ha⟩ := Za.mp ha
   cases x with
   | int j =>
    refine so.nxt i W2 ths[i] _ μ3 _ l2 ok2 (by simp [hlt]) e3 λ v W3 ok3 l3 m3 d3 => ⟨j, bA d3, ths.length - (i + 1), by omega, rfl, W3, rfl, ok3, l2.trans l3, by rw [m3]; exact ha⟩
   | _ => cases ha
  .left
   rw [List.drop_of_length_le (by omega)] at ha
   cases ha
   exact ⟨so.fin i W2 l2 ok2 (by omega), h _ W2 ok2 (l1.trans l2) rfl dZ⟩
theorem Gw (hc : X.calm = true) (hm : X.mg "tuple" = none) (hstr : yV X tb e fs) (hg : Gl X "tuple" := by rfl) (hs : starEach [e] X.env = (false, eval e X.env) :: starEach [] X.env := by rfl) : PD X tb (.Call (.Name "tuple" p) [e] [] pos) (xm fs) :=
 dO (Hq hc hm hstr hg hs) λ σ H Q zq6 => by
  obtain ⟨W, δ, d, μ', e, ok, hd, hf, h⟩ := zq6
  unfold xm at hf
  obtain ⟨⟨ths, μ1⟩, e1, hf⟩ := Za.mp hf
  split at hf
  .rename_i hz
   obtain ⟨⟨ds, μ2⟩, e2, e3⟩ := Za.mp hf
   cases e3
   refine ⟨W, δ, ths, μ1, e, ok, hd, e1, λ S W1 ok1 l1 m1 so => ?_⟩
   refine ⟨λ i m ys H2 => m = ths.length - i /\ ys.length <= i /\ i <= ths.length /\ ∃ W2 zs rs, W2.H = H2 /\ WOk X.K tb W2 /\ Le tb W1 W2 /\ bN X.K tb W2 zs ys /\ wR (ths.drop i) W2.mu = some (rs, μ2) /\ zs ++ rs = ds, ⟨_, rfl, Zg _, Nat.zero_le _, W1, [], ds, rfl, ok1, Le.refl _, az.nil, by rw [m1]; exact e2, rfl⟩, ?_⟩
   rintro i m ys H2 ⟨rfl, hy, hi, W2, zs, rs, rfl, ok2, l2, d2, ha, hzs⟩
   by_cases hlt : i < ths.length
   .right
    rw [List.drop_eq_getElem_cons hlt] at ha
    unfold wR at ha
    obtain ⟨⟨x, μ3⟩, e3, ha⟩ := Za.mp ha
    obtain ⟨⟨rs', μ4⟩, e4, e5⟩ := Za.mp ha
    cases e5
    refine ⟨by have hz' : ths.length <= sizeLine := hz; omega, so.nxt i W2 ths[i] x μ3 _ l2 ok2 (by simp [hlt]) e3 λ v W3 ok3 l3 m3 d3 => ?_⟩
    exact ⟨ths.length - (i + 1), by omega, rfl, by rw [List.length_append]; simp; omega, hlt, W3, zs ++ [x], rs', rfl, ok3, l2.trans l3, az.append (bN.mono' d2 l3) (az.cons d3 az.nil), by rw [m3]; exact e4, by rw [List.append_assoc]; exact hzs⟩
   .left
    rw [List.drop_of_length_le (by omega)] at ha
    cases ha
    rw [List.append_nil] at hzs
    subst hzs
    exact ⟨so.fin i W2 l2 ok2 (by omega), λ p hp => lU ok2 (λ v W' ok' l' m' d' => h v W' ok' ((l1.trans l2).trans l') m' d') d2 hp⟩
  .cases hf
end
abbrev FF := List D -> Mu -> Option (D × Mu)
def spD (K : PySem.W.Frag) (tb : List Addr) (n : Nat) (φ : FF) : Sp := λ vs H Q _ => ∃ W ds d μ', W.H = H /\ WOk K tb W /\ bN K tb W ds vs /\ ds.length = n /\ φ ds W.mu = some (d, μ') /\
 ∀ v W', WOk K tb W' -> Le tb W W' -> W'.mu = μ' -> Den K tb W' d v -> Q v W'.H
structure FI (P : Program) (w : World) (K : PySem.W.Frag) (mg : Str -> Option Value) (base : Heap) (tb : List Addr) (x : Str) (n k : Nat) (φ : FF) : Prop where
 is : ∃ f fd ps, qD P w K mg base CX0 k f fd ps (spD K tb n φ) /\ mg x = some (.ref f) /\ PySem.W.keepIn K (.ref f) = true /\ Binds K fd ps []
def aK (m : Nat) (g : SF) : FF := λ ds μ => (g (ds.map some ++ List.replicate (m - ds.length) none) μ).bind λ r => match r.1 with
 | .rt d => some (d, r.2.2)
 | .nx => some (.non, r.2.2)
 | _ => none
section
variable {X : Cx} {tb : List Addr} {e : Expr} {es : List Expr} {fs : AF} {x : Str} {n k : Nat} {φ : FF} {p pos : Pos}
theorem aW (F : FI X.prog X.w X.K X.mg X.base tb x n k φ) (hr : dU k X.A) (ha : PAD X tb (e :: es) fs) (hn : ∀ δ μ r, fs δ μ = some r -> r.1.length = n) (hg : Gl X x := by rfl) (hdb : (x == ("__debug__" : Str)) = false := by decide)
  (he : starEach (e :: es) X.env = (false, eval e X.env) :: starEach es X.env := by rfl) (hpl : (backTo pos (starEach es X.env)).any (·.1) = false := by rfl) : PD X tb (.Call (.Name x p) (e :: es) [] pos) (MC fs φ) := by
 obtain ⟨f, fd, ps, h1, h2, h3, h4⟩ := F.is
 refine dO (HR (E := E0) h1 hr hg h2 h3 h4 .nil NQ ha hdb he hpl) λ σ H Q zq7 => ?_
 obtain ⟨W, δ, d, μ', e, ok, hd, hf, h⟩ := zq7
 unfold MC at hf
 obtain ⟨⟨xs, μ1⟩, e1, e2⟩ := Za.mp hf
 refine ⟨W, δ, xs, μ1, e, ok, hd, e1, λ vs W1 ok1 l1 m1 d1 => ?_⟩
 refine ⟨W1, xs, d, μ', rfl, ok1, by rw [List.append_nil]; exact d1, hn _ _ _ e1, (by rw [m1]; exact e2), λ v W' ok' l' m' d' => h v W' ok' (l1.trans l') m' d'⟩
theorem aU (δ : En) (μ : Mu) (r : List D × Mu) (h : aG δ μ = some r) : r.1.length = 0 := by cases h; rfl
theorem aB {f : EF} {fs : AF} {n : Nat} (hk : ∀ δ μ r, fs δ μ = some r -> r.1.length = n) (δ : En) (μ : Mu) (r : List D × Mu) (h : aq f fs δ μ = some r) : r.1.length = n + 1 := by
 unfold aq at h
 obtain ⟨q, _, h⟩ := Za.mp h
 obtain ⟨t, e, h⟩ := Za.mp h
 cases h
 rw [List.length_cons, hk _ _ _ e]
end
structure fK (K : PySem.W.Frag) (x qual : Str) (st : Stmt) (f : Addr) (fd : FuncData) (P : Addr) : Prop where
 ex : ∃ (oc : Value) (od : Option Addr) (kV doc pm : Value) (an : Option Addr) (c : Addr) (ct : Value) (osl : Array (Option Value)),
  fd = PySem.W.fnOf x qual (jO st) (gY st) (aO st) .none kV doc pm an (.ref c) ct /\ K.lookup f = some ⟨oc, od, .func fd, osl⟩ /\ PySem.W.codeIn K (.ref c) qual = true /\ ∀ h : Heap, K.In h -> PySem.W.CodeHd h c P
 kp : PySem.W.keepIn K (.ref f) = true
theorem dz {P : Program} {w : World} {K : PySem.W.Frag} {mg : Str -> Option Value} {base : Heap} {tb : List Addr} {x qual : Str} {st : Stmt} {f : Addr} {fd : FuncData} {T : Addr} {N ps : List Str} {n k : Nat} {g : SF} (F : fK K x qual st f fd T) (KB : K.In base) (hmg : mg x = some (.ref f)) (S : bu N ps (aO st)) (hps : ps.length = n)
  (hb : ∀ (kV doc pm : Value) (an : Option Addr) (cdv ct : Value) (us : List Value), us.length = ps.length -> bindArgs (PySem.W.fnOf x qual (jO st) (gY st) (aO st) .none kV doc pm an cdv ct) ⟨us, []⟩ = pure (ps.zip us))
  (hbody : ∀ (c : Addr) (A : Around) (outer : List Env) (s : Shared) (H : Hp) (E : XK), PySem.W.CodeHd base c T -> dU k (A.deeper (envOfC qual (aO st) s.heap.objs.size f (.ref c))) ->
   ue (zM CX0 P w K mg base N qual (aO st) f (.ref c) A outer s H E).nox tb (gY st) g) : FI P w K mg base tb x n (k + 1) (aK N.length g) := by
 obtain ⟨oc, od, kV, doc, pm, an, c, ct, osl, rfl, lk, hcd, hhd⟩ := F.ex
 refine ⟨f, _, ps, Jv lk hcd S (λ vs H Q E ⟨W, ds, d, μ', e, ok, dl, hl, _⟩ => by rw [<- az.length dl, hl, hps]) λ A outer s H vs Q E hr hsp => ?_, hmg, F.kp, .all (hb kV doc pm an (.ref c) ct)⟩
 obtain ⟨W, ds, d, μ', e, ok, dl, hl, hf, k⟩ := hsp
 refine ⟨_, (hbody c A outer s H E (hhd base KB) hr).nox, ?_⟩
 unfold aK at hf
 obtain ⟨⟨fl, δ', μ1⟩, e1, e2⟩ := Za.mp hf
 refine ⟨W, _, fl, δ', μ1, e, ok, ?_, e1, λ σ' W' ok' l' m' d' => ?_⟩
 .have hlen := az.length dl
  refine ⟨by unfold L2.start; simp [hlen], λ i y q => ?_⟩
  unfold L2.start
  by_cases hi : i < ds.length
  .rw [Zs (by simpa using hi), List.getElem?_map] at q
   cases q2 : ds[i]? with
   | none => rw [q2] at q; cases q
   | some z =>
    rw [q2] at q
    cases q
    obtain ⟨v, ev, dv⟩ := az.get dl q2
    exact ⟨v, by rw [Zs (by rw [Zu, <- hlen]; exact hi), List.getElem?_map, ev]; rfl, dv⟩
  .rw [List.getElem?_append_right (by simpa using hi), List.getElem?_replicate] at q
   split at q <;> cases q
 .cases fl with
  | nx => cases e2; exact k .non W' ok' l' m' lN
  | rt d0 => cases e2; exact λ v dv => k v W' ok' l' m' dv
  | bk => cases e2
  | ct => cases e2
end L3
namespace L2
open PySem PySem.Spec PyProof.Rows
section
variable {X : Cx} {a b c e : Expr} {ta tb tc te : TE} {pos : Pos}
def oO (i j : Int) : Nat := Builtin.Int.intBits i + Builtin.Int.intBits j
theorem Hd : OpR X (binaryOp .Mult) (rI (λ i j => oO i j <= 134217728) λ i j => .int (i * j)) := opI λ _ _ _ _ _ _ _ hc q => mul_int q (IntMulOk.of_le (Zg _) (Zg _) hc)
theorem Du : OpR X (binaryOp .FloorDiv) (rI (λ _ j => j ≠ 0 /\ j.natAbs.log2 < 9000) λ i j => .int (i.fdiv j)) := opI λ _ _ _ _ _ _ _ hc q => floordiv_int hc.1 q (.inl (PyProof.noPylong_of_log2 hc.2))
theorem Hu : OpR X (binaryOp .Pow) (rI (λ i j => 0 <= j /\ (Builtin.Int.intBits i : Int) * j <= 2 ^ 27) λ i j => .int (i ^ j.toNat)) := opI λ _ _ _ _ _ _ _ hc q => pow_int hc.1 hc.2 q
def Ov (K : PySem.W.Frag) : R2 := λ x y H Q => ∃ a b xs ys, x = .ref a /\ y = .ref b /\ SqT K H a xs /\ SqT K H b ys /\ xs.length + ys.length <= sizeLine /\
 (xs = [] -> Q (.ref b) H) /\ (xs ≠ [] -> ys = [] -> Q (.ref a) H) /\ (xs ≠ [] -> ys ≠ [] -> ∀ p, H p = none -> Q (.ref p) (upd H p (.tup (xs ++ ys))))
theorem HH : OpR X (binaryOp .Add) (Ov X.K) := by
 intro pins s σ H x y v u Q I rx ry h
 obtain ⟨t, b, xs, ys, rfl, rfl, ha, hb, hz, q0, q1, q2⟩ := h
 by_cases hx : xs = []
 .subst hx
  cases rx
  cases ry
  obtain ⟨its, r1, p1, _⟩ := I.tuple ha
  obtain ⟨its2, r2, p2, _⟩ := I.tuple hb
  cases r1
  obtain ⟨⟨cls, dd, data, sl⟩, ho, hc, n, hd⟩ := id p1
  obtain ⟨⟨cls2, dd2, data2, sl2⟩, ho2, hc2, n2, hd2⟩ := id p2
  simp only at hc hd hc2 hd2
  subst hc hd hc2 hd2
  exact concat_meets ⟨_, ho, rfl⟩ ⟨_, ho2, rfl⟩ noFill_tuple_add seq_tuple_add PySem.F.slot_tuple_add PySem.F.entry_tuple_add (PySem.F.args_tuple_add_2 _ _)
   (tuple_addW0 t b _ _ n n2 dd dd2 sl sl2 (by simp)) ⟨ho, ho2, ⟨.ref b, H, I, rfl, q0 rfl⟩⟩
 .exact HD pins s σ H _ _ v u Q I rx ry ⟨t, b, xs, ys, rfl, rfl, ha, hb, hx, hz, q1 hx, q2 hx⟩
theorem pP : fillsNumberSlot (.type "tuple") "mul" = pure false :=
 PySem.fillsNumberSlot_seq (id := "tuple.__mul__") (r := some (.builtin "tuple.__rmul__")) F.slot_tuple_mul.lookup (by decide +kernel) F.slot_tuple_rmul.lookup (by decide +kernel)
theorem vK : seqRepeat? (.type "tuple") = pure (some (.builtin "tuple.__mul__")) := by
 unfold seqRepeat?
 rw [PySem.seqSlot_of (T := "tuple") (name := "__mul__") (id := "tuple.__mul__") F.slot_tuple_mul.lookup (by decide +kernel), PySem.seqSlot_of (T := "tuple") (name := "__rmul__") (id := "tuple.__rmul__") F.slot_tuple_rmul.lookup (by decide +kernel)]
 rfl
theorem tY (a : Int) (t : Tok) (l : Addr) (items : Array Value) (n : Nat) (dd : Option Addr) (sl : Array (Option Value)) :
  Meets (Builtin.«int.__rmul__» ⟨[.int a t, .ref l], []⟩) (λ _ R s => s.heap.get? l = some { cls := .type "tuple", dict := dd, data := .seq items n, slots := sl } /\ R (.ok (.ret Value.notImplemented)) s) :=
 .of_wp λ prog w A R s h => by obtain ⟨hp, g, d, tk, os⟩ := s; obtain ⟨hl, h⟩ := h; wp_walk; exact ⟨_, rfl, h⟩
theorem tU (l : Addr) (items : Array Value) (n : Nat) (x : Int) (u : Tok) (dd : Option Addr) (sl : Array (Option Value)) (h0 : (decide (x < -2 ^ 63) || decide (x >= 2 ^ 63)) = false) (h1 : (items.isEmpty || x == 1) = true) :
  Meets (Builtin.«tuple.__mul__» ⟨[.ref l, .int x u], []⟩) (λ _ R s => s.heap.get? l = some { cls := .type "tuple", dict := dd, data := .seq items n, slots := sl } /\ R (.ok (.ret (Value.ref l))) s) :=
 .of_wp λ prog w A R s h => by
  obtain ⟨hp, g, d, tk, os⟩ := s; obtain ⟨hl, h⟩ := h
  unfold Builtin.«tuple.__mul__»
  wp_walk using AutoSeq1.wpAny_loadPart' hl
  refine wpAny_ite_false (decide_eq_false (by rw [h0]; exact Zr)) ?_
  wp_walk using AutoSeq1.wpAny_loadPart' hl
  exact ⟨_, rfl, h⟩
theorem qW (l : Addr) (items : Array Value) (n : Nat) (x : Int) (u : Tok) (dd : Option Addr) (sl : Array (Option Value)) (h0 : (decide (x < -2 ^ 63) || decide (x >= 2 ^ 63)) = false) (h1 : (items.isEmpty || x == 1) = false) (h2 : (decide (x <= 0) || items.isEmpty) = true) :
  Meets (Builtin.«tuple.__mul__» ⟨[.ref l, .int x u], []⟩) (λ _ R s => s.heap.get? l = some { cls := .type "tuple", dict := dd, data := .seq items n, slots := sl } /\ R (.ok (.ret (Value.ref s.heap.objs.size))) { s with heap := s.heap.push { cls := Value.type "tuple", data := Data.seq #[] }, toks := s.toks }) :=
 .of_wp λ prog w A R s h => by
  obtain ⟨hp, g, d, tk, os⟩ := s; obtain ⟨hl, h⟩ := h
  unfold Builtin.«tuple.__mul__»
  wp_walk using AutoSeq1.wpAny_loadPart' hl
  refine wpAny_ite_false (decide_eq_false (by rw [h0]; exact Zr)) ?_
  wp_walk using AutoSeq1.wpAny_loadPart' hl
  exact ⟨_, rfl, h⟩
theorem ul (l : Addr) (items : Array Value) (n : Nat) (x : Int) (u : Tok) (dd : Option Addr) (sl : Array (Option Value)) (h0 : (decide (x < -2 ^ 63) || decide (x >= 2 ^ 63)) = false) (h1 : (items.isEmpty || x == 1) = false) (h2 : (decide (x <= 0) || items.isEmpty) = false)
  (h3 : ¬ (items.size : Int) * x > (2 ^ 63 - 1) / 8) (h4 : Builtin.Tuple.tupleTooMany ((items.size : Int) * x) = false) (h5 : ((List.replicate x.toNat items).foldl (· ++ ·) #[]).size <= sizeLine) :
  Meets (Builtin.«tuple.__mul__» ⟨[.ref l, .int x u], []⟩) (λ _ R s => s.heap.get? l = some { cls := .type "tuple", dict := dd, data := .seq items n, slots := sl } /\ R (.ok (.ret (Value.ref s.heap.objs.size))) { s with heap := s.heap.push { cls := Value.type "tuple", data := Data.seq ((List.replicate x.toNat items).foldl (· ++ ·) #[]) }, toks := s.toks }) :=
 .of_wp λ prog w A R s h => by
  obtain ⟨hp, g, d, tk, os⟩ := s; obtain ⟨hl, h⟩ := h
  unfold Builtin.«tuple.__mul__»
  wp_walk using AutoSeq1.wpAny_loadPart' hl
  refine wpAny_ite_false (decide_eq_false (by rw [h0]; exact Zr)) ?_
  wp_walk using AutoSeq1.wpAny_loadPart' hl
  refine wpAny_ite_false (decide_eq_false h3) ?_
  wp_walk using AutoSeq1.wpAny_loadPart' hl
  exact ⟨_, rfl, h⟩
def Qn (K : PySem.W.Frag) : R2 := λ x y H Q => ∃ l k xs, x = .ref l /\ y = .int k /\ SqT K H l xs /\ -(2 ^ 63) <= k /\ k < 2 ^ 63 /\ xs.length * k.toNat <= sizeLine /\
 ((xs = [] ∨ k = 1) -> Q (.ref l) H) /\ (¬ (xs = [] ∨ k = 1) -> ∀ p, H p = none -> Q (.ref p) (upd H p (.tup (List.replicate k.toNat xs).flatten)))
theorem Ip : OpR X (binaryOp .Mult) (Qn X.K) := by
 intro pins s σ H x y v u Q I rx ry h
 obtain ⟨l, k, xs, rfl, rfl, hH, h1, h2, hz, q1, q2⟩ := h
 cases rx
 obtain ⟨t, rfl⟩ := ry
 obtain ⟨its, r, p, hz0⟩ := I.tuple hH
 have hl := r.length
 obtain ⟨⟨cls, dd, data, sl⟩, e, hc, n, hd⟩ := id p
 simp only at hc hd
 subst hc hd
 have h0 : (decide (k < -2 ^ 63) || decide (k >= 2 ^ 63)) = false := by
  rw [decide_eq_false (by omega), decide_eq_false (by omega)]; rfl
 refine wpAny_binaryOp_repeat_ref (T := "tuple") (U := "int") (by decide) ⟨_, e, rfl⟩ (λ s' => typeIs_int s' k t) pP F.fills_int_mul F.slot_int_rmul vK F.slot_int_index.lookup
  (call_meets F.slot_int_rmul (typeIs_int s k t) F.entry_int_rmul (F.args_int_rmul_2 _ _) (tY k t l its.toArray n dd sl) ⟨e, rfl, ⟨_, e, rfl⟩, ?_⟩)
 by_cases hs : xs = [] ∨ k = 1
 .refine call_meets F.slot_tuple_mul ⟨_, e, rfl⟩ F.entry_tuple_mul (F.args_tuple_mul_2 _ _) (tU l its.toArray n k t dd sl h0 ?_) ⟨e, ⟨.ref l, H, I, rfl, q1 hs⟩⟩
  rcases hs with hs | hs
  .subst hs; cases r; rfl
  .subst hs; simp
 .have hne : (its.toArray.isEmpty || k == 1) = false := by
   rw [Bool.or_eq_false_iff]
   refine ⟨?_, by simpa using λ z => hs (.inr z)⟩
   cases its with
   | nil => cases r; exact absurd (Or.inl rfl) hs
   | cons a b => simp
  have hne' : its.toArray.isEmpty = false := (Bool.or_eq_false_iff.mp hne).1
  by_cases hk : k <= 0
  .refine call_meets F.slot_tuple_mul ⟨_, e, rfl⟩ F.entry_tuple_mul (F.args_tuple_mul_2 _ _) (qW l its.toArray n k t dd sl h0 hne (by rw [decide_eq_true hk]; rfl)) ⟨e, ?_⟩
   have hk0 : k.toNat = 0 := by omega
   refine ⟨.ref s.heap.objs.size, _, I.laid (t' := s.toks) (o := .tup []) (λ b ob q => Zb _ q) (Zg _) ⟨Nat.zero_le _, [], .nil, IsTup.new _ _⟩, rfl, ?_⟩
   have := q2 hs _ (I.hok.fresh (Zg _))
   rw [hk0] at this
   exact this
  .have hp : its.length * k.toNat <= sizeLine := by rw [<- hl]; exact hz
   have hsz := sizeLine_eq
   have hcast : ((its.toArray.size : Int)) * k = ((its.length * k.toNat : Nat) : Int) := by
    rw [Zd, Int.natCast_mul, Int.toNat_of_nonneg (by omega)]
   have hfold : List.foldl (λ x1 x2 => x1 ++ x2) #[] (List.replicate k.toNat its.toArray) = (List.replicate k.toNat its).flatten.toArray := by
    have := foldl_rep its k.toNat []
    rw [List.nil_append] at this
    exact this
   have hlen : (List.replicate k.toNat its).flatten.length <= sizeLine := by rw [len_rep, Nat.mul_comm]; exact hp
   refine call_meets F.slot_tuple_mul ⟨_, e, rfl⟩ F.entry_tuple_mul (F.args_tuple_mul_2 _ _) (ul l its.toArray n k t dd sl h0 hne (by rw [decide_eq_false hk, hne']; rfl) ?_ ?_ ?_) ⟨e, ?_⟩
   .rw [hcast]
    have : (sizeLine : Int) <= (2 ^ 63 - 1) / 8 := by decide
    omega
   .rw [hcast]
    unfold Builtin.Tuple.tupleTooMany
    exact decide_eq_false (by omega)
   .rw [hfold, Zd]; exact hlen
   .rw [hfold]
    refine ⟨.ref s.heap.objs.size, _, I.laid (t' := s.toks) (o := .tup (List.replicate k.toNat xs).flatten) (λ b ob q => Zb _ q) (Zg _) ⟨by rw [len_rep, Nat.mul_comm]; exact hz, _, r.rep k.toNat, IsTup.new _ _⟩, rfl, q2 hs _ (I.hok.fresh (Zg _))⟩
def Lj (K : PySem.W.Frag) (T : String) (x : V) (H : Hp) (k : Bool) : Prop := match x with
 | .non => k = false
 | .bl _ => k = (T == "bool" || T == "int")
 | .int _ => k = (T == "int")
 | .str _ => k = (T == "str")
 | .ref p => (k = (T == "list") /\ ∃ xs, SqL K H p xs) ∨ (k = (T == "tuple") /\ ∃ xs, SqT K H p xs) ∨ (k = (T == "dict") /\ ∃ xs, H p = some (.dK xs))
 | _ => False
def Ht : List String := ["bool", "int", "str", "list", "tuple", "dict"]
theorem Dp : gR X (.builtin "isinstance") (λ xs H Q => ∃ x T k, xs = [x, .ty T] /\ T ∈ Ht /\ Lj X.K T x H k /\ Q (.bl k) H) := by
 intro pins s σ H xs us Q I r h
 obtain ⟨x, T, k, rfl, hT, hx, q⟩ := h
 obtain ⟨u, w', rfl, rx, rt⟩ := vals2 r
 cases rt
 have fin : EP X pins σ Q (.bool k) s := ⟨.bl k, H, I, rfl, q⟩
 have fin1 : EP X pins σ Q (.bool k) { s with toks := s.toks + 1 } := ⟨.bl k, H, I.tok _, rfl, q⟩
 simp only [Ht, Zi, List.not_mem_nil, or_false] at hT
 cases x with
 | non =>
  cases rx
  have hk : k = false := hx
  subst hk
  rcases hT with rfl | rfl | rfl | rfl | rfl | rfl
  .exact IsiPair.NoneType_bool fin1
  .exact IsiPair.NoneType_int fin1
  .exact IsiPair.NoneType_str fin1
  .exact IsiPair.NoneType_list fin1
  .exact IsiPair.NoneType_tuple fin1
  .exact IsiPair.NoneType_dict fin1
 | bl b =>
  cases rx
  have hk : k = _ := hx
  subst hk
  rcases hT with rfl | rfl | rfl | rfl | rfl | rfl
  .exact IsiPair.bool_bool fin
  .exact IsiPair.bool_int fin
  .exact IsiPair.bool_str fin1
  .exact IsiPair.bool_list fin1
  .exact IsiPair.bool_tuple fin1
  .exact IsiPair.bool_dict fin1
 | int b =>
  obtain ⟨t, rfl⟩ := rx
  have hk : k = _ := hx
  subst hk
  rcases hT with rfl | rfl | rfl | rfl | rfl | rfl
  .exact IsiPair.int_bool fin1
  .exact IsiPair.int_int fin
  .exact IsiPair.int_str fin1
  .exact IsiPair.int_list fin1
  .exact IsiPair.int_tuple fin1
  .exact IsiPair.int_dict fin1
 | str b =>
  obtain ⟨t, rfl⟩ := rx
  have hk : k = _ := hx
  subst hk
  rcases hT with rfl | rfl | rfl | rfl | rfl | rfl
  .exact IsiPair.str_bool fin1
  .exact IsiPair.str_int fin1
  .exact IsiPair.str_str fin
  .exact IsiPair.str_list fin1
  .exact IsiPair.str_tuple fin1
  .exact IsiPair.str_dict fin1
 | ref p =>
  cases rx
  rcases hx with ⟨hk, xs, hq⟩ | ⟨hk, xs, hq⟩ | ⟨hk, xs, hq⟩
  .subst hk
   obtain ⟨its, _, pl, _⟩ := I.list hq
   obtain ⟨o, ho, hc, _⟩ := pl.isList
   rcases hT with rfl | rfl | rfl | rfl | rfl | rfl
   .exact IsiPair.list_bool ho hc fin1
   .exact IsiPair.list_int ho hc fin1
   .exact IsiPair.list_str ho hc fin1
   .exact IsiPair.list_list ho hc fin
   .exact IsiPair.list_tuple ho hc fin1
   .exact IsiPair.list_dict ho hc fin1
  .subst hk
   obtain ⟨its, _, pl, _⟩ := I.tuple hq
   obtain ⟨o, ho, hc, _⟩ := pl
   rcases hT with rfl | rfl | rfl | rfl | rfl | rfl
   .exact IsiPair.tuple_bool ho hc fin1
   .exact IsiPair.tuple_int ho hc fin1
   .exact IsiPair.tuple_str ho hc fin1
   .exact IsiPair.tuple_list ho hc fin1
   .exact IsiPair.tuple_tuple ho hc fin
   .exact IsiPair.tuple_dict ho hc fin1
  .subst hk
   obtain ⟨_, _, vs, _, o, _, _, ho, ex, _⟩ := I.hok p _ hq
   have hc := ex.1
   rcases hT with rfl | rfl | rfl | rfl | rfl | rfl
   .exact IsiPair.dict_bool ho hc fin1
   .exact IsiPair.dict_int ho hc fin1
   .exact IsiPair.dict_str ho hc fin1
   .exact IsiPair.dict_list ho hc fin1
   .exact IsiPair.dict_tuple ho hc fin1
   .exact IsiPair.dict_dict ho hc fin
 | _ => exact hx.elim
end
end L2
namespace L3
open PySem PySem.Spec PyProof.Rows L2
abbrev O2 := D -> D -> Mu -> Option (D × Mu)
abbrev O1' := D -> Mu -> Option (D × Mu)
abbrev ON := List D -> Mu -> Option (D × Mu)
def bT : O2
 | .int i, .int j, μ => some (.int (i + j), μ)
 | .tup xs, .tup ys, μ => if xs.length + ys.length <= sizeLine then some (.tup (xs ++ ys), μ) else none
 | .lst xs, .lst ys, μ => if xs.length + ys.length <= sizeLine then some (.lst (xs ++ ys), μ) else none
 | .str x, .str y, μ => if x.length + y.length <= sizeLine then some (.str (x ++ y), μ) else none
 | _, _, _ => none
def gG : O2
 | .int i, .int j, μ => some (.int (i - j), μ)
 | _, _, _ => none
def dg : O2
 | .int i, .int j, μ => if oO i j <= 134217728 then some (.int (i * j), μ) else none
 | .tup xs, .int k, μ => if -(2 ^ 63) <= k /\ k < 2 ^ 63 /\ xs.length * k.toNat <= sizeLine then some (.tup (List.replicate k.toNat xs).flatten, μ) else none
 | .lst xs, .int k, μ => if -(2 ^ 63) <= k /\ k < 2 ^ 63 /\ xs.length * k.toNat <= sizeLine then some (.lst (List.replicate k.toNat xs).flatten, μ) else none
 | _, _, _ => none
def oDiv : O2
 | .int i, .int j, μ => if j ≠ 0 /\ j.natAbs.log2 < 9000 then some (.int (i.fdiv j), μ) else none
 | _, _, _ => none
def oMod : O2
 | .int i, .int j, μ => if j ≠ 0 then some (.int (i.fmod j), μ) else none
 | _, _, _ => none
def xQ : O2
 | .int i, .int j, μ => if 0 <= j /\ (Builtin.Int.intBits i : Int) * j <= 2 ^ 27 then some (.int (i ^ j.toNat), μ) else none
 | _, _, _ => none
def oLt : O2
 | .int i, .int j, μ => some (.bl (decide (i < j)), μ)
 | _, _, _ => none
def oLe : O2
 | .int i, .int j, μ => some (.bl (decide (i <= j)), μ)
 | _, _, _ => none
def oGt : O2
 | .int i, .int j, μ => some (.bl (decide (j < i)), μ)
 | _, _, _ => none
def oGe : O2
 | .int i, .int j, μ => some (.bl (decide (j <= i)), μ)
 | _, _, _ => none
section
variable {X : Cx} {tb : List Addr}
theorem vI {K : PySem.W.Frag} {F : Hp} {ad : List Addr} {ds : List D} {vs : List V} (h : az K F ad ds vs) : ∀ k : Nat, az K F ad (List.replicate k ds).flatten (List.replicate k vs).flatten
 | 0 => az.nil
 | k + 1 => by
  rw [List.replicate_succ, List.replicate_succ, List.flatten_cons, List.flatten_cons]
  exact az.append h (vI h k)
theorem jG {K : PySem.W.Frag} {F : Hp} {ad : List Addr} {ds : List D} {vs : List V} (h : az K F ad ds vs) : vs = [] ↔ ds = [] := by
 have := az.length h
 cases ds <;> cases vs <;> simp_all
theorem Jf {α : Type} (xs : List α) : (List.replicate (1 : Int).toNat xs).flatten = xs := by simp
theorem cZ : OpD X tb (binaryOp .Add) bT := ⟨_, Nh.or (HH.or (CG.or zu)), λ W x y v u d μ' Q ok dx dy ho h => by
 cases x with
 | int i =>
  cases y with
  | int j => cases ho; rw [bA dx, bA dy]; exact .inl ⟨i, j, rfl, rfl, put ok h dZ⟩
  | _ => cases ho
 | tup xs =>
  cases y with
  | tup ys =>
   have ho' : (if xs.length + ys.length <= sizeLine then some (D.tup (xs ++ ys), W.mu) else none) = some (d, μ') := ho
   split at ho'
   .rename_i hz
    cases ho'
    obtain ⟨a, us, rfl, q1, r1⟩ := fB dx
    obtain ⟨b, ws, rfl, q2, r2⟩ := fB dy
    refine .inr (.inl ⟨a, b, us, ws, rfl, rfl, SqT.fz q1, SqT.fz q2, by rw [<- az.length r1, <- az.length r2]; exact hz, λ e => ?_, λ _ e => ?_, λ _ _ p hp => lU ok h (az.append r1 r2) hp⟩)
    .have e' := (jG r1).mp e
     subst e'
     exact put ok h dy
    .have e' := (jG r2).mp e
     subst e'
     rw [List.append_nil] at h
     exact put ok h dx
   .cases ho'
  | _ => cases ho
 | lst xs =>
  cases y with
  | lst ys =>
   have ho' : (if xs.length + ys.length <= sizeLine then some (D.lst (xs ++ ys), W.mu) else none) = some (d, μ') := ho
   split at ho'
   .rename_i hz
    cases ho'
    obtain ⟨a, us, rfl, q1, r1⟩ := ou dx
    obtain ⟨b, ws, rfl, q2, r2⟩ := ou dy
    exact .inr (.inr (.inl ⟨a, b, us, ws, rfl, rfl, (cY q1).1, (cY q2).1, by rw [<- az.length r1, <- az.length r2]; exact hz, λ p hp => iY ok h (az.append r1 r2) hp⟩))
   .cases ho'
  | _ => cases ho
 | str x =>
  cases y with
  | str y =>
   have ho' : (if x.length + y.length <= sizeLine then some (D.str (x ++ y), W.mu) else none) = some (d, μ') := ho
   split at ho'
   .rename_i hz
    cases ho'
    rw [sY dx, sY dy]
    exact .inr (.inr (.inr ⟨x, y, rfl, rfl, hz, put ok h GJ⟩))
   .cases ho'
  | _ => cases ho
 | _ => cases y <;> cases ho⟩
theorem iD : OpD X tb (binaryOp .Sub) gG := ⟨_, KC, λ W x y v u d μ' Q ok dx dy ho h => by
 cases x with
 | int i =>
  cases y with
  | int j => cases ho; rw [bA dx, bA dy]; exact ⟨i, j, rfl, rfl, put ok h dZ⟩
  | _ => cases ho
 | _ => cases y <;> cases ho⟩
theorem fL : OpD X tb (binaryOp .Mult) dg := ⟨_, Hd.or (Ip.or JV), λ W x y v u d μ' Q ok dx dy ho h => by
 cases x with
 | int i =>
  cases y with
  | int j =>
   have ho' : (if oO i j <= 134217728 then some (D.int (i * j), W.mu) else none) = some (d, μ') := ho
   split at ho'
   .rename_i hz
    cases ho'
    rw [bA dx, bA dy]; exact .inl ⟨i, j, rfl, rfl, hz, put ok h dZ⟩
   .cases ho'
  | _ => cases ho
 | tup xs =>
  cases y with
  | int k =>
   have ho' : (if -(2 ^ 63) <= k /\ k < 2 ^ 63 /\ xs.length * k.toNat <= sizeLine then some (D.tup (List.replicate k.toNat xs).flatten, W.mu) else none) = some (d, μ') := ho
   split at ho'
   .rename_i hz
    cases ho'
    obtain ⟨a, us, rfl, q1, r1⟩ := fB dx
    rw [bA dy]
    refine .inr (.inl ⟨a, k, us, rfl, rfl, SqT.fz q1, hz.1, hz.2.1, by rw [<- az.length r1]; exact hz.2.2, λ e => ?_, λ _ p hp => lU ok h (vI r1 _) hp⟩)
    rcases e with e | e
    .have e' := (jG r1).mp e
     subst e'
     have e2 : (List.replicate k.toNat ([] : List D)).flatten = [] := by simp
     rw [e2] at h
     exact put ok h dx
    .subst e
     rw [Jf] at h
     exact put ok h dx
   .cases ho'
  | _ => cases ho
 | lst xs =>
  cases y with
  | int k =>
   have ho' : (if -(2 ^ 63) <= k /\ k < 2 ^ 63 /\ xs.length * k.toNat <= sizeLine then some (D.lst (List.replicate k.toNat xs).flatten, W.mu) else none) = some (d, μ') := ho
   split at ho'
   .rename_i hz
    cases ho'
    obtain ⟨a, us, rfl, q1, r1⟩ := ou dx
    rw [bA dy]
    exact .inr (.inr ⟨a, k, us, rfl, rfl, (cY q1).1, hz.1, hz.2.1, by rw [<- az.length r1]; exact hz.2.2, λ p hp => iY ok h (vI r1 _) hp⟩)
   .cases ho'
  | _ => cases ho
 | _ => cases y <;> cases ho⟩
theorem iZ : OpD X tb (binaryOp .FloorDiv) oDiv := ⟨_, Du, λ W x y v u d μ' Q ok dx dy ho h => by
 cases x with
 | int i =>
  cases y with
  | int j =>
   have ho' : (if j ≠ 0 /\ j.natAbs.log2 < 9000 then some (D.int (i.fdiv j), W.mu) else none) = some (d, μ') := ho
   split at ho'
   .rename_i hz
    cases ho'
    rw [bA dx, bA dy]; exact ⟨i, j, rfl, rfl, hz, put ok h dZ⟩
   .cases ho'
  | _ => cases ho
 | _ => cases y <;> cases ho⟩
theorem cJ : OpD X tb (binaryOp .Mod) oMod := ⟨_, Hx, λ W x y v u d μ' Q ok dx dy ho h => by
 cases x with
 | int i =>
  cases y with
  | int j =>
   have ho' : (if j ≠ 0 then some (D.int (i.fmod j), W.mu) else none) = some (d, μ') := ho
   split at ho'
   .rename_i hz
    cases ho'
    rw [bA dx, bA dy]; exact ⟨i, j, rfl, rfl, hz, put ok h dZ⟩
   .cases ho'
  | _ => cases ho
 | _ => cases y <;> cases ho⟩
theorem Df : OpD X tb (binaryOp .Pow) xQ := ⟨_, Hu, λ W x y v u d μ' Q ok dx dy ho h => by
 cases x with
 | int i =>
  cases y with
  | int j =>
   have ho' : (if 0 <= j /\ (Builtin.Int.intBits i : Int) * j <= 2 ^ 27 then some (D.int (i ^ j.toNat), W.mu) else none) = some (d, μ') := ho
   split at ho'
   .rename_i hz
    cases ho'
    rw [bA dx, bA dy]; exact ⟨i, j, rfl, rfl, hz, put ok h dZ⟩
   .cases ho'
  | _ => cases ho
 | _ => cases y <;> cases ho⟩
theorem rW : OpD X tb (compareOp .Lt) oLt := ⟨_, Od, λ W x y v u d μ' Q ok dx dy ho h => by
 cases x with
 | int i =>
  cases y with
  | int j => cases ho; rw [bA dx, bA dy]; exact ⟨i, j, rfl, rfl, put ok h fj⟩
  | _ => cases ho
 | _ => cases y <;> cases ho⟩
theorem Ai : OpD X tb (compareOp .LtE) oLe := ⟨_, Ol, λ W x y v u d μ' Q ok dx dy ho h => by
 cases x with
 | int i =>
  cases y with
  | int j => cases ho; rw [bA dx, bA dy]; exact ⟨i, j, rfl, rfl, put ok h fj⟩
  | _ => cases ho
 | _ => cases y <;> cases ho⟩
theorem Jx : OpD X tb (compareOp .Gt) oGt := ⟨_, PQ, λ W x y v u d μ' Q ok dx dy ho h => by
 cases x with
 | int i =>
  cases y with
  | int j => cases ho; rw [bA dx, bA dy]; exact ⟨i, j, rfl, rfl, put ok h fj⟩
  | _ => cases ho
 | _ => cases y <;> cases ho⟩
theorem xK : OpD X tb (compareOp .GtE) oGe := ⟨_, Ql, λ W x y v u d μ' Q ok dx dy ho h => by
 cases x with
 | int i =>
  cases y with
  | int j => cases ho; rw [bA dx, bA dy]; exact ⟨i, j, rfl, rfl, put ok h fj⟩
  | _ => cases ho
 | _ => cases y <;> cases ho⟩
end
open PySem.SeqAt
mutual
def eqD : D -> D -> Bool
 | .non, .non => true
 | .bl a, .bl b => a == b
 | .bl a, .int b => (if a then 1 else 0) == b
 | .int a, .bl b => a == (if b then 1 else 0)
 | .int a, .int b => a == b
 | .str a, .str b => a == b
 | .tup xs, .tup ys => je xs ys
 | .lst xs, .lst ys => je xs ys
 | _, _ => false
def je : List D -> List D -> Bool
 | [], [] => true
 | x :: xs, y :: ys => eqD x y && je xs ys
 | _, _ => false
end
mutual
def gP : D -> Nat
 | .tup ds => jV ds + 1
 | .lst ds => jV ds + 1
 | _ => 0
def jV : List D -> Nat
 | [] => 0
 | d :: ds => max (gP d) (jV ds)
end
mutual
def dH : D -> Bool
 | .non => true
 | .bl _ => true
 | .int _ => true
 | .str _ => true
 | .tup ds => gf ds
 | .lst ds => gf ds
 | _ => false
def gf : List D -> Bool
 | [] => true
 | d :: ds => dH d && gf ds
end
mutual
def DV (K : PySem.W.Frag) (H : Hp) : D -> V -> Prop
 | .non, v => v = .non
 | .bl b, v => v = .bl b
 | .int i, v => v = .int i
 | .str x, v => v = .str x
 | .tup ds, v => ∃ a xs, v = .ref a /\ SqT K H a xs /\ DVL K H ds xs
 | .lst ds, v => ∃ a xs, v = .ref a /\ SqL K H a xs /\ DVL K H ds xs
 | .ro _, _ => False
 | .dic _, _ => False
 | .cell _, _ => False
def DVL (K : PySem.W.Frag) (H : Hp) : List D -> List V -> Prop
 | [], vs => vs = []
 | d :: ds, vs => ∃ u us, vs = u :: us /\ DV K H d u /\ DVL K H ds us
end
section
variable {K : PySem.W.Frag} {tb : List Addr} {W : Wd}
mutual
theorem JH : ∀ (d : D) (v : V), dH d = true -> bc K (W.fz tb) W.ad d v -> DV K W.H d v
 | .non, v, _, h => by unfold bc at h; unfold DV; exact h
 | .bl _, v, _, h => by unfold bc at h; unfold DV; exact h
 | .int _, v, _, h => by unfold bc at h; unfold DV; exact h
 | .str _, v, _, h => by unfold bc at h; unfold DV; exact h
 | .tup ds, v, p, h => by
  unfold bc at h; unfold DV; unfold dH at p
  obtain ⟨a, xs, e, q, r⟩ := h
  exact ⟨a, xs, e, SqT.fz q, rH ds xs p r⟩
 | .lst ds, v, p, h => by
  unfold bc at h; unfold DV; unfold dH at p
  obtain ⟨a, xs, e, q, r⟩ := h
  exact ⟨a, xs, e, SqL.of (cY q).1, rH ds xs p r⟩
 | .ro ds, v, p, h => by unfold dH at p; cases p
 | .dic ds, v, p, h => by unfold dH at p; cases p
 | .cell ds, v, p, h => by unfold dH at p; cases p
theorem rH : ∀ (ds : List D) (vs : List V), gf ds = true -> az K (W.fz tb) W.ad ds vs -> DVL K W.H ds vs
 | [], vs, _, h => by unfold az at h; unfold DVL; exact h
 | d :: ds, vs, p, h => by
  unfold az at h; unfold DVL; unfold gf at p
  rw [Zo] at p
  obtain ⟨u, us, e, q, r⟩ := h
  exact ⟨u, us, e, JH d u p.1 q, rH ds us p.2 r⟩
end
end
def qx (xs ys : List D) (j : Nat) : Bool := match xs[j]?, ys[j]? with
 | some x, some y => eqD x y
 | _, _ => false
theorem jB : ∀ (xs ys : List D), xs.length = ys.length -> (List.range xs.length).all (qx xs ys) = je xs ys
 | [], [], _ => by unfold je; rfl
 | x :: xs, y :: ys, h => by
  unfold je
  rw [List.length_cons, List.range_succ_eq_map, List.all_cons, List.all_map, <- jB xs ys (by simpa using h)]
  rfl
theorem nU : ∀ (xs ys : List D), xs.length ≠ ys.length -> je xs ys = false
 | [], [], h => absurd rfl h
 | [], y :: ys, _ => by unfold je; rfl
 | x :: xs, [], _ => by unfold je; rfl
 | x :: xs, y :: ys, h => by
  unfold je
  rw [nU xs ys (by simpa using h), Bool.and_false]
theorem wU (xs ys : List D) : ((List.range (min xs.length ys.length)).all (qx xs ys) && xs.length == ys.length) = je xs ys := by
 by_cases h : xs.length = ys.length
 .rw [<- h, Nat.min_self, jB xs ys h]; simp
 .rw [nU xs ys h, beq_false_of_ne h, Bool.and_false]
section
variable {X : Cx} {pins : List (Addr × Obj)} {σ : L2.St} {H : Hp} {s : Shared}
theorem DVL.length {K : PySem.W.Frag} : ∀ {ds : List D} {vs : List V}, DVL K H ds vs -> ds.length = vs.length
 | [], vs, h => by unfold DVL at h; subst h; rfl
 | d :: ds, vs, h => by
  unfold DVL at h
  obtain ⟨u, us, rfl, _, r⟩ := h
  rw [List.length_cons, List.length_cons, DVL.length r]
theorem DVL.get' {K : PySem.W.Frag} : ∀ {ds : List D} {vs : List V} {i : Nat} {v : V}, DVL K H ds vs -> vs[i]? = some v -> ∃ d, ds[i]? = some d /\ DV K H d v
 | [], vs, i, v, h, e => by unfold DVL at h; subst h; simp at e
 | d :: ds, vs, 0, x, h, e => by
  unfold DVL at h
  obtain ⟨u, us, rfl, p, r⟩ := h
  simp at e; subst e
  exact ⟨d, rfl, p⟩
 | d :: ds, vs, i + 1, x, h, e => by
  unfold DVL at h
  obtain ⟨u, us, rfl, p, r⟩ := h
  obtain ⟨y, e1, e2⟩ := DVL.get' (i := i) r (by simpa using e)
  exact ⟨y, by simpa using e1, e2⟩
theorem xY {a : Addr} {xs ys : List V} (I : Inv X pins σ H s) (h : SqL X.K H a xs) (h' : SqT X.K H a ys) : False := by
 obtain ⟨its, _, pl, _⟩ := I.list h
 obtain ⟨its', _, pt, _⟩ := I.tuple h'
 obtain ⟨o, ho, hc, _⟩ := pl.isList
 obtain ⟨o', ho', hc', _⟩ := pt
 rw [ho] at ho'; cases ho'
 rw [hc] at hc'
 exact absurd hc' (by decide)
mutual
theorem qT (I : Inv X pins σ H s) : ∀ (x y : D) (v : V), DV X.K H x v -> DV X.K H y v -> eqD x y = true
 | .non, .non, v, h, k => by unfold eqD; rfl
 | .non, .bl b, v, h, k => by unfold DV at h k; subst h; cases k
 | .non, .int b, v, h, k => by unfold DV at h k; subst h; cases k
 | .non, .str b, v, h, k => by unfold DV at h k; subst h; cases k
 | .non, .tup ys, v, h, k => by unfold DV at h k; obtain ⟨a, us, rfl, q, r⟩ := k; cases h
 | .non, .lst ys, v, h, k => by unfold DV at h k; obtain ⟨a, us, rfl, q, r⟩ := k; cases h
 | .bl a, .non, v, h, k => by unfold DV at h k; subst h; cases k
 | .bl a, .bl b, v, h, k => by unfold DV at h k; subst h; cases k; unfold eqD; simp
 | .bl a, .int b, v, h, k => by unfold DV at h k; subst h; cases k
 | .bl a, .str b, v, h, k => by unfold DV at h k; subst h; cases k
 | .bl a, .tup ys, v, h, k => by unfold DV at h k; obtain ⟨a, us, rfl, q, r⟩ := k; cases h
 | .bl a, .lst ys, v, h, k => by unfold DV at h k; obtain ⟨a, us, rfl, q, r⟩ := k; cases h
 | .int a, .non, v, h, k => by unfold DV at h k; subst h; cases k
 | .int a, .bl b, v, h, k => by unfold DV at h k; subst h; cases k
 | .int a, .int b, v, h, k => by unfold DV at h k; subst h; cases k; unfold eqD; simp
 | .int a, .str b, v, h, k => by unfold DV at h k; subst h; cases k
 | .int a, .tup ys, v, h, k => by unfold DV at h k; obtain ⟨a, us, rfl, q, r⟩ := k; cases h
 | .int a, .lst ys, v, h, k => by unfold DV at h k; obtain ⟨a, us, rfl, q, r⟩ := k; cases h
 | .str a, .non, v, h, k => by unfold DV at h k; subst h; cases k
 | .str a, .bl b, v, h, k => by unfold DV at h k; subst h; cases k
 | .str a, .int b, v, h, k => by unfold DV at h k; subst h; cases k
 | .str a, .str b, v, h, k => by unfold DV at h k; subst h; cases k; unfold eqD; simp
 | .str a, .tup ys, v, h, k => by unfold DV at h k; obtain ⟨a, us, rfl, q, r⟩ := k; cases h
 | .str a, .lst ys, v, h, k => by unfold DV at h k; obtain ⟨a, us, rfl, q, r⟩ := k; cases h
 | .tup xs, .non, v, h, k => by unfold DV at h k; obtain ⟨a, us, rfl, q, r⟩ := h; cases k
 | .tup xs, .bl b, v, h, k => by unfold DV at h k; obtain ⟨a, us, rfl, q, r⟩ := h; cases k
 | .tup xs, .int b, v, h, k => by unfold DV at h k; obtain ⟨a, us, rfl, q, r⟩ := h; cases k
 | .tup xs, .str b, v, h, k => by unfold DV at h k; obtain ⟨a, us, rfl, q, r⟩ := h; cases k
 | .tup xs, .tup ys, v, h, k => by
  unfold DV at h k
  obtain ⟨a, us, rfl, q, r⟩ := h
  obtain ⟨a', us', e, q', r'⟩ := k
  cases e
  have := I.tuple_inj q q'
  subst this
  unfold eqD
  exact pg I xs ys us r r'
 | .tup xs, .lst ys, v, h, k => by
  unfold DV at h k
  obtain ⟨a, us, rfl, q, r⟩ := h
  obtain ⟨a', us', e, q', r'⟩ := k
  cases e
  exact (xY I q' q).elim
 | .lst xs, .non, v, h, k => by unfold DV at h k; obtain ⟨a, us, rfl, q, r⟩ := h; cases k
 | .lst xs, .bl b, v, h, k => by unfold DV at h k; obtain ⟨a, us, rfl, q, r⟩ := h; cases k
 | .lst xs, .int b, v, h, k => by unfold DV at h k; obtain ⟨a, us, rfl, q, r⟩ := h; cases k
 | .lst xs, .str b, v, h, k => by unfold DV at h k; obtain ⟨a, us, rfl, q, r⟩ := h; cases k
 | .lst xs, .tup ys, v, h, k => by
  unfold DV at h k
  obtain ⟨a, us, rfl, q, r⟩ := h
  obtain ⟨a', us', e, q', r'⟩ := k
  cases e
  exact (xY I q q').elim
 | .lst xs, .lst ys, v, h, k => by
  unfold DV at h k
  obtain ⟨a, us, rfl, q, r⟩ := h
  obtain ⟨a', us', e, q', r'⟩ := k
  cases e
  have := I.list_inj q q'
  subst this
  unfold eqD
  exact pg I xs ys us r r'
 | .ro _, _, v, h, _ => by unfold DV at h; exact h.elim
 | .dic _, _, v, h, _ => by unfold DV at h; exact h.elim
 | .cell _, _, v, h, _ => by unfold DV at h; exact h.elim
 | _, .ro _, v, _, k => by unfold DV at k; exact k.elim
 | _, .dic _, v, _, k => by unfold DV at k; exact k.elim
 | _, .cell _, v, _, k => by unfold DV at k; exact k.elim
theorem pg (I : Inv X pins σ H s) : ∀ (xs ys : List D) (vs : List V), DVL X.K H xs vs -> DVL X.K H ys vs -> je xs ys = true
 | [], [], vs, _, _ => by unfold je; rfl
 | [], y :: ys, vs, h, k => by unfold DVL at h k; subst h; obtain ⟨u, us, e, _⟩ := k; cases e
 | x :: xs, [], vs, h, k => by unfold DVL at h k; subst k; obtain ⟨u, us, e, _⟩ := h; cases e
 | x :: xs, y :: ys, vs, h, k => by
  unfold DVL at h k
  obtain ⟨u, us, rfl, p, r⟩ := h
  obtain ⟨u', us', e, p', r'⟩ := k
  cases e
  unfold je
  rw [qT I x y u p p', pg I xs ys us r r']; rfl
end
def sk : D -> D -> Bool
 | .tup _, .tup _ => true
 | .lst _, .lst _ => true
 | _, _ => false
def Vw (s : Shared) : D -> Value -> Prop
 | .non, v => v = .none
 | .bl b, v => v = .bool b
 | .int i, v => ∃ t, v = .int i t
 | .str z, v => ∃ t, v = .str z t
 | .tup _, v => ∃ a its, v = .ref a /\ IsTup s.heap a its
 | .lst _, v => ∃ a its, v = .ref a /\ s.heap.IsList a its
 | _, _ => False
theorem vw {x : D} {v : V} {vv : Value} (I : Inv X pins σ H s) (h : DV X.K H x v) (rv : RelV v vv) : Vw s x vv := by
 cases x <;> unfold DV at h
 case tup => obtain ⟨a, us, rfl, q, r⟩ := h; obtain ⟨_, _, pl, _⟩ := I.tuple q; exact ⟨a, _, rv, pl⟩
 case lst => obtain ⟨a, us, rfl, q, r⟩ := h; obtain ⟨_, _, pl, _⟩ := I.list q; exact ⟨a, _, rv, pl.isList⟩
 case ro => exact h.elim
 case dic => exact h.elim
 case cell => exact h.elim
 all_goals subst h; exact rv
theorem jQ {vv uu : Value} {A : Around} (hu : A.units < cLine) : ∀ (x y : D), Vw s x vv -> Vw s y uu -> sk x y = false -> EqAt A s vv uu (eqD x y)
 | .non, .non, rfl, rfl, _ => by unfold eqD; exact EqAt.same _
 | .non, .bl _, rfl, rfl, _ => by unfold eqD; exact EqAt.none_bool _
 | .non, .int _, rfl, ⟨_, rfl⟩, _ => by unfold eqD; exact EqAt.none_int _ _
 | .non, .str _, rfl, ⟨_, rfl⟩, _ => by unfold eqD; exact EqAt.none_str _ _
 | .non, .tup _, rfl, ⟨_, _, rfl, m⟩, _ => by unfold eqD; exact EqAt.none_tuple m hu
 | .non, .lst _, rfl, ⟨_, _, rfl, m⟩, _ => by unfold eqD; exact EqAt.none_list m hu
 | .bl _, .non, rfl, rfl, _ => by unfold eqD; exact EqAt.bool_none _
 | .bl _, .bl _, rfl, rfl, _ => by unfold eqD; exact EqAt.bool_bool _ _
 | .bl _, .int _, rfl, ⟨_, rfl⟩, _ => by unfold eqD; exact EqAt.bool_int _ _ _
 | .bl _, .str _, rfl, ⟨_, rfl⟩, _ => by unfold eqD; exact EqAt.bool_str _ _ _
 | .bl _, .tup _, rfl, ⟨_, _, rfl, m⟩, _ => by unfold eqD; exact EqAt.bool_tuple _ m hu
 | .bl _, .lst _, rfl, ⟨_, _, rfl, m⟩, _ => by unfold eqD; exact EqAt.bool_list _ m hu
 | .int _, .non, ⟨_, rfl⟩, rfl, _ => by unfold eqD; exact EqAt.int_none _ _
 | .int _, .bl _, ⟨_, rfl⟩, rfl, _ => by unfold eqD; exact EqAt.int_bool _ _ _
 | .int _, .int _, ⟨_, rfl⟩, ⟨_, rfl⟩, _ => by unfold eqD; exact EqAt.int_int _ _ _ _
 | .int _, .str _, ⟨_, rfl⟩, ⟨_, rfl⟩, _ => by unfold eqD; exact EqAt.int_str _ _ _ _
 | .int _, .tup _, ⟨_, rfl⟩, ⟨_, _, rfl, m⟩, _ => by unfold eqD; exact EqAt.int_tuple _ _ m hu
 | .int _, .lst _, ⟨_, rfl⟩, ⟨_, _, rfl, m⟩, _ => by unfold eqD; exact EqAt.int_list _ _ m hu
 | .str _, .non, ⟨_, rfl⟩, rfl, _ => by unfold eqD; exact EqAt.str_none _ _
 | .str _, .bl _, ⟨_, rfl⟩, rfl, _ => by unfold eqD; exact EqAt.str_bool _ _ _
 | .str _, .int _, ⟨_, rfl⟩, ⟨_, rfl⟩, _ => by unfold eqD; exact EqAt.str_int _ _ _ _
 | .str _, .str _, ⟨_, rfl⟩, ⟨_, rfl⟩, _ => by unfold eqD; exact EqAt.str_str _ _ _ _
 | .str _, .tup _, ⟨_, rfl⟩, ⟨_, _, rfl, m⟩, _ => by unfold eqD; exact EqAt.str_tuple _ _ m hu
 | .str _, .lst _, ⟨_, rfl⟩, ⟨_, _, rfl, m⟩, _ => by unfold eqD; exact EqAt.str_list _ _ m hu
 | .tup _, .non, ⟨_, _, rfl, l⟩, rfl, _ => by unfold eqD; exact EqAt.tuple_none l hu
 | .tup _, .bl _, ⟨_, _, rfl, l⟩, rfl, _ => by unfold eqD; exact EqAt.tuple_bool _ l hu
 | .tup _, .int _, ⟨_, _, rfl, l⟩, ⟨_, rfl⟩, _ => by unfold eqD; exact EqAt.tuple_int _ _ l hu
 | .tup _, .str _, ⟨_, _, rfl, l⟩, ⟨_, rfl⟩, _ => by unfold eqD; exact EqAt.tuple_str _ _ l hu
 | .tup _, .tup _, _, _, h => nomatch h
 | .tup _, .lst _, ⟨_, _, rfl, l⟩, ⟨_, _, rfl, m⟩, _ => by unfold eqD; exact EqAt.tuple_list l m hu
 | .lst _, .non, ⟨_, _, rfl, l⟩, rfl, _ => by unfold eqD; exact EqAt.list_none l hu
 | .lst _, .bl _, ⟨_, _, rfl, l⟩, rfl, _ => by unfold eqD; exact EqAt.list_bool _ l hu
 | .lst _, .int _, ⟨_, _, rfl, l⟩, ⟨_, rfl⟩, _ => by unfold eqD; exact EqAt.list_int _ _ l hu
 | .lst _, .str _, ⟨_, _, rfl, l⟩, ⟨_, rfl⟩, _ => by unfold eqD; exact EqAt.list_str _ _ l hu
 | .lst _, .tup _, ⟨_, _, rfl, l⟩, ⟨_, _, rfl, m⟩, _ => by unfold eqD; exact EqAt.list_tuple l m hu
 | .lst _, .lst _, _, _, h => nomatch h
 | .ro _, _, p, _, _ => p.elim
 | _, .ro _, _, p, _ => p.elim
 | .dic _, _, p, _, _ => p.elim
 | _, .dic _, _, p, _ => p.elim
 | .cell _, _, p, _, _ => p.elim
 | _, .cell _, _, p, _ => p.elim
theorem jL {vv uu : Value} {A : Around} (hu : A.units < cLine) : ∀ (x y : D), Vw s x vv -> Vw s y uu -> sk x y = false -> RcAt A s vv uu (eqD x y)
 | .non, .non, rfl, rfl, _ => by unfold eqD; exact RcAt.none_none
 | .non, .bl _, rfl, rfl, _ => by unfold eqD; exact RcAt.none_bool _
 | .non, .int _, rfl, ⟨_, rfl⟩, _ => by unfold eqD; exact RcAt.none_int _ _
 | .non, .str _, rfl, ⟨_, rfl⟩, _ => by unfold eqD; exact RcAt.none_str _ _
 | .non, .tup _, rfl, ⟨_, _, rfl, m⟩, _ => by unfold eqD; exact RcAt.none_tuple m hu
 | .non, .lst _, rfl, ⟨_, _, rfl, m⟩, _ => by unfold eqD; exact RcAt.none_list m hu
 | .bl _, .non, rfl, rfl, _ => by unfold eqD; exact RcAt.bool_none _
 | .bl _, .bl _, rfl, rfl, _ => by unfold eqD; exact RcAt.bool_bool _ _
 | .bl _, .int _, rfl, ⟨_, rfl⟩, _ => by unfold eqD; exact RcAt.bool_int _ _ _
 | .bl _, .str _, rfl, ⟨_, rfl⟩, _ => by unfold eqD; exact RcAt.bool_str _ _ _
 | .bl _, .tup _, rfl, ⟨_, _, rfl, m⟩, _ => by unfold eqD; exact RcAt.bool_tuple _ m hu
 | .bl _, .lst _, rfl, ⟨_, _, rfl, m⟩, _ => by unfold eqD; exact RcAt.bool_list _ m hu
 | .int _, .non, ⟨_, rfl⟩, rfl, _ => by unfold eqD; exact RcAt.int_none _ _
 | .int _, .bl _, ⟨_, rfl⟩, rfl, _ => by unfold eqD; exact RcAt.int_bool _ _ _
 | .int _, .int _, ⟨_, rfl⟩, ⟨_, rfl⟩, _ => by unfold eqD; exact RcAt.int_int _ _ _ _
 | .int _, .str _, ⟨_, rfl⟩, ⟨_, rfl⟩, _ => by unfold eqD; exact RcAt.int_str _ _ _ _
 | .int _, .tup _, ⟨_, rfl⟩, ⟨_, _, rfl, m⟩, _ => by unfold eqD; exact RcAt.int_tuple _ _ m hu
 | .int _, .lst _, ⟨_, rfl⟩, ⟨_, _, rfl, m⟩, _ => by unfold eqD; exact RcAt.int_list _ _ m hu
 | .str _, .non, ⟨_, rfl⟩, rfl, _ => by unfold eqD; exact RcAt.str_none _ _
 | .str _, .bl _, ⟨_, rfl⟩, rfl, _ => by unfold eqD; exact RcAt.str_bool _ _ _
 | .str _, .int _, ⟨_, rfl⟩, ⟨_, rfl⟩, _ => by unfold eqD; exact RcAt.str_int _ _ _ _
 | .str _, .str _, ⟨_, rfl⟩, ⟨_, rfl⟩, _ => by unfold eqD; exact RcAt.str_str _ _ _ _
 | .str _, .tup _, ⟨_, rfl⟩, ⟨_, _, rfl, m⟩, _ => by unfold eqD; exact RcAt.str_tuple _ _ m hu
 | .str _, .lst _, ⟨_, rfl⟩, ⟨_, _, rfl, m⟩, _ => by unfold eqD; exact RcAt.str_list _ _ m hu
 | .tup _, .non, ⟨_, _, rfl, l⟩, rfl, _ => by unfold eqD; exact RcAt.tuple_none l hu
 | .tup _, .bl _, ⟨_, _, rfl, l⟩, rfl, _ => by unfold eqD; exact RcAt.tuple_bool _ l hu
 | .tup _, .int _, ⟨_, _, rfl, l⟩, ⟨_, rfl⟩, _ => by unfold eqD; exact RcAt.tuple_int _ _ l hu
 | .tup _, .str _, ⟨_, _, rfl, l⟩, ⟨_, rfl⟩, _ => by unfold eqD; exact RcAt.tuple_str _ _ l hu
 | .tup _, .tup _, _, _, h => nomatch h
 | .tup _, .lst _, ⟨_, _, rfl, l⟩, ⟨_, _, rfl, m⟩, _ => by unfold eqD; exact RcAt.tuple_list l m hu
 | .lst _, .non, ⟨_, _, rfl, l⟩, rfl, _ => by unfold eqD; exact RcAt.list_none l hu
 | .lst _, .bl _, ⟨_, _, rfl, l⟩, rfl, _ => by unfold eqD; exact RcAt.list_bool _ l hu
 | .lst _, .int _, ⟨_, _, rfl, l⟩, ⟨_, rfl⟩, _ => by unfold eqD; exact RcAt.list_int _ _ l hu
 | .lst _, .str _, ⟨_, _, rfl, l⟩, ⟨_, rfl⟩, _ => by unfold eqD; exact RcAt.list_str _ _ l hu
 | .lst _, .tup _, ⟨_, _, rfl, l⟩, ⟨_, _, rfl, m⟩, _ => by unfold eqD; exact RcAt.list_tuple l m hu
 | .lst _, .lst _, _, _, h => nomatch h
 | .ro _, _, p, _, _ => p.elim
 | _, .ro _, _, p, _ => p.elim
 | .dic _, _, p, _, _ => p.elim
 | _, .dic _, _, p, _ => p.elim
 | .cell _, _, p, _, _ => p.elim
 | _, .cell _, _, p, _ => p.elim
theorem jH {vv uu : Value} {A : Around} (hu : A.units < cLine) : ∀ (x y : D), Vw s x vv -> Vw s y uu -> sk x y = false -> RcNeAt A s vv uu (!eqD x y)
 | .non, .non, rfl, rfl, _ => by unfold eqD; exact RcNeAt.none_none
 | .non, .bl _, rfl, rfl, _ => by unfold eqD; exact RcNeAt.none_bool _
 | .non, .int _, rfl, ⟨_, rfl⟩, _ => by unfold eqD; exact RcNeAt.none_int _ _
 | .non, .str _, rfl, ⟨_, rfl⟩, _ => by unfold eqD; exact RcNeAt.none_str _ _
 | .non, .tup _, rfl, ⟨_, _, rfl, m⟩, _ => by unfold eqD; exact RcNeAt.none_tuple m hu
 | .non, .lst _, rfl, ⟨_, _, rfl, m⟩, _ => by unfold eqD; exact RcNeAt.none_list m hu
 | .bl _, .non, rfl, rfl, _ => by unfold eqD; exact RcNeAt.bool_none _
 | .bl _, .bl _, rfl, rfl, _ => by unfold eqD; exact RcNeAt.bool_bool _ _
 | .bl _, .int _, rfl, ⟨_, rfl⟩, _ => by unfold eqD; exact RcNeAt.bool_int _ _ _
 | .bl _, .str _, rfl, ⟨_, rfl⟩, _ => by unfold eqD; exact RcNeAt.bool_str _ _ _
 | .bl _, .tup _, rfl, ⟨_, _, rfl, m⟩, _ => by unfold eqD; exact RcNeAt.bool_tuple _ m hu
 | .bl _, .lst _, rfl, ⟨_, _, rfl, m⟩, _ => by unfold eqD; exact RcNeAt.bool_list _ m hu
 | .int _, .non, ⟨_, rfl⟩, rfl, _ => by unfold eqD; exact RcNeAt.int_none _ _
 | .int _, .bl _, ⟨_, rfl⟩, rfl, _ => by unfold eqD; exact RcNeAt.int_bool _ _ _
 | .int _, .int _, ⟨_, rfl⟩, ⟨_, rfl⟩, _ => by unfold eqD; exact RcNeAt.int_int _ _ _ _
 | .int _, .str _, ⟨_, rfl⟩, ⟨_, rfl⟩, _ => by unfold eqD; exact RcNeAt.int_str _ _ _ _
 | .int _, .tup _, ⟨_, rfl⟩, ⟨_, _, rfl, m⟩, _ => by unfold eqD; exact RcNeAt.int_tuple _ _ m hu
 | .int _, .lst _, ⟨_, rfl⟩, ⟨_, _, rfl, m⟩, _ => by unfold eqD; exact RcNeAt.int_list _ _ m hu
 | .str _, .non, ⟨_, rfl⟩, rfl, _ => by unfold eqD; exact RcNeAt.str_none _ _
 | .str _, .bl _, ⟨_, rfl⟩, rfl, _ => by unfold eqD; exact RcNeAt.str_bool _ _ _
 | .str _, .int _, ⟨_, rfl⟩, ⟨_, rfl⟩, _ => by unfold eqD; exact RcNeAt.str_int _ _ _ _
 | .str _, .str _, ⟨_, rfl⟩, ⟨_, rfl⟩, _ => by unfold eqD; exact RcNeAt.str_str _ _ _ _
 | .str _, .tup _, ⟨_, rfl⟩, ⟨_, _, rfl, m⟩, _ => by unfold eqD; exact RcNeAt.str_tuple _ _ m hu
 | .str _, .lst _, ⟨_, rfl⟩, ⟨_, _, rfl, m⟩, _ => by unfold eqD; exact RcNeAt.str_list _ _ m hu
 | .tup _, .non, ⟨_, _, rfl, l⟩, rfl, _ => by unfold eqD; exact RcNeAt.tuple_none l hu
 | .tup _, .bl _, ⟨_, _, rfl, l⟩, rfl, _ => by unfold eqD; exact RcNeAt.tuple_bool _ l hu
 | .tup _, .int _, ⟨_, _, rfl, l⟩, ⟨_, rfl⟩, _ => by unfold eqD; exact RcNeAt.tuple_int _ _ l hu
 | .tup _, .str _, ⟨_, _, rfl, l⟩, ⟨_, rfl⟩, _ => by unfold eqD; exact RcNeAt.tuple_str _ _ l hu
 | .tup _, .tup _, _, _, h => nomatch h
 | .tup _, .lst _, ⟨_, _, rfl, l⟩, ⟨_, _, rfl, m⟩, _ => by unfold eqD; exact RcNeAt.tuple_list l m hu
 | .lst _, .non, ⟨_, _, rfl, l⟩, rfl, _ => by unfold eqD; exact RcNeAt.list_none l hu
 | .lst _, .bl _, ⟨_, _, rfl, l⟩, rfl, _ => by unfold eqD; exact RcNeAt.list_bool _ l hu
 | .lst _, .int _, ⟨_, _, rfl, l⟩, ⟨_, rfl⟩, _ => by unfold eqD; exact RcNeAt.list_int _ _ l hu
 | .lst _, .str _, ⟨_, _, rfl, l⟩, ⟨_, rfl⟩, _ => by unfold eqD; exact RcNeAt.list_str _ _ l hu
 | .lst _, .tup _, ⟨_, _, rfl, l⟩, ⟨_, _, rfl, m⟩, _ => by unfold eqD; exact RcNeAt.list_tuple l m hu
 | .lst _, .lst _, _, _, h => nomatch h
 | .ro _, _, p, _, _ => p.elim
 | _, .ro _, _, p, _ => p.elim
 | .dic _, _, p, _, _ => p.elim
 | _, .dic _, _, p, _ => p.elim
 | .cell _, _, p, _, _ => p.elim
 | _, .cell _, _, p, _ => p.elim
theorem wF {xs ys : List D} {us ws : List V} {its0 its1 : List Value} {A : Around} (r : DVL X.K H xs us) (r2 : DVL X.K H ys ws) (iv0 : Vals us its0) (iv1 : Vals ws its1)
  (E : ∀ (j : Nat) (x y : D), xs[j]? = some x -> ys[j]? = some y -> ∀ (z z' : Value), its0[j]? = some z -> its1[j]? = some z' -> EqAt A.in1 s z z' (eqD x y)) (j : Nat) (h1 : j < its0.toArray.size) (h2 : j < its1.toArray.size) : EqAt A.in1 s its0.toArray[j] its1.toArray[j] (qx xs ys j) := by
 have h1' : j < its0.length := by simpa using h1
 have h2' : j < its1.length := by simpa using h2
 obtain ⟨d, e1, dv⟩ := DVL.get' r (show us[j]? = some (us[j]'(by rw [iv0.length]; exact h1')) by simp)
 obtain ⟨d', e2, dv'⟩ := DVL.get' r2 (show ws[j]? = some (ws[j]'(by rw [iv1.length]; exact h2')) by simp)
 obtain ⟨z, ez, rz⟩ := iv0.get (show us[j]? = some (us[j]'(by rw [iv0.length]; exact h1')) by simp)
 obtain ⟨z', ez', rz'⟩ := iv1.get (show ws[j]? = some (ws[j]'(by rw [iv1.length]; exact h2')) by simp)
 have f1 : its0.toArray[j] = z := by simpa [h1'] using ez
 have f2 : its1.toArray[j] = z' := by simpa [h2'] using ez'
 rw [f1, f2]
 have := E j d d' e1 e2 z z' ez ez'
 unfold qx
 rw [e1, e2]
 exact this
theorem Bl {xs ys : List D} {us ws : List V} {its0 its1 : List Value} {a b : Addr} {A : Around} (pl0 : IsTup s.heap a its0.toArray) (pl1 : IsTup s.heap b its1.toArray) (r : DVL X.K H xs us) (r2 : DVL X.K H ys ws) (iv0 : Vals us its0) (iv1 : Vals ws its1) (hu : A.units < cLine)
  (E : ∀ (j : Nat) (x y : D), xs[j]? = some x -> ys[j]? = some y -> ∀ (z z' : Value), its0[j]? = some z -> its1[j]? = some z' -> EqAt A.in1 s z z' (eqD x y)) : RcAt A s (.ref a) (.ref b) (je xs ys) := by
 have hl0 : its0.toArray.size = xs.length := by rw [Zd, <- iv0.length, <- DVL.length r]
 have hl1 : its1.toArray.size = ys.length := by rw [Zd, <- iv1.length, <- DVL.length r2]
 have rc := RcAt.tuples (A := A) (e := qx xs ys) pl0 pl1 (by omega) (wF r r2 iv0 iv1 E)
 rw [hl0, hl1, wU] at rc
 exact rc
theorem Ba {xs ys : List D} {us ws : List V} {its0 its1 : List Value} {a b : Addr} {A : Around} (pl0 : PlainL s.heap a its0.toArray) (pl1 : PlainL s.heap b its1.toArray) (r : DVL X.K H xs us) (r2 : DVL X.K H ys ws) (iv0 : Vals us its0) (iv1 : Vals ws its1) (hu : A.units < cLine)
  (E : ∀ (j : Nat) (x y : D), xs[j]? = some x -> ys[j]? = some y -> ∀ (z z' : Value), its0[j]? = some z -> its1[j]? = some z' -> EqAt A.in1 s z z' (eqD x y)) : RcAt A s (.ref a) (.ref b) (je xs ys) := by
 have hl0 : its0.toArray.size = xs.length := by rw [Zd, <- iv0.length, <- DVL.length r]
 have hl1 : its1.toArray.size = ys.length := by rw [Zd, <- iv1.length, <- DVL.length r2]
 by_cases hlen : xs.length = ys.length
 .have rc := RcAt.lists (A := A) (e := qx xs ys) pl0.isList pl1.isList (by rw [hl0, hl1, hlen]) (by omega) (wF r r2 iv0 iv1 E)
  rw [hl0, jB _ _ hlen] at rc
  exact rc
 .rw [nU _ _ hlen]
  exact RcAt.lists_lengths pl0.isList pl1.isList (by rw [hl0, hl1]; simpa using hlen) (by omega)
theorem Iw {xs ys : List D} {us ws : List V} {its0 its1 : List Value} {a b : Addr} {A : Around} (pl0 : IsTup s.heap a its0.toArray) (pl1 : IsTup s.heap b its1.toArray) (r : DVL X.K H xs us) (r2 : DVL X.K H ys ws) (iv0 : Vals us its0) (iv1 : Vals ws its1) (hu : A.units < cLine)
  (E : ∀ (j : Nat) (x y : D), xs[j]? = some x -> ys[j]? = some y -> ∀ (z z' : Value), its0[j]? = some z -> its1[j]? = some z' -> EqAt A.in1 s z z' (eqD x y)) : RcNeAt A s (.ref a) (.ref b) (!je xs ys) := by
 have hl0 : its0.toArray.size = xs.length := by rw [Zd, <- iv0.length, <- DVL.length r]
 have hl1 : its1.toArray.size = ys.length := by rw [Zd, <- iv1.length, <- DVL.length r2]
 have rc := RcNeAt.tuples (A := A) (e := qx xs ys) pl0 pl1 (by omega) (wF r r2 iv0 iv1 E)
 rw [hl0, hl1, wU] at rc
 exact rc
theorem Jg {xs ys : List D} {us ws : List V} {its0 its1 : List Value} {a b : Addr} {A : Around} (pl0 : PlainL s.heap a its0.toArray) (pl1 : PlainL s.heap b its1.toArray) (r : DVL X.K H xs us) (r2 : DVL X.K H ys ws) (iv0 : Vals us its0) (iv1 : Vals ws its1) (hu : A.units < cLine)
  (E : ∀ (j : Nat) (x y : D), xs[j]? = some x -> ys[j]? = some y -> ∀ (z z' : Value), its0[j]? = some z -> its1[j]? = some z' -> EqAt A.in1 s z z' (eqD x y)) : RcNeAt A s (.ref a) (.ref b) (!je xs ys) := by
 have hl0 : its0.toArray.size = xs.length := by rw [Zd, <- iv0.length, <- DVL.length r]
 have hl1 : its1.toArray.size = ys.length := by rw [Zd, <- iv1.length, <- DVL.length r2]
 by_cases hlen : xs.length = ys.length
 .have rc := RcNeAt.lists (A := A) (e := qx xs ys) pl0.isList pl1.isList (by rw [hl0, hl1, hlen]) (by omega) (wF r r2 iv0 iv1 E)
  rw [hl0, jB _ _ hlen] at rc
  exact rc
 .rw [nU _ _ hlen]
  exact RcNeAt.lists_lengths pl0.isList pl1.isList (by rw [hl0, hl1]; simpa using hlen) (by omega)
mutual
theorem Nj (I : Inv X pins σ H s) : ∀ (x y : D) (v u : V) (vv uu : Value) (A : Around), DV X.K H x v -> DV X.K H y u -> RelV v vv -> RelV u uu -> A.units + gP x < cLine -> EqAt A s vv uu (eqD x y)
 | .tup xs, y, v, u, vv, uu, A, h, k, rv, ru, hu => by
  cases y with
  | tup ys =>
   have h0 := h
   have k0 := k
   unfold DV at h k; unfold gP at hu
   obtain ⟨a, us, rfl, q, r⟩ := h; cases rv; obtain ⟨its0, iv0, pl0, hz0⟩ := I.tuple q; obtain ⟨b, ws, rfl, p, r2⟩ := k; cases ru; obtain ⟨its1, iv1, pl1, hz1⟩ := I.tuple p
   by_cases hab : a = b
   .subst hab
    rw [qT I _ _ _ h0 k0]
    exact EqAt.same _
   .unfold eqD
    exact EqAt.of_refs hab (Bl pl0 pl1 r r2 iv0 iv1 (by omega) (jC I xs ys us ws its0 its1 A.in1 r r2 iv0 iv1 (by rw [units_in1]; omega)))
  | _ => exact jQ (by omega) _ _ (vw I h rv) (vw I k ru) rfl
 | .lst xs, y, v, u, vv, uu, A, h, k, rv, ru, hu => by
  cases y with
  | lst ys =>
   have h0 := h
   have k0 := k
   unfold DV at h k; unfold gP at hu
   obtain ⟨a, us, rfl, q, r⟩ := h; cases rv; obtain ⟨its0, iv0, pl0, hz0⟩ := I.list q; obtain ⟨b, ws, rfl, p, r2⟩ := k; cases ru; obtain ⟨its1, iv1, pl1, hz1⟩ := I.list p
   by_cases hab : a = b
   .subst hab
    rw [qT I _ _ _ h0 k0]
    exact EqAt.same _
   .unfold eqD
    exact EqAt.of_refs hab (Ba pl0 pl1 r r2 iv0 iv1 (by omega) (jC I xs ys us ws its0 its1 A.in1 r r2 iv0 iv1 (by rw [units_in1]; omega)))
  | _ => exact jQ (by omega) _ _ (vw I h rv) (vw I k ru) rfl
 | .non, y, v, u, vv, uu, A, h, k, rv, ru, hu => jQ (by omega) _ _ (vw I h rv) (vw I k ru) (by cases y <;> rfl)
 | .bl _, y, v, u, vv, uu, A, h, k, rv, ru, hu => jQ (by omega) _ _ (vw I h rv) (vw I k ru) (by cases y <;> rfl)
 | .int _, y, v, u, vv, uu, A, h, k, rv, ru, hu => jQ (by omega) _ _ (vw I h rv) (vw I k ru) (by cases y <;> rfl)
 | .str _, y, v, u, vv, uu, A, h, k, rv, ru, hu => jQ (by omega) _ _ (vw I h rv) (vw I k ru) (by cases y <;> rfl)
 | .ro _, y, v, u, vv, uu, A, h, k, rv, ru, hu => jQ (by omega) _ _ (vw I h rv) (vw I k ru) (by cases y <;> rfl)
 | .dic _, y, v, u, vv, uu, A, h, k, rv, ru, hu => jQ (by omega) _ _ (vw I h rv) (vw I k ru) (by cases y <;> rfl)
 | .cell _, y, v, u, vv, uu, A, h, k, rv, ru, hu => jQ (by omega) _ _ (vw I h rv) (vw I k ru) (by cases y <;> rfl)
theorem jC (I : Inv X pins σ H s) : ∀ (xs ys : List D) (vs us : List V) (vvs uus : List Value) (A : Around), DVL X.K H xs vs -> DVL X.K H ys us -> Vals vs vvs -> Vals us uus -> A.units + jV xs < cLine ->
  ∀ (j : Nat) (x y : D), xs[j]? = some x -> ys[j]? = some y -> ∀ (z z' : Value), vvs[j]? = some z -> uus[j]? = some z' -> EqAt A s z z' (eqD x y)
 | [], ys, vs, us, vvs, uus, A, _, _, _, _, _ => λ j x y e => by simp at e
 | x :: xs, [], vs, us, vvs, uus, A, _, _, _, _, _ => λ j _ y _ e => by simp at e
 | x :: xs, y :: ys, vs, us, vvs, uus, A, h, k, rv, ru, hu => by
  unfold DVL at h k
  unfold jV at hu
  obtain ⟨v, vs', rfl, p, r⟩ := h
  obtain ⟨u, us', rfl, p', r'⟩ := k
  cases rv with
  | cons rv1 rv2 =>
   cases ru with
   | cons ru1 ru2 =>
    intro j x' y' e1 e2 z z' ez ez'
    cases j with
    | zero =>
     simp at e1 e2 ez ez'
     subst e1 e2 ez ez'
     exact Nj I x y v u _ _ A p p' rv1 ru1 (by omega)
    | succ j =>
     exact jC I xs ys vs' us' _ _ A r r' rv2 ru2 (by omega) j x' y' (by simpa using e1) (by simpa using e2) z z' (by simpa using ez) (by simpa using ez')
end
theorem My (I : Inv X pins σ H s) : ∀ (x y : D) (v u : V) (vv uu : Value) (A : Around), DV X.K H x v -> DV X.K H y u -> RelV v vv -> RelV u uu -> A.units + gP x < cLine -> RcAt A s vv uu (eqD x y)
 | .tup xs, y, v, u, vv, uu, A, h, k, rv, ru, hu => by
  cases y with
  | tup ys =>
   unfold DV at h k; unfold gP at hu
   obtain ⟨a, us, rfl, q, r⟩ := h; cases rv; obtain ⟨its0, iv0, pl0, hz0⟩ := I.tuple q; obtain ⟨b, ws, rfl, p, r2⟩ := k; cases ru; obtain ⟨its1, iv1, pl1, hz1⟩ := I.tuple p
   unfold eqD
   exact Bl pl0 pl1 r r2 iv0 iv1 (by omega) (jC I xs ys us ws its0 its1 A.in1 r r2 iv0 iv1 (by rw [units_in1]; omega))
  | _ => exact jL (by omega) _ _ (vw I h rv) (vw I k ru) rfl
 | .lst xs, y, v, u, vv, uu, A, h, k, rv, ru, hu => by
  cases y with
  | lst ys =>
   unfold DV at h k; unfold gP at hu
   obtain ⟨a, us, rfl, q, r⟩ := h; cases rv; obtain ⟨its0, iv0, pl0, hz0⟩ := I.list q; obtain ⟨b, ws, rfl, p, r2⟩ := k; cases ru; obtain ⟨its1, iv1, pl1, hz1⟩ := I.list p
   unfold eqD
   exact Ba pl0 pl1 r r2 iv0 iv1 (by omega) (jC I xs ys us ws its0 its1 A.in1 r r2 iv0 iv1 (by rw [units_in1]; omega))
  | _ => exact jL (by omega) _ _ (vw I h rv) (vw I k ru) rfl
 | .non, y, v, u, vv, uu, A, h, k, rv, ru, hu => jL (by omega) _ _ (vw I h rv) (vw I k ru) (by cases y <;> rfl)
 | .bl _, y, v, u, vv, uu, A, h, k, rv, ru, hu => jL (by omega) _ _ (vw I h rv) (vw I k ru) (by cases y <;> rfl)
 | .int _, y, v, u, vv, uu, A, h, k, rv, ru, hu => jL (by omega) _ _ (vw I h rv) (vw I k ru) (by cases y <;> rfl)
 | .str _, y, v, u, vv, uu, A, h, k, rv, ru, hu => jL (by omega) _ _ (vw I h rv) (vw I k ru) (by cases y <;> rfl)
 | .ro _, y, v, u, vv, uu, A, h, k, rv, ru, hu => jL (by omega) _ _ (vw I h rv) (vw I k ru) (by cases y <;> rfl)
 | .dic _, y, v, u, vv, uu, A, h, k, rv, ru, hu => jL (by omega) _ _ (vw I h rv) (vw I k ru) (by cases y <;> rfl)
 | .cell _, y, v, u, vv, uu, A, h, k, rv, ru, hu => jL (by omega) _ _ (vw I h rv) (vw I k ru) (by cases y <;> rfl)
theorem KQ (I : Inv X pins σ H s) : ∀ (x y : D) (v u : V) (vv uu : Value) (A : Around), DV X.K H x v -> DV X.K H y u -> RelV v vv -> RelV u uu -> A.units + gP x < cLine -> RcNeAt A s vv uu (!eqD x y)
 | .tup xs, y, v, u, vv, uu, A, h, k, rv, ru, hu => by
  cases y with
  | tup ys =>
   unfold DV at h k; unfold gP at hu
   obtain ⟨a, us, rfl, q, r⟩ := h; cases rv; obtain ⟨its0, iv0, pl0, hz0⟩ := I.tuple q; obtain ⟨b, ws, rfl, p, r2⟩ := k; cases ru; obtain ⟨its1, iv1, pl1, hz1⟩ := I.tuple p
   unfold eqD
   exact Iw pl0 pl1 r r2 iv0 iv1 (by omega) (jC I xs ys us ws its0 its1 A.in1 r r2 iv0 iv1 (by rw [units_in1]; omega))
  | _ => exact jH (by omega) _ _ (vw I h rv) (vw I k ru) rfl
 | .lst xs, y, v, u, vv, uu, A, h, k, rv, ru, hu => by
  cases y with
  | lst ys =>
   unfold DV at h k; unfold gP at hu
   obtain ⟨a, us, rfl, q, r⟩ := h; cases rv; obtain ⟨its0, iv0, pl0, hz0⟩ := I.list q; obtain ⟨b, ws, rfl, p, r2⟩ := k; cases ru; obtain ⟨its1, iv1, pl1, hz1⟩ := I.list p
   unfold eqD
   exact Jg pl0 pl1 r r2 iv0 iv1 (by omega) (jC I xs ys us ws its0 its1 A.in1 r r2 iv0 iv1 (by rw [units_in1]; omega))
  | _ => exact jH (by omega) _ _ (vw I h rv) (vw I k ru) rfl
 | .non, y, v, u, vv, uu, A, h, k, rv, ru, hu => jH (by omega) _ _ (vw I h rv) (vw I k ru) (by cases y <;> rfl)
 | .bl _, y, v, u, vv, uu, A, h, k, rv, ru, hu => jH (by omega) _ _ (vw I h rv) (vw I k ru) (by cases y <;> rfl)
 | .int _, y, v, u, vv, uu, A, h, k, rv, ru, hu => jH (by omega) _ _ (vw I h rv) (vw I k ru) (by cases y <;> rfl)
 | .str _, y, v, u, vv, uu, A, h, k, rv, ru, hu => jH (by omega) _ _ (vw I h rv) (vw I k ru) (by cases y <;> rfl)
 | .ro _, y, v, u, vv, uu, A, h, k, rv, ru, hu => jH (by omega) _ _ (vw I h rv) (vw I k ru) (by cases y <;> rfl)
 | .dic _, y, v, u, vv, uu, A, h, k, rv, ru, hu => jH (by omega) _ _ (vw I h rv) (vw I k ru) (by cases y <;> rfl)
 | .cell _, y, v, u, vv, uu, A, h, k, rv, ru, hu => jH (by omega) _ _ (vw I h rv) (vw I k ru) (by cases y <;> rfl)
end
def rsv (d : D) (μ : Mu) : D := match d with
 | .cell n => match μ[n]? with
  | some (some ds) => .lst ds
  | _ => d
 | .ro ds => .lst ds
 | _ => d
theorem pM {K : PySem.W.Frag} {tb : List Addr} {W : Wd} {d : D} {v : V} (ok : WOk K tb W) (h : Den K tb W d v) (p : dH (rsv d W.mu) = true) : DV K W.H (rsv d W.mu) v := by
 cases d with
 | cell n =>
  obtain ⟨a, rfl, q⟩ := fQ h
  unfold rsv at p ⊢
  dsimp only at p ⊢
  cases e : W.mu[n]? with
  | none => rw [e] at p; cases p
  | some o =>
   rw [e] at p
   cases o with
   | none => cases p
   | some ds =>
    dsimp only at p ⊢
    unfold dH at p
    obtain ⟨xs, ex, r⟩ := ok.cont n a ds q e
    unfold DV
    exact ⟨a, xs, rfl, SqL.of ex, rH ds xs p r⟩
 | ro ds =>
  obtain ⟨a, xs, rfl, q, r⟩ := uR h
  have p' : dH (.lst ds) = true := p
  unfold dH at p'
  show DV K W.H (.lst ds) _
  unfold DV
  exact ⟨a, xs, rfl, SqL.fz q, rH ds xs p' r⟩
 | _ => exact JH _ _ p h
def oEq : O2 := λ x y μ => if (dH (rsv x μ) && dH (rsv y μ)) = true /\ gP (rsv x μ) < 100 then some (.bl (eqD (rsv x μ) (rsv y μ)), μ) else none
def oNe : O2 := λ x y μ => if (dH (rsv x μ) && dH (rsv y μ)) = true /\ gP (rsv x μ) < 100 then some (.bl (!eqD (rsv x μ) (rsv y μ)), μ) else none
def rEqD (K : PySem.W.Frag) : R2 := λ v u H Q => ∃ x y, DV K H x v /\ DV K H y u /\ gP x < 100 /\ Q (.bl (eqD x y)) H
def rNeD (K : PySem.W.Frag) : R2 := λ v u H Q => ∃ x y, DV K H x v /\ DV K H y u /\ gP x < 100 /\ Q (.bl (!eqD x y)) H
section
variable {X : Cx} {tb : List Addr} {k : Nat}
theorem FZ (hr : dU k X.A) : OpR X (compareOp .Eq) (rEqD X.K) := by
 intro pins s σ H v u vv uu Q I rv ru h
 obtain ⟨x, y, hx, hy, hd, q⟩ := h
 have hun := hr.un
 exact My I x y v u vv uu X.A hx hy rv ru (by omega) X.prog X.w X.xe _ ⟨.bl _, H, I, rfl, q⟩
theorem Kw (hr : dU k X.A) : OpR X (compareOp .NotEq) (rNeD X.K) := by
 intro pins s σ H v u vv uu Q I rv ru h
 obtain ⟨x, y, hx, hy, hd, q⟩ := h
 have hun := hr.un
 exact KQ I x y v u vv uu X.A hx hy rv ru (by omega) X.prog X.w X.xe _ ⟨.bl _, H, I, rfl, q⟩
theorem jt (hr : dU k X.A) : OpD X tb (compareOp .Eq) oEq := ⟨_, FZ hr, λ W x y v u d μ' Q ok dx dy ho h => by
 unfold oEq at ho
 split at ho
 .rename_i hc
  cases ho
  rw [Zo] at hc
  exact ⟨_, _, pM ok dx hc.1.1, pM ok dy hc.1.2, hc.2, put ok h fj⟩
 .cases ho⟩
theorem Bf (hr : dU k X.A) : OpD X tb (compareOp .NotEq) oNe := ⟨_, Kw hr, λ W x y v u d μ' Q ok dx dy ho h => by
 unfold oNe at ho
 split at ho
 .rename_i hc
  cases ho
  rw [Zo] at hc
  exact ⟨_, _, pM ok dx hc.1.1, pM ok dy hc.1.2, hc.2, put ok h fj⟩
 .cases ho⟩
end
end L3
namespace L2
open PySem PySem.Spec PyProof.Rows
section
variable {prog : Program} {w : World} {A : Around} {E : Value -> Shared -> Prop} {s : Shared}
theorem oK {it l : Addr} {i : Nat} {items} {x : Value} {Q : Value -> Shared -> Prop} (hit : s.heap.IsTupleIter it l i) (hl : s.heap.IsTuple l items) (hx : items[i]? = some x)
  (hQ : ∀ h', h'.IsTupleIter it l (i + 1) -> Heap.SameBut it s.heap h' -> Q x { s with heap := h' }) : wpAny (model prog w) A (Builtin.SmallTypes.nextOf (.ref it)) Q E s := by
 obtain ⟨o, ho, hc, hd⟩ := id hit
 obtain ⟨ol, hol, _, nl, hdl⟩ := hl
 unfold Builtin.SmallTypes.nextOf
 refine wpAny_bind (wpAny_callSpecial?_slot (name := Str.ofString "__next__") hit.typeIs F.slot_tuple_iterator_next
  (wpAny_call_entry F.slot_tuple_iterator_next hit.typeIs F.entry_tuple_iterator_next ?_ (F.args_tuple_iterator_next_1 _)))
 show wpAny _ _ (field (.ref it) 0 >>= _) _ _ s
 refine wpAny_bind (wpAny_field ho hd (x := .ref l) rfl ?_)
 show wpAny _ _ (if (Value.ref l == Value.none) = true then _ else _) _ _ s
 rw [if_neg (show ¬ ((Value.ref l == Value.none) = true) from Zr)]
 show wpAny _ _ (field (.ref it) 1 >>= _) _ _ s
 refine wpAny_bind (wpAny_field ho hd (x := .int i 0) rfl ?_)
 show wpAny _ _ (seqItems? (.ref l) >>= _) _ _ s
 refine wpAny_bind (wpAny_seqItems hol hdl ?_)
 simp only [Int.toNat_natCast, hx]
 refine wpAny_bind (wpAny_setField ho hd (by simp) (wpAny_pure ⟨x, rfl, wpAny_pure (hQ _ ?_ (Heap.SameBut.update ..))⟩))
 exact ⟨_, Heap.get?_update_self _ ho (Obj.isFreed_of_fields (Obj.data_mapFields hd _)), (Obj.cls_mapFields ..).trans hc, by
  rw [Obj.data_mapFields hd]; simp [rawInt]⟩
theorem ph {it l : Addr} {i : Nat} {items} {Q : Value -> Shared -> Prop} (hh : A.handled = none) (hit : s.heap.IsTupleIter it l i) (hl : s.heap.IsTuple l items) (hx : items[i]? = none)
  (hE : ∀ h' e, Heap.ExtBut it s.heap h' -> (∃ o, h'.get? e = some o /\ o.cls = .type "StopIteration") -> E (.ref e) { s with heap := h' }) : wpAny (model prog w) A (Builtin.SmallTypes.nextOf (.ref it)) Q E s := by
 obtain ⟨o, ho, hc, hd⟩ := id hit
 obtain ⟨ol, hol, _, nl, hdl⟩ := hl
 unfold Builtin.SmallTypes.nextOf
 refine wpAny_bind (wpAny_callSpecial?_slot (name := Str.ofString "__next__") hit.typeIs F.slot_tuple_iterator_next
  (wpAny_call_entry F.slot_tuple_iterator_next hit.typeIs F.entry_tuple_iterator_next ?_ (F.args_tuple_iterator_next_1 _)))
 show wpAny _ _ (field (.ref it) 0 >>= _) _ _ s
 refine wpAny_bind (wpAny_field ho hd (x := .ref l) rfl ?_)
 show wpAny _ _ (if (Value.ref l == Value.none) = true then _ else _) _ _ s
 rw [if_neg (show ¬ ((Value.ref l == Value.none) = true) from Zr)]
 show wpAny _ _ (field (.ref it) 1 >>= _) _ _ s
 refine wpAny_bind (wpAny_field ho hd (x := .int i 0) rfl ?_)
 show wpAny _ _ (seqItems? (.ref l) >>= _) _ _ s
 refine wpAny_bind (wpAny_seqItems hol hdl ?_)
 simp only [Int.toNat_natCast, hx]
 refine wpAny_bind (wpAny_rule (wpAny_bind (wpAny_setField ho hd (by simp) ?_)))
 show wpAny _ _ (newExc (.type "StopIteration") [] >>= _) _ _ _
 refine wpAny_bind ?_
 simp only [newExc, newTuple]
 refine wpAny_bind (wpAny_newObj_type ?_ (by size_fits))
 refine wpAny_bind (m := firstArgMember _ _) (wpAny_of_eq (a := Value.none) (by first | rfl | (simp only [firstArgMember]; rfl)) ?_)
 refine wpAny_newObj_type ?_ (by size_fits)
 simp only [raiseNew]
 refine wpAny_bind (wpAny_handled ?_)
 first | rw [show A.in1.handled = none from hh] | rw [hh]
 refine wpAny_bind (wpAny_pure (wpAny_throw ?_))
 exact hE _ _ (((Heap.SameBut.update ..).extBut.push _).push _) ⟨_, Zf _ rfl, rfl⟩
end
def fO (k : Bool) (h : Heap) (it l : Addr) (i : Nat) : Prop := if k = true then h.IsTupleIter it l i else h.IsListIter it l i
def jc (k : Bool) (h : Heap) (l : Addr) (xs : Array Value) : Prop := if k = true then h.IsTuple l xs else h.IsList l xs
section
variable {prog : Program} {w : World} {A : Around} {E : Value -> Shared -> Prop} {s : Shared} {k : Bool} {it l : Addr} {i : Nat} {xs : Array Value} {h h' : Heap}
theorem fO.obj (x : fO k h it l i) : ∃ o, h.get? it = some o /\ (∀ v, o.data ≠ .cell v) /\ (o.cls = .type "tuple_iterator" ∨ o.cls = .type "list_iterator") := by
 cases k
 .obtain ⟨o, e, c, d⟩ : h.IsListIter it l i := x
  exact ⟨o, e, (λ v z => by rw [d] at z; cases z), .inr c⟩
 .obtain ⟨o, e, c, d⟩ : h.IsTupleIter it l i := x
  exact ⟨o, e, (λ v z => by rw [d] at z; cases z), .inl c⟩
theorem fO.at' (x : fO k h it l i) (hk : ∀ o, h.get? it = some o -> h'.get? it = some o) : fO k h' it l i := by
 cases k
 .obtain ⟨o, e, c, d⟩ : h.IsListIter it l i := x
  exact (⟨o, hk o e, c, d⟩ : h'.IsListIter it l i)
 .obtain ⟨o, e, c, d⟩ : h.IsTupleIter it l i := x
  exact (⟨o, hk o e, c, d⟩ : h'.IsTupleIter it l i)
theorem jc.at' (x : jc k h l xs) (hk : ∀ o, h.get? l = some o -> h'.get? l = some o) : jc k h' l xs := by
 cases k
 .obtain ⟨o, e, c⟩ : h.IsList l xs := x
  exact (⟨o, hk o e, c⟩ : h'.IsList l xs)
 .obtain ⟨o, e, c⟩ : h.IsTuple l xs := x
  exact (⟨o, hk o e, c⟩ : h'.IsTuple l xs)
theorem iC {x : Value} {Q : Value -> Shared -> Prop} (hit : fO k s.heap it l i) (hl : jc k s.heap l xs) (hx : xs[i]? = some x)
  (hQ : ∀ h', fO k h' it l (i + 1) -> Heap.SameBut it s.heap h' -> Q x { s with heap := h' }) : wpAny (model prog w) A (Builtin.SmallTypes.nextOf (.ref it)) Q E s := by
 cases k
 .exact wpAny_nextOf_list_item hit hl hx hQ
 .exact oK hit hl hx hQ
theorem mU {Q : Value -> Shared -> Prop} (hh : A.handled = none) (hit : fO k s.heap it l i) (hl : jc k s.heap l xs) (hx : xs[i]? = none)
  (hE : ∀ h' e, Heap.ExtBut it s.heap h' -> (∃ o, h'.get? e = some o /\ o.cls = .type "StopIteration") -> E (.ref e) { s with heap := h' }) : wpAny (model prog w) A (Builtin.SmallTypes.nextOf (.ref it)) Q E s := by
 cases k
 .exact wpAny_nextOf_list_end hh hit hl hx hE
 .exact ph hh hit hl hx hE
end
structure ZA (z TI TO i1 i2 : Addr) : Prop where
 TIz : TI ≠ z
 TOz : TO ≠ z
 i1z : i1 ≠ z
 i2z : i2 ≠ z
 TITO : TI ≠ TO
 TIi1 : TI ≠ i1
 TIi2 : TI ≠ i2
 TOi1 : TO ≠ i1
 TOi2 : TO ≠ i2
 i12 : i1 ≠ i2
section
variable {prog : Program} {w : World} {A : Around} {E : Value -> Shared -> Prop} {s : Shared}
theorem Cg {z TI TO i1 i2 l1 l2 : Addr} {c1 c2 : Bool} {k1 k2 : Nat} {xs ys : Array Value} {x y a b : Value} {Q : Value -> Shared -> Prop} (D : ZA z TI TO i1 i2)
  (l1z : l1 ≠ z) (l2z : l2 ≠ z) (l2i1 : l2 ≠ i1) (l2TO : l2 ≠ TO)
  (hz : IsZip s.heap z TI TO .none) (hTI : IsPair s.heap TI (.ref i1) (.ref i2)) (hTO : IsPair s.heap TO a b)
  (h1 : fO c1 s.heap i1 l1 k1) (h2 : fO c2 s.heap i2 l2 k2) (hl1 : jc c1 s.heap l1 xs) (hl2 : jc c2 s.heap l2 ys) (hx : xs[k1]? = some x) (hy : ys[k2]? = some y)
  (hQ : ∀ h', IsZip h' z TI TO (rawInt s.heap.objs.size) -> IsPair h' TO x y -> fO c1 h' i1 l1 (k1 + 1) -> fO c2 h' i2 l2 (k2 + 1) -> IsPair h' s.heap.objs.size x y -> h'.objs.size = s.heap.objs.size + 1 ->
   (∀ c o, c ≠ z -> c ≠ TO -> c ≠ i1 -> c ≠ i2 -> s.heap.get? c = some o -> h'.get? c = some o) -> Q (.ref s.heap.objs.size) { s with heap := h' }) :
  wpAny (model prog w) A (Builtin.«zip.__next__» ⟨[.ref z], []⟩) (λ fin s' => ∃ v, fin = .done (.ret v) /\ Q v s') E s := by
 show wpAny _ _ (field (.ref z) 2 >>= _) _ _ _
 refine wpAny_bind (wpAny_field hz rfl (x := .bool false) rfl ?_)
 show wpAny _ _ (field (.ref z) 3 >>= _) _ _ _
 refine wpAny_bind (wpAny_field hz rfl (x := .ref TI) rfl ?_)
 refine wpAny_bind (wpAny_seqItems hTI rfl ?_)
 show wpAny _ _ (Builtin.SmallTypes.ownedTupleIsFree (.ref z) >>= _) _ _ _
 refine wpAny_bind ?_
 unfold Builtin.SmallTypes.ownedTupleIsFree
 refine wpAny_bind (wpAny_field hz rfl (x := .none) rfl (wpAny_pure ?_))
 simp only [if_true]
 refine wpAny_bind (wpAny_rule ?_)
 refine wpAny_bind (wpAny_field hz rfl (x := .ref TO) rfl ?_)
 refine wpAny_bind (wpAny_setField_rec hz (by simp) λ h₁ hz₁ hs₁ => ?_)
 replace hz₁ : IsZip h₁ z TI TO .ellipsis := hz₁
 refine wpAny_bind ?_
 simp only [List.zipIdx_cons, List.zipIdx_nil, List.forIn_cons, List.forIn_nil]
 refine wpAny_bind (wpAny_bind (wpAny_onRaise ?_))
 show wpAny _ _ (Builtin.SmallTypes.nextOf (.ref i1) >>= _) _ _ _
 refine wpAny_bind (iC (h1.at' λ o e => hs₁.extBut _ _ D.i1z e) (hl1.at' λ o e => hs₁.extBut _ _ l1z e) hx λ h₂ h1₂ hs₂ => wpAny_pure ?_)
 have hTO₂ : IsPair h₂ TO a b := hs₂.extBut _ _ D.TOi1 (hs₁.extBut _ _ D.TOz hTO)
 refine wpAny_bind (wpAny_seqItems hTO₂ rfl ?_)
 refine wpAny_bind (wpAny_updateSeq_pair hTO₂ λ h₃ hTO₃ hs₃ => ?_)
 replace hTO₃ : IsPair h₃ TO x b := hTO₃
 refine wpAny_bind (wpAny_letGo (wpAny_pure ?_))
 refine wpAny_bind (wpAny_bind (wpAny_onRaise ?_))
 show wpAny _ _ (Builtin.SmallTypes.nextOf (.ref i2) >>= _) _ _ _
 refine wpAny_bind (iC (h2.at' λ o e => hs₃.extBut _ _ D.TOi2.symm (hs₂.extBut _ _ D.i12.symm (hs₁.extBut _ _ D.i2z e))) (hl2.at' λ o e => hs₃.extBut _ _ l2TO (hs₂.extBut _ _ l2i1 (hs₁.extBut _ _ l2z e))) hy λ h₄ h2₄ hs₄ => wpAny_pure ?_)
 have hTO₄ : IsPair h₄ TO x b := hs₄.extBut _ _ D.TOi2 hTO₃
 refine wpAny_bind (wpAny_seqItems hTO₄ rfl ?_)
 refine wpAny_bind (wpAny_updateSeq_pair hTO₄ λ h₅ hTO₅ hs₅ => ?_)
 replace hTO₅ : IsPair h₅ TO x y := hTO₅
 refine wpAny_bind (wpAny_letGo (wpAny_pure (wpAny_pure ?_)))
 refine wpAny_bind (wpAny_seqItems hTO₅ rfl ?_)
 refine wpAny_bind (wpAny_newTuple ?_)
 have hsz : h₅.objs.size = s.heap.objs.size := by rw [hs₅.1, hs₄.1, hs₃.1, hs₂.1, hs₁.1]
 have hz₅ : IsZip h₅ z TI TO .ellipsis := hs₅.extBut _ _ D.TOz.symm (hs₄.extBut _ _ D.i2z.symm (hs₃.extBut _ _ D.TOz.symm (hs₂.extBut _ _ D.i1z.symm hz₁)))
 have hk₅ : ∀ c o, c ≠ z -> c ≠ TO -> c ≠ i1 -> c ≠ i2 -> s.heap.get? c = some o -> h₅.get? c = some o := λ c o q1 q2 q3 q4 e =>
  hs₅.extBut _ _ q2 (hs₄.extBut _ _ q4 (hs₃.extBut _ _ q2 (hs₂.extBut _ _ q3 (hs₁.extBut _ _ q1 e))))
 have h1₅ : fO c1 h₅ i1 l1 (k1 + 1) := h1₂.at' λ o e => hs₅.extBut _ _ D.TOi1.symm (hs₄.extBut _ _ D.i12 (hs₃.extBut _ _ D.TOi1.symm e))
 have h2₅ : fO c2 h₅ i2 l2 (k2 + 1) := h2₄.at' λ o e => hs₅.extBut _ _ D.TOi2.symm e
 have hzlt : z < h₅.objs.size := Ze hz₅
 show wpAny _ _ (Builtin.SmallTypes.ownedTupleHandOut (.ref z) (.ref h₅.objs.size) >>= _) _ _ _
 refine wpAny_bind ?_
 unfold Builtin.SmallTypes.ownedTupleHandOut
 have hz₆ : IsZip (h₅.push { cls := .type "tuple", data := .seq #[x, y] }) z TI TO .ellipsis := Zb _ hz₅
 refine wpAny_bind (wpAny_setField_rec hz₆ (by simp) λ h₇ hz₇ hs₇ => ?_)
 replace hz₇ : IsZip h₇ z TI TO (rawInt h₅.objs.size) := hz₇
 refine wpAny_setField_rec hz₇ (by simp) λ h₈ hz₈ hs₈ => ?_
 replace hz₈ : IsZip h₈ z TI TO (rawInt h₅.objs.size) := hz₈
 have up : ∀ c o, c ≠ z -> h₅.get? c = some o -> h₈.get? c = some o := λ c o q1 e => hs₈.extBut _ _ q1 (hs₇.extBut _ _ q1 (Zb _ e))
 have hT₈ : IsPair h₈ h₅.objs.size x y := hs₈.extBut _ _ (Nat.ne_of_gt hzlt) (hs₇.extBut _ _ (Nat.ne_of_gt hzlt) (Zf _ rfl))
 have hz8 : h₈.objs.size = h₅.objs.size + 1 := by rw [hs₈.1, hs₇.1, Heap.size_push]
 rw [hsz] at hz₈ hT₈ hz8
 refine wpAny_pure ⟨_, rfl, ?_⟩
 show Q (.ref h₅.objs.size) _
 rw [hsz]
 exact hQ h₈ hz₈ (up _ _ D.TOz hTO₅) (h1₅.at' λ o e => up _ o D.i1z e) (h2₅.at' λ o e => up _ o D.i2z e) hT₈ hz8 λ c o q1 q2 q3 q4 e => up c o q1 (hk₅ c o q1 q2 q3 q4 e)
theorem Eu {z TI TO i1 i2 l1 l2 : Addr} {c1 c2 : Bool} {k1 k2 : Nat} {xs ys : Array Value} {a b : Value} {Q : PySem.Fin -> Shared -> Prop} (hh : A.handled = none) (D : ZA z TI TO i1 i2)
  (l1z : l1 ≠ z) (l2z : l2 ≠ z) (l2i1 : l2 ≠ i1) (l2TO : l2 ≠ TO)
  (hz : IsZip s.heap z TI TO .none) (hTI : IsPair s.heap TI (.ref i1) (.ref i2)) (hTO : IsPair s.heap TO a b)
  (h1 : fO c1 s.heap i1 l1 k1) (h2 : fO c2 s.heap i2 l2 k2) (hl1 : jc c1 s.heap l1 xs) (hl2 : jc c2 s.heap l2 ys) (hend : xs[k1]? = none ∨ ys[k2]? = none)
  (hE : ∀ h' e, (∀ c o, c ≠ z -> c ≠ TO -> c ≠ i1 -> c ≠ i2 -> s.heap.get? c = some o -> h'.get? c = some o) -> (∃ o, h'.get? e = some o /\ o.cls = .type "StopIteration") -> E (.ref e) { s with heap := h' }) :
  wpAny (model prog w) A (Builtin.«zip.__next__» ⟨[.ref z], []⟩) Q E s := by
 show wpAny _ _ (field (.ref z) 2 >>= _) _ _ _
 refine wpAny_bind (wpAny_field hz rfl (x := .bool false) rfl ?_)
 show wpAny _ _ (field (.ref z) 3 >>= _) _ _ _
 refine wpAny_bind (wpAny_field hz rfl (x := .ref TI) rfl ?_)
 refine wpAny_bind (wpAny_seqItems hTI rfl ?_)
 show wpAny _ _ (Builtin.SmallTypes.ownedTupleIsFree (.ref z) >>= _) _ _ _
 refine wpAny_bind ?_
 unfold Builtin.SmallTypes.ownedTupleIsFree
 refine wpAny_bind (wpAny_field hz rfl (x := .none) rfl (wpAny_pure ?_))
 simp only [if_true]
 refine wpAny_bind (wpAny_rule ?_)
 refine wpAny_bind (wpAny_field hz rfl (x := .ref TO) rfl ?_)
 refine wpAny_bind (wpAny_setField_rec hz (by simp) λ h₁ hz₁ hs₁ => ?_)
 replace hz₁ : IsZip h₁ z TI TO .ellipsis := hz₁
 refine wpAny_bind ?_
 simp only [List.zipIdx_cons, List.zipIdx_nil, List.forIn_cons, List.forIn_nil]
 refine wpAny_bind (wpAny_bind (wpAny_onRaise ?_))
 show wpAny _ _ (Builtin.SmallTypes.nextOf (.ref i1) >>= _) _ _ _
 cases hx : xs[k1]? with
 | none =>
  refine wpAny_bind (mU hh (h1.at' λ o e => hs₁.extBut _ _ D.i1z e) (hl1.at' λ o e => hs₁.extBut _ _ l1z e) hx λ h₂ e hs₂ he => ?_)
  obtain ⟨oe, hoe, hce⟩ := he
  have hz₂ : IsZip h₂ z TI TO .ellipsis := hs₂ _ _ D.i1z.symm hz₁
  have hez : e ≠ z := λ x => by subst x; rw [hz₂] at hoe; cases hoe; simp at hce
  exact wpAny_setField_rec hz₂ (by simp) λ h₃ _ hs₃ => hE h₃ e (λ c o q1 _ q3 _ x => hs₃.extBut _ _ q1 (hs₂ _ _ q3 (hs₁.extBut _ _ q1 x))) ⟨oe, hs₃.extBut _ _ hez hoe, hce⟩
 | some x =>
  have hy : ys[k2]? = none := by rcases hend with h | h; rw [hx] at h; cases h; exact h
  refine wpAny_bind (iC (h1.at' λ o e => hs₁.extBut _ _ D.i1z e) (hl1.at' λ o e => hs₁.extBut _ _ l1z e) hx λ h₂ h1₂ hs₂ => wpAny_pure ?_)
  have hTO₂ : IsPair h₂ TO a b := hs₂.extBut _ _ D.TOi1 (hs₁.extBut _ _ D.TOz hTO)
  refine wpAny_bind (wpAny_seqItems hTO₂ rfl ?_)
  refine wpAny_bind (wpAny_updateSeq_pair hTO₂ λ h₃ hTO₃ hs₃ => ?_)
  refine wpAny_bind (wpAny_letGo (wpAny_pure ?_))
  refine wpAny_bind (wpAny_bind (wpAny_onRaise ?_))
  show wpAny _ _ (Builtin.SmallTypes.nextOf (.ref i2) >>= _) _ _ _
  refine wpAny_bind (mU hh (h2.at' λ o e => hs₃.extBut _ _ D.TOi2.symm (hs₂.extBut _ _ D.i12.symm (hs₁.extBut _ _ D.i2z e))) (hl2.at' λ o e => hs₃.extBut _ _ l2TO (hs₂.extBut _ _ l2i1 (hs₁.extBut _ _ l2z e))) hy λ h₄ e hs₄ he => ?_)
  obtain ⟨oe, hoe, hce⟩ := he
  have hz₄ : IsZip h₄ z TI TO .ellipsis := hs₄ _ _ D.i2z.symm (hs₃.extBut _ _ D.TOz.symm (hs₂.extBut _ _ D.i1z.symm hz₁))
  have hez : e ≠ z := λ x => by subst x; rw [hz₄] at hoe; cases hoe; simp at hce
  exact wpAny_setField_rec hz₄ (by simp) λ h₅ _ hs₅ => hE h₅ e (λ c o q1 q2 q3 q4 x => hs₅.extBut _ _ q1 (hs₄ _ _ q4 (hs₃.extBut _ _ q2 (hs₂.extBut _ _ q3 (hs₁.extBut _ _ q1 x))))) ⟨oe, hs₅.extBut _ _ hez hoe, hce⟩
end
section
variable {prog : Program} {w : World} {A : Around} {E : Value -> Shared -> Prop} {s : Shared}
theorem qe {z TI TO i1 i2 l1 l2 : Addr} {c1 c2 : Bool} {k1 k2 : Nat} {xs ys : Array Value} {x y a b : Value} {Q : Option Value -> Shared -> Prop} (D : ZA z TI TO i1 i2)
  (l1z : l1 ≠ z) (l2z : l2 ≠ z) (l2i1 : l2 ≠ i1) (l2TO : l2 ≠ TO)
  (hz : IsZip s.heap z TI TO .none) (hTI : IsPair s.heap TI (.ref i1) (.ref i2)) (hTO : IsPair s.heap TO a b)
  (h1 : fO c1 s.heap i1 l1 k1) (h2 : fO c2 s.heap i2 l2 k2) (hl1 : jc c1 s.heap l1 xs) (hl2 : jc c2 s.heap l2 ys) (hx : xs[k1]? = some x) (hy : ys[k2]? = some y)
  (hQ : ∀ h', IsZip h' z TI TO (rawInt s.heap.objs.size) -> IsPair h' TO x y -> fO c1 h' i1 l1 (k1 + 1) -> fO c2 h' i2 l2 (k2 + 1) -> IsPair h' s.heap.objs.size x y -> h'.objs.size = s.heap.objs.size + 1 ->
   (∀ c o, c ≠ z -> c ≠ TO -> c ≠ i1 -> c ≠ i2 -> s.heap.get? c = some o -> h'.get? c = some o) -> Q (some (.ref s.heap.objs.size)) { s with heap := h' }) :
  wpAny (model prog w) A (pyNext (.ref z)) Q E s := by
 have hT : s.TypeIs (.ref z) "zip" := ⟨_, hz, rfl⟩
 unfold pyNext
 exact wpAny_bind (wpAny_attempt (wpAny_callSpecial?_slot (name := Str.ofString "__next__") hT F.slot_zip_next
  (wpAny_call_entry F.slot_zip_next hT F.entry_zip_next
   (Cg D l1z l2z l2i1 l2TO hz hTI hTO h1 h2 hl1 hl2 hx hy λ h' a1 a2 a3 a4 a5 a6 a7 => wpAny_pure (hQ h' a1 a2 a3 a4 a5 a6 a7)) (F.args_zip_next_1 _))))
theorem qH {z TI TO i1 i2 l1 l2 : Addr} {c1 c2 : Bool} {k1 k2 : Nat} {xs ys : Array Value} {a b : Value} {Q : Option Value -> Shared -> Prop} (hh : A.handled = none) (D : ZA z TI TO i1 i2)
  (l1z : l1 ≠ z) (l2z : l2 ≠ z) (l2i1 : l2 ≠ i1) (l2TO : l2 ≠ TO)
  (hz : IsZip s.heap z TI TO .none) (hTI : IsPair s.heap TI (.ref i1) (.ref i2)) (hTO : IsPair s.heap TO a b)
  (h1 : fO c1 s.heap i1 l1 k1) (h2 : fO c2 s.heap i2 l2 k2) (hl1 : jc c1 s.heap l1 xs) (hl2 : jc c2 s.heap l2 ys) (hend : xs[k1]? = none ∨ ys[k2]? = none)
  (hQ : ∀ h', (∀ c o, c ≠ z -> c ≠ TO -> c ≠ i1 -> c ≠ i2 -> s.heap.get? c = some o -> h'.get? c = some o) -> Q none { s with heap := h' }) : wpAny (model prog w) A (pyNext (.ref z)) Q E s := by
 have hT : s.TypeIs (.ref z) "zip" := ⟨_, hz, rfl⟩
 unfold pyNext
 refine wpAny_bind (wpAny_attempt (wpAny_callSpecial?_slot (name := Str.ofString "__next__") hT F.slot_zip_next
  (wpAny_call_entry F.slot_zip_next hT F.entry_zip_next (Eu hh D l1z l2z l2i1 l2TO hz hTI hTO h1 h2 hl1 hl2 hend λ h' e hk he => ?_) (F.args_zip_next_1 _))))
 obtain ⟨o, ho, hc⟩ := he
 refine wpAny_bind (wpAny_isInstance (T := "StopIteration") (b := true) ⟨o, ho, hc⟩ isSubtype_stop ?_)
 exact wpAny_pure (hQ _ hk)
def itTy (k : Bool) : String := if k = true then "tuple_iterator" else "list_iterator"
abbrev mz (k : Bool) (l : Addr) : Obj := { cls := .type (itTy k), data := .fields #[.ref l, .int 0 0] }
theorem uJ {k : Bool} {l : Addr} {xs : Array Value} {Q : Value -> Shared -> Prop} (hl : jc k s.heap l xs) (hQ : Q (.ref s.heap.objs.size) { s with heap := s.heap.push (mz k l) }) : wpAny (model prog w) A (pyIter (.ref l)) Q E s := by
 cases k
 .exact wpAny_pyIter_list hl hQ
 .exact wpAny_pyIter_tuple hl hQ
end
abbrev zH2 (h : Heap) (c1 c2 : Bool) (l1 l2 : Addr) : Heap := (h.push (mz c1 l1)).push (mz c2 l2)
abbrev zH3 (h : Heap) (c1 c2 : Bool) (l1 l2 : Addr) : Heap := (zH2 h c1 c2 l1 l2).push { cls := .type "tuple", data := .seq #[.ref h.objs.size, .ref (h.push (mz c1 l1)).objs.size] }
abbrev zH4 (h : Heap) (c1 c2 : Bool) (l1 l2 : Addr) : Heap := (zH3 h c1 c2 l1 l2).push { cls := .type "tuple", data := .seq #[.none, .none] }
abbrev zH5 (h : Heap) (c1 c2 : Bool) (l1 l2 : Addr) : Heap := (zH4 h c1 c2 l1 l2).push { cls := .type "zip", data := .fields #[.none, .bool false, .bool false, .ref (zH2 h c1 c2 l1 l2).objs.size, .ref (zH3 h c1 c2 l1 l2).objs.size] }
theorem Dg (c1 c2 : Bool) (l1 l2 : Addr) (xs ys : Array Value) :
  Meets (Builtin.«zip.__new__» ⟨[.type "zip", .ref l1, .ref l2], []⟩) (λ _ R s => jc c1 s.heap l1 xs /\ jc c2 s.heap l2 ys /\
   R (.ok (.ret (.ref (zH4 s.heap c1 c2 l1 l2).objs.size))) { s with heap := zH5 s.heap c1 c2 l1 l2 }) :=
 .of_wp λ prog w A R s h => by
  obtain ⟨hp, g, d, tk, os⟩ := s; obtain ⟨hl1, hl2, h⟩ := h
  have hsub := sub_zip
  have hL1 : jc c1 (Shared.heap ⟨hp, g, d, tk, os⟩) l1 xs := hl1
  have hL2 : jc c2 (Shared.heap ⟨hp.push (mz c1 l1), g, d, tk, os⟩) l2 ys := hl2.at' λ o e => Zb _ e
  wp_walk using uJ hL1, uJ hL2
  exact ⟨_, rfl, h⟩
section
variable {prog : Program} {w : World} {A : Around} {E : Value -> Shared -> Prop} {s : Shared}
theorem fO.new (k : Bool) (h : Heap) (l : Addr) : fO k (h.push (mz k l)) h.objs.size l 0 := by
 cases k
 .exact (⟨mz false l, Zf _ rfl, rfl, rfl⟩ : Heap.IsListIter _ _ _ 0)
 .exact (⟨mz true l, Zf _ rfl, rfl, rfl⟩ : Heap.IsTupleIter _ _ _ 0)
theorem BR {c1 c2 : Bool} {l1 l2 : Addr} {xs ys : Array Value} {Q : Value -> Shared -> Prop} (hl1 : jc c1 s.heap l1 xs) (hl2 : jc c2 s.heap l2 ys)
  (h : ∀ h', IsZip h' (s.heap.objs.size + 4) (s.heap.objs.size + 2) (s.heap.objs.size + 3) .none -> IsPair h' (s.heap.objs.size + 2) (.ref s.heap.objs.size) (.ref (s.heap.objs.size + 1)) ->
   IsPair h' (s.heap.objs.size + 3) .none .none -> fO c1 h' s.heap.objs.size l1 0 -> fO c2 h' (s.heap.objs.size + 1) l2 0 -> h'.objs.size = s.heap.objs.size + 5 ->
   (∀ c o, s.heap.get? c = some o -> h'.get? c = some o) -> Q (.ref (s.heap.objs.size + 4)) { s with heap := h' }) :
  wpAny (model prog w) A (call (.type "zip") [.ref l1, .ref l2]) Q E s := by
 refine callType_new F.called_zip (by decide) (F.typeCall_zip_2 _ _) (F.newCall_zip_2 _ _) (λ obj => F.args_object_init_3 obj _ _) F.entry_zip_new
  (Dg c1 c2 l1 l2 xs ys) ⟨hl1, hl2, ?_⟩
 have z1 : (s.heap.push (mz c1 l1)).objs.size = s.heap.objs.size + 1 := Heap.size_push ..
 have z2 : (zH2 s.heap c1 c2 l1 l2).objs.size = s.heap.objs.size + 2 := by rw [Heap.size_push, z1]
 have z3 : (zH3 s.heap c1 c2 l1 l2).objs.size = s.heap.objs.size + 3 := by rw [Heap.size_push, z2]
 have z4 : (zH4 s.heap c1 c2 l1 l2).objs.size = s.heap.objs.size + 4 := by rw [Heap.size_push, z3]
 have z5 : (zH5 s.heap c1 c2 l1 l2).objs.size = s.heap.objs.size + 5 := by rw [Heap.size_push, z4]
 have g5 : (zH5 s.heap c1 c2 l1 l2).get? (zH4 s.heap c1 c2 l1 l2).objs.size = some _ := Zf _ rfl
 have g4 : (zH5 s.heap c1 c2 l1 l2).get? (zH3 s.heap c1 c2 l1 l2).objs.size = some _ := Zb _ (Zf _ rfl)
 have g3 : (zH5 s.heap c1 c2 l1 l2).get? (zH2 s.heap c1 c2 l1 l2).objs.size = some _ := Zb _ (Zb _ (Zf _ rfl))
 have g2 : fO c2 (zH5 s.heap c1 c2 l1 l2) (s.heap.push (mz c1 l1)).objs.size l2 0 := (fO.new c2 _ l2).at' λ o e => Zb _ (Zb _ (Zb _ e))
 have g1 : fO c1 (zH5 s.heap c1 c2 l1 l2) s.heap.objs.size l1 0 := (fO.new c1 _ l1).at' λ o e => Zb _ (Zb _ (Zb _ (Zb _ e)))
 show _ /\ _
 rw [z2, z3, z4] at g5
 rw [z1, z2] at g3
 rw [z3] at g4
 rw [z1] at g2
 rw [z4]
 exact ⟨⟨_, g5, rfl⟩, h _ g5 g3 g4 g1 g2 z5 λ c o x =>
  Zb _ (Zb _ (Zb _ (Zb _ (Zb _ x))))⟩
end
def SqB (c : Bool) (K : PySem.W.Frag) (H : Hp) (a : Addr) (xs : List V) : Prop := if c = true then SqT K H a xs else SqL K H a xs
section
variable {X : Cx} {pins : List (Addr × Obj)} {σ : L2.St} {H H' : Hp} {s : Shared} {h' : Heap}
theorem Inv.sqB {c : Bool} {a : Addr} {xs : List V} (I : Inv X pins σ H s) (h : SqB c X.K H a xs) : ∃ its : List Value, Vals xs its /\ jc c s.heap a its.toArray /\ xs.length <= sizeLine := by
 cases c
 .obtain ⟨its, r, p, hz⟩ := I.list (show SqL X.K H a xs from h)
  exact ⟨its, r, p.isList, hz⟩
 .obtain ⟨its, r, p, hz⟩ := I.tuple (show SqT X.K H a xs from h)
  exact ⟨its, r, p, hz⟩
theorem Inv.sqB_inj {c : Bool} {a : Addr} {xs ys : List V} (I : Inv X pins σ H s) (h : SqB c X.K H a xs) (h' : SqB c X.K H a ys) : xs = ys := by
 cases c
 .exact I.list_inj (show SqL X.K H a xs from h) h'
 .exact I.tuple_inj (show SqT X.K H a xs from h) h'
theorem Inv.sqB_ne {c : Bool} {a b : Addr} {xs : List V} (I : Inv X pins σ H s) (h : SqB c X.K H a xs) (f : jA X pins H b) : a ≠ b := by
 have key : (∃ o, H a = some o) ∨ ∃ o, X.K.lookup a = some o := by
  cases c
  .rcases (show SqL X.K H a xs from h) with (h | ⟨o, h⟩) | ⟨o, _, _, h, _⟩
   .exact .inl ⟨_, h⟩
   .exact .inl ⟨_, h⟩
   .exact .inr ⟨_, h⟩
  .rcases (show SqT X.K H a xs from h) with (h | ⟨o, h⟩) | ⟨o, _, _, h, _⟩
   .exact .inl ⟨_, h⟩
   .exact .inl ⟨_, h⟩
   .exact .inr ⟨_, h⟩
 intro z
 subst z
 rcases key with ⟨o, e⟩ | ⟨o, e⟩
 .rw [f.1] at e; cases e
 .have e' := I.ok.mod.kin a o e
  rcases f.2.2.2.1 with q | q
  .exact I.ok.noex a o e' q
  .exact absurd (Zc (Ze (I.ok.bs a o e').1) q) (Nat.lt_irrefl _)
theorem Inv.turnedL {t' : Nat} {fp : List Addr} (I : Inv X pins σ H s) (k : ∀ b o, b ∉ fp -> s.heap.get? b = some o -> h'.get? b = some o) (hf : ∀ b ∈ fp, jA X pins H b) : Inv X pins σ H { s with heap := h', toks := t' } := by
 have nit : ∀ b u, H b = some u -> b ∉ fp := λ b u e z => by rw [(hf b z).1] at e; cases e
 refine I.step (g' := s.gens) (d' := s.drawn) (ch := fp) (λ b hb => ?_) (λ b o _ _ hc e _ => k b o hc e) (λ b o _ _ hc e _ => ⟨o.slots, k b o hc e⟩) (λ _ _ _ _ n => n)
  (λ b o hc e => ⟨o, k b o hc e⟩) (λ _ _ e => e) (λ _ _ _ e => e) (λ b ps e => ⟨#[], by rw [e]; simp⟩) (λ m hm => ?_) (λ b u e => ?_) I.bare.again
 .obtain ⟨f0, f1, f2, f3, f4, f5⟩ := hf b hb
  exact ⟨f3, f1, f4, f5⟩
 .obtain ⟨o, es, ep, ho, r⟩ := hm
  exact ⟨o, es, ep, k _ o (λ z => (hf _ z).2.1 rfl) ho, r⟩
 .refine (I.hok b u e).stay (λ c v hc q => k c v ?_ q) (λ _ q => q) λ _ _ q => q
  rcases hc with z | z
  .rw [z]; exact nit b u e
  .exact nit c _ z
end
def Itz (K : PySem.W.Frag) (c1 c2 : Bool) (a1 a2 : Addr) : It :=
 ⟨λ i H => (∃ xs x, SqB c1 K H a1 xs /\ xs[i]? = some x) /\ ∃ ys y, SqB c2 K H a2 ys /\ ys[i]? = some y,
  λ i H v H' => ∃ p x y, v = .ref p /\ H p = none /\ H' = upd H p (.tup [x, y]) /\ (∀ xs, SqB c1 K H a1 xs -> xs[i]? = some x) /\ ∀ ys, SqB c2 K H a2 ys -> ys[i]? = some y,
  λ i H => ∃ xs ys, SqB c1 K H a1 xs /\ SqB c2 K H a2 ys /\ (xs.length <= i ∨ ys.length <= i)⟩
def ZSt (c1 c2 : Bool) (z TI TO i1 i2 a1 a2 : Addr) (i : Nat) (h : Heap) : Prop :=
 IsZip h z TI TO .none /\ IsPair h TI (.ref i1) (.ref i2) /\ (∃ a b, IsPair h TO a b) /\ fO c1 h i1 a1 i /\ fO c2 h i2 a2 i
theorem FP {h : Heap} {o u : Obj} {b : Addr} (e : (h.push o).get? b = some u) (hb : b ≠ h.objs.size) : h.get? b = some u := by
 unfold Heap.get? at e ⊢
 have hp : (h.push o).objs[b]? = h.objs[b]? := by
  show (h.objs.push o)[b]? = h.objs[b]?
  rw [Array.getElem?_push, if_neg hb]
 rw [hp] at e
 exact e
theorem Di {P : Program} {w : World} {K : PySem.W.Frag} {elts : List Expr} {kk : Nat} {pos : Pos} (c1 c2 : Bool) (z TI TO i1 i2 a1 a2 : Addr) (D : ZA z TI TO i1 i2) :
  Turn P w K (.Tuple elts kk pos) (Itz K c1 c2 a1 a2) [z, TI, TO, i1, i2] z (ZSt c1 c2 z TI TO i1 i2 a1 a2) where
 mem := by simp
 obj := λ i h st b hb => by
  obtain ⟨hz, hTI, ⟨a, b', hTO⟩, h1, h2⟩ := st
  simp only [Zi, List.not_mem_nil, or_false] at hb
  rcases hb with rfl | rfl | rfl | rfl | rfl
  .exact ⟨_, hz, λ v q => by cases q⟩
  .exact ⟨_, hTI, λ v q => by cases q⟩
  .exact ⟨_, hTO, λ v q => by cases q⟩
  .obtain ⟨o, e, d, _⟩ := h1.obj; exact ⟨o, e, d⟩
  .obtain ⟨o, e, d, _⟩ := h2.obj; exact ⟨o, e, d⟩
 keep := λ i h h' st k => by
  obtain ⟨hz, hTI, ⟨a, b', hTO⟩, h1, h2⟩ := st
  exact ⟨k z (by simp) _ hz, k TI (by simp) _ hTI, ⟨a, b', k TO (by simp) _ hTO⟩, h1.at' λ o e => k i1 (by simp) o e, h2.at' λ o e => k i2 (by simp) o e⟩
 item := by
  intro X hP hw hK hc i pins s σ H E I hf st hg
  subst hP hw hK
  obtain ⟨hz, hTI, ⟨a, b', hTO⟩, h1, h2⟩ := st
  obtain ⟨⟨xs, x, hx, ex⟩, ys, y, hy, ey⟩ := hg
  obtain ⟨its1, r1, p1, z1⟩ := I.sqB hx
  obtain ⟨its2, r2, p2, z2⟩ := I.sqB hy
  obtain ⟨u1, eu1, ru1⟩ := r1.get ex
  obtain ⟨u2, eu2, ru2⟩ := r2.get ey
  have fz := hf z (by simp)
  have fTO := hf TO (by simp)
  have fi1 := hf i1 (by simp)
  have ltz : z < s.heap.objs.size := Ze hz
  have ltTI : TI < s.heap.objs.size := Ze hTI
  have ltTO : TO < s.heap.objs.size := Ze hTO
  have lti1 : i1 < s.heap.objs.size := let ⟨_, e, _⟩ := h1.obj; Ze e
  have lti2 : i2 < s.heap.objs.size := let ⟨_, e, _⟩ := h2.obj; Ze e
  refine qe D (I.sqB_ne hx fz) (I.sqB_ne hy fz) (I.sqB_ne hy fi1) (I.sqB_ne hy fTO) hz hTI hTO h1 h2 p1 p2 (x := u1) (y := u2) (by simpa using eu1) (by simpa using eu2) λ h' q1 q2 q3 q4 q5 q6 q7 => ⟨_, rfl, ?_⟩
  refine wpAny_letOwnedTupleGo_zip q1 λ h2' y1 y2 => ?_
  have hpn : H s.heap.objs.size = none := I.hok.fresh (Zg _)
  have IA : Inv X pins σ (upd H s.heap.objs.size (.tup [x, y])) { s with heap := s.heap.push { cls := .type "tuple", data := .seq #[u1, u2] } } :=
   I.laid (t' := s.toks) (o := .tup [x, y]) (λ b ob q => Zb _ q) (Zg _) ⟨by show 2 <= sizeLine; decide, [u1, u2], .cons ru1 (.cons ru2 .nil), IsTup.new _ _⟩
  have hne : ∀ b ∈ [z, TI, TO, i1, i2], b ≠ s.heap.objs.size := λ b hb => by
   simp only [Zi, List.not_mem_nil, or_false] at hb
   rcases hb with rfl | rfl | rfl | rfl | rfl
   .exact Zk ltz
   .exact Zk ltTI
   .exact Zk ltTO
   .exact Zk lti1
   .exact Zk lti2
  have hf' : ∀ b ∈ [z, TI, TO, i1, i2], jA X pins (upd H s.heap.objs.size (.tup [x, y])) b := λ b hb => by
   obtain ⟨f0, f1⟩ := hf b hb
   exact ⟨by rw [aN (hne b hb)]; exact f0, f1⟩
  have IB : Inv X pins σ (upd H s.heap.objs.size (.tup [x, y])) { s with heap := h2' } := by
   refine Inv.turnedL (s := { s with heap := s.heap.push { cls := .type "tuple", data := .seq #[u1, u2] } }) (t' := s.toks) (fp := [z, TI, TO, i1, i2]) IA (λ b o hb e => ?_) hf'
   simp only [Zi, List.not_mem_nil, or_false, not_or] at hb
   obtain ⟨b1, b2, b3, b4, b5⟩ := hb
   by_cases hs : b = s.heap.objs.size
   .subst hs
    have e' : some ({ cls := .type "tuple", data := .seq #[u1, u2] } : Obj) = some o := (Zf s.heap rfl).symm.trans e
    cases e'
    exact y2.extBut _ _ b1 q5
   .exact y2.extBut _ _ b1 (q7 b o b1 b3 b4 b5 (FP e hs))
  refine ⟨.ref s.heap.objs.size, _, IB, rfl, ⟨_, x, y, rfl, hpn, rfl, λ zs hzs => by rw [I.sqB_inj hzs hx]; exact ex, λ zs hzs => by rw [I.sqB_inj hzs hy]; exact ey⟩, ?_, λ b hb => (hf' b hb).1⟩
  exact ⟨y1, y2.extBut _ _ D.TIz (q7 _ _ D.TIz D.TITO D.TIi1 D.TIi2 hTI), ⟨_, _, y2.extBut _ _ D.TOz q2⟩, q3.at' λ o e => y2.extBut _ _ D.i1z e, q4.at' λ o e => y2.extBut _ _ D.i2z e⟩
 done := by
  intro X hP hw hK hc i pins s σ H E I hf st hg
  subst hP hw hK
  obtain ⟨hz, hTI, ⟨a, b', hTO⟩, h1, h2⟩ := st
  obtain ⟨xs, ys, hx, hy, hend⟩ := hg
  obtain ⟨its1, r1, p1, z1⟩ := I.sqB hx
  obtain ⟨its2, r2, p2, z2⟩ := I.sqB hy
  have fz := hf z (by simp)
  have fTO := hf TO (by simp)
  have fi1 := hf i1 (by simp)
  have l1 := r1.length
  have l2 := r2.length
  refine qH (I.ok.hd hc) D (I.sqB_ne hx fz) (I.sqB_ne hy fz) (I.sqB_ne hy fi1) (I.sqB_ne hy fTO) hz hTI hTO h1 h2 p1 p2 ?_ λ h' q => ⟨rfl, I.turnedL (t' := s.toks) (fp := [z, TI, TO, i1, i2]) (λ b o hb e => ?_) hf⟩
  .rcases hend with h | h
   .exact .inl (by simp; omega)
   .exact .inr (by simp; omega)
  .simp only [Zi, List.not_mem_nil, or_false, not_or] at hb
   exact q b o hb.1 hb.2.2.1 hb.2.2.2.1 hb.2.2.2.2 e
 self := λ _ _ _ _ _ st h => wpAny_pyIter_zip st.1 h
def iZip (K : PySem.W.Frag) (ta : TA) : TI := λ σ H R => ta σ H λ vs H1 => ∃ a1 a2 c1 c2, vs = [.ref a1, .ref a2] /\ (∃ xs, SqB c1 K H1 a1 xs) /\ (∃ ys, SqB c2 K H1 a2 ys) /\ R (Itz K c1 c2 a1 a2) H1
section
variable {X : Cx}
theorem LQ {a b : Expr} {ta : TA} {p pos p' : Pos} {elts : List Expr} {kk : Nat} (hg : Gl X "zip") (hm : X.mg "zip" = none) (ha : PA X [a, b] ta) (hs : starEach [a, b] X.env = [(false, eval a X.env), (false, eval b X.env)] := by rfl) (hs2 : starEach [b] X.env = [(false, eval b X.env)] := by rfl) :
  PI X (.Tuple elts kk p') (.Call (.Name "zip" p) [a, b] [] pos) (iZip X.K ta) := by
 intro pins s σ H R I h
 refine Call_ (jN I hg hm boot_zip (PyProof.Rows.callWith_type1 (thn (ha pos pins s σ H _ I h) λ us s1 ⟨vs, H1, I1, r1, q1⟩ => ?_) (by rw [hs, hs2]) (by rw [hs2]; rfl)))
 obtain ⟨a1, a2, c1, c2, rfl, ⟨xs, hx⟩, ⟨ys, hy⟩, q⟩ := q1
 obtain ⟨u, v, rfl, ru, rv⟩ := vals2 r1
 cases ru
 cases rv
 obtain ⟨its1, _, p1, _⟩ := I1.sqB hx
 obtain ⟨its2, _, p2, _⟩ := I1.sqB hy
 refine BR p1 p2 λ h' g1 g2 g3 g4 g5 g6 g7 => ?_
 refine wpAny_pyIter_zip g1 ?_
 refine ⟨_, [s1.heap.objs.size + 4, s1.heap.objs.size + 2, s1.heap.objs.size + 3, s1.heap.objs.size, s1.heap.objs.size + 1], _, _, H1, rfl, I1.kept (t' := s1.toks) g7, Di c1 c2 _ _ _ _ _ a1 a2 ?_, ⟨g1, g2, ⟨_, _, g3⟩, g4, g5⟩, λ b hb => ?_, q⟩
 .constructor <;> first | exact Zk (by omega) | exact Nat.ne_of_gt (by omega)
 .have hb' : s1.heap.objs.size <= b := by
   simp only [Zi, List.not_mem_nil, or_false] at hb
   rcases hb with q | q | q | q | q <;> rw [q] <;> first | exact Nat.le_add_right _ _ | exact Zg _
  exact I1.fpOk hb' (I1.hok.fresh hb')
end
end L2
namespace L3
open PySem PySem.Spec PyProof.Rows L2
def bL : D -> Mu -> Option (List D)
 | .tup ds, _ => some ds
 | .lst ds, _ => some ds
 | .ro ds, _ => some ds
 | .cell n, μ => match μ[n]? with
  | some (some ds) => some ds
  | _ => none
 | _, _ => none
def zP : D -> Bool
 | .tup _ => true
 | _ => false
section
variable {K : PySem.W.Frag} {tb : List Addr}
theorem lO {W : Wd} {x : D} {v : V} {ds : List D} (ok : WOk K tb W) (h : Den K tb W x v) (e : bL x W.mu = some ds) : ∃ a xs, v = .ref a /\ SqB (zP x) K W.H a xs /\ bN K tb W ds xs := by
 cases x with
 | tup es => cases e; obtain ⟨a, xs, rfl, q, r⟩ := fB h; exact ⟨a, xs, rfl, SqT.fz q, r⟩
 | lst es => cases e; obtain ⟨a, xs, rfl, q, r⟩ := kJ h; exact ⟨a, xs, rfl, SqL.fz q, r⟩
 | ro es => cases e; obtain ⟨a, xs, rfl, q, r⟩ := uR h; exact ⟨a, xs, rfl, SqL.fz q, r⟩
 | cell n =>
  obtain ⟨a, rfl, q⟩ := fQ h
  have e' : (match W.mu[n]? with | some (some ds) => some ds | _ => none) = some ds := e
  cases e2 : W.mu[n]? with
  | none => rw [e2] at e'; cases e'
  | some o =>
   cases o with
   | none => rw [e2] at e'; cases e'
   | some es =>
    rw [e2] at e'
    cases e'
    obtain ⟨xs, e3, r⟩ := ok.cont n a ds q e2
    exact ⟨a, xs, rfl, SqL.of e3, r⟩
 | _ => cases e
theorem SqB.or {c : Bool} {H : Hp} {a : Addr} {xs : List V} (h : SqB c K H a xs) : SqL K H a xs ∨ SqT K H a xs := by
 cases c
 .exact .inl h
 .exact .inr h
end
theorem Hc {K : PySem.W.Frag} {tb : List Addr} {W : Wd} {ds : List D} {xs : List V} {i : Int} {d : D} (r : bN K tb W ds xs) (h : atI ds i = some d) : ∃ v, atI xs i = some v /\ Den K tb W d v := by
 unfold atI at h ⊢
 rw [<- az.length r]
 cases e : ixN ds.length i with
 | none => rw [e] at h; cases h
 | some j =>
  rw [e] at h
  exact az.get r h
def oIx : O2 := λ x y μ => match y with
 | .int i => (bL x μ).bind λ ds => (atI ds i).map λ d => (d, μ)
 | _ => none
def eU : O1' := λ x μ => match x with
 | .str y => if y.length <= sizeLine then some (.int y.length, μ) else none
 | _ => (bL x μ).map λ ds => (.int ds.length, μ)
def nA : O1' := λ x μ => match x with
 | .int i => some (.int (if i < 0 then -i else i), μ)
 | _ => none
def qI : O1' := λ x μ => match x with
 | .int i => some (.int (-i), μ)
 | _ => none
def mV (op : O2) : ON := λ xs μ => match xs with
 | [x, y] => op x y μ
 | _ => none
theorem zN {op : O2} {xs : List D} {μ : Mu} {r : D × Mu} (h : mV op xs μ = some r) : ∃ x y, xs = [x, y] /\ op x y μ = some r := by
 unfold mV at h
 split at h
 .exact ⟨_, _, rfl, h⟩
 .cases h
def oN : O2 := λ x y μ => match x, y with
 | .int i, .int j => some (.int (if j < i then j else i), μ)
 | _, _ => none
def jb : ON := λ xs μ => match xs with
 | [x] => (bL x μ).map λ ds => (.tup ds, μ)
 | _ => none
def Cy (T : String) : D -> Option Bool
 | .non => some false
 | .bl _ => some (T == "bool" || T == "int")
 | .int _ => some (T == "int")
 | .str _ => some (T == "str")
 | .tup _ => some (T == "tuple")
 | .lst _ => some (T == "list")
 | .ro _ => some (T == "list")
 | .dic _ => some (T == "dict")
 | .cell _ => none
def gW (T : String) : O1' := λ x μ => match x with
 | .cell n => match μ[n]? with
  | some (some _) => some (.bl (T == "list"), μ)
  | _ => none
 | _ => (Cy T x).map λ k => (.bl k, μ)
section
variable {X : Cx} {tb : List Addr} {a b e : Expr} {fa fb f : EF} {fs : AF} {p pos : Pos}
theorem cI (ha : PD X tb a fa) (hb : PD X tb b fb) (hs : Aj b := by intro _ _; rfl) : PD X tb (.Subscript a b pos) (M2 fa fb oIx) :=
 zU (λ ta tb' ha hb => Px Nr ha hb hs) (λ W x y v u d μ' Q ok dx dy ho h => by
  cases y with
  | int i =>
   obtain ⟨ds, e1, e2⟩ := Za.mp (show ((bL x W.mu).bind λ ds => (atI ds i).map λ d => (d, W.mu)) = some (d, μ') from ho)
   obtain ⟨d0, e3, e4⟩ := Zp.mp e2
   cases e4
   rw [bA dy]
   obtain ⟨a, xs, rfl, q, r⟩ := lO ok dx e1
   obtain ⟨v, ev, dv⟩ := Hc r e3
   rcases SqB.or q with q | q
   .exact .inl ⟨a, xs, i, v, rfl, rfl, q, ev, put ok h dv⟩
   .exact .inr (.inl ⟨a, xs, i, v, rfl, rfl, q, ev, put ok h dv⟩)
  | _ => cases ho) ha hb
theorem vV (ha : PD X tb a fa) : PD X tb (.UnaryOp .USub a pos) (M1 fa qI) :=
 JX (λ ta ha => PL Mv ha) (λ W x v d μ' Q ok dx ho h => by
  cases x with
  | int i => cases ho; rw [bA dx]; exact ⟨i, rfl, put ok h dZ⟩
  | _ => cases ho) ha
def bD (op : O1') : ON := λ xs μ => match xs with
 | [x] => op x μ
 | _ => none
theorem sr {op : O1'} {xs : List D} {μ : Mu} {r : D × Mu} (h : bD op xs μ = some r) : ∃ x, xs = [x] /\ op x μ = some r := by
 unfold bD at h
 split at h
 .exact ⟨_, rfl, h⟩
 .cases h
theorem yj {xs : List D} {μ : Mu} {r : D × Mu} (h : jb xs μ = some r) : ∃ x, xs = [x] /\ jb [x] μ = some r := by
 unfold jb at h
 split at h
 .exact ⟨_, rfl, h⟩
 .cases h
theorem gQ (hm : X.mg "len" = none) (ha : PAD X tb [a] fs) (hg : Gl X "len" := by rfl) (he : starEach [a] X.env = (false, eval a X.env) :: starEach [] X.env := by rfl) : PD X tb (.Call (.Name "len" p) [a] [] pos) (MC fs (bD eU)) :=
 Cr (λ ta ha => lC (vD.or wO) hg hm PySem.boot_len ha (by decide) (by decide) he (by rfl)) (λ W xs vs d μ' Q ok r ho h => by
  obtain ⟨x, rfl, ho⟩ := sr ho
  obtain ⟨v, rfl, dv⟩ := az.one r
  have gen : ∀ ds, bL x W.mu = some ds -> some (D.int ds.length, W.mu) = some (d, μ') -> ((∃ p ys, [v] = [V.ref p] /\ (SqL X.K W.H p ys ∨ SqT X.K W.H p ys) /\ Q (.int ys.length) W.H) ∨ ∃ z, [v] = [V.str z] /\ z.length <= sizeLine /\ Q (.int z.length) W.H) := λ ds e1 e2 => by
   cases e2
   obtain ⟨a, xs, e, q, r⟩ := lO ok dv e1
   exact Or.inl ⟨a, xs, by rw [e], SqB.or q, by rw [<- az.length r]; exact put ok h dZ⟩
  cases x with
  | str y =>
   have ho' : (if y.length <= sizeLine then some (D.int y.length, W.mu) else none) = some (d, μ') := ho
   split at ho'
   .rename_i hz
    cases ho'
    rw [sY dv]
    exact .inr ⟨y, rfl, hz, put ok h dZ⟩
   .cases ho'
  | tup ds => exact gen ds rfl ho
  | lst ds => exact gen ds rfl ho
  | ro ds => exact gen ds rfl ho
  | cell n =>
   obtain ⟨ds, e1, e2⟩ := Zp.mp (show (bL (.cell n) W.mu).map (λ ds => (D.int ds.length, W.mu)) = some (d, μ') from ho)
   exact gen ds e1 (congrArg some e2)
  | _ => cases ho) ha
theorem rP (hm : X.mg "abs" = none) (ha : PAD X tb [a] fs) (hg : Gl X "abs" := by rfl) (he : starEach [a] X.env = (false, eval a X.env) :: starEach [] X.env := by rfl) : PD X tb (.Call (.Name "abs" p) [a] [] pos) (MC fs (bD nA)) :=
 Cr (λ ta ha => lC Gd hg hm PyProof.Rows.boot_abs ha (by decide) (by decide) he (by rfl)) (λ W xs vs d μ' Q ok r ho h => by
  obtain ⟨x, rfl, ho⟩ := sr ho
  obtain ⟨v, rfl, dv⟩ := az.one r
  cases x with
  | int i => cases ho; rw [bA dv]; exact ⟨i, rfl, put ok h dZ⟩
  | _ => cases ho) ha
theorem Bk (hc : X.calm = true) (hm : X.mg "min" = none) (ha : PAD X tb [a, b] fs) (hg : Gl X "min" := by rfl) (he : starEach [a, b] X.env = (false, eval a X.env) :: starEach [b] X.env := by rfl) (hpl : (backTo pos (starEach [b] X.env)).any (·.1) = false := by rfl) : PD X tb (.Call (.Name "min" p) [a, b] [] pos) (MC fs (mV oN)) :=
 Cr (λ ta ha => lC (Cq hc) hg hm PyProof.Rows.boot_min ha (by decide) (by decide) he hpl) (λ W xs vs d μ' Q ok r ho h => by
  obtain ⟨x, y, rfl, ho⟩ := zN ho
  obtain ⟨u, v, rfl, du, dv⟩ := az.two r
  cases x with
  | int i =>
   cases y with
   | int j =>
    cases ho
    rw [bA du, bA dv]
    exact ⟨i, j, rfl, put ok h dZ⟩
   | _ => cases ho
  | _ => cases ho) ha
theorem sZ (hm : X.mg "tuple" = none) (ha : PAD X tb [a] fs) (hg : Gl X "tuple" := by rfl) (he : starEach [a] X.env = (false, eval a X.env) :: starEach [] X.env := by rfl) : PD X tb (.Call (.Name "tuple" p) [a] [] pos) (MC fs jb) :=
 Cr (λ ta ha => pY ut hg hm PyProof.Rows.boot_tuple ha (by decide) (by decide) he (by rfl)) (λ W xs vs d μ' Q ok r ho h => by
  obtain ⟨x, rfl, ho⟩ := yj ho
  obtain ⟨v, rfl, dv⟩ := az.one r
  obtain ⟨ds, e1, e2⟩ := Zp.mp (show (bL x W.mu).map (λ ds => (D.tup ds, W.mu)) = some (d, μ') from ho)
  cases e2
  by_cases ht : ∃ es, x = .tup es
  .obtain ⟨es, rfl⟩ := ht
   cases e1
   obtain ⟨a, xs, rfl, q, r⟩ := fB dv
   exact ⟨a, xs, rfl, .inr ⟨SqT.fz q, put ok h dv⟩⟩
  .obtain ⟨a, xs, rfl, q, r⟩ := lO ok dv e1
   have hf : zP x = false := by cases x <;> first | rfl | exact absurd ⟨_, rfl⟩ ht
   rw [hf] at q
   exact ⟨a, xs, rfl, .inl ⟨q, λ l hl => lU ok h r hl⟩⟩) ha
def lOf (fs : AF) : LF := λ δ μ => (fs δ μ).bind λ r => match r.1 with
 | [x] => (bL x r.2).map λ ds => (ds, r.2)
 | _ => none
theorem jR {T : Str} {tn : String} {pt : Pos} (hm : X.mg "isinstance" = none) (hmT : X.mg T = none) (hT : bootBuiltins T = some (.type tn)) (hmem : tn ∈ Ht) (ha : PD X tb a fa) (hg : Gl X "isinstance" := by rfl) (hgT : Gl X T := by rfl) (hn : T ≠ "__name__" := by decide) (hdb : (T == ("__debug__" : Str)) = false := by decide)
  (hs : starEach [a, .Name T pt] X.env = (false, eval a X.env) :: starEach [.Name T pt] X.env := by rfl) : PD X tb (.Call (.Name "isinstance" p) [a, .Name T pt] [] pos) (M1 fa (gW tn)) :=
 dO (lC Dp hg hm PyProof.Rows.boot_isinstance (lM ha (lM (Gy hgT hmT hT (v := .ty tn) rfl hn hdb) sy) hs) (by decide) (by decide) hs (by rfl)) λ σ H Q zq2 => by
  obtain ⟨W, δ, d, μ', e, ok, hd, hf, h⟩ := zq2
  unfold M1 at hf
  obtain ⟨⟨x, μ1⟩, e1, e2⟩ := Za.mp hf
  refine ⟨W, δ, x, μ1, e, ok, hd, e1, λ v W1 ok1 l1 m1 d1 => ?_⟩
  have fin : ∀ k, Lj X.K tn v W1.H k -> some (D.bl k, μ1) = some (d, μ') -> ∃ x T k, [v, V.ty tn] = [x, .ty T] /\ T ∈ Ht /\ Lj X.K T x W1.H k /\ Q (.bl k) W1.H := λ k hk e => by
   cases e
   exact ⟨v, tn, k, rfl, hmem, hk, h _ W1 ok1 l1 m1 fj⟩
  cases x with
  | non => rw [wK d1] at fin ⊢; exact fin _ rfl e2
  | bl b => rw [jk d1] at fin ⊢; exact fin _ rfl e2
  | int b => rw [bA d1] at fin ⊢; exact fin _ rfl e2
  | str b => rw [sY d1] at fin ⊢; exact fin _ rfl e2
  | tup ds => obtain ⟨a, xs, rfl, q, r⟩ := fB d1; exact fin _ (.inr (.inl ⟨rfl, xs, SqT.fz q⟩)) e2
  | lst ds => obtain ⟨a, xs, rfl, q, r⟩ := kJ d1; exact fin _ (.inl ⟨rfl, xs, SqL.fz q⟩) e2
  | ro ds => obtain ⟨a, xs, rfl, q, r⟩ := uR d1; exact fin _ (.inl ⟨rfl, xs, SqL.fz q⟩) e2
  | dic ds => obtain ⟨a, xs, rfl, q, r⟩ := Ec d1; exact fin _ (.inr (.inr ⟨rfl, xs, (cY q).1⟩)) e2
  | cell n =>
   have e2' : (match μ1[n]? with | some (some _) => some (D.bl (tn == "list"), μ1) | _ => none) = some (d, μ') := e2
   obtain ⟨a, rfl, q⟩ := fQ d1
   cases e4 : μ1[n]? with
   | none => rw [e4] at e2'; cases e2'
   | some o =>
    cases o with
    | none => rw [e4] at e2'; cases e2'
    | some ds =>
     rw [e4] at e2'
     obtain ⟨xs, ex, _⟩ := ok1.cont n a ds q (by rw [m1]; exact e4)
     exact fin _ (.inl ⟨rfl, xs, SqL.of ex⟩) e2'
def iG (μ : Mu) (n : Nat) : Bool := match μ[n]? with
 | some (some _) => true
 | _ => false
theorem qj {μ : Mu} {n : Nat} (h : iG μ n = true) : ∃ ds, μ[n]? = some (some ds) := by
 unfold iG at h
 split at h
 .exact ⟨_, by assumption⟩
 .cases h
def kZ (fo : EF) (fs : AF) : EF := λ δ μ => (fo δ μ).bind λ r => (fs δ r.2).bind λ q => match r.1, q.1 with
 | .cell n, [y] => match q.2[n]? with
  | some (some ds) => if iG r.2 n = true /\ ds.length < sizeLine then some (.non, q.2.set n (some (ds ++ [y]))) else none
  | _ => none
 | _, _ => none
theorem lZ {o : Expr} {fo : EF} {apos cpos : Pos} (ho : PD X tb o fo) (ha : PAD X tb [e] fs)
  (hbase : attributeBase o "append" X.env (eval o X.env) = eval o X.env := by rfl)
  (hfew : ((backTo cpos (starEach [e] X.env)).all (λ x => !x.1) && (backToKw cpos (keywordEach [] X.env)).all (λ x => x.1.isSome)
   && decide ([e].length + ([] : List Keyword).length + (if ([] : List Keyword).isEmpty then 0 else 1) < 30)) = true := by rfl)
  (hline : (apos.endLine == cpos.line) = true := by rfl) (hs : starEach [e] X.env = (false, eval e X.env) :: starEach [] X.env := by rfl) : PD X tb (.Call (.Attribute o "append" apos) [e] [] cpos) (kZ fo fs) :=
 dO (EY PySem.F.plainAttrs_list PySem.F.slot_list_append PySem.F.type_list_append BV ho ha hbase hfew hline hs (by rfl)) λ σ H Q zq3 => by
  obtain ⟨W, δ, d, μ', e, ok, hd, hf, h⟩ := zq3
  unfold kZ at hf
  obtain ⟨⟨x, μ1⟩, e1, hf⟩ := Za.mp hf
  obtain ⟨⟨ys, μ2⟩, e2, hf⟩ := Za.mp hf
  refine ⟨W, δ, x, μ1, e, ok, hd, e1, λ v W1 ok1 l1 m1 d1 => ?_⟩
  match x, ys, e1, e2, hf, d1 with
  | .cell n, [y], e1, e2, hf, d1 =>
   have hf' : (match μ2[n]? with | some (some ds) => if iG μ1 n = true /\ ds.length < sizeLine then some (D.non, μ2.set n (some (ds ++ [y]))) else none | _ => none) = some (d, μ') := hf
   cases e4 : μ2[n]? with
   | none => rw [e4] at hf'; cases hf'
   | some oo =>
    cases oo with
    | none => rw [e4] at hf'; cases hf'
    | some ds =>
     rw [e4] at hf'
     have hf'' : (if iG μ1 n = true /\ ds.length < sizeLine then some (D.non, μ2.set n (some (ds ++ [y]))) else none) = some (d, μ') := hf'
     split at hf''
     .rename_i hz
      cases hf''
      obtain ⟨a, rfl, q⟩ := fQ d1
      obtain ⟨ds0, e5⟩ := qj hz.1
      obtain ⟨xs0, ex0, _⟩ := ok1.cont n a ds0 q (by rw [m1]; exact e5)
      refine ⟨.inl ⟨rfl, xs0, SqL.of ex0⟩, W1, δ, [y], μ2, rfl, ok1, hd.mono' l1, (by rw [m1]; exact e2), λ vs W2 ok2 l2 m2 d2 => ?_⟩
      obtain ⟨u, rfl, du⟩ := az.one d2
      have q2 := l2.ad _ _ q
      have e6 : W2.mu[n]? = some (some ds) := by rw [m2]; exact e4
      obtain ⟨xs, ex, r⟩ := ok2.cont n a ds q2 e6
      refine ⟨a, xs, u, rfl, rfl, ex, by rw [<- az.length r]; exact hz.2, ?_⟩
      obtain ⟨ok3, l3⟩ := ok2.write q2 e6 (az.append r (az.cons du az.nil))
      exact h .non _ ok3 ((l1.trans l2).trans l3) (by rw [<- m2]) lN
     .cases hf''
def Bj (fo : EF) : EF := λ δ μ => (fo δ μ).bind λ r => match r.1 with
 | .cell n => match r.2[n]? with
  | some (some (y :: ds)) => some (y, r.2.set n (some ds))
  | _ => none
 | _ => none
theorem Ij {o : Expr} {fo : EF} {apos cpos p0 : Pos} {j} (ho : PD X tb o fo)
  (hbase : attributeBase o "pop" X.env (eval o X.env) = eval o X.env := by rfl)
  (hfew : ((backTo cpos (starEach [.Constant (.int 0) j p0] X.env)).all (λ x => !x.1) && (backToKw cpos (keywordEach [] X.env)).all (λ x => x.1.isSome)
   && decide ([Expr.Constant (.int 0) j p0].length + ([] : List Keyword).length + (if ([] : List Keyword).isEmpty then 0 else 1) < 30)) = true := by rfl)
  (hline : (apos.endLine == cpos.line) = true := by rfl) : PD X tb (.Call (.Attribute o "pop" apos) [.Constant (.int 0) j p0] [] cpos) (Bj fo) :=
 dO (EY PySem.F.plainAttrs_list PySem.F.slot_list_pop PySem.F.type_list_pop Cz ho (lM Dc sy) hbase hfew hline (by rfl) (by rfl)) λ σ H Q zq4 => by
  obtain ⟨W, δ, d, μ', e, ok, hd, hf, h⟩ := zq4
  unfold Bj at hf
  obtain ⟨⟨x, μ1⟩, e1, hf⟩ := Za.mp hf
  refine ⟨W, δ, x, μ1, e, ok, hd, e1, λ v W1 ok1 l1 m1 d1 => ?_⟩
  cases x with
  | cell n =>
   have hf' : (match μ1[n]? with | some (some (y :: ds)) => some (y, μ1.set n (some ds)) | _ => none) = some (d, μ') := hf
   cases e4 : μ1[n]? with
   | none => rw [e4] at hf'; cases hf'
   | some oo =>
    match oo, e4 with
    | none, e4 => rw [e4] at hf'; cases hf'
    | some [], e4 => rw [e4] at hf'; cases hf'
    | some (y :: ds), e4 =>
     rw [e4] at hf'
     have hf'' : some (y, μ1.set n (some ds)) = some (d, μ') := hf'
     cases hf''
     obtain ⟨a, rfl, q⟩ := fQ d1
     have e6 : W1.mu[n]? = some (some (d :: ds)) := by rw [m1]; exact e4
     obtain ⟨xs, ex, r⟩ := ok1.cont n a _ q e6
     have r' : az _ _ _ _ _ := r
     unfold az at r'
     obtain ⟨u, us, rfl, du, r2⟩ := r'
     refine ⟨.inl ⟨rfl, _, SqL.of ex⟩, a, u :: us, 0, 0, u, rfl, rfl, ex, by decide, by decide, ?_, rfl, ?_⟩
     .simp [seqIndex?]
     .obtain ⟨ok3, l3⟩ := ok1.write q e6 r2
      exact h u _ ok3 (l1.trans l3) (by rw [<- m1]) (Den.mono' du l3)
  | _ => cases hf
theorem pdv (i : Nat) {x : Str} (hN : X.N[i]? = some x := by rfl) (hv : Vis X.env.scope x := by first | exact Or.inl rfl | exact Or.inr (Or.inl rfl) | exact Or.inr (Or.inr rfl)) (hd : (x == ("__debug__" : Str)) = false := by decide) (hcd : (x == ("__classdict__" : Str)) = false := by decide) : PD X tb (.Name x pos) (ao i) := Kg hN hv hd hcd
end
end L3
namespace L2
open PySem PySem.Spec PyProof.Rows
section
variable {X : Cx} {e : Expr} {es : List Expr} {te : TE} {t : TA}
def Pz (K : PySem.W.Frag) (te : TE) (t : TA) : TA := λ σ H Q => te σ H λ x H1 => ∃ a c xs, x = .ref a /\ SqB c K H1 a xs /\ t σ H1 λ vs H2 => Q (xs ++ vs) H2
theorem Hn {p : Pos} (ha : PE X e te) (hr : PA X es t) (hs : starEach (.Starred e p :: es) X.env = (true, eval e X.env) :: starEach es X.env := by rfl) : PA X (.Starred e p :: es) (Pz X.K te t) := by
 intro pos pins s σ H Q I h
 refine PySem.W.items_star (thn (ha pins s σ H _ I h) λ u s1 zq1 => ?_) hs
 obtain ⟨x, H1, I1, r1, q1⟩ := zq1
 obtain ⟨a, c, xs, rfl, hq, q⟩ := q1
 cases r1
 obtain ⟨its, rv, p1, hz⟩ := I1.sqB hq
 obtain ⟨T, hT, o, n, ho, hc, hd⟩ : ∃ T, (T = "list" ∨ T = "tuple") /\ ∃ o n, s1.heap.get? a = some o /\ o.cls = .type T /\ o.data = .seq its.toArray n := by
  cases c
  .obtain ⟨o, ho, hc, n, hd⟩ : s1.heap.IsList a its.toArray := p1
   exact ⟨"list", .inl rfl, o, n, ho, hc, hd⟩
  .obtain ⟨o, ho, hc, n, hd⟩ : s1.heap.IsTuple a its.toArray := p1
   exact ⟨"tuple", .inr rfl, o, n, ho, hc, hd⟩
 have hlen := rv.length
 unfold PySem.W.StarOf notIterableAtAll
 have hty : s1.TypeIs (.ref a) T := ⟨o, ho, hc⟩
 have fin : wpAny (model X.prog X.w) X.A (collect (.ref a)) (λ here s₂ => wpAny (model X.prog X.w) X.A (spliced (backTo pos (starEach es X.env))) (λ vs s₃ => AP X pins σ Q (here ++ vs) s₃) X.xe s₂) X.xe s1 := by
  refine wpAny_collect_seq a hT ho hc hd (λ h' kp => ?_) (by simp only [Zd]; omega)
  have I2 : Inv X pins σ H1 { s1 with heap := h' } := I1.kept (t' := s1.toks) kp
  refine thn (hr pos pins { s1 with heap := h' } σ H1 _ I2 q) λ us s3 zq2 => ?_
  obtain ⟨vs, H3, I3, r3, q3⟩ := zq2
  exact ⟨xs ++ vs, H3, I3, rv.append r3, q3⟩
 rcases hT with rfl | rfl
 .exact wpAny_bind (wpAny_specialOf hty PySem.F.slot_list_iter.lookup (wpAny_pure ⟨rfl, fin⟩))
 .exact wpAny_bind (wpAny_specialOf hty PySem.F.slot_tuple_iter.lookup (wpAny_pure ⟨rfl, fin⟩))
end
end L2
namespace L3
open PySem PySem.Spec PyProof.Rows L2
section
variable {X : Cx} {tb : List Addr} {a b e : Expr} {es : List Expr} {fa fb f : EF} {fs : AF} {p pos : Pos}
def Ar (f : EF) (fs : AF) : AF := λ δ μ => (f δ μ).bind λ r => (bL r.1 r.2).bind λ xs => (fs δ r.2).bind λ q => match r.1 with
 | .cell _ => none
 | _ => some (xs ++ q.1, q.2)
theorem Gi (ha : PD X tb e f) (hr : PAD X tb es fs) (hs : starEach (.Starred e p :: es) X.env = (true, eval e X.env) :: starEach es X.env := by rfl) : PAD X tb (.Starred e p :: es) (Ar f fs) :=
 Fx (Hn ha hr hs) λ σ H Q zq3 => by
  obtain ⟨W, δ, ds, μ', e, ok, hd, hf, h⟩ := zq3
  unfold Ar at hf
  obtain ⟨⟨x, μ1⟩, e1, hf⟩ := Za.mp hf
  obtain ⟨xs, e2, hf⟩ := Za.mp hf
  obtain ⟨⟨ys, μ2⟩, e3, hf⟩ := Za.mp hf
  have hf' : some (xs ++ ys, μ2) = some (ds, μ') := by cases x <;> first | exact hf | cases hf
  cases hf'
  refine ⟨W, δ, x, μ1, e, ok, hd, e1, λ v W1 ok1 l1 m1 d1 => ?_⟩
  obtain ⟨a, vs, rfl, q, r⟩ := lO ok1 d1 (by rw [m1]; exact e2)
  refine ⟨a, _, vs, rfl, q, W1, δ, ys, _, rfl, ok1, hd.mono' l1, (by rw [m1]; exact e3), λ us W2 ok2 l2 m2 d2 => ?_⟩
  exact h (vs ++ us) W2 ok2 (l1.trans l2) m2 (az.append (bN.mono' r l2) d2)
def iH : List D -> List D -> List D
 | x :: xs, y :: ys => .tup [x, y] :: iH xs ys
 | _, _ => []
theorem wV : ∀ {xs ys : List D} {i : Nat} {d : D}, (iH xs ys)[i]? = some d -> ∃ x y, d = .tup [x, y] /\ xs[i]? = some x /\ ys[i]? = some y
 | [], ys, i, d, h => by simp [iH] at h
 | x :: xs, [], i, d, h => by simp [iH] at h
 | x :: xs, y :: ys, 0, d, h => by
  have h' : some (D.tup [x, y]) = some d := by simpa [iH] using h
  cases h'
  exact ⟨x, y, rfl, rfl, rfl⟩
 | x :: xs, y :: ys, i + 1, d, h => by
  obtain ⟨u, v, e, e1, e2⟩ := wV (xs := xs) (ys := ys) (i := i) (by simpa [iH] using h)
  exact ⟨u, v, e, by simpa using e1, by simpa using e2⟩
theorem xu : ∀ (xs ys : List D), (iH xs ys).length = min xs.length ys.length
 | [], ys => by simp [iH]
 | x :: xs, [] => by simp [iH]
 | x :: xs, y :: ys => by simp [iH, xu xs ys]
def dN : D -> Option (List D)
 | .tup ds => some ds
 | .lst ds => some ds
 | .ro ds => some ds
 | _ => none
theorem Ga {K : PySem.W.Frag} {W : Wd} {x : D} {v : V} {ds : List D} (h : Den K tb W x v) (e : dN x = some ds) : ∃ a xs, v = .ref a /\ SqB (zP x) K (W.fz tb) a xs /\ bN K tb W ds xs := by
 cases x with
 | tup es => cases e; obtain ⟨a, xs, rfl, q, r⟩ := fB h; exact ⟨a, xs, rfl, q, r⟩
 | lst es => cases e; obtain ⟨a, xs, rfl, q, r⟩ := kJ h; exact ⟨a, xs, rfl, q, r⟩
 | ro es => cases e; obtain ⟨a, xs, rfl, q, r⟩ := uR h; exact ⟨a, xs, rfl, q, r⟩
 | _ => cases e
theorem lD {K : PySem.W.Frag} {c : Bool} {W0 W : Wd} {a : Addr} {xs : List V} (h : SqB c K (W0.fz tb) a xs) (l : Le tb W0 W) : SqB c K W.H a xs := by
 cases c
 .exact SqL.fz (SqL.mono l.same (show SqL K (W0.fz tb) a xs from h))
 .exact SqT.fz (SqT.mono l.same (show SqT K (W0.fz tb) a xs from h))
def uM (fs : AF) : IF := λ δ μ => (fs δ μ).bind λ r => match r.1 with
 | [x, y] => (dN x).bind λ xs => (dN y).map λ ys => (⟨iH xs ys, none⟩, r.2)
 | _ => none
theorem vB {p' : Pos} {elts : List Expr} {kk : Nat} (hm : X.mg "zip" = none) (ha : PAD X tb [a, b] fs) (hg : Gl X "zip" := by rfl) (hs : starEach [a, b] X.env = [(false, eval a X.env), (false, eval b X.env)] := by rfl) (hs2 : starEach [b] X.env = [(false, eval b X.env)] := by rfl) :
  PID X tb (.Tuple elts kk p') (.Call (.Name "zip" p) [a, b] [] pos) (uM fs) :=
 Fz (LQ hg hm ha hs hs2) λ σ H R zq4 => by
  obtain ⟨W, δ, S, μ', e, ok, hd, hf, h⟩ := zq4
  unfold uM at hf
  obtain ⟨⟨zs, μ1⟩, e1, hf⟩ := Za.mp hf
  match zs, e1, hf with
  | [x, y], e1, hf =>
   obtain ⟨xs, e2, hf⟩ := Za.mp (show ((dN x).bind λ xs => (dN y).map λ ys => ((⟨iH xs ys, none⟩ : Src), μ1)) = some (S, μ') from hf)
   obtain ⟨ys, e3, e4⟩ := Zp.mp hf
   cases e4
   refine ⟨W, δ, [x, y], _, e, ok, hd, e1, λ vs W1 ok1 l1 m1 d1 => ?_⟩
   obtain ⟨u, v, rfl, du, dv⟩ := az.two d1
   obtain ⟨a1, us, rfl, q1, r1⟩ := Ga du e2
   obtain ⟨a2, ws, rfl, q2, r2⟩ := Ga dv e3
   refine ⟨a1, a2, _, _, rfl, ⟨us, lD q1 (Le.refl _)⟩, ⟨ws, lD q2 (Le.refl _)⟩, h _ W1 ok1 l1 m1 ⟨λ i W2 d l ok2 _ ei => ?_, λ i W2 l ok2 _ hi => ?_⟩⟩
   .obtain ⟨x0, y0, rfl, ex, ey⟩ := wV ei
    obtain ⟨vx, evx, dvx⟩ := az.get (bN.mono' r1 l) ex
    obtain ⟨vy, evy, dvy⟩ := az.get (bN.mono' r2 l) ey
    refine ⟨⟨⟨us, vx, lD q1 l, evx⟩, ws, vy, lD q2 l, evy⟩, λ z H' ⟨p, x', y', ez, hp, eH, hx', hy'⟩ => ?_⟩
    have ex' := hx' us (lD q1 l)
    have ey' := hy' ws (lD q2 l)
    rw [evx] at ex'; cases ex'
    rw [evy] at ey'; cases ey'
    obtain ⟨ok3, l3, e3⟩ := ok2.alloc (o := .tup [vx, vy]) hp
    refine ⟨_, eH.symm, ok3, l3, rfl, ?_⟩
    rw [ez]
    show bc _ _ _ _ _
    unfold bc
    exact ⟨p, [vx, vy], rfl, .inl (.inl e3), bN.mono' (az.cons dvx (az.cons dvy az.nil)) l3⟩
   .have hi' : min xs.length ys.length <= i := by rw [<- xu]; exact hi
    have l1' := az.length r1
    have l2' := az.length r2
    refine ⟨us, ws, lD q1 l, lD q2 l, ?_⟩
    omega
end
theorem Bg {K : PySem.W.Frag} {F : Hp} {ad : List Addr} : ∀ (ns : List Int), az K F ad (ns.map D.int) (ns.map V.int)
 | [] => az.nil
 | n :: ns => az.cons (by unfold bc; rfl) (Bg ns)
theorem BP {P : Program} {w : World} {K : PySem.W.Frag} {mg mb : Str -> Option Value} {k : Nat} {fa a : Addr} {fd : FuncData} {x : Str} {s₁ : Shared} {vs : List Value} {ns : List Int} {tb : List Addr} {φ : FF} {μ' : Mu}
  (KX : K.In s₁.heap) (hns : s₁.heap.Ns mainGlobals mg) (hb : s₁.heap.Ns builtinsNs mb) (hbb : ∀ x : Str, x ≠ "__name__" -> mb x = bootBuiltins x) (hlim : s₁.heap.NoLimit)
  (hbm : ∃ bm ob, mg "__builtins__" = some (.ref bm) /\ bm ≠ builtinsNs /\ s₁.heap.get? bm = some ob /\ ob.cls = .type "module" /\ ob.dict = some builtinsNs /\ ob.data = .plain) (hg : s₁.gens = #[])
  (ha : s₁.heap.get? a = some { cls := .type "list", data := .seq vs.toArray }) (hi : IntsAre vs ns) (hl : ns.length <= sizeLine) (hr : dU k callerA)
  (htb : ∀ P ∈ tb, ∃ c, PySem.W.CodeHd s₁.heap c P /\ s₁.heap.get? P = some (PySem.W.tabObj #[])) (hnt : PySem.W.noTabs K = true)
  (F : ∀ base : Heap, K.In base -> base.Ns mainGlobals mg -> qD P w K mg base CX0 k fa fd [x] (spD K tb 1 φ)) (hbind : ∀ (s : Shared) (u : Value), BindsTo s fd ⟨[u], []⟩ [(x, u)])
  (hsp : φ [.ro (ns.map .int)] [] = some (.bl true, μ')) :
  codeAny (model P w) callerA (.call (.ref fa) ⟨[.ref a], []⟩) (λ r s' => r = .ok (.ret (.bool true)) /\ OldK s₁.heap s'.heap /\ s'.os = s₁.os /\ AllBare s'.gens) s₁ := by
 have rv := pB hi
 have lenV := hi.length
 have hat : a ∉ tb := λ z => by
  obtain ⟨c, _, e⟩ := htb a z
  rw [ha] at e; cases e
 have hKt : ∀ P ∈ tb, K.lookup P = none := λ P hP => by
  cases q : K.lookup P with
  | none => rfl
  | some o =>
   obtain ⟨c, _, e⟩ := htb P hP
   have e2 := KX P o q
   rw [e] at e2
   cases e2
   have h2 := List.all_eq_true.mp hnt (P, _) (PySem.W.mem_of_lookupK q)
   exact absurd (show false = true from h2) Zr
 have core : ∀ H : Hp, (∀ b, H b = none ∨ (b = a /\ ∃ o xs, H b = some (.frz o (.lst xs))) ∨ (b ∈ tb /\ H b = some (.tbl #[]))) -> SqL K H a (ns.map V.int) -> HOk P w H s₁.heap -> (∀ P ∈ tb, H P = some (.tbl #[])) -> (H a ≠ none -> K.lookup a = none) ->
   codeAny (model P w) callerA (.call (.ref fa) ⟨[.ref a], []⟩) (λ r s' => r = .ok (.ret (.bool true)) /\ OldK s₁.heap s'.heap /\ s'.os = s₁.os /\ AllBare s'.gens) s₁ := by
  intro H hO hS hok hT hK
  have base_of : ∀ {b : Addr} {o : Obj}, s₁.heap.get? b = some o -> H b = none -> (wI s₁.heap H).get? b = some o := λ e n => CK e n
  have noH : ∀ {b : Addr} {o : Obj}, s₁.heap.get? b = some o -> o.cls ≠ .type "list" -> o.cls ≠ .none -> H b = none := λ {b o} e d1 d2 => by
   rcases hO b with z | ⟨rfl, _⟩ | ⟨z, _⟩
   .exact z
   .rw [ha] at e; cases e; exact absurd rfl d1
   .obtain ⟨c, _, e2⟩ := htb b z
    rw [e2] at e; cases e; exact absurd rfl d2
  have noA : ∀ {b : Addr} {o : Obj} {es : Array DictEntry} {ep : Nat}, s₁.heap.get? b = some o -> o.data = .dict es ep -> H b = none := λ {b o es ep} e d => by
   rcases hO b with z | ⟨rfl, _⟩ | ⟨z, _⟩
   .exact z
   .rw [ha] at e; cases e; cases d
   .obtain ⟨c, _, e2⟩ := htb b z
    rw [e2] at e; cases e; cases d
  have nsK : ∀ {b : Addr} {m : Str -> Option Value}, s₁.heap.Ns b m -> (wI s₁.heap H).Ns b m := λ {b m} ⟨o, es, ep, e, d, r⟩ => ⟨o, es, ep, base_of e (noA e d), d, r⟩
  have hKb : K.In (wI s₁.heap H) := λ b o e => base_of (KX b o e) (by
   rcases hO b with z | ⟨rfl, _, _, z⟩ | ⟨z, _⟩
   .exact z
   .rw [hK (by rw [z]; simp)] at e; cases e
   .rw [hKt b z] at e; cases e)
  have hM : Mod K mg (wI s₁.heap H) := ⟨hKb, nsK hns, ⟨mb, nsK hb, hbb⟩, (let ⟨mc, h1, h2⟩ := hlim; ⟨mc, nsK h1, h2⟩), (let ⟨bm, ob, h1, h2, h3, h4, r⟩ := hbm; ⟨bm, ob, h1, h2, base_of h3 (noH h3 (by rw [h4]; decide) (by rw [h4]; decide)), h4, r⟩)⟩
  have e0 : Jh P w K mg (wI s₁.heap H) callerA [] s₁ H := ⟨rfl, hM, λ b o e => HB e, Nat.le_of_eq (Ca _ _), trivial, λ b hb => absurd (show b ∈ ([] : List Addr) from hb) (by simp), hok, .of_eq hg⟩
  have okW : WOk K tb ⟨H, [], []⟩ := ⟨rfl, λ i a ds e => by simp at e, λ i j a ds es e => by simp at e, λ P hP => ⟨#[], hT P hP, TOk.nil⟩⟩
  have nlive : ∀ b, ¬ kO ([] : List Addr) ([] : Mu) b := λ b ⟨i, ds, e, _⟩ => by simp at e
  have fzA : Wd.fz tb ⟨H, [], []⟩ a = H a := mG (W := ⟨H, [], []⟩) (nlive a) hat
  have hden : Den K tb ⟨H, [], []⟩ (.ro (ns.map .int)) (.ref a) := by
   show bc _ _ _ _ _
   unfold bc
   refine ⟨a, _, rfl, ?_, Bg ns⟩
   rcases hS with (h | ⟨o, h⟩) | h
   .exact .inl (.inl (fzA.trans h))
   .exact .inl (.inr ⟨o, fzA.trans h⟩)
   .exact .inr h
  refine codeAny_mono ((F _ hKb (nsK hns)).run callerA [] s₁ H ⟨[.ref a], []⟩ [.ref a] [.ref a] (λ v _ => v = .bl true) (λ _ _ _ => False) hr e0 (hbind s₁ (.ref a)) (.cons rfl .nil)
   ⟨⟨H, [], []⟩, [.ro (ns.map .int)], _, _, rfl, okW, az.cons hden az.nil, rfl, hsp, λ v W' _ _ _ dv => jk dv⟩) λ r s' h => ?_
  cases r with
  | error e => exact False.elim h
  | ok fl =>
   cases fl with
   | next => exact False.elim h
   | brk => exact False.elim h
   | cont => exact False.elim h
   | ret u =>
    obtain ⟨v, H', os, bare, un, hok', r', q⟩ := h
    have q' : v = .bl true := q
    subst q'
    obtain rfl : u = Value.bool true := r'
    have old : ∀ b o, s₁.heap.get? b = some o -> asItWas s₁.heap s'.heap b o /\ ∃ o', s'.heap.get? b = some o' := λ b o e => by
     rcases hO b with z | ⟨rfl, ob, xs, z⟩ | ⟨hb, z⟩
     .have := un.keep b o e z (by intro z; exact absurd (show b ∈ ([] : List Addr) from z) (by simp)) (by simp)
      exact ⟨.inl this, o, this⟩
     .have z2 := un.frzs b ob _ z
      obtain ⟨e1, _⟩ := hok b _ z
      obtain ⟨e2, _⟩ := hok' b _ z2
      rw [e] at e1; cases e1
      exact ⟨.inl e2, _, e2⟩
     .obtain ⟨more, z2⟩ := un.tbls b _ z
      have e2 := hok' b _ z2
      obtain ⟨c, hd, hp⟩ := htb b hb
      rw [hp] at e; cases e
      have e3 : s'.heap.get? b = some { cls := .none, data := .fields (#[] ++ more) } := e2
      exact ⟨.inr (.inl ⟨(hd.tab hp).isCodeTable, rfl, #[], more, rfl, e3⟩), _, e3⟩
    exact ⟨rfl, ⟨λ b o e => (old b o e).1, λ b o e => (old b o e).2⟩, os, bare.bare⟩
 have tbOk : ∀ {H : Hp} {b : Addr}, b ∈ tb -> gk P w H s₁.heap b (.tbl #[]) := λ {H b} hb => by
  obtain ⟨c, _, e⟩ := htb b hb
  exact e
 classical
 cases hk : K.lookup a with
 | some o =>
  have e := KX a o hk
  rw [ha] at e
  cases e
  refine core (λ b => if b ∈ tb then some (.tbl #[]) else none) (λ b => ?_) (.inr ⟨_, vs.toArray, _, hk, rfl, rfl, rfl, by rw [Zd, lenV]; exact hl, by simpa using rv⟩) (λ b u z => ?_) (λ P hP => if_pos hP) λ z => absurd (if_neg hat) z
  .by_cases hb : b ∈ tb
   .exact .inr (.inr ⟨hb, if_pos hb⟩)
   .exact .inl (if_neg hb)
  .by_cases hb : b ∈ tb
   .have z' := (if_pos hb).symm.trans z
    cases z'
    exact tbOk hb
   .have z' := (if_neg hb).symm.trans z
    cases z'
 | none =>
  refine core (λ b => if b = a then some (.frz { cls := .type "list", data := .seq vs.toArray } (.lst (ns.map V.int))) else if b ∈ tb then some (.tbl #[]) else none) (λ b => ?_) (.inl (.inr ⟨{ cls := .type "list", data := .seq vs.toArray }, if_pos rfl⟩)) (λ b u z => ?_) (λ P hP => ?_) λ _ => hk
  .by_cases hb : b = a
   .exact .inr (.inl ⟨hb, _, _, if_pos hb⟩)
   .by_cases hb' : b ∈ tb
    .exact .inr (.inr ⟨hb', (if_neg hb).trans (if_pos hb')⟩)
    .exact .inl ((if_neg hb).trans (if_neg hb'))
  .by_cases hb : b = a
   .have z' := (if_pos hb).symm.trans z
    cases z'
    subst hb
    exact ⟨ha, by rw [Zu]; exact hl, vs, _, rv, ha⟩
   .have z1 := (if_neg hb).symm.trans z
    by_cases hb' : b ∈ tb
    .have z' := (if_pos hb').symm.trans z1
     cases z'
     exact tbOk hb'
    .have z' := (if_neg hb').symm.trans z1
     cases z'
  .have hne : P ≠ a := λ z => hat (z ▸ hP)
   exact (if_neg hne).trans (if_pos hP)
theorem Ea {l : PySem.W.OpenLaw} {n k : Nat} {q : Program} {loose : List Str} {XP : (Str -> Option Value) -> Heap -> Prop} {YP : World -> Heap -> Prop} {d : DefRec} {K : Params -> PySem.W.Frag} {x : Str} {φ : FF}
  (hn : l.most = some n) (hn2 : n <= sizeLine) (hdf : d.params.defaults = []) (hr : dU k callerA)
  (hY : ∀ (w : World) (h : Heap), YP w h -> (K w.params).In h)
  (F : ∀ (w : World) (mg mb : Str -> Option Value) (mean : ExcName -> Option Value) (lo : List Str) (fa : Addr) (h : Heap), (K w.params).In h -> Top q lo mean mg mb h -> mg d.name = some (.ref fa) ->
   ∃ (fd : FuncData) (tb : List Addr), (∀ (s : Shared) (u : Value), BindsTo s fd ⟨[u], []⟩ [(x, u)]) /\ (∀ P ∈ tb, ∃ c, PySem.W.CodeHd h c P /\ h.get? P = some (PySem.W.tabObj #[])) /\ PySem.W.noTabs (K w.params) = true /\
    ∀ base : Heap, (K w.params).In base -> base.Ns mainGlobals mg -> qD l.prog w (K w.params) mg base CX0 k fa fd [x] (spD (K w.params) tb 1 φ))
  (hsp : ∀ (ns : List Int), ns.length <= n -> ∃ μ', φ [.ro (ns.map .int)] [] = some (.bl true, μ')) :
  PySem.W.WalkO q loose XP YP l.row.toRowW d [] (λ f vs => PySem.call f vs) := by
 refine Att.attach_call hn hdf λ w s₀ s₁ mg mb fa o pm cd doc a vs ns G Y ho hd hcd hmg hobj hints hlen hg => ?_
 have KX := hY w _ Y
 obtain ⟨fd, tb, hb, htb, hnt, hF⟩ := F w mg mb _ _ fa _ KX G.T hmg
 obtain ⟨μ', hs⟩ := hsp ns hlen
 exact BP KX G.T.g G.T.b G.T.builtins G.T.nolimit G.T.bmain hg hobj hints (Zl hlen hn2) hr htb hnt hF hb hs
end L3
namespace L2
open PySem PySem.Spec PyProof.Rows
section
variable {X : Cx} {tg iter elt : Expr} {ifs : List Expr} {wi : TI} {g : TG} {tt : TT} {te : TE} {own cap : List Str} {capI : List Nat} {scope : Scope} {pos : Pos}
theorem Qo {i₀ : Nat} {x₀ : Str} {px₀ spos : Pos} (hN : X.N.Nodup) (hi₀ : X.N[i₀]? = some x₀) (hx₀ : Loc X.env.scope x₀) (hc : X.calm = true) (B : eQ X own cap capI scope) (hown : ∀ x ∈ own, (x, NameKind.free) ∉ scope.names) (hi : PI X tg iter wi)
  (hg : ∀ cs C fp s2 H2, PG (dF X own cap scope cs C fp s2 H2) tg g) (ht : ∀ cs C fp s2 H2, PIf (dF X own cap scope cs C fp s2 H2) ifs tt) (he : ∀ cs C fp s2 H2, PE (dF X own cap scope cs C fp s2 H2) elt te)
  (hs : ∀ x, foldedSetIterable iter X.env x = pure x := by intro _; rfl) (hsw : swapsWith (.ListComp elt [⟨tg, iter, ifs, 0⟩] scope pos) (some (.Name x₀ px₀)) spos.line X.env = pure true := by rfl)
  (hf₀ : X.fn x₀ = true ∨ X.env.scope.names.lookup x₀ = some .local := by first | exact .inl rfl | exact .inr rfl | assumption) :
  PS X (.Assign [.Name x₀ px₀] (.ListComp elt [⟨tg, iter, ifs, 0⟩] scope pos) spos) (Lh (tLC own capI wi g tt te) (CZ i₀)) := by
 intro pins s σ H D I h
 rw [exec_Assign_Name_used _ _ _ _ hsw]
 refine wpAny_bind (wpAny_standAt (wpAny_bind ?_))
 show wpAny _ X.A (do let _ <- comprehension (.ListComp elt [⟨tg, iter, ifs, 0⟩] scope pos) scope X.env _ (newList []) false (eval iter X.env) (some (assign (.Name x₀ px₀) X.env))) _ _ s
 refine wpAny_bind (wpAny_mono (wpAny_comprehension_free (use := some (assign (.Name x₀ px₀) X.env)) (Q := λ _ s' => SP X pins D .next s') (cl := bR X.env scope.names []) rfl hs (gB (B.cells I)) B.kind (λ y hy e => cO B.nd (by rw [<- e]; exact hy)) ?_) (λ _ s' hq => wpAny_pure (wpAny_pure hq)) λ _ _ e => e)
 refine thn (hi pins s σ H _ I h) λ v s1 h1 => thn h1 λ itv s2 h2 => ?_
 obtain ⟨it, fp, tn, J, H2, e, I2, T, st2, f2, W, ⟨m0, w0⟩, turn⟩ := h2
 subst e
 refine wpAny_newObj_type (mF ?_)
 dsimp only
 generalize hl : s2.heap.objs.size = l
 generalize hh0 : s2.heap.push { cls := .type "list", dict := none, data := .seq ([] : List Value).toArray } = h0
 have hsz0 : h0.objs.size = l + 1 := by rw [<- hh0, Heap.size_push, hl]
 generalize hC : h0.objs.size = C
 generalize hh1 : pushCells (h0.push { cls := .type (if (some X.env).isSome = true then "dict" else "frame"), data := .dict #[] }) scope.names = h1
 have hl0 : h0.get? l = some (bG [] 0) := by rw [<- hh0, <- hl]; exact Zf _ rfl
 have hk0 : ∀ b o, s2.heap.get? b = some o -> h0.get? b = some o := λ b o e => by rw [<- hh0]; exact Zb _ e
 have hlC : l ≠ C := by rw [<- hC, hsz0]; exact Zk (Nat.lt_succ_self _)
 have hls : s2.heap.objs.size <= l := Nat.le_of_eq hl
 have hCs : s2.heap.objs.size <= C := by rw [<- hC, hsz0, hl]; exact Nat.le_succ _
 have ho2 : ∀ b ∈ fp, ∃ o, s2.heap.get? b = some o := λ b hb => let ⟨o, e, _⟩ := T.obj 0 _ st2 b hb; ⟨o, e⟩
 have hfl : ∀ b ∈ fp, b ≠ l /\ b ≠ C := λ b hb => let ⟨o, e⟩ := ho2 b hb; ⟨Zk (Zc (Ze e) hls), Zk (Zc (Ze e) hCs)⟩
 have hl1 : h1.get? l = some (bG [] 0) := by rw [<- hh1]; exact pushCells_keeps _ _ _ _ (Zb _ hl0)
 have keep1 : ∀ b o, s2.heap.get? b = some o -> h1.get? b = some o := λ b o e => by rw [<- hh1]; exact pushCells_keeps _ _ _ _ (Zb _ (hk0 b o e))
 generalize hcs : cellsFrom (C + 1) scope.names (bR X.env scope.names []) = cs
 have I0 : Inv (dF X own cap scope cs C fp s2 H2) [] (cF own σ capI) H2 { s2 with heap := h1 } := by
  have q := I2.comp (tk := s2.toks) B hown f2 ho2 hk0 (by rw [hsz0, hl]; exact Nat.le_succ _) hC.symm hh1.symm
  rw [hcs] at q
  exact q
 have henv : (newEnv scope C X.env.globals cs X.env.qual none .none (some X.env) builtinsNs) = { compEnvC scope cs C X.env with scope := scope } := rfl
 have henv2 : ({ newEnv scope C X.env.globals cs X.env.qual none .none (some X.env) builtinsNs with scope := relabel scope X.env } : Env) = (dF X own cap scope cs C fp s2 H2).env := rfl
 generalize hX' : dF X own cap scope cs C fp s2 H2 = X' at I0 henv2
 have eP : X'.prog = X.prog := by rw [<- hX']; rfl
 have eW : X'.w = X.w := by rw [<- hX']; rfl
 have eK : X'.K = X.K := by rw [<- hX']; rfl
 have eA : X'.A = X.A := by rw [<- hX']; rfl
 have eFs : X'.fs = frs X.stack := by rw [<- hX']; rfl
 have eEx : X'.ex = fp := by rw [<- hX']; rfl
 have eS : X'.s₀ = s2 := by rw [<- hX']; rfl
 have eH : X'.H₀ = H2 := by rw [<- hX']; rfl
 have eL : X'.env.locals = C := by rw [<- hX']; rfl
 have eC : X'.calm = true := by rw [<- hX']; exact hc
 have eX : X'.xe = λ _ _ => False := by rw [<- hX']; rfl
 have ePn : X'.pn = [] := by rw [<- hX']; rfl
 have hg' : PG X' tg g := by rw [<- hX']; exact hg cs C fp s2 H2
 have ht' : PIf X' ifs tt := by rw [<- hX']; exact ht cs C fp s2 H2
 have he' : PE X' elt te := by rw [<- hX']; exact he cs C fp s2 H2
 have stat : ∀ {H' : Hp} {P : List (Addr × Obj)}, X'.Ok -> (∀ b ∈ fp, H' b = none) -> (∀ p ∈ P, p.1 = l) -> ∀ b ∈ fp, jA X' P H' b := λ {H' P} ok hn hP b hb => by
  refine ⟨hn b hb, ?_, ?_, .inl (by rw [eEx]; exact hb), ?_, λ p hp => ?_⟩
  .exact (ok.exf b (by rw [eEx]; exact hb)).1
  .exact ok.exfs b (by rw [eEx]; exact hb)
  .exact (ok.exf b (by rw [eEx]; exact hb)).2
  .rw [ePn, List.nil_append] at hp
   rw [hP p hp]
   exact Ne.symm (hfl b hb).1
 have lfs : X'.Ok -> l ∉ X'.fs := λ ok hz => by
  rw [eFs] at hz
  exact (Inv.nofs (X := X) I2 hls) ((Zi.mp (I2.stkSub l hz)).elim (λ z => absurd I2.lt (by rw [<- z, hl]; exact Nat.lt_irrefl _)) id)
 have pinL : ∀ {σ' : St} {H' : Hp} {s' : Shared} {us : List Value} {k : Nat}, Inv X' [] σ' H' s' -> s'.heap.get? l = some (bG us k) -> H' l = none -> Inv X' [(l, bG us k)] σ' H' s' := λ {σ' H' s' us k} I' e n =>
  I'.pins_of λ p hp => by
   obtain rfl : p = (l, bG us k) := by simpa using hp
   exact ⟨e, n, by rw [eL]; exact hlC, lfs I'.ok, λ v z => by cases z⟩
 have loop : ∀ s3 : Shared, s3 = { s2 with heap := h1 } -> codeAny (model X.prog X.w) X.A (.compLoop (.ListComp elt [⟨tg, iter, ifs, 0⟩] scope pos) 0 (.ref it) (.ref l) X'.env) (compPost (model X.prog X.w) X.A X.xe (some (assign (.Name x₀ px₀) X.env)) (λ _ s' => SP X pins D .next s') (.ref l) C) s3 := by
  rintro s3 rfl
  refine uF (E' := λ _ _ => False) (λ n s' => ∃ i ys us k H', Inv X' [] (cF own σ capI) H' s' /\ tn i s'.heap /\ (∀ b ∈ fp, H' b = none) /\ W i n ys H' /\ Vals ys us /\ s'.heap.get? l = some (bG us k) /\ H' l = none /\ ys.length <= sizeLine) (λ _ _ z => z.elim) ?_ m0
   ⟨0, [], [], 0, H2, I0, T.keep _ _ _ st2 λ b _ o e => keep1 b o e, λ b hb => (f2 b hb).1, w0, .nil, hl1, I2.hok.fresh hls, Nat.zero_le _⟩
  rintro n s3 ⟨i, ys, us, k, H3, I3, st3, fr3, w3, v3, o3, n3, z3⟩
  have I3p := pinL I3 o3 n3
  have P1 : ∀ p ∈ [(l, bG us k)], p.1 = l := λ p hp => by
   obtain rfl : p = (l, bG us k) := by simpa using hp
   rfl
  rcases turn i n ys H3 w3 with ⟨stop, qn⟩ | ⟨go, hlt, step⟩
  .have q := T.done X' eP eW eK eC i _ s3 _ H3 (λ _ _ => False) I3p (stat I3.ok fr3 P1) st3 stop
   rw [eA] at q
   refine wpAny_mono q (λ r s4 ⟨hr, I4⟩ => ?_) λ _ _ z => z
   subst hr
   have pl := I4.pin (l, bG us k) (by simp)
   obtain ⟨m4, hn4, _⟩ := I4.loc
   rw [eL] at hn4
   have fC : H3 C = none := by have := I4.free; rw [eL] at this; exact this
   have IE : Inv X pins σ (upd H3 l (.lst ys)) s4 := by
    have := I2.compEnd f2 eP eW eFs eEx eS eH eL I4 hls hlC hCs pl.1 n3 v3 z3 (Heap.SameBut.refl C s4.heap)
    exact this
   show wpAny _ X.A (assign (.Name x₀ px₀) X.env (.ref l)) _ _ s4
   refine wpAny_assign_Name (vd IE hN hi₀ hx₀ (v := .ref l) rfl (λ s5 I5 ⟨a, sa, ha⟩ => ?_) hf₀)
   have hnL : C ≠ X.env.locals := Nat.ne_of_gt (Zc I2.lt hCs)
   have hnc : ∀ y c, X.env.cells.lookup y = some c -> c ≠ C := λ y c e => by
    obtain ⟨v, q⟩ := I2.cell y c e
    exact Zk (Zc q.lt hCs)
   have haC : C ≠ a := by
    rcases ha with q | q
    .rw [q]; exact hnL
    .exact Ne.symm (hnc _ _ q)
   obtain ⟨o4, es4, ep4, ho4, r4⟩ := hn4
   refine ⟨m4, ⟨o4, es4, ep4, (sa.2 C haC).trans ho4, r4⟩, λ h' sb => ⟨_, _, ?_, qn l n3⟩⟩
   refine I5.turned (t' := s5.toks) (it := C) (λ b o hb e => (sb.2 b hb).trans e) (by rw [aN (Ne.symm hlC)]; exact fC) hnL (.inr (Zl I2.sz hCs)) hnc λ p hp => ?_
   exact Zk (Zc (Ze (I2.pin p hp).1) hCs)
  .have q := T.item X' eP eW eK eC i _ s3 _ H3 (λ _ _ => False) I3p (stat I3.ok fr3 P1) st3 go
   rw [eA] at q
   refine wpAny_mono q (λ r s4 ⟨u, hr, h4⟩ => ?_) λ _ _ z => z
   subst hr
   refine wpAny_mono h4 (λ _ s5 ⟨x, H5, I5, r5, y5, st5, fr5⟩ => ?_) λ _ _ z => z
   have I5' := I5.pinned (stat I5.ok fr5 P1) (T.obj _ _ st5)
   have a1 := hg' _ s5 _ H5 x u _ I5' r5 (step x H5 y5)
   rw [eP, eW, eA, eX] at a1
   refine wpAny_mono a1 (λ _ s6 ⟨σ6, H6, I6, ft6, q6⟩ => ?_) λ _ _ z => z
   have a2 := ht' _ s6 σ6 H6 _ I6 q6
   rw [eP, eW, eA, eX] at a2
   refine wpAny_mono a2 (λ ok s7 ⟨H7, I7, q7⟩ => ?_) λ _ _ z => z
   have back : ∀ {H8 : Hp} {s8 : Shared}, Inv X' ([(l, bG us k)] ++ pK fp s5.heap) σ6 H8 s8 -> Inv X' [] (cF own σ capI) H8 s8 /\ tn (i + 1) s8.heap /\ (∀ b ∈ fp, H8 b = none) /\ s8.heap.get? l = some (bG us k) /\ H8 l = none := λ {H8 s8} I8 => by
    have pl := I8.pin (l, bG us k) (by simp)
    refine ⟨(I8.weak ft6.1.symm ft6.2).pins_of λ p hp => absurd hp (by simp), T.keep _ _ _ st5 λ b hb o e => ?_, λ b hb => ?_, pl.1, pl.2.1⟩
    .exact (I8.pin (b, o) (Zn _ (Zn _ (fD hb e)))).1
    .obtain ⟨o, e, d⟩ := T.obj _ _ st5 b hb
     exact (I8.pin (b, o) (Zn _ (Zn _ (fD hb e)))).2.1
   cases ok with
   | false =>
    rw [if_neg Zr]
    rw [if_neg Zr] at q7
    obtain ⟨m', hm, w7⟩ := q7
    obtain ⟨I8, st8, fr8, o8, n8⟩ := back I7
    exact ⟨m', hm, i + 1, ys, us, k, H7, I8, st8, fr8, w7, v3, o8, n8, z3⟩
   | true =>
    rw [if_pos rfl]
    rw [if_pos rfl] at q7
    have a3 := he' _ s7 σ6 H7 _ I7 q7
    rw [eP, eW, eA, eX] at a3
    refine wpAny_mono a3 (λ yv s8 ⟨y, H8, I8', r8, m', hm, w8⟩ => ?_) λ _ _ z => z
    obtain ⟨I8, st8, fr8, o8, n8⟩ := back I8'
    refine append_at (hsz := by show us.toArray.size <= sizeLine; rw [Zd, <- v3.length]; exact z3) o8 λ h9 sb9 o9 => ?_
    have I9 : Inv X' [] (cF own σ capI) H8 { s8 with heap := h9 } := I8.turned (t' := s8.toks) (λ b o hb e => (sb9.2 b hb).trans e) n8 (by rw [eL]; exact hlC) (.inr (by rw [eS]; exact hls)) (λ x c e => by
     rintro rfl
     obtain ⟨v', ho', hd', hd''⟩ := I8.cell x c e
     rw [o8] at hd'
     cases hd'
     cases hd'') (λ p hp => by rw [ePn] at hp; exact absurd hp (by simp))
    refine ⟨m', hm, i + 1, ys ++ [y], us ++ [yv], k + 1, H8, I9, T.keep _ _ _ st8 λ b hb o e => (sb9.2 b (hfl b hb).1).trans e, fr8, w8, v3.append (.cons r8 .nil), ?_, n8, ?_⟩
    .rw [o9]
     simp [bG]
    .rw [List.length_append]
     exact hlt
 have T0 := T.keep 0 s2.heap h1 st2 λ b _ o e => keep1 b o e
 rw [henv2]
 exact codeAny_compStart_list (loop _ rfl) (T.self X.A 0 _ _ _ T0 (loop _ rfl))
end
end L2
namespace L3
open PySem PySem.Spec PyProof.Rows L2
section
variable {X : Cx} {tb : List Addr} {e tg iter elt : Expr} {f : EF} {pos : Pos}
theorem GR {fi : IF} {h : GF} {tt : TF} {fe : EF} {own : List Str} {capI ts : List Nat} {σ : SV} {H : Hp} {Q : VK} (hts : ∀ i ∈ ts, i < own.length) (hx : tDN X.K tb (lLC own capI fi h tt fe) σ H Q) :
  tLC own capI (tDI X.K tb fi) (tDG X.K tb ts h) (tDT X.K tb tt) (tD X.K tb fe) σ H Q := by
  obtain ⟨W, δ, ds, μ', e, ok, hd, hf, k⟩ := hx
  unfold lLC at hf
  obtain ⟨⟨S, μ1⟩, e1, e2⟩ := Za.mp hf
  split at e2
  .rename_i hz
   refine ⟨W, δ, S, μ1, e, ok, hd, e1, λ J W1 ok1 l1 m1 io => ?_⟩
   refine ⟨λ i m ys H2 => m = S.items.length - i /\ i <= S.items.length /\ ys.length <= i /\ ∃ W2 zs rs, W2.H = H2 /\ WOk X.K tb W2 /\ Le tb W1 W2 /\ bN X.K tb W2 zs ys /\ lcL S h tt fe (bQ own δ capI) (S.items.drop i) W2.mu = some (rs, μ') /\ zs ++ rs = ds,
    ⟨S.items.length, rfl, Nat.zero_le _, Nat.zero_le _, W1, [], ds, rfl, ok1, Le.refl _, az.nil, by rw [m1]; exact e2, rfl⟩, ?_⟩
   rintro i m ys H2 ⟨hm, hi', hy, W2, zs, rs, rfl, ok2, l2, d2, hn, hzs⟩
   by_cases hlt : i < S.items.length
   .right
    have hdr : S.items.drop i = S.items[i] :: S.items.drop (i + 1) := List.drop_eq_getElem_cons hlt
    rw [hdr] at hn
    unfold lcL at hn
    split at hn
    .rename_i hok
     obtain ⟨δ3, e3, hn⟩ := Za.mp hn
     obtain ⟨⟨kk, μ4⟩, e4, hn⟩ := Za.mp hn
     obtain ⟨go, yl⟩ := io.go i W2 S.items[i] l2 ok2 hok (by simp [hlt])
     refine ⟨go, Zc (Nat.lt_of_le_of_lt hy hlt) hz, λ x H' y => ?_⟩
     obtain ⟨W3, rfl, ok3, l3, m3, d3⟩ := yl x H' y
     refine ⟨W3, bQ own δ capI, S.items[i], δ3, rfl, ok3, (qM hd).mono' ((l1.trans l2).trans l3), d3, (by rw [m3]; exact e3), λ σ3 d3' hl3 ht3 => ⟨fits_of hts hl3 ht3, ?_⟩⟩
     refine ⟨W3, δ3, kk, μ4, rfl, ok3, d3', (by rw [m3]; exact e4), λ W4 ok4 l4 m4 => ?_⟩
     cases kk with
     | false =>
      rw [if_neg Zr]
      exact ⟨S.items.length - (i + 1), by omega, rfl, hlt, by omega, W4, zs, rs, rfl, ok4, (l2.trans l3).trans l4, bN.mono' d2 (l3.trans l4), by rw [m4]; exact hn, hzs⟩
     | true =>
      rw [if_pos rfl]
      have hn' : ((fe δ3 μ4).bind λ y => (lcL S h tt fe (bQ own δ capI) (S.items.drop (i + 1)) y.2).bind λ ys => some (y.1 :: ys.1, ys.2)) = some (rs, μ') := hn
      obtain ⟨⟨yd, μ5⟩, e5, hn'⟩ := Za.mp hn'
      obtain ⟨⟨rs', μ6⟩, e6, e7⟩ := Za.mp hn'
      cases e7
      refine ⟨W4, δ3, yd, μ5, rfl, ok4, d3'.mono' l4, (by rw [m4]; exact e5), λ v W5 ok5 l5 m5 d5 => ?_⟩
      refine ⟨S.items.length - (i + 1), by omega, rfl, hlt, by rw [List.length_append]; simp; omega, W5, zs ++ [yd], rs', rfl, ok5, ((l2.trans l3).trans l4).trans l5, az.append (bN.mono' d2 ((l3.trans l4).trans l5)) (az.cons d5 az.nil), by rw [m5]; exact e6, by rw [List.append_assoc]; exact hzs⟩
    .cases hn
   .left
    have hdr : S.items.drop i = [] := List.drop_of_length_le (by omega)
    rw [hdr] at hn
    unfold lcL at hn
    split at hn
    .rename_i hok
     cases hn
     rw [List.append_nil] at hzs
     subst hzs
     exact ⟨io.stop i W2 l2 ok2 hok (by omega), λ l hl => k l ys W2 ok2 (l1.trans l2) rfl hl d2⟩
    .cases hn
  .cases e2
theorem vL {i : Nat} {x : Str} {px spos : Pos} {ifs : List Expr} {fi : IF} {h : GF} {tt : TF} {fe : EF} {own cap : List Str} {capI ts : List Nat} {scope : Scope} (hN : X.N.Nodup) (hc : X.calm = true) (B : eQ X own cap capI scope) (hown : ∀ x ∈ own, (x, NameKind.free) ∉ scope.names) (hi : PID X tb tg iter fi)
  (hg : ∀ cs C fp s2 H2, PGD (dF X own cap scope cs C fp s2 H2) tb tg ts h) (ht : ∀ cs C fp s2 H2, HF (dF X own cap scope cs C fp s2 H2) tb ifs tt) (he : ∀ cs C fp s2 H2, PD (dF X own cap scope cs C fp s2 H2) tb elt fe)
  (hts : ∀ i ∈ ts, i < own.length := by decide) (hs : ∀ x, foldedSetIterable iter X.env x = pure x := by intro _; rfl) (hi₀ : X.N[i]? = some x := by rfl) (hx₀ : Loc X.env.scope x := by first | exact Or.inl rfl | exact Or.inr rfl)
  (hsw : swapsWith (.ListComp elt [⟨tg, iter, ifs, 0⟩] scope pos) (some (.Name x px)) spos.line X.env = pure true := by rfl)
  (hf₀ : X.fn x = true ∨ X.env.scope.names.lookup x = some .local := by first | exact .inl rfl | exact .inr rfl | assumption) :
  PSD X tb (.Assign [.Name x px] (.ListComp elt [⟨tg, iter, ifs, 0⟩] scope pos) spos) (bw i (mFz (lLC own capI fi h tt fe))) :=
 mK (Qo (g := tDG X.K tb ts h) (tt := tDT X.K tb tt) (te := tD X.K tb fe) hN hi₀ hx₀ hc B hown hi hg ht he hs hsw hf₀) λ E σ H zq1 => by
  obtain ⟨W, δ, fl, δ', μ', e, ok, hd, hf, k⟩ := zq1
  unfold bw at hf
  obtain ⟨⟨d, μ1⟩, e1, e2⟩ := Za.mp hf
  cases e2
  unfold mFz at e1
  obtain ⟨⟨ds, μ2⟩, e3, e4⟩ := Za.mp e1
  cases e4
  refine GR hts ⟨W, δ, ds, _, e, ok, hd, e3, λ p vs W1 ok1 l1 m1 hp r => ?_⟩
  exact iY (Q := λ v H => E.nx (σ.set i (some v)) H) ok1 (λ v W' ok' l' m' d' => k _ W' ok' (l1.trans l') (m'.trans m1) ((hd.mono' (l1.trans l')).set d')) r hp
end
theorem Hy {P : Program} {w : World} {K : PySem.W.Frag} {mg : Str -> Option Value} {base : Heap} {tb : List Addr} {x qual : Str} {st : Stmt} {f : Addr} {fd : FuncData} {T : Addr} {N ps : List Str} {n k : Nat} {g : SF} (F : fK K x qual st f fd T) (KB : K.In base) (S : bu N ps (aO st)) (hps : ps.length = n)
  (hbody : ∀ (c : Addr) (A : Around) (outer : List Env) (s : Shared) (H : Hp) (E : XK), PySem.W.CodeHd base c T -> dU k (A.deeper (envOfC qual (aO st) s.heap.objs.size f (.ref c))) ->
   ue (zM CX0 P w K mg base N qual (aO st) f (.ref c) A outer s H E).nox tb (gY st) g) : qD P w K mg base CX0 (k + 1) f fd ps (spD K tb n (aK N.length g)) := by
 obtain ⟨oc, od, kV, doc, pm, an, c, ct, osl, rfl, lk, hcd, hhd⟩ := F.ex
 refine Jv lk hcd S (λ vs H Q E ⟨W, ds, d, μ', e, ok, dl, hl, _⟩ => by rw [<- az.length dl, hl, hps]) λ A outer s H vs Q E hr hsp => ?_
 obtain ⟨W, ds, d, μ', e, ok, dl, hl, hf, k⟩ := hsp
 refine ⟨_, (hbody c A outer s H E (hhd base KB) hr).nox, ?_⟩
 unfold aK at hf
 obtain ⟨⟨fl, δ', μ1⟩, e1, e2⟩ := Za.mp hf
 refine ⟨W, _, fl, δ', μ1, e, ok, ?_, e1, λ σ' W' ok' l' m' d' => ?_⟩
 .have hlen := az.length dl
  refine ⟨by unfold L2.start; simp [hlen], λ i y q => ?_⟩
  unfold L2.start
  by_cases hi : i < ds.length
  .rw [Zs (by simpa using hi), List.getElem?_map] at q
   cases q2 : ds[i]? with
   | none => rw [q2] at q; cases q
   | some z =>
    rw [q2] at q
    cases q
    obtain ⟨v, ev, dv⟩ := az.get dl q2
    exact ⟨v, by rw [Zs (by rw [Zu, <- hlen]; exact hi), List.getElem?_map, ev]; rfl, dv⟩
  .rw [List.getElem?_append_right (by simpa using hi), List.getElem?_replicate] at q
   split at q <;> cases q
 .cases fl with
  | nx => cases e2; exact k .non W' ok' l' m' lN
  | rt d0 => cases e2; exact λ v dv => k v W' ok' l' m' dv
  | bk => cases e2
  | ct => cases e2
def vQ (vs : Array Value) : Bool := (match vs.getD 18 .none with | .str _ _ => true | _ => false) && (match vs.getD 7 .none with | .int _ _ => true | _ => false) &&
 (match vs.getD 9 .none with | .bool _ => true | _ => false) && (match vs.getD 10 .none with | .int _ _ => true | _ => false)
theorem Ci {K : PySem.W.Frag} {c P : Addr} {dd : Option Addr} {vs : Array Value} {sl : Array (Option Value)} (lc : K.lookup c = some ⟨.type "code", dd, .fields vs, sl⟩) (p : vs[11]? = some (.ref P)) (q : vQ vs = true) (ne : (c != P) = true) : PySem.W.codeHdIn K c P = true := by
 unfold PySem.W.codeHdIn
 rw [lc]
 unfold vQ at q
 simp only [Zo] at q ⊢
 obtain ⟨⟨⟨q1, q2⟩, q3⟩, q4⟩ := q
 refine ⟨⟨⟨⟨⟨?_, q1⟩, q2⟩, q3⟩, q4⟩, ne⟩
 rw [p]
 exact beq_self_eq_true P
theorem Ig {K : PySem.W.Frag} {x qual : Str} {st : Stmt} {f c P : Addr} {oc : Value} {od an : Option Addr} {osl : Array (Option Value)} {kV doc pm ct : Value} {dd : Option Addr} {vs : Array Value} {sl : Array (Option Value)}
  (l : K.lookup f = some ⟨oc, od, .func (PySem.W.fnOf x qual (jO st) (gY st) (aO st) .none kV doc pm an (.ref c) ct), osl⟩) (hc : PySem.W.codeIn K (.ref c) qual = true) (k : PySem.W.keepIn K (.ref f) = true)
  (lc : K.lookup c = some ⟨.type "code", dd, .fields vs, sl⟩) (p : vs[11]? = some (.ref P)) (q : vQ vs = true) (ne : (c != P) = true) : fK K x qual st f (PySem.W.fnOf x qual (jO st) (gY st) (aO st) .none kV doc pm an (.ref c) ct) P :=
 ⟨⟨oc, od, kV, doc, pm, an, c, ct, osl, rfl, l, hc, λ h X => PySem.W.codeHd_of_K X (Ci lc p q ne)⟩, k⟩
theorem Lx {K : PySem.W.Frag} {x : Str} {f c P : Addr} {oc oc' : Value} {od dd : Option Addr} {fd : FuncData} {osl sl : Array (Option Value)} {vs : Array Value} (a : PySem.W.nsIn K mainGlobals x = some (some (.ref f))) (l : K.lookup f = some ⟨oc, od, .func fd, osl⟩) (hc : fd.code = .ref c)
  (lc : K.lookup c = some ⟨oc', dd, .fields vs, sl⟩) (p : vs[11]? = some (.ref P)) : PySem.W.tabIn K x = some (c, P) := by
 unfold PySem.W.tabIn
 rw [a]
 simp only [l, hc, lc, p]
theorem oY {q : Program} {lo : List Str} {mean : ExcName -> Option Value} {mg mb : Str -> Option Value} {h : Heap} {K : PySem.W.Frag} {x : Str} {c P : Addr} (T : Top q lo mean mg mb h) (X : K.In h) (hr : ((recsOf q).find? (λ e => e.name == x)).isSome = true) (ht : PySem.W.tabIn K x = some (c, P)) : PySem.W.CodeHd h c P /\ h.get? P = some (PySem.W.tabObj #[]) := by
 obtain ⟨d, hd⟩ := Option.isSome_iff_exists.mp hr
 exact PySem.W.tab_of T X hd ht
end L3
namespace L2
open PySem PySem.Spec PyProof.Rows HT
section
variable {prog : Program} {w : World} {A : Around} {E : Value -> Shared -> Prop} {s : Shared}
theorem mq {t sl : Addr} {items : Array Value} {vl vu : Value} {lo hi : Option Int} {Q : Value -> Shared -> Prop} (ht : IsTup s.heap t items) (hs : s.heap.IsSliceOf sl vl vu .none) (pl : IsPart vl lo) (pu : IsPart vu hi)
  (hw : sIx items.size 0 lo = 0 /\ sIx items.size items.size hi = items.size) (h : Q (.ref t) s) : wpAny (model prog w) A (getItem (.ref t) (.ref sl)) Q E s := by
 obtain ⟨os, hos, hcs, hds⟩ := id hs
 have hTs : s.TypeIs (.ref sl) "slice" := ⟨os, hos, hcs⟩
 unfold getItem
 try with_reducible refine wpAny_holding ?_
 first | refine wpAny_bind (wpAny_pure ?_) | skip
 refine wpAny_bind (wpAny_sequenceKey ht.typeIs (by decide) ?_)
 refine wpAny_bind (wpAny_callSpecial?_slot (name := Str.ofString "__getitem__") ht.typeIs PyProof.Rows.slot_tuple_getitem
  (wpAny_call_entry PyProof.Rows.slot_tuple_getitem ht.typeIs entry_tuple_getitem ?_ (args_tuple_getitem _ _)))
 show wpAny _ _ (Builtin.Tuple.tupleItemsOf (.ref t) >>= _) _ _ s
 refine wpAny_bind (tupleItemsOf_ ht ?_)
 refine wpAny_bind (wpAny_typeOf hTs ?_)
 rw [if_pos (by decide)]
 refine wpAny_bind (jy hs pl pu ?_)
 have hyes : (((sIx items.size 0 lo : Nat) : Int) == 0 && (1 : Int) == 1 && (sIx items.size items.size hi - sIx items.size 0 lo) == items.size) = true := by
  rw [hw.1, hw.2]
  simp
 show wpAny _ _ (if (((sIx items.size 0 lo : Nat) : Int) == 0 && (1 : Int) == 1 && (sIx items.size items.size hi - sIx items.size 0 lo) == items.size) = true then _ else _) _ _ s
 rw [if_pos hyes]
 refine wpAny_bind (m := Builtin.Tuple.tupleIsExact (.ref t)) (wpAny_bind (wpAny_typeOf ht.typeIs (wpAny_pure ?_)))
 rw [if_pos (by decide)]
 refine wpAny_bind (wpAny_rule ?_)
 first
  | exact wpAny_pure ⟨_, rfl, wpAny_pure h⟩
  | exact wpAny_bind (wpAny_pure (wpAny_pure ⟨_, rfl, wpAny_pure h⟩))
  | exact wpAny_pure (wpAny_pure h)
end
section
variable {X : Cx}
def rSlW (K : PySem.W.Frag) : V -> Option Int -> Option Int -> Hp -> VK -> Prop := λ x lo hi H Q => ∃ a xs, x = .ref a /\ SqT K H a xs /\
 (HT.sIx xs.length 0 lo = 0 /\ HT.sIx xs.length xs.length hi = xs.length) /\ Q (.ref a) H
theorem Hl : SlR X (rSlW X.K) := by
 intro pins s σ H x v vl vu lo hi sl Q I rx hs pl pu h
 obtain ⟨a, xs, rfl, hx, hw, q⟩ := h
 cases rx
 obtain ⟨its, r, ht, hz⟩ := I.tuple hx
 have hlen : its.toArray.size = xs.length := by rw [Zd]; exact r.length.symm
 refine ⟨"tuple", _, PyProof.Rows.slot_tuple_getitem.lookup, ht.typeIs, ?_⟩
 exact mq ht hs pl pu (by rw [hlen]; exact hw) ⟨.ref a, H, I, rfl, q⟩
end
end L2
namespace L3
open PySem PySem.Spec PyProof.Rows L2
abbrev PF := En -> Mu -> Option (Option Int × Mu)
def tDO (K : PySem.W.Frag) (tb : List Addr) (f : PF) : TO := λ σ H Q => ∃ W δ i μ', W.H = H /\ WOk K tb W /\ gO K tb W δ σ /\ f δ W.mu = some (i, μ') /\ ∀ W', WOk K tb W' -> Le tb W W' -> W'.mu = μ' -> Q i W'.H
def POD (X : Cx) (tb : List Addr) (e : Option Expr) (f : PF) : Prop := PO X e (tDO X.K tb f)
theorem JC {X : Cx} {e : Option Expr} {t t' : TO} (h : PO X e t) (k : ∀ σ H Q, t' σ H Q -> t σ H Q) : PO X e t' := λ pins s σ H Q I hq => h pins s σ H Q I (k σ H Q hq)
def fNo : PF := λ _ μ => some (none, μ)
def fAt (f : EF) : PF := λ δ μ => (f δ μ).bind λ r => match r.1 with
 | .int i => some (some i, r.2)
 | _ => none
def cutD (ds : List D) (lo hi : Option Int) : List D := (ds.drop (HT.sIx ds.length 0 lo)).take (HT.sIx ds.length ds.length hi - HT.sIx ds.length 0 lo)
def oSl (x : D) (lo hi : Option Int) (μ : Mu) : Option (D × Mu) := match x with
 | .tup ds => some (.tup (cutD ds lo hi), μ)
 | .lst ds => some (.lst (cutD ds lo hi), μ)
 | .ro ds => some (.lst (cutD ds lo hi), μ)
 | .cell n => match μ[n]? with
  | some (some ds) => some (.lst (cutD ds lo hi), μ)
  | _ => none
 | _ => none
def mSl (f : EF) (fl fh : PF) : EF := λ δ μ => (f δ μ).bind λ r => (fl δ r.2).bind λ l => (fh δ l.2).bind λ u => oSl r.1 l.1 u.1 u.2
section
variable {X : Cx} {tb : List Addr} {e : Expr} {lo hi : Option Expr} {f : EF} {fl fh : PF} {pos p2 : Pos}
theorem jo : POD X tb none fNo := JC Jk λ σ H Q zq1 => by
 obtain ⟨W, δ, i, μ', e, ok, hd, hf, h⟩ := zq1
 subst e; cases hf
 exact h W ok (Le.refl _) rfl
theorem jn (h : PD X tb e f) : POD X tb (some e) (fAt f) := JC (Iu h) λ σ H Q zq2 => by
 obtain ⟨W, δ, i, μ', e, ok, hd, hf, h⟩ := zq2
 unfold fAt at hf
 obtain ⟨⟨x, μ1⟩, e1, e2⟩ := Za.mp hf
 cases x with
 | int j =>
  cases e2
  exact ⟨W, δ, _, _, e, ok, hd, e1, λ v W1 ok1 l1 m1 d1 => ⟨j, bA d1, h W1 ok1 l1 m1⟩⟩
 | _ => cases e2
theorem qL {K : PySem.W.Frag} {W : Wd} {ds : List D} {vs : List V} {l h : Option Int} (r : bN K tb W ds vs) : bN K tb W (cutD ds l h) (wY vs l h) := by
 unfold cutD wY
 rw [<- az.length r]
 exact az.take _ (az.drop _ r)
theorem jr (he : PD X tb e f) (hl : POD X tb lo fl) (hh : POD X tb hi fh) : PD X tb (.Subscript e (.Slice lo hi none p2) pos) (mSl f fl fh) :=
 dO (Er (Mw.or (Hl.or Hg)) he hl hh) λ σ H Q zq3 => by
  obtain ⟨W, δ, d, μ', e, ok, hd, hf, h⟩ := zq3
  unfold mSl at hf
  obtain ⟨⟨x, μ1⟩, e1, hf⟩ := Za.mp hf
  obtain ⟨⟨l, μ2⟩, e2, hf⟩ := Za.mp hf
  obtain ⟨⟨u, μ3⟩, e3, hf⟩ := Za.mp hf
  refine ⟨W, δ, x, μ1, e, ok, hd, e1, λ v W1 ok1 l1 m1 d1 => ⟨W1, δ, l, μ2, rfl, ok1, hd.mono' l1, (by rw [m1]; exact e2), λ W2 ok2 l2 m2 => ⟨W2, δ, u, μ3, rfl, ok2, hd.mono' (l1.trans l2), (by rw [m2]; exact e3), λ W3 ok3 l3 m3 => ?_⟩⟩⟩
  have d3 := Den.mono' d1 (l2.trans l3)
  have k : ∀ v W', WOk X.K tb W' -> Le tb W3 W' -> W'.mu = W3.mu -> Den X.K tb W' d v -> W3.mu = μ' -> Q v W'.H := λ v W' ok' l' m' d' q => h v W' ok' (((l1.trans l2).trans l3).trans l') (m'.trans q) d'
  cases x with
  | tup ds =>
   obtain ⟨a, xs, rfl, q, r⟩ := fB d3
   cases hf
   by_cases hw : HT.sIx ds.length 0 l = 0 /\ HT.sIx ds.length ds.length u = ds.length
   .have e : cutD ds l u = ds := by unfold cutD; rw [hw.1, hw.2]; simp
    exact .inr (.inl ⟨a, xs, rfl, SqT.fz q, by rw [<- az.length r]; exact hw, k (.ref a) W3 ok3 (Le.refl _) rfl (by rw [e]; exact d3) m3⟩)
   .exact .inl ⟨a, xs, rfl, SqT.fz q, by rw [<- az.length r]; exact hw, λ p hp => lU ok3 (λ v W' ok' l' m' d' => k v W' ok' l' m' d' m3) (qL r) hp⟩
  | lst ds =>
   obtain ⟨a, xs, rfl, q, r⟩ := kJ d3
   cases hf
   exact .inr (.inr ⟨a, xs, rfl, SqL.fz q, λ p hp => iY ok3 (λ v W' ok' l' m' d' => k v W' ok' l' m' d' m3) (qL r) hp⟩)
  | ro ds =>
   obtain ⟨a, xs, rfl, q, r⟩ := uR d3
   cases hf
   exact .inr (.inr ⟨a, xs, rfl, SqL.fz q, λ p hp => iY ok3 (λ v W' ok' l' m' d' => k v W' ok' l' m' d' m3) (qL r) hp⟩)
  | cell n =>
   obtain ⟨a, rfl, q⟩ := fQ d3
   have hf : (match μ3[n]? with | some (some ds) => some (D.lst (cutD ds l u), μ3) | _ => none) = some (d, μ') := hf
   cases e4 : μ3[n]? with
   | none => rw [e4] at hf; cases hf
   | some o =>
    rw [e4] at hf
    cases o with
    | none => cases hf
    | some ds =>
     cases hf
     obtain ⟨xs, ex, r⟩ := ok3.cont n a ds q (by rw [m3]; exact e4)
     exact .inr (.inr ⟨a, xs, rfl, SqL.of ex, λ p hp => iY ok3 (λ v W' ok' l' m' d' => k v W' ok' l' m' d' m3) (qL r) hp⟩)
  | _ => cases hf
end
theorem By {zs : List V} {ws : List Value} (r : Vals zs ws) : ∀ (π : List Nat), Vals (π.map λ i => zs.getD i .non) (π.map λ i => ws.getD i .none)
 | [] => .nil
 | i :: π => by
  refine .cons ?_ (By r π)
  show L2.RelV (zs.getD i V.non) (ws.getD i Value.none)
  cases e : zs[i]? with
  | none =>
   have e2 := Vals.none_of r e
   rw [List.getD_eq_getElem?_getD, List.getD_eq_getElem?_getD, e, e2]
   rfl
  | some v =>
   obtain ⟨u, e2, rv⟩ := Vals.get r e
   rw [List.getD_eq_getElem?_getD, List.getD_eq_getElem?_getD, e, e2]
   exact rv
theorem rA {K : PySem.W.Frag} {tb : List Addr} {W : Wd} {ds : List D} {vs : List V} (r : bN K tb W ds vs) : ∀ (π : List Nat), bN K tb W (π.map λ i => ds.getD i .non) (π.map λ i => vs.getD i .non)
 | [] => az.nil
 | i :: π => by
  refine az.cons ?_ (rA r π)
  show bc K (Wd.fz tb W) W.ad (ds.getD i D.non) (vs.getD i V.non)
  have hl := az.length r
  cases e : ds[i]? with
  | none =>
   have e2 : vs[i]? = none := by
    rw [List.getElem?_eq_none_iff] at e ⊢
    omega
   rw [List.getD_eq_getElem?_getD, List.getD_eq_getElem?_getD, e, e2]
   exact lN
  | some v =>
   obtain ⟨u, e2, rv⟩ := az.get r e
   rw [List.getD_eq_getElem?_getD, List.getD_eq_getElem?_getD, e, e2]
   exact rv
theorem Bw {X : Cx} : OpR X (compareOp .IsNot) (λ x y H Q => ∃ b c, x = .bl b /\ y = .bl c /\ Q (.bl (b != c)) H) := by
 intro pins s σ H x y v u Q I rx ry h
 obtain ⟨b, c, rfl, rfl, q⟩ := h
 cases rx; cases ry
 exact isnot_bool ⟨.bl (b != c), H, I, rfl, q⟩
def nG : D -> Bool
 | .non => true
 | _ => false
def oIs : O2
 | .bl b, .bl c, μ => some (.bl (b == c), μ)
 | x, .non, μ => some (.bl (nG x), μ)
 | _, _, _ => none
def pH : O2
 | .bl b, .bl c, μ => some (.bl (b != c), μ)
 | x, .non, μ => some (.bl (!nG x), μ)
 | _, _, _ => none
theorem Br {K : PySem.W.Frag} {tb : List Addr} {W : Wd} {x : D} {v : V} (h : Den K tb W x v) : decide (v = .non) = nG x := by
 cases x with
 | non => rw [wK h]; rfl
 | bl b => rw [jk h]; rfl
 | int i => rw [bA h]; rfl
 | str z => rw [sY h]; rfl
 | tup ds => obtain ⟨a, xs, rfl, _⟩ := fB h; rfl
 | lst ds => obtain ⟨a, xs, rfl, _⟩ := kJ h; rfl
 | ro ds => obtain ⟨a, xs, rfl, _⟩ := uR h; rfl
 | dic ds => obtain ⟨a, xs, rfl, _⟩ := Ec h; rfl
 | cell n => obtain ⟨a, rfl, _⟩ := fQ h; rfl
theorem vU {x y d : D} {μ μ' : Mu} (h : pH x y μ = some (d, μ')) : μ' = μ /\ ((∃ b c, x = .bl b /\ y = .bl c /\ d = .bl (b != c)) ∨ (y = .non /\ d = .bl (!nG x))) := by
 unfold pH at h
 split at h
 .cases h; exact ⟨rfl, .inl ⟨_, _, rfl, rfl, rfl⟩⟩
 .cases h; exact ⟨rfl, .inr ⟨rfl, rfl⟩⟩
 .cases h
theorem De {X : Cx} {tb : List Addr} : OpD X tb (compareOp .IsNot) pH := ⟨_, Bw.or Js, λ W x y v u d μ' Q ok dx dy ho h => by
 obtain ⟨rfl, ⟨b, c, rfl, rfl, rfl⟩ | ⟨rfl, rfl⟩⟩ := vU ho
 .exact .inl ⟨b, c, jk dx, jk dy, put ok h fj⟩
 .refine .inr ⟨wK dy, ?_⟩
  rw [Br dx]
  exact put ok h fj⟩
end L3
namespace L2
open PySem PySem.Spec PyProof.Rows
abbrev VV : List (V × V) -> List (Value × Value) -> Prop := Paired λ p q => RelV p.1 q.1 /\ RelV p.2 q.2
end L2
namespace L3
open PySem PySem.Spec PyProof.Rows L2
theorem Bv {X : Cx} : gR X (.type "range") (λ xs H Q => ∃ j, xs = [.int j] /\ ∀ p, H p = none -> Q (.ref p) (upd H p (.rng 0 j))) := by
 intro pins s σ H xs us Q I r h
 obtain ⟨j, rfl, q⟩ := h
 obtain ⟨u, rfl, ⟨t, rfl⟩⟩ := vals1 r
 exact call_range_1 ⟨.ref s.heap.objs.size, _, I.laid (a := s.heap.objs.size) (o := .rng 0 j) (λ b o e => Zb _ e) (Zg _) ⟨_, _, _, Zf _ rfl⟩, rfl, q _ (I.hok.fresh (Zg _))⟩
def Dq (lo : Int) (n : Nat) : List V := (List.range n).map λ (k : Nat) => V.int (lo + (k : Int))
theorem uV {lo : Int} : ∀ {acc : List Value} {n k : Nat}, acc.length = n -> (∀ j v, acc[j]? = some v -> ∃ t, v = Value.int (lo + ((k + j : Nat) : Int)) t) -> Vals ((List.range' k n).map λ (i : Nat) => V.int (lo + (i : Int))) acc
 | [], n, k, e, _ => by cases e; exact .nil
 | v :: r, n, k, e, h => by
  cases e
  rw [List.length_cons, List.range'_succ, Zj]
  refine .cons ?_ (uV rfl λ j u hu => ?_)
  .obtain ⟨t, q⟩ := h 0 v rfl
   exact ⟨t, by simpa using q⟩
  .obtain ⟨t, q⟩ := h (j + 1) u hu
   exact ⟨t, by rw [q]; congr 2; omega⟩
theorem uh {X : Cx} (hc : X.calm = true) : gR X (.type "list") (λ xs H Q => ∃ p i j, xs = [.ref p] /\ H p = some (.rng i j) /\ (-(2 ^ 62) <= i /\ i < 2 ^ 62 /\ -(2 ^ 62) <= j /\ j < 2 ^ 62) /\ (j - i).toNat <= sizeLine /\ ∀ l, H l = none -> Q (.ref l) (upd H l (.lst (Dq i (j - i).toNat)))) := by
 intro pins s σ H xs us Q I r h
 obtain ⟨p, i, j, rfl, hp, ⟨h1, h2, h3, h4⟩, hz, q⟩ := h
 obtain ⟨u, rfl, rx⟩ := vals1 r
 cases rx
 obtain ⟨t, u, v, ho⟩ := I.hok p _ hp
 have hn : Builtin.Range.rangeSize i j 1 = ((j - i).toNat : Nat) := by rw [rangeSize_one]; split <;> omega
 refine call_list_range (I.ok.hd hc) ho (small_one h1 h2 h3 h4) hn (by rw [sizeLine_eq] at hz; omega) λ h' tk acc' c' kp e it => ?_
 obtain ⟨e1, e2⟩ := it
 have hv : Vals (Dq i (j - i).toNat) acc'.toList := by
  unfold Dq
  rw [List.range_eq_range']
  refine uV (by simpa using e1) λ k v hk => ?_
  obtain ⟨t, q⟩ := e2 k v (by simpa using hk)
  exact ⟨t, by rw [q]; congr 1; first | done | omega⟩
 exact ⟨.ref s.heap.objs.size, _, I.laid (t' := tk) kp (Zg _) (show gk X.prog X.w _ h' _ (.lst _) from ⟨by rw [hv.length]; simpa [e1] using hz, acc'.toList, c', hv, by rw [Array.toArray_toList]; exact e⟩), rfl, q _ (I.hok.fresh (Zg _))⟩
def Aq (fs : AF) : LF := λ δ μ => (fs δ μ).bind λ r => match r.1 with
 | [.int j] => if -(2 ^ 62) <= j /\ j < 2 ^ 62 /\ j.toNat <= sizeLine then some (cX 0 j.toNat, r.2) else none
 | _ => none
theorem Am {K : PySem.W.Frag} {F : Hp} {ad : List Addr} {lo : Int} : ∀ (l : List Nat), az K F ad (l.map λ (k : Nat) => D.int (lo + (k : Int))) (l.map λ (k : Nat) => V.int (lo + (k : Int)))
 | [] => az.nil
 | k :: l => az.cons (by unfold bc; rfl) (Am l)
section
variable {X : Cx} {tb : List Addr} {a b : Expr} {fs : AF} {p p2 pos pos2 : Pos}
theorem Fj (hc : X.calm = true) (hm : X.mg "list" = none) (hm2 : X.mg "range" = none) (ha : PAD X tb [a] fs) (hg : Gl X "list" := by rfl) (hg2 : Gl X "range" := by rfl) (he : starEach [a] X.env = (false, eval a X.env) :: starEach [] X.env := by rfl)
  (he2 : starEach [.Call (.Name "range" p2) [a] [] pos2] X.env = (false, eval (.Call (.Name "range" p2) [a] [] pos2) X.env) :: starEach [] X.env := by rfl) :
  PDN X tb (.Call (.Name "list" p) [.Call (.Name "range" p2) [a] [] pos2] [] pos) (Aq fs) :=
 dO (pY (uh hc) hg hm PyProof.Rows.boot_list (lM (pY Bv hg2 hm2 PyProof.Rows.boot_range ha (by decide) (by decide) he (by rfl)) sy he2) (by decide) (by decide) he2 (by rfl)) λ σ H Q zq3 => by
  obtain ⟨W, δ, ds, μ', e, ok, hd, hf, k⟩ := zq3
  unfold Aq at hf
  obtain ⟨⟨xs, μ1⟩, e1, e2⟩ := Za.mp hf
  match xs, e1, e2 with
  | [.int j], e1, e2 =>
   have e2' : (if -(2 ^ 62) <= j /\ j < 2 ^ 62 /\ j.toNat <= sizeLine then some (cX 0 j.toNat, μ1) else none) = some (ds, μ') := e2
   split at e2'
   .rename_i hj
    cases e2'
    refine ⟨W, δ, [.int j], _, e, ok, hd, e1, λ vs W1 ok1 l1 m1 d1 => ?_⟩
    obtain ⟨v, rfl, dv⟩ := az.one d1
    rw [bA dv]
    refine ⟨j, rfl, λ q hq => ?_⟩
    obtain ⟨ok2, l2, eq⟩ := ok1.alloc (o := .rng 0 j) hq
    refine ⟨q, 0, j, rfl, dC, ⟨by omega, by omega, by omega, by omega⟩, by simpa using hj.2.2, λ l hl => ?_⟩
    have := k l (Dq 0 (j - 0).toNat) _ ok2 (l1.trans l2) m1 hl (by simpa [cX, Dq] using Am (List.range j.toNat) (lo := 0))
    exact this
   .cases e2'
end
def Gn (f : EF) : EF := λ δ μ => (f δ μ).bind λ r => match r.1 with
 | .cell n => (r.2.getD n none).map λ ds => (.lst ds, r.2.set n none)
 | d => some (d, r.2)
theorem Kf {X : Cx} {tb : List Addr} {e : Expr} {f : EF} (h : PD X tb e f) : PD X tb e (Gn f) :=
 dO h λ σ H Q zq1 => by
  obtain ⟨W, δ, d, μ', e, ok, hd, hf, k⟩ := zq1
  unfold Gn at hf
  obtain ⟨⟨x, μ1⟩, e1, e2⟩ := Za.mp hf
  refine ⟨W, δ, x, μ1, e, ok, hd, e1, λ v W1 ok1 l1 m1 d1 => ?_⟩
  cases x with
  | cell n =>
   obtain ⟨ds, e3, e4⟩ := Zp.mp e2
   cases e4
   obtain ⟨a, rfl, ea⟩ := fQ d1
   have em : W1.mu[n]? = some (some ds) := by
    rw [m1]
    rw [List.getD_eq_getElem?_getD] at e3
    cases q : μ1[n]? with
    | none => rw [q] at e3; cases e3
    | some z => rw [q] at e3; exact congrArg some e3
   obtain ⟨ok2, l2, d2⟩ := ok1.freeze ea em
   exact k _ ⟨W1.H, W1.ad, W1.mu.set n none⟩ ok2 (l1.trans l2) (by show W1.mu.set n none = _; rw [m1]) d2
  | _ => cases e2; exact k v W1 ok1 l1 m1 d1
mutual
def cLt (m : Nat) : D -> Bool
 | .tup ds => kj m ds
 | .lst ds => kj m ds
 | .ro ds => kj m ds
 | .dic kvs => yE m kvs
 | .cell n => decide (n < m)
 | _ => true
def kj (m : Nat) : List D -> Bool
 | [] => true
 | d :: ds => cLt m d && kj m ds
def yE (m : Nat) : List (Key × D) -> Bool
 | [] => true
 | p :: ds => cLt m p.2 && yE m ds
end
section
variable {K : PySem.W.Frag} {F F' : Hp} {ad : List Addr} {m : Nat}
mutual
theorem bc.cut (s : jZ F F') : ∀ (d : D) (v : V), cLt m d = true -> bc K F ad d v -> bc K F' (ad.take m) d v
 | .non, v, _, h => by unfold bc at h ⊢; exact h
 | .bl _, v, _, h => by unfold bc at h ⊢; exact h
 | .int _, v, _, h => by unfold bc at h ⊢; exact h
 | .str _, v, _, h => by unfold bc at h ⊢; exact h
 | .tup ds, v, c, h => by
  unfold bc at h ⊢; unfold cLt at c
  obtain ⟨a, xs, e, q, r⟩ := h
  exact ⟨a, xs, e, SqT.mono s q, az.cut s ds xs c r⟩
 | .lst ds, v, c, h => by
  unfold bc at h ⊢; unfold cLt at c
  obtain ⟨a, xs, e, q, r⟩ := h
  exact ⟨a, xs, e, s _ _ q, az.cut s ds xs c r⟩
 | .ro ds, v, c, h => by
  unfold bc at h ⊢; unfold cLt at c
  obtain ⟨a, xs, e, q, r⟩ := h
  exact ⟨a, xs, e, SqL.mono s q, az.cut s ds xs c r⟩
 | .dic kvs, v, c, h => by
  unfold bc at h ⊢; unfold cLt at c
  obtain ⟨a, ps, e, q, r⟩ := h
  exact ⟨a, ps, e, s _ _ q, gK.cut s kvs ps c r⟩
 | .cell n, v, c, h => by
  unfold bc at h ⊢; unfold cLt at c
  obtain ⟨a, e, q⟩ := h
  exact ⟨a, e, by rw [List.getElem?_take_of_lt (by simpa using c)]; exact q⟩
theorem az.cut (s : jZ F F') : ∀ (ds : List D) (vs : List V), kj m ds = true -> az K F ad ds vs -> az K F' (ad.take m) ds vs
 | [], vs, _, h => by unfold az at h ⊢; exact h
 | d :: ds, vs, c, h => by
  unfold az at h ⊢; unfold kj at c
  have c := (Zo _ _).mp c
  obtain ⟨u, us, e, p, r⟩ := h
  exact ⟨u, us, e, bc.cut s d u c.1 p, az.cut s ds us c.2 r⟩
theorem gK.cut (s : jZ F F') : ∀ (ds : List (Key × D)) (vs : List (Key × V)), yE m ds = true -> gK K F ad ds vs -> gK K F' (ad.take m) ds vs
 | [], vs, _, h => by unfold gK at h ⊢; exact h
 | p :: ds, vs, c, h => by
  unfold gK at h ⊢; unfold yE at c
  have c := (Zo _ _).mp c
  obtain ⟨u, us, e, ⟨p1, p2⟩, r⟩ := h
  exact ⟨u, us, e, ⟨p1, bc.cut s p.2 u.2 c.1 p2⟩, gK.cut s ds us c.2 r⟩
end
end
def cOk (m : Nat) (μ : Mu) : Bool := μ.all λ o => match o with
 | some ds => kj m ds
 | none => true
theorem WOk.cut {K : PySem.W.Frag} {tb : List Addr} {W : Wd} {m : Nat} (ok : WOk K tb W) (c : cOk m (W.mu.take m) = true) :
  WOk K tb ⟨W.H, W.ad.take m, W.mu.take m⟩ /\ jZ (W.fz tb) (Wd.fz tb ⟨W.H, W.ad.take m, W.mu.take m⟩) := by
 have lv : ∀ b, kO (W.ad.take m) (W.mu.take m) b -> kO W.ad W.mu b := λ b zq2 => by
  obtain ⟨i, es, e1, e2⟩ := zq2
  have h1 : i < m := by have := (Zh.mp e1).1; simp at this; omega
  rw [List.getElem?_take_of_lt h1] at e1 e2
  exact ⟨i, es, e1, e2⟩
 have sm : jZ (W.fz tb) (Wd.fz tb ⟨W.H, W.ad.take m, W.mu.take m⟩) := λ b u e => by
  obtain ⟨e1, e2, e3⟩ := cY e
  have q := mG (tb := tb) (W := ⟨W.H, W.ad.take m, W.mu.take m⟩) (b := b) (λ z => e2 (lv b z)) e3
  rw [q]; exact e1
 refine ⟨⟨by simp [ok.len], λ i a ds e1 e2 => ?_, λ i j a ds es e1 e2 e3 e4 => ?_, ok.tab⟩, sm⟩
 .have h1 : i < m := by have := (Zh.mp e1).1; simp at this; omega
  have cd : kj m ds = true := by
   have := List.all_eq_true.mp c (some ds) (List.mem_of_getElem? e2)
   exact this
  have e1' : (W.ad.take m)[i]? = some a := e1
  have e2' : (W.mu.take m)[i]? = some (some ds) := e2
  rw [List.getElem?_take_of_lt h1] at e1' e2'
  obtain ⟨xs, e, r⟩ := ok.cont i a ds e1' e2'
  exact ⟨xs, e, az.cut sm ds xs cd r⟩
 .have h1 : i < m := by have := (Zh.mp e1).1; simp at this; omega
  have h2 : j < m := by have := (Zh.mp e2).1; simp at this; omega
  have e1' : (W.ad.take m)[i]? = some a := e1
  have e2' : (W.ad.take m)[j]? = some a := e2
  have e3' : (W.mu.take m)[i]? = some (some ds) := e3
  have e4' : (W.mu.take m)[j]? = some (some es) := e4
  rw [List.getElem?_take_of_lt h1] at e1' e3'
  rw [List.getElem?_take_of_lt h2] at e2' e4'
  exact ok.inj i j a ds es e1' e2' e3' e4'
def trunc (φ : FF) : FF := λ ds μ => (φ ds μ).bind λ r => if (cLt μ.length r.1 && cOk μ.length (r.2.take μ.length)) = true then some (r.1, r.2.take μ.length) else some r
theorem FI.trunc {P : Program} {w : World} {K : PySem.W.Frag} {mg : Str -> Option Value} {base : Heap} {tb : List Addr} {x : Str} {n k : Nat} {φ : FF} (F : FI P w K mg base tb x n k φ) : FI P w K mg base tb x n k (trunc φ) := by
 obtain ⟨f, fd, ps, h1, h2⟩ := F.is
 refine ⟨f, fd, ps, h1.imp λ vs H Q E ⟨W, ds, d, μ', e, ok, dl, hl, hf, k⟩ => ?_, h2⟩
 unfold L3.trunc at hf
 obtain ⟨⟨d1, μ1⟩, e1, e2⟩ := Za.mp hf
 split at e2
 .rename_i hc
  have hc := (Zo _ _).mp hc
  cases e2
  refine ⟨W, ds, d1, μ1, e, ok, dl, hl, e1, λ v W' ok' l' m' d' => ?_⟩
  obtain ⟨ok2, sm⟩ := ok'.cut (m := W.mu.length) (by rw [m']; exact hc.2)
  exact k v ⟨W'.H, W'.ad.take W.mu.length, W'.mu.take W.mu.length⟩ ok2 ⟨l'.same.trans sm, λ i x q => by
   have hi : i < W.mu.length := by rw [<- ok.len]; exact (Zh.mp q).1
   show (W'.ad.take W.mu.length)[i]? = some x
   rw [List.getElem?_take_of_lt hi]; exact l'.ad i x q⟩ (by show W'.mu.take _ = _; rw [m']) (bc.cut sm d1 v hc.1 d')
 .cases e2
  exact ⟨W, ds, d, μ', e, ok, dl, hl, e1, k⟩
theorem pQ {φ : FF} {ds : List D} {μ μ' : Mu} {d : D} (h : φ ds μ = some (d, μ')) (hl : μ'.length = μ.length) : trunc φ ds μ = some (d, μ') := by
 unfold trunc
 rw [h]
 simp only [Option.bind_some]
 rw [<- hl, List.take_length]
 split <;> rfl
theorem fH {φ : FF} {ds : List D} {μ : Mu} {d : D} (h : φ ds μ = some (d, μ)) : trunc φ ds μ = some (d, μ) := pQ h rfl
def eqF : D -> D -> Bool
 | .non, .non => true
 | .bl a, .bl b => a == b
 | .bl a, .int b => (if a then 1 else 0) == b
 | .int a, .bl b => a == (if b then 1 else 0)
 | .int a, .int b => a == b
 | .str a, .str b => a == b
 | _, _ => false
def inF (x : D) (ds : List D) : Bool := ds.any λ y => eqF y x
def jX : D -> Mu -> Option (List D)
 | .lst ds, _ => some ds
 | .cell n, μ => (μ[n]?).join
 | _, _ => none
theorem lY {K : PySem.W.Frag} {tb : List Addr} {W : Wd} {x : D} {v : V} {ds : List D} (ok : WOk K tb W) (h : Den K tb W x v) (e : jX x W.mu = some ds) : ∃ a xs, v = .ref a /\ W.H a = some (.lst xs) /\ bN K tb W ds xs := by
 cases x with
 | lst es =>
  cases e
  obtain ⟨a, xs, rfl, q, r⟩ := ou h
  exact ⟨a, xs, rfl, (cY q).1, r⟩
 | cell n =>
  obtain ⟨a, rfl, q⟩ := fQ h
  have e : (W.mu[n]?).join = some ds := e
  cases e2 : W.mu[n]? with
  | none => rw [e2] at e; cases e
  | some o =>
   rw [e2] at e
   have e : o = some ds := e
   subst e
   obtain ⟨xs, ex, r⟩ := ok.cont n a ds q e2
   exact ⟨a, xs, rfl, ex, r⟩
 | _ => cases e
def BK (fa fb : EF) : LF := λ δ μ => (fa δ μ).bind λ r => (fb δ r.2).bind λ q => (jX r.1 q.2).bind λ xs => (jX q.1 q.2).bind λ ys => if xs.length + ys.length <= sizeLine then some (xs ++ ys, q.2) else none
theorem Bh {X : Cx} {tb : List Addr} {a b : Expr} {fa fb : EF} {pos : Pos} (ha : PD X tb a fa) (hb : PD X tb b fb) : PDN X tb (.BinOp a .Add b pos) (BK fa fb) :=
 dO (JB CG ha hb) λ σ H Q zq3 => by
  obtain ⟨W, δ, ds, μ', e, ok, hd, hf, h⟩ := zq3
  unfold BK at hf
  obtain ⟨⟨x, μ1⟩, e1, hf⟩ := Za.mp hf
  obtain ⟨⟨y, μ2⟩, e2, hf⟩ := Za.mp hf
  obtain ⟨xs, e3, hf⟩ := Za.mp hf
  obtain ⟨ys, e4, hf⟩ := Za.mp hf
  refine ⟨W, δ, x, μ1, e, ok, hd, e1, λ v W1 ok1 l1 m1 d1 => ⟨W1, δ, y, μ2, rfl, ok1, hd.mono' l1, (by rw [m1]; exact e2), λ u W2 ok2 l2 m2 d2 => ?_⟩⟩
  have d1 := Den.mono' d1 l2
  split at hf
  .rename_i hz
   cases hf
   obtain ⟨a1, us, rfl, q1, r1⟩ := lY ok2 d1 (by rw [m2]; exact e3)
   obtain ⟨a2, ws, rfl, q2, r2⟩ := lY ok2 d2 (by rw [m2]; exact e4)
   exact ⟨a1, a2, us, ws, rfl, rfl, q1, q2, by rw [<- az.length r1, <- az.length r2]; exact hz, λ p hp => h p _ W2 ok2 (l1.trans l2) m2 hp (az.append r1 r2)⟩
  .cases hf
theorem us1 {α : Type} {P : List α -> Prop} (h : ∀ a, P [a]) : ∀ us : List α, us.length = 1 -> P us
 | [a], _ => h a
theorem us2 {α : Type} {P : List α -> Prop} (h : ∀ a b, P [a, b]) : ∀ us : List α, us.length = 2 -> P us
 | [a, b], _ => h a b
theorem us3 {α : Type} {P : List α -> Prop} (h : ∀ a b c, P [a, b, c]) : ∀ us : List α, us.length = 3 -> P us
 | [a, b, c], _ => h a b c
structure Got (K : PySem.W.Frag) (x : Str) (st : Stmt) (f c P : Addr) (fd : FuncData) : Prop where
 F : fK K x x st f fd P
 m : PySem.W.nsIn K mainGlobals x = some (some (.ref f))
 t : PySem.W.tabIn K x = some (c, P)
 e : ∃ kV dc pm an ct, fd = PySem.W.fnOf x x (jO st) (gY st) (aO st) .none kV dc pm an (.ref c) ct
theorem JQ {K : PySem.W.Frag} {x : Str} {st : Stmt} {f c P : Addr} {oc : Value} {od an : Option Addr} {osl : Array (Option Value)} {kV doc pm ct : Value} {dd : Option Addr} {vs : Array Value} {sl : Array (Option Value)} (a : PySem.W.nsIn K mainGlobals x = some (some (.ref f)))
  (l : K.lookup f = some ⟨oc, od, .func (PySem.W.fnOf x x (jO st) (gY st) (aO st) .none kV doc pm an (.ref c) ct), osl⟩) (hc : PySem.W.codeIn K (.ref c) x = true) (k : PySem.W.keepIn K (.ref f) = true)
  (lc : K.lookup c = some ⟨.type "code", dd, .fields vs, sl⟩) (p : vs[11]? = some (.ref P)) (q : vQ vs = true) (ne : (c != P) = true) : ∃ f c P fd, Got K x st f c P fd :=
 ⟨f, c, P, _, Ig l hc k lc p q ne, a, Lx a l rfl lc p, kV, doc, pm, an, ct, rfl⟩
end L3
namespace L2
open PySem PySem.Spec PyProof.Rows PySem.W
def uw {α : Type} (f : Nat -> Nat -> Bool) : KasT α -> α
 | .ret a => a
 | .ask i j k => uw f (k (f i j))
def dB {α : Type} (n : Nat) (R : α -> Prop) : KasT α -> Prop
 | .ret a => R a
 | .ask i j k => i < n /\ j < n /\ ∀ b, dB n R (k b)
theorem dB.bind {α β : Type} {n : Nat} {R : α -> Prop} {R' : β -> Prop} {f : α -> KasT β} (hf : ∀ a, R a -> dB n R' (f a)) : ∀ {t : KasT α}, dB n R t -> dB n R' (t.bind f)
 | .ret a, h => hf a h
 | .ask i j k, h => ⟨h.1, h.2.1, λ b => dB.bind hf (h.2.2 b)⟩
theorem dB.run {α : Type} {n : Nat} {R : α -> Prop} {f : Nat -> Nat -> Bool} : ∀ {t : KasT α}, dB n R t -> R (uw f t)
 | .ret a, h => h
 | .ask i j k, h => show R (uw f (k (f i j))) from dB.run (t := k (f i j)) (h.2.2 (f i j))
theorem dB.wp {α : Type} {n : Nat} {R : α -> Prop} {f : Nat -> Nat -> Bool} {cmp : Nat -> Nat -> (Bool -> Shared -> Prop) -> Shared -> Prop} {s : Shared} (hc : ∀ i j (C : Bool -> Shared -> Prop), i < n -> j < n -> C (f i j) s -> cmp i j C s) {Q : α -> Shared -> Prop} :
  ∀ {t : KasT α}, dB n R t -> Q (uw f t) s -> t.kasWp cmp Q s
 | .ret a, _, q => q
 | .ask i j k, h, q => hc i j _ h.1 h.2.1 (dB.wp hc (h.2.2 (f i j)) q)
def eY (n : Nat) (p : Array Nat) : Prop := p.toList.Perm (List.range n)
theorem eY.getD {n : Nat} {p : Array Nat} (h : eY n p) (h0 : 0 < n) (k : Nat) : p.getD k 0 < n := by
 unfold Array.getD
 split
 .rename_i hk
  have : p.getInternal k hk ∈ p.toList := by
   show p[k] ∈ p.toList
   simp
  exact List.mem_range.mp (h.mem_iff.mp this)
 .exact h0
theorem eY.of {n : Nat} {p q : Array Nat} (h : eY n p) (e : q.Perm p) : eY n q := (Array.perm_iff_toList_perm.mp e).trans h
theorem eY.rev {n : Nat} {p : Array Nat} (h : eY n p) (i j : Nat) : eY n (kas_rev p i j) := h.of (mirror_perm _ _ _ _)
theorem tK {n : Nat} {p : Array Nat} (hp : eY n p) (h0 : 0 < n) : ∀ (f k : Nat), dB n (λ _ => True) (kas_asc p f k)
 | 0, k => trivial
 | f + 1, k => ⟨hp.getD h0 _, hp.getD h0 _, λ b => by
  cases b
  .exact tK hp h0 f (k + 1)
  .exact trivial⟩
theorem lJ {n : Nat} (h0 : 0 < n) : ∀ (f : Nat) (p : Array Nat) (k q : Nat), eY n p -> dB n (λ r => eY n r.1) (kas_desc f p k q)
 | 0, p, k, q, hp => hp
 | f + 1, p, k, q, hp => ⟨hp.getD h0 _, hp.getD h0 _, λ b => by
  cases b
  .refine ⟨hp.getD h0 _, hp.getD h0 _, λ c => ?_⟩
   cases c
   .exact lJ h0 f p (k + 1) (q + 1) hp
   .exact hp
  .show dB n _ (if true = true then (if q > 0 then kas_desc f (kas_rev p (k - (q + 1)) k) (k + 1) 0 else kas_desc f p (k + 1) 0) else _)
   rw [if_pos rfl]
   split
   .exact lJ h0 f _ (k + 1) 0 (hp.rev _ _)
   .exact lJ h0 f p (k + 1) 0 hp⟩
theorem rJ {n : Nat} (h0 : 0 < n) {p : Array Nat} (hp : eY n p) (a b : Nat) : dB n (λ r => eY n r.2) (kas_tail3 a b p) := by
 unfold kas_tail3
 refine dB.bind (R := λ _ => True) (λ m _ => ?_) (tK (hp.rev _ _) h0 _ _)
 exact hp.rev 0 a
theorem mR {n : Nat} (h0 : 0 < n) {p : Array Nat} (hp : eY n p) (a b : Nat) : dB n (λ r => eY n r.2) (kas_descPart a b p) :=
 dB.bind (λ r hr => by
  split
  .exact rJ h0 (eY.rev hr _ _) _ _
  .exact rJ h0 hr _ _) (lJ h0 _ p _ _ hp)
theorem zH {n : Nat} (h0 : 0 < n) {p : Array Nat} (hp : eY n p) (a : Nat) : dB n (λ r => eY n r.2) (kas_count a p) :=
 dB.bind (λ m _ => by
  split
  .exact hp
  .split
   .refine ⟨hp.getD h0 _, hp.getD h0 _, λ c => ?_⟩
    cases c
    .exact mR h0 (hp.rev _ _) _ _
    .exact hp
   .exact mR h0 hp _ _) (tK hp h0 _ _)
theorem mW {n : Nat} (h0 : 0 < n) {p : Array Nat} (hp : eY n p) (k : Nat) : ∀ (f l r : Nat), dB n (λ _ => True) (kas_place p k f l r)
 | 0, l, r => trivial
 | f + 1, l, r => by
  unfold kas_place
  split
  .exact trivial
  .refine ⟨hp.getD h0 _, hp.getD h0 _, λ c => ?_⟩
   cases c
   .exact mW h0 hp k f _ _
   .exact mW h0 hp k f _ _
theorem wW {n : Nat} (h0 : 0 < n) : ∀ (f : Nat) (p : Array Nat) (k : Nat), eY n p -> dB n (eY n) (kas_bin f p k)
 | 0, p, k, hp => hp
 | f + 1, p, k, hp => dB.bind (λ l _ => wW h0 f _ (k + 1) (hp.of (bubble_perm _ _ _))) (mW h0 hp k _ _ _)
theorem qd {n : Nat} (h0 : 0 < n) : dB n (eY n) (kas_sort n) :=
 dB.bind (λ r hr => by
  split
  .exact wW h0 _ _ _ hr
  .exact hr) (zH h0 (show (List.range n).Perm (List.range n) from List.Perm.refl _) n)
def iI (f : Nat -> Nat -> Bool) (n : Nat) : List Nat := if 2 <= n then (uw f (kas_sort n)).toList else List.range n
theorem jm (f : Nat -> Nat -> Bool) (n : Nat) : (iI f n).Perm (List.range n) := by
 unfold iI
 split
 .exact dB.run (qd (by omega))
 .exact List.Perm.refl _
theorem gH (f : Nat -> Nat -> Bool) (n : Nat) : (iI f n).length = n := by
 rw [(jm f n).length_eq, List.length_range]
theorem range_getD {α : Type} (z : α) (vs : List α) : (List.range vs.length).map (λ i => vs.getD i z) = vs := by
 apply List.ext_getElem?
 intro i
 rw [List.getElem?_map]
 by_cases h : i < vs.length
 .rw [List.getElem?_range h]
  simp [h]
 .rw [List.getElem?_eq_none (by simpa using h), List.getElem?_eq_none (by simpa using h)]
  rfl
section
variable {prog : Program} {w : World} {A : Around} {E : Value -> Shared -> Prop} {s : Shared} {a : Addr} {vs : List Value} {f : Nat -> Nat -> Bool}
def Cmp (prog : Program) (w : World) (A : Around) (vs : List Value) (f : Nat -> Nat -> Bool) (s : Shared) : Prop :=
 wpAny (model prog w) A (keyKind' vs.toArray) (λ κ s' => s' = s /\ ∀ i j (C : Bool -> Shared -> Prop), i < vs.length -> j < vs.length -> C (f i j) s -> kas_ask prog w A κ vs i j C s) (λ _ _ => False) s
theorem BJ {n : Nat} {P : PySem.Fin -> Shared -> Prop} (ho : s.heap.get? a = some (seqObj "list" vs.toArray n)) (h64 : vs.length < 64)
  (hk : 2 <= vs.length -> ∀ h', (∀ b o, b ≠ a -> s.heap.get? b = some o -> h'.get? b = some o) -> Cmp prog w A vs f { s with heap := h' })
  (h : ∀ h' c, (∀ b o, b ≠ a -> s.heap.get? b = some o -> h'.get? b = some o) -> h'.get? a = some (seqObj "list" ((iI f vs.length).map λ i => vs.getD i Value.none).toArray c) -> P (.done (.ret .none)) { s with heap := h' }) :
  wpAny (model prog w) A (Builtin.«list.sort» ⟨[.ref a], []⟩) P E s := by
 have upd1 := λ (g : Heap) (q : Array Value -> Array Value) => Heap.SameBut.update g a (Obj.mapSeq q)
 have e1 := get?_update_seq ho λ _ => (#[] : Array Value)
 generalize hc1 : (if (#[] : Array Value).size == vs.toArray.size then n else n + 1) = c1 at e1
 rw [list_sort_plain]
 refine wpAny_bind (listItems_at ho rfl ?_)
 refine wpAny_bind (listUpdate_at ho rfl ?_ (by rw [Zd, sizeLine_eq]; omega) (Nat.zero_le _))
 refine wpAny_bind (seqEpoch_at e1 rfl ?_)
 refine wpAny_bind (wpAny_newTuple ?_ (by show vs.length <= _; rw [sizeLine_eq]; omega))
 refine wpAny_bind (wpAny_newList ?_ (Nat.zero_le _))
 refine wpAny_holding ?_
 generalize hg : ((s.heap.update a (Obj.mapSeq λ _ => (#[] : Array Value))).push (seqObj "tuple" vs.toArray 0)).push (seqObj "list" #[] 0) = g
 have kg : ∀ b o, b ≠ a -> s.heap.get? b = some o -> g.get? b = some o := λ b o hb e => by
  rw [<- hg]
  exact Zb _ (Zb _ (((upd1 s.heap _).2 b hb).trans e))
 have ag : g.get? a = some (seqObj "list" #[] c1) := by
  rw [<- hg]
  exact Zb _ (Zb _ e1)
 have fin : ∀ (out : Array Value), out.size = vs.length -> out = ((iI f vs.length).map λ i => vs.getD i Value.none).toArray -> P (.done (.ret .none)) { s with heap := g.update a (Obj.mapSeq λ _ => out) } := λ out hsz ho' => by
  have e2 := get?_update_seq ag λ _ => out
  rw [ho'] at e2 ⊢
  exact h _ _ (λ b o hb e => ((upd1 g _).2 b hb).trans (kg b o hb e)) e2
 show wpAny (model prog w) A _ P E { s with heap := g }
 dsimp only
 by_cases h2 : vs.toArray.size < 2
 .rw [if_pos h2, if_pos h2]
  refine wpAny_bind (wpAny_pure ?_)
  rw [StateT.run_pure]
  refine wpAny_bind (wpAny_pure ?_)
  dsimp only
  have hz : (vs.toArray.zip vs.toArray).map (λ p => p.2) = vs.toArray := by
   apply Array.toList_inj.mp
   rw [Array.toList_map]
   simp [List.map_snd_zip]
  have hA : (arrOf (SortSt.mk' general' (vs.toArray.zip vs.toArray) #[] 7 none)).map (·.2) = vs.toArray := hz
  rw [hA]
  refine wpAny_bind (seqEpoch_at ag rfl ?_)
  refine wpAny_bind (listUpdate_at ag rfl ?_ (Nat.zero_le _) (by rw [Zd, sizeLine_eq]; omega))
  simp only [bne_self_eq_false, Bool.false_eq_true, if_false]
  refine wpAny_pure (fin _ (by simp) ?_)
  rw [Zd] at h2
  unfold iI
  rw [if_neg (by omega), range_getD]
 .rw [if_neg h2, if_neg h2]
  rw [Zd] at h2
  refine wpAny_bind (wpAny_mono (hk (by omega) g kg) (λ κ s' hs => ?_) λ _ _ x => x.elim)
  obtain ⟨rfl, hask⟩ := hs
  have good : (kas_sort vs.length).kasWp (kas_ask prog w A κ vs) (λ p s' => p = uw f (kas_sort vs.length) /\ s' = { s with heap := g }) { s with heap := g } :=
   dB.wp (n := vs.length) (f := f) (R := eY vs.length) (λ i j C hi hj hC => hask i j C hi hj hC) (qd (by omega)) ⟨rfl, rfl⟩
  refine wpAny_bind (wpAny_mono (kat_run (Q := λ st' s' => s' = { s with heap := g } /\ failedOf st' = none /\ (arrOf st').map (·.2) = List.toArray ((uw f (kas_sort vs.length)).toList.map λ i => vs.getD i Value.none)) rfl (by omega) h64 (λ p st' s' a1 a2 a3 a4 => ⟨a4.2, a3, by rw [<- a4.1]; exact kat_snds rfl a2⟩) good) ?_ λ _ _ e => e)
  rintro ⟨⟨⟩, st'⟩ s' ⟨rfl, hf, har⟩
  dsimp only
  rw [har]
  have hlen : (List.toArray ((uw f (kas_sort vs.length)).toList.map λ i => vs.getD i Value.none)).size = vs.length := by
   have := gH f vs.length
   unfold iI at this
   rw [if_pos (by omega)] at this
   rw [Zd, Zu, this]
  refine wpAny_bind (seqEpoch_at ag rfl ?_)
  refine wpAny_bind (listUpdate_at ag rfl ?_ (Nat.zero_le _) (Zl (Nat.le_of_eq hlen) (by rw [sizeLine_eq]; omega)))
  rw [hf]
  simp only [bne_self_eq_false, Bool.false_eq_true, if_false]
  refine wpAny_pure (fin _ hlen ?_)
  unfold iI
  rw [if_pos (by omega)]
theorem yO {l : Addr} {Q : Value -> Shared -> Prop} (hl : s.heap.IsList l vs.toArray) (h64 : vs.length < 64)
  (hk : 2 <= vs.length -> ∀ h', (∀ b o, s.heap.get? b = some o -> h'.get? b = some o) -> Cmp prog w A.in1.in1 vs f { s with heap := h' })
  (h : ∀ D h' c, (∀ b o, s.heap.get? b = some o -> h'.get? b = some o) -> s.heap.objs.size <= D -> h'.get? D = some (seqObj "list" ((iI f vs.length).map λ i => vs.getD i Value.none).toArray c) -> Q (.ref D) { s with heap := h' }) :
  wpAny (model prog w) A (call (.builtin "sorted") [.ref l]) Q E s := by
 refine Calls.call_function_entry kind_sorted plain_sorted entry_sorted (args_sorted1 _) ?_
 unfold Builtin.«sorted»
 refine wpAny_bind (m := checkCount "sorted" 1 1 _) (wpAny_pure ?_)
 refine wpAny_bind (collect_list hl ?_ (by rw [sizeLine_eq]; omega))
 refine wpAny_bind (wpAny_newList ?_ (by rw [sizeLine_eq]; omega))
 generalize hg1 : (s.heap.push (seqObj "list" #[] 0)).update s.heap.objs.size (Obj.mapSeq (· ++ vs.toArray)) = g1
 have k1 : ∀ b o, s.heap.get? b = some o -> g1.get? b = some o := λ b o q => by
  rw [<- hg1, Heap.get?_update_ne _ _ _ _ (Zk (Ze q)), Heap.get?_push_ne _ _ _ (Zk (Ze q))]
  exact q
 have z1 : g1.objs.size = s.heap.objs.size + 1 := by rw [<- hg1, Heap.size_update, size_push']
 have k2 : ∀ b o, s.heap.get? b = some o -> (g1.push (seqObj "list" vs.toArray 0)).get? b = some o := λ b o q => Zb _ (k1 b o q)
 have o2 : (g1.push (seqObj "list" vs.toArray 0)).get? g1.objs.size = some (seqObj "list" vs.toArray 0) := Zf _ rfl
 show wpAny _ _ _ _ _ { s with heap := g1.push (seqObj "list" vs.toArray 0) }
 have hle : s.heap.objs.size <= g1.objs.size := by omega
 generalize g1.push (seqObj "list" vs.toArray 0) = g2 at *
 generalize g1.objs.size = D at *
 refine wpAny_bind (wpAny_holding (wpAny_call_entry slot_list_sort ⟨_, o2, rfl⟩ entry_list_sort ?body (args_list_sort _)))
 case body =>
  have ne : ∀ b o, s.heap.get? b = some o -> b ≠ D := λ b o q => Zk (Zc (Ze q) hle)
  refine BJ (s := { s with heap := g2 }) (f := f) o2 h64 (λ h2 h' k' => hk h2 h' λ b o q => k' b o (ne b o q) (k2 b o q)) λ h' c k' e' => ⟨_, rfl, ?_⟩
  exact wpAny_pure ⟨_, rfl, h D h' c (λ b o q => k' b o (ne b o q) (k2 b o q)) hle e'⟩
end
theorem tX : ∀ {a b : List Int}, a.Perm b -> a.Pairwise (· <= ·) -> b.Pairwise (· <= ·) -> a = b
 | [], b, p, _, _ => (List.nil_perm.mp p).symm
 | x :: a, b, p, ha, hb => by
  cases b with
  | nil => exact absurd p.length_eq (by simp)
  | cons y b =>
   obtain ⟨hx, ha'⟩ := List.pairwise_cons.mp ha
   obtain ⟨hy, hb'⟩ := List.pairwise_cons.mp hb
   have e : x = y := by
    have m1 : x ∈ y :: b := p.mem_iff.mp (by simp)
    have m2 : y ∈ x :: a := p.mem_iff.mpr (by simp)
    rcases Zi.mp m1 with z | z
    .exact z
    .rcases Zi.mp m2 with w | w
     .exact w.symm
     .exact Int.le_antisymm (hx y w) (hy x z)
   subst e
   rw [tX (List.Perm.cons_inv p) ha' hb']
theorem pN : ∀ {ns : List Int} {us : List Value}, Vals (ns.map V.int) us -> IntsAre us ns
 | [], _, .nil => .nil
 | n :: ns, _, .cons ⟨t, e⟩ r => by subst e; exact .cons n t (pN r)
theorem zq {h : Heap} {a b : Addr} {o : Obj} {g : Obj -> Obj} (hb : b < a) (e : h.get? b = some o) : (h.update a g).get? b = some o := by
 rw [Heap.get?_update_ne _ _ _ _ (Zk hb)]; exact e
theorem tQ {h : Heap} {vs : List Value} {out : Array Value} {b : Addr} {o : Obj} (e : h.get? b = some o) : (sortedAll h vs out).get? b = some o := by
 have hb := Ze e
 unfold sortedAll sortedHeap
 exact zq (Nat.lt_succ_of_lt hb) (Zb _ (Zb _ (zq (Nat.lt_succ_of_lt hb) (Zb _ (zq hb (Zb _ e))))))
theorem sortedAll_at {h : Heap} {vs : List Value} {out : Array Value} : ∃ c, (sortedAll h vs out).get? (h.objs.size + 1) = some (seqObj "list" out c) := by
 unfold sortedAll
 generalize hg : (h.push (seqObj "list" #[] 0)).update h.objs.size (Obj.mapSeq (· ++ vs.toArray)) = g
 have hz : g.objs.size = h.objs.size + 1 := by rw [<- hg, Heap.size_update, size_push']
 have e0 : (g.push (seqObj "list" vs.toArray 0)).get? (h.objs.size + 1) = some (seqObj "list" vs.toArray 0) := by rw [<- hz]; exact Zf _ rfl
 unfold sortedHeap
 have e1 := get?_update_seq e0 λ _ => (#[] : Array Value)
 exact ⟨_, get?_update_seq (Zb _ (Zb _ e1)) λ _ => out⟩
theorem zB {X : Cx} : gR X (.builtin "sorted") (λ xs H Q => ∃ a ns, xs = [.ref a] /\ SqL X.K H a (ns.map V.int) /\ ns.length < 64 /\ ∀ p, H p = none -> Q (.ref p) (upd H p (.lst ((sortI ns).map V.int)))) := by
 intro pins s σ H xs us Q I r h
 obtain ⟨a, ns, rfl, hq, h64, q⟩ := h
 obtain ⟨u, rfl, rx⟩ := vals1 r
 cases rx
 obtain ⟨its, r', pl, hz⟩ := I.list hq
 have hI := pN r'
 have hl := r'.length
 rw [Zu] at hl hz
 refine sorted_ints pl.isList hI (by omega) λ out ns' i1 p1 o1 => ?_
 have e := tX (p1.trans (sortI_perm ns).symm) o1 (sortI_rises ns)
 subst e
 obtain ⟨c, ec⟩ := sortedAll_at (h := s.heap) (vs := its) (out := out)
 have hlen : (sortI ns).length = ns.length := (sortI_perm ns).length_eq
 refine ⟨.ref (s.heap.objs.size + 1), _, I.laid (t' := s.toks) (λ b o e => tQ e) (Nat.le_succ _) (show gk X.prog X.w _ _ _ (.lst ((sortI ns).map V.int)) from ⟨by rw [Zu, hlen]; exact hz, out.toList, c, pB i1, ?_⟩), rfl, q _ (I.hok.fresh (Nat.le_succ _))⟩
 rw [ec]
def Ey (h : Heap) (v : Value) (ks : List Int) : Prop := ∃ a o its n, v = .ref a /\ h.get? a = some o /\ o.cls = .type "tuple" /\ o.data = .seq (List.toArray its) n /\ IntsAre its ks
theorem xy {prog : Program} {w : World} {A : Around} {Q : Bool -> Shared -> Prop} {s : Shared} {fin : Bool} : ∀ {xs ys : List Value} {ms ns : List Int}, IntsAre xs ms -> IntsAre ys ns -> ms.length = ns.length -> ∀ (i : Nat) (k : Bool), fin = false -> Q (HT.lexLt ms ns) s -> KatLex prog w A k fin Q (xs.zip ys) i s
 | _, _, _, _, .nil, .nil, _, i, k, hf, h => by rw [hf]; exact h
 | _, _, _, _, .nil, .cons _ _ _, hl, _, _, _, _ => by cases hl
 | _, _, _, _, .cons _ _ _, .nil, hl, _, _, _, _ => by cases hl
 | _, _, _, _, .cons (vs := xs) (ns := ms) m t h1, .cons (vs := ys) (ns := ns) n u h2, hl, i, k, hf, h => by
  refine kat_cons (wpAny_eqBool_int ?_)
  unfold KatGo
  rw [HT.lexLt_cons] at h
  by_cases e : m = n
  .rw [if_pos e] at h
   rw [if_pos (by simpa using e)]
   exact xy h1 h2 (by simpa using hl) (i + 1) k hf h
  .rw [if_neg e] at h
   rw [if_neg (by simpa using e)]
   cases hb : (k && i == 0) with
   | true => exact oneLt_int h
   | false => exact kat_one _ _ (lt_int h)
theorem Dm {prog : Program} {w : World} {A : Around} {vs : List Value} {kss : List (List Int)} {s : Shared} {d : Nat} (hl : vs.length = kss.length) (h2 : 2 <= vs.length) (ht : ∀ i, i < vs.length -> Ey s.heap (vs.getD i .none) (kss.getD i [])) (hd : ∀ ks ∈ kss, ks.length = d + 1) :
  Cmp prog w A vs (λ i j => HT.lexLt (kss.getD i []) (kss.getD j [])) s := by
 have hdk : ∀ i, i < vs.length -> (kss.getD i []).length = d + 1 := λ i hi => by
  have : kss.getD i [] = kss[i] := by simp [List.getD, hl ▸ hi]
  rw [this]; exact hd _ (List.getElem_mem _)
 have firsts : ∀ (k : Nat) (us : List Value), us = vs.drop (vs.length - k) -> k <= vs.length -> ∃ fs : List Value, KatTups s.heap us fs /\ fs.length = k /\ ∀ v ∈ fs, ∃ n t, v = .int n t := by
  intro k
  induction k with
  | zero => intro us e _; subst e; exact ⟨[], by simp [KatTups], rfl, by simp⟩
  | succ k ih =>
   intro us e hk
   have hlt : vs.length - (k + 1) < vs.length := by omega
   obtain ⟨fs, f1, f2, f3⟩ := ih (vs.drop (vs.length - k)) rfl (by omega)
   rw [List.drop_eq_getElem_cons hlt] at e
   rw [show vs.length - (k + 1) + 1 = vs.length - k by omega] at e
   obtain ⟨a, o, its, n, ev, ho, hc, hdt, hi⟩ := ht _ hlt
   have ev' : vs[vs.length - (k + 1)] = .ref a := by rw [<- ev]; simp [List.getD, hlt]
   rw [ev'] at e
   subst e
   have hlen := hdk _ hlt
   generalize kss.getD (vs.length - (k + 1)) [] = ks at *
   cases hi with
   | nil => cases hlen
   | cons m t h1 =>
    rename_i r1 r2
    exact ⟨.int m t :: fs, KatTups.cons ho hc hdt (by simp) f1, by simp [f2], λ v hv => by
     rcases Zi.mp hv with z | z
     .exact ⟨m, t, z⟩
     .exact f3 v z⟩
 obtain ⟨fs, f1, f2, f3⟩ := firsts vs.length vs (by simp) (Zg _)
 refine kat_kind (T := .type "int") f1 (by omega) (λ v hv => ?_) rfl ⟨rfl, λ i j C hi hj hC => ?_⟩
 .obtain ⟨n, t, rfl⟩ := f3 v hv
  exact Looks.of_pure rfl
 .obtain ⟨a, o, its, n, ev, ho, hc, hdt, hI⟩ := ht i hi
  obtain ⟨a', o', its', n', ev', ho', hc', hdt', hI'⟩ := ht j hj
  have e1 := hdk i hi
  have e2 := hdk j hj
  have l1 := hI.length
  have l2 := hI'.length
  show wpAny _ _ (keyLt' _ (vs.getD i Value.none) (vs.getD j Value.none)) C _ s
  rw [ev, ev']
  refine kat_lt ho hdt ho' hdt' ?_
  simp only [List.toList_toArray]
  exact xy hI hI' (by omega) 0 _ (by rw [Zd, Zd]; exact decide_eq_false (by omega)) hC
theorem oA : ∀ {xs : List V} {us : List Value}, Vals xs us -> ∀ i, RelV (xs.getD i .non) (us.getD i .none)
 | _, _, .nil, i => by simp [RelV]
 | _, _, .cons r t, 0 => r
 | _, _, .cons r t, i + 1 => oA t i
theorem rQ {xs : List V} {us : List Value} (r : Vals xs us) : ∀ (is : List Nat), Vals (is.map λ i => xs.getD i .non) (is.map λ i => us.getD i .none)
 | [] => .nil
 | i :: is => .cons (oA r i) (rQ r is)
theorem zf {X : Cx} : gR X (.builtin "sorted") (λ xs H Q => ∃ (a : Addr) (ys : List V) (kss : List (List Int)) (d : Nat), xs = [.ref a] /\ SqL X.K H a ys /\ ys.length < 64 /\ ys.length = kss.length /\ (∀ ks ∈ kss, ks.length = d + 1) /\ (∀ i, i < ys.length -> ∃ p, ys.getD i .non = .ref p /\ SqT X.K H p ((kss.getD i []).map V.int)) /\
  ∀ p, H p = none -> Q (.ref p) (upd H p (.lst ((iI (λ i j => HT.lexLt (kss.getD i []) (kss.getD j [])) ys.length).map λ i => ys.getD i .non)))) := by
 intro pins s σ H xs us Q I r h
 obtain ⟨a, ys, kss, d, rfl, hq, h64, hl, hd, ht, q⟩ := h
 obtain ⟨u, rfl, rx⟩ := vals1 r
 cases rx
 obtain ⟨its, r', pl, hz⟩ := I.list hq
 have hlen := r'.length
 have tups : ∀ i, i < its.length -> Ey s.heap (its.getD i .none) (kss.getD i []) := λ i hi => by
  obtain ⟨p, ep, hT⟩ := ht i (by omega)
  have rl := oA r' i
  rw [ep] at rl
  have e : its.getD i .none = .ref p := rl
  obtain ⟨us, ru, ⟨o, ho, hc, n, hdt⟩, _⟩ := I.tuple hT
  exact ⟨p, o, us, n, e, ho, hc, hdt, pN ru⟩
 refine yO (f := λ i j => HT.lexLt (kss.getD i []) (kss.getD j [])) pl.isList (by omega) (λ h2 h' k' => ?_) λ D h' c k' hD ec => ?_
 .refine Dm (d := d) (by omega) h2 (λ i hi => ?_) hd
  obtain ⟨p, o, us, n, e1, e2, e3⟩ := tups i hi
  exact ⟨p, o, us, n, e1, k' _ _ e2, e3⟩
 .refine ⟨.ref D, _, I.laid (t' := s.toks) k' hD (show gk X.prog X.w _ _ _ (.lst ((iI (λ i j => HT.lexLt (kss.getD i []) (kss.getD j [])) ys.length).map λ i => ys.getD i .non)) from ⟨by rw [Zu, gH]; exact hz, _, c, ?_, ec⟩), rfl, q _ (I.hok.fresh hD)⟩
  rw [<- hlen]
  exact rQ r' _
end L2
namespace L3
open PySem PySem.Spec PyProof.Rows L2
def mD : List D -> Option (List Int)
 | [] => some []
 | .int i :: r => (mD r).map (i :: ·)
 | _ => none
def sX : List D -> Option (List (List Int))
 | [] => some []
 | .tup es :: r => (mD es).bind λ ks => (sX r).map (ks :: ·)
 | _ => none
def Fw (kss : List (List Int)) : Bool := kss.all λ ks => ks.length == (kss.headD []).length - 1 + 1
def qp (ds : List D) : Option (List D) := if ds.length < 64 then match mD ds with
  | some ns => some ((PySem.W.sortI ns).map .int)
  | none => match sX ds with
   | some kss => if Fw kss = true then some ((iI (λ i j => HT.lexLt (kss.getD i []) (kss.getD j [])) ds.length).map λ i => ds.getD i .non) else none
   | none => none
 else none
theorem tG : ∀ {ds : List D} {ns : List Int}, mD ds = some ns -> ds = ns.map .int
 | [], ns, h => by cases h; rfl
 | d :: r, ns, h => by
  cases d with
  | int i =>
   obtain ⟨ms, e, rfl⟩ := Zp.mp (show (mD r).map (i :: ·) = some ns from h)
   rw [tG e]; rfl
  | _ => cases h
theorem rM : ∀ (ns : List Int), mD (ns.map .int) = some ns
 | [] => rfl
 | n :: ns => by
  show (mD (ns.map .int)).map (n :: ·) = _
  rw [rM ns]; rfl
theorem ym : ∀ {ds : List D} {kss : List (List Int)}, sX ds = some kss -> ds = kss.map λ ks => .tup (ks.map .int)
 | [], kss, h => by cases h; rfl
 | d :: r, kss, h => by
  cases d with
  | tup es =>
   obtain ⟨ks, e1, h⟩ := Za.mp (show (mD es).bind (λ ks => (sX r).map (ks :: ·)) = some kss from h)
   obtain ⟨ms, e, rfl⟩ := Zp.mp h
   rw [ym e, tG e1]; rfl
  | _ => cases h
theorem yq : ∀ (kss : List (List Int)), sX (kss.map λ ks => .tup (ks.map .int)) = some kss
 | [] => rfl
 | ks :: kss => by
  show (mD (ks.map .int)).bind (λ ks => (sX (kss.map λ ks => .tup (ks.map .int))).map (ks :: ·)) = _
  rw [rM ks, yq kss]; rfl
theorem uL {K : PySem.W.Frag} {tb : List Addr} {W : Wd} : ∀ (ns : List Int), bN K tb W (ns.map .int) (ns.map V.int)
 | [] => az.nil
 | n :: ns => az.cons dZ (uL ns)
theorem tE {K : PySem.W.Frag} {tb : List Addr} {W : Wd} : ∀ {ns : List Int} {xs : List V}, bN K tb W (ns.map .int) xs -> xs = ns.map V.int
 | [], xs, h => by
  have := az.length h
  cases xs with
  | nil => rfl
  | cons a b => cases this
 | n :: ns, xs, h => by
  cases xs with
  | nil => have := az.length h; cases this
  | cons a b =>
   obtain ⟨u, us, e, h1, h2⟩ : ∃ u us, a :: b = u :: us /\ bc K (Wd.fz tb W) W.ad (.int n) u /\ az K (Wd.fz tb W) W.ad (ns.map .int) us := by unfold bN az at h; exact h
   cases e
   rw [bA h1, tE h2]; rfl
def xn (fs : AF) : LF := λ δ μ => (fs δ μ).bind λ r => match r.1 with
 | [x] => (jX x r.2).bind λ ds => (qp ds).map λ es => (es, r.2)
 | _ => none
theorem xU {X : Cx} {tb : List Addr} {a : Expr} {fs : AF} {p pos : Pos} (hm : X.mg "sorted" = none) (ha : PAD X tb [a] fs) (hg : Gl X "sorted" := by rfl) (he : starEach [a] X.env = (false, eval a X.env) :: starEach [] X.env := by rfl) : PDN X tb (.Call (.Name "sorted" p) [a] [] pos) (xn fs) :=
 dO (lC (zB.or zf) hg hm PyProof.Rows.boot_sorted ha (by decide) (by decide) he (by rfl)) λ σ H Q zq1 => by
  obtain ⟨W, δ, ds, μ', e, ok, hd, hf, k⟩ := zq1
  unfold xn at hf
  obtain ⟨⟨xs, μ1⟩, e1, e2⟩ := Za.mp hf
  match xs, e1, e2 with
  | [x], e1, e2 =>
   obtain ⟨es, e3, e4⟩ := Za.mp (show (jX x μ1).bind (λ ds => (qp ds).map λ es => (es, μ1)) = some (ds, μ') from e2)
   obtain ⟨os, e5, e6⟩ := Zp.mp e4
   cases e6
   refine ⟨W, δ, [x], _, e, ok, hd, e1, λ vs W1 ok1 l1 m1 d1 => ?_⟩
   obtain ⟨v, rfl, dv⟩ := az.one d1
   obtain ⟨a, ys, rfl, q, r⟩ := lY ok1 dv (by rw [m1]; exact e3)
   have hlen := az.length r
   unfold qp at e5
   split at e5
   .rename_i h64
    split at e5
    .rename_i ns hn
     cases e5
     have := tG hn
     subst this
     have hy := tE r
     subst hy
     exact .inl ⟨a, ns, rfl, SqL.of q, by simpa using h64, λ l hl => k l _ W1 ok1 l1 m1 hl (uL _)⟩
    .split at e5
     .rename_i kss hk
      split at e5
      .rename_i hev
       cases e5
       have hk' := ym hk
       have hkl : es.length = kss.length := by rw [hk']; simp
       refine .inr ⟨a, ys, kss, (kss.headD []).length - 1, rfl, SqL.of q, by omega, by omega, λ ks h => ?_, λ i hi => ?_, λ l hl => ?_⟩
       .have := List.all_eq_true.mp hev ks h
        simpa using this
       .have hi' : i < es.length := by omega
        have hik : i < kss.length := by omega
        obtain ⟨u, eu, du⟩ := az.get r (List.getElem?_eq_getElem hi')
        have e7 : es[i] = .tup ((kss.getD i []).map .int) := by
         have : kss.getD i [] = kss[i] := by simp [List.getD, hik]
         rw [this]
         simp [hk']
        rw [e7] at du
        obtain ⟨b, zs, rfl, qb, rb⟩ := fB du
        have hz := tE rb
        subst hz
        refine ⟨b, ?_, SqT.fz qb⟩
        rw [List.getD_eq_getElem?_getD, eu]; rfl
       .rw [hlen] at k
        exact k l _ W1 ok1 l1 m1 hl (rA r _)
      .cases e5
     .cases e5
   .cases e5
open PySem.SeqAt
theorem Nk {X : Cx} {k : Nat} (hr : dU k X.A) : OpR X (compareOp .Eq) (λ v u H Q => ∃ a b xs, v = .ref a /\ u = .ref b /\ SqT X.K H a xs /\ SqT X.K H b [] /\ Q (.bl xs.isEmpty) H) := by
 intro pins s σ H v u vv uu Q I rv ru h
 obtain ⟨a, b, xs, rfl, rfl, hx, hy, q⟩ := h
 have hun := hr.un
 cases rv
 cases ru
 obtain ⟨its0, iv0, pl0, hz0⟩ := I.tuple hx
 obtain ⟨its1, iv1, pl1, hz1⟩ := I.tuple hy
 have e1 : its1 = [] := List.eq_nil_of_length_eq_zero (by rw [<- iv1.length]; rfl)
 subst e1
 have rc := RcAt.tuples (A := X.A) (e := λ _ => true) pl0 pl1 (by omega) (λ j h1 h2 => absurd h2 (by simp))
 have e2 : ((List.range (min its0.toArray.size ([] : List Value).toArray.size)).all (λ _ => true) && its0.toArray.size == ([] : List Value).toArray.size) = xs.isEmpty := by
  have hl := iv0.length
  cases xs with
  | nil =>
   have : its0 = [] := List.eq_nil_of_length_eq_zero hl.symm
   subst this; rfl
  | cons x xs =>
   cases its0 with
   | nil => cases hl
   | cons y ys => simp
 rw [e2] at rc
 exact rc X.prog X.w X.xe _ ⟨.bl xs.isEmpty, H, I, rfl, q⟩
def xZ : O2 := λ x y μ => match x, y with
 | .tup ds, .tup [] => some (.bl ds.isEmpty, μ)
 | x, y => oEq x y μ
theorem zW {x y : D} {μ : Mu} : xZ x y μ = oEq x y μ ∨ ∃ ds, x = .tup ds /\ y = .tup [] /\ xZ x y μ = some (.bl ds.isEmpty, μ) := by
 unfold xZ
 split
 .exact .inr ⟨_, rfl, rfl, rfl⟩
 .exact .inl rfl
theorem Ng {X : Cx} {tb : List Addr} {k : Nat} (hr : dU k X.A) : OpD X tb (compareOp .Eq) xZ := ⟨_, (FZ hr).or (Nk hr), λ W x y v u d μ' Q ok dx dy ho h => by
 rcases zW (x := x) (y := y) (μ := W.mu) with e | ⟨ds, rfl, rfl, e⟩
 .rw [e] at ho
  unfold oEq at ho
  split at ho
  .rename_i hc
   cases ho
   rw [Zo] at hc
   exact .inl ⟨_, _, pM ok dx hc.1.1, pM ok dy hc.1.2, hc.2, put ok h fj⟩
  .cases ho
 .rw [e] at ho
  cases ho
  obtain ⟨a, xs, rfl, q, r⟩ := fB dx
  obtain ⟨b, ys, rfl, q2, r2⟩ := fB dy
  have e1 : ys = [] := List.eq_nil_of_length_eq_zero (az.length r2).symm
  subst e1
  have e2 : xs.isEmpty = ds.isEmpty := by
   have := az.length r
   cases ds <;> cases xs <;> first | rfl | cases this
  refine .inr ⟨a, b, xs, rfl, rfl, SqT.fz q, SqT.fz q2, ?_⟩
  rw [e2]
  exact put ok h fj⟩
end L3
namespace L2
open PySem PySem.Spec PyProof.Rows PySem.W
abbrev yP (X : Cx) (scope : Scope) (q : Str) (C f : Addr) (code : Value) : Env := newEnv scope C mainGlobals (bR X.env scope.names []) q (some f) code none builtinsNs
def nZ (X : Cx) (A' : Around) (x : Str) (cap : List Str) (scope : Scope) (q : Str) (f : Addr) (code : Value) (s : Shared) (H : Hp) : Cx where
 prog := X.prog
 w := X.w
 K := X.K
 mg := X.mg
 base := X.base
 A := A'.deeper (yP X scope q s.heap.objs.size f code)
 N := [x] ++ cap
 s₀ := s
 H₀ := H
 env := yP X scope q s.heap.objs.size f code
 outer := X.stack
 stack := yP X scope q s.heap.objs.size f code :: X.stack
 ex := []
 fn := λ y => y == x
 calm := true
 pn := []
 xe := λ _ _ => False
section
variable {X : Cx} {pins : List (Addr × Obj)} {σ : St} {H : Hp} {s : Shared} {x : Str} {cap : List Str} {capI : List Nat} {scope : Scope}
theorem Inv.lam {A' : Around} {h1 : Heap} {q : Str} {f : Addr} {code u : Value} {y : V} {tk : Nat} (I : Inv X pins σ H s) (B : eQ X [x] cap capI scope) (hx : scope.names.lookup x = some .local) (hown : (x, NameKind.free) ∉ scope.names) (hnc : ∀ y ∈ scope.names, y.2 ≠ .cell)
  (hcx : x ∉ cap) (keep : ∀ b o, s.heap.get? b = some o -> h1.get? b = some o) (hm : h1.Ns s.heap.objs.size (λ z => [(x, u)].reverse.lookup z)) (hAf : A'.frames = some X.stack) (hAh : A'.handled = none) (ry : RelV y u) :
  Inv (nZ X A' x cap scope q f code s H) [] (some y :: ju σ capI) H { s with heap := h1, toks := tk } := by
 have clo_old : ∀ p ∈ bR X.env scope.names [], X.env.cells.lookup p.1 = some p.2 := λ p hp => (jl hp).elim (λ z => by simp at z) id
 have old_lt : ∀ z c, X.env.cells.lookup z = some c -> c < s.heap.objs.size := λ z c e => let ⟨v, q⟩ := I.cell z c e; q.lt
 have csm : ∀ z c, (bR X.env scope.names []).lookup z = some c -> X.env.cells.lookup z = some c /\ c < s.heap.objs.size := λ z c e => by
  have q := clo_old _ (Zt e)
  exact ⟨q, old_lt _ _ q⟩
 have fresh : H s.heap.objs.size = none := I.hok.fresh (Zg _)
 have noA : ∀ b : Addr, b ∉ (nZ X A' x cap scope q f code s H).ex := λ b z => absurd (show b ∈ ([] : List Addr) from z) (by simp)
 refine ⟨⟨I.ok.mod, B.kind, rfl, rfl, Zg _, ?_, ?_, ?_, λ _ => hAh, Around.frames_deeper hAf, .inr ⟨rfl, rfl⟩, λ b z => absurd z (noA b), I.bs, Zl I.ok.bsz I.sz, λ b _ _ => noA b, λ b z => absurd z (noA b), I.stack, I.stkFree⟩, rfl, GK.refl I.bare.bare, Un.kept keep, ?_, ?_, fresh, ?_, ?_, I.hok.kept keep, ?_⟩
 .intro y z c e1 e2
  exact I.ok.inj y z c (csm y c e1).1 (csm z c e2).1
 .intro y hy
  have hy' : scope.names.lookup y = some .cell ∨ scope.names.lookup y = some .free := hy
  rcases hy' with e | e
  .exact absurd rfl (hnc _ (Zt e))
  .have q := Zt e
   obtain ⟨c, hc⟩ := B.cells I _ q rfl
   exact ⟨c, iz hc (.inl q)⟩
 .intro z c hz e
  exfalso
  have hz : z = x := by simpa [nZ] using hz
  subst hz
  have q : (bR X.env scope.names []).lookup z = none := by
   rw [lQ λ k hk => by rintro rfl; exact hown hk]; rfl
  have e' : (bR X.env scope.names []).lookup z = some c := e
  rw [q] at e'; cases e'
 .obtain ⟨m', hn, hl⟩ := I.loc
  refine ⟨_, hm, λ i z v e1 e2 hv => ?_⟩
  cases i with
  | zero =>
   have e1 : some x = some z := e1
   cases e1
   have e2 : some (some y) = some (some v) := e2
   cases e2
   exact ⟨u, ry, .inl ⟨hx, by simp⟩⟩
  | succ i =>
   have e1' : cap[i]? = some z := e1
   have e2' : (ju σ capI)[i]? = some (some v) := e2
   obtain ⟨i0, q1, q2⟩ := pI e2'
   obtain ⟨y', q3, q4, q5⟩ := B.caps.get q1
   rw [e1'] at q3
   cases q3
   have hxf : (z, NameKind.free) ∈ scope.names := B.cfr z (List.mem_of_getElem? e1')
   have vis : Vis X.env.scope z := by
    rcases q5 with q5 | q5
    .exact .inr (.inl q5)
    .exact .inr (.inr q5)
   obtain ⟨w, rw', lk⟩ := hl i0 z v q4 q2 vis
   refine ⟨w, rw', .inr ⟨.inr (cO B.nd hxf), ?_⟩⟩
   rcases lk with ⟨k, _⟩ | ⟨_, c, ec, hc⟩
   .rcases q5 with q5 | q5 <;> rw [k] at q5 <;> cases q5
   .exact ⟨c, iz ec (.inl hxf), hc.keeps keep⟩
 .intro z c e
  obtain ⟨v, q⟩ := I.cell z c (csm z c e).1
  exact ⟨v, q.keeps keep⟩
 .intro z c e
  exact I.freeC z c (csm z c e).1
 .intro p hp
  exact absurd (show p ∈ ([] : List (Addr × Obj)) from hp) (by simp)
 .show (some y :: ju σ capI).length = ([x] ++ cap).length
  unfold ju
  rw [List.length_cons, Zu, B.caps.length, List.length_append]
  simp [Nat.add_comm]
end
abbrev Jy (qual : Str) (params : Arguments) (body : Expr) (scope : Scope) (cl : List (Str × Addr)) (pm cv ct : Value) : FuncData := kla_fn "<lambda>" qual params body scope cl pm cv ct
theorem Bm {prog : Program} {w : World} {A : Around} {R : Result -> Shared -> Prop} {s : Shared} {a c : Addr} {args : Args} {o oc : Obj} {fd : FuncData} {body : Expr} {vs : Array Value} {u : Value} (hroom : A.depth < recursionLimit) (ho : s.heap.get? a = some o) (hd' : o.data = .func fd)
  (hco : fd.scope.isCoroutine = false) (hgen : fd.scope.isGenerator = false) (hbody : fd.body = .expr body) (hc : fd.code = .ref c) (hoc : s.heap.get? c = some oc) (hdc : oc.data = .fields vs) (hu : vs[1]? = some u)
  (h : ∀ q : Str, wpAny (model prog w) A.in1 (bindArgs fd args) (λ binds s₁ =>
   wpAny (model prog w) A.in1 (newFunctionEnv fd.scope fd.globals fd.closure binds q (some a) fd.code none fd.builtins)
    (λ env s₂ => s₂.heap.NoLimit /\ codeAny (model prog w) A (.expr body env) R s₂) (λ e s' => R (.error e) s') s₁) (λ e s' => R (.error e) s') s) :
  codeAny (model prog w) A (.call (.ref a) args) R s := by
 refine codeAny_of_tree ?_
 show wpAny _ A.in1 (callAny (.ref a) args) _ _ s
 simp only [callAny]
 refine wpAny_bind (wpAny_load ho ?_)
 simp only [hd', callFunction, hco, hgen, hbody, hc]
 rw [hc] at h
 refine wpAny_bind (m := field (.ref c) 1) (wpAny_field hoc hdc hu ?_)
 have go : ∀ q : Str, wpAny (model prog w) A.in1 (do
   let env <- newFunctionEnv fd.scope fd.globals fd.closure (<- bindArgs fd args) q (some a) (.ref c) none fd.builtins
   enterFrame
   again (.expr body env)) (λ fin s' => match fin with
    | .done f => R (.ok f) s'
    | .again c' => c'.quiet = true /\ codeAny (model prog w) A c' R s') (λ e s' => R (.error e) s') s := λ q =>
  wpAny_bind (wpAny_mono (h q) (λ binds s₁ h₁ => wpAny_bind (wpAny_mono h₁ (λ env s₂ h₂ => wpAny_bind (wpAny_enterFrame h₂.1 hroom (wpAny_pure (And.intro rfl h₂.2)))) λ _ _ h' => h')) λ _ _ h' => h')
 cases u with
 | str q t => exact wpAny_bind (wpAny_pure (go _))
 | _ => exact wpAny_bind (wpAny_pure (go _))
section
variable {X : Cx} {pins : List (Addr × Obj)} {σ : St} {H : Hp} {s : Shared} {x : Str} {cap : List Str} {capI : List Nat} {scope : Scope} {params : Arguments} {body : Expr} {te : TE} {k : Nat}
structure Ay (X : Cx) (x : Str) (cap : List Str) (capI : List Nat) (scope : Scope) (params : Arguments) (body : Expr) : Prop where
 blk : eQ X [x] cap capI scope
 par : scope.names.lookup x = some .local
 own : (x, NameKind.free) ∉ scope.names
 noc : ∀ y ∈ scope.names, y.2 ≠ .cell
 ncap : x ∉ cap
 co : scope.isCoroutine = false
 gen : scope.isGenerator = false
 dflt : defaultsOf params X.env = ([], [])
 bind : ∀ (qual : Str) (cl : List (Str × Addr)) (pm cv ct u : Value), bindArgs (Jy qual params body scope cl pm cv ct) ⟨[u], []⟩ = pure [(x, u)]
abbrev rR (X : Cx) (qual : Str) (params : Arguments) (body : Expr) (scope : Scope) (pm cv ct : Value) : Obj := { cls := .type "function", data := .func (Jy qual params body scope (bR X.env scope.names []) pm cv ct) }
theorem Ie {f : Addr} {qual : Str} {pm cv ct u : Value} {y : V} {Q : VK} (hr : dU (k + 1) X.A) (hc : X.calm = true) (L : Ay X x cap capI scope params body)
  (he : ∀ q f code s H, PE (nZ X X.A.in1.in1 x cap scope q f code s H) body te) (I : Inv X pins σ H s) (ho : s.heap.get? f = some (rR X qual params body scope pm cv ct)) (hcv : ww H cv) (ry : RelV y u) (hq : te (some y :: ju σ capI) H Q) :
  wpAny (model X.prog X.w) X.A.in1.in1 (call (.ref f) [u]) (EP X pins σ Q) (λ _ _ => False) s := by
 obtain ⟨c, oc, vs, w, rfl, hc1, hc2, hc3⟩ := hcv
 have hoc : s.heap.get? c = some oc := (I.hok c _ hc1).1
 obtain ⟨a1, a2⟩ := wj I hc (A' := X.A.in1.in1) rfl rfl
 have hdp := hr.dp
 refine wpAny_call (Bm (show X.A.depth < recursionLimit by omega) ho rfl L.co L.gen rfl rfl hoc hc2 hc3 λ q => ?_)
 rw [L.bind]
 refine wpAny_pure (wpAny_newFunctionEnv L.noc (λ z hz => by rw [List.mem_singleton.mp hz]; exact L.par) (λ h₁ hns hsb => ?_) L.blk.kind)
 have keep : ∀ b o, s.heap.get? b = some o -> h₁.get? b = some o := λ b o e => hsb.extBut b o (Zk (Ze e)) (Zb _ e)
 refine ⟨I.nolimit.keeps keep, ?_⟩
 have J := I.lam (A' := X.A.in1.in1) (q := q) (f := f) (code := .ref c) (tk := s.toks + [(x, u)].length) L.blk L.par L.own L.noc L.ncap keep hns a2 a1 ry
 exact kla_codeExpr (wpAny_mono (he q f (.ref c) s H [] _ _ H Q J hq) (λ v s' ⟨v', H', J', rv, qv⟩ => I.after ⟨v', H', J'.os, J'.bare, J'.base, J'.hok, rv, qv⟩) λ _ _ z => z.elim)
theorem Ej {c P : Addr} {ps : Array Value} {pos : Pos} {A : Around} {E : Value -> Shared -> Prop} {Q : Value -> Shared -> Prop} (L : Ay X x cap capI scope params body) (I : Inv X pins σ H s) (hcode : X.env.code = .ref c) (hd : CodeHd X.base c P) (hP : H P = some (.tbl ps)) (ht : TOk H ps)
  (h : ∀ f s' H' ps' pm cv ct, zK s.heap.objs.size P ps ps' H H' -> Inv X (pins ++ [(f, rR X (X.env.qual ++ "<lambda>") params body scope pm cv ct)]) σ H' s' -> ww H' cv -> Q (.ref f) s') :
  wpAny (model X.prog X.w) A (eval (.Lambda params body scope pos) X.env) Q E s := by
 have hd' : CodeHd s.heap c P := hd.keeps I.bk
 have oP : s.heap.get? P = some (tabObj ps) := I.hok P _ hP
 have nb : ∀ b o, X.base.get? b = some o -> b ≠ P := λ b o e z => by
  have := (I.bs b o e).2
  rw [z, hP] at this; cases this
 obtain ⟨og, es, ep, eg, edg, _⟩ := id I.mod.glob
 obtain ⟨bm, ob, b1, b2, b3, b4, b5, b6⟩ := I.mod.bmain
 have hbG : bm ≠ mainGlobals := λ z => by
  rw [z, eg] at b3; cases b3; rw [edg] at b6; cases b6
 have hBA : s.heap.BuiltinsAt X.mg P := ⟨bm, ob, b1, b2, hbG, nb _ _ b3, I.bk _ _ b3, b4, b5, b6⟩
 have hcl := gB (L.blk.cells I)
 have hg := I.mod.glob.keeps I.bk
 have fin : ∀ {H' : Hp} {h' : Heap} {tk : Nat} {ps' : Array Value} {pm cv ct : Value}, zK s.heap.objs.size P ps ps' H H' -> Inv X pins σ H' { s with heap := h', toks := tk } -> ww H' cv ->
   Q (.ref h'.objs.size) { s with heap := h'.push (rR X (X.env.qual ++ "<lambda>") params body scope pm cv ct), toks := tk } := λ {H' h' tk ps' pm cv ct} hG I' hcv => by
  have I2 : Inv X pins σ H' { s with heap := h'.push (rR X (X.env.qual ++ "<lambda>") params body scope pm cv ct), toks := tk } := I'.kept (t' := tk) λ b o e => Zb _ e
  refine h _ _ H' ps' pm cv ct hG (I2.more λ p hp => ?_) hcv
  rw [List.mem_singleton.mp hp]
  exact ⟨Zf _ rfl, I'.hok.fresh (Zg _), Nat.ne_of_gt I'.lt, I'.nofs (Zg _), λ v => by intro z; cases z⟩
 refine kla_eval L.dflt ?_
 cases hnf : codeAmong pos ps.toList with
 | some cv =>
  refine kla_makeFunctionHit hcl I.ok.glob hg hcode hd' oP ht.1 hnf hBA λ ctv h' tk hk hsz => ?_
  exact fin ⟨hP, ⟨#[], by simp⟩, ht, λ _ _ _ e => e, λ _ _ e => e⟩ (I.kept hk) (ht.2 _ _ hnf)
 | none =>
  refine kla_makeFunction hcl I.ok.glob hg hcode hd' oP ht.1 hnf (nb _ _ eg) hBA λ c' ctv h' tk hx hge hlt hrec htb => ?_
  obtain ⟨c2, oc, vs, t, e2, hoc, hdd, hv⟩ := hrec
  cases e2
  refine uP I hP ht hge hoc hdd hv (λ b o hb e => hx b o hb e) htb λ hG I' => fin hG I' ⟨c', oc, vs, _, rfl, dC, hdd, hv⟩
end
theorem DX {X : Cx} {x : Str} {cap : List Str} {scope : Scope} {q : Str} {f : Addr} {code : Value} {s : Shared} {H : Hp} : ∀ k, dU (k + 1) X.A -> dU k (nZ X X.A.in1.in1 x cap scope q f code s H).A := λ k r =>
 ⟨r.hd, by have := r.dp; show X.A.depth + 1 + 3 * k + 5 < _; omega, by have := r.un; show X.A.units + 1 + 1 + 3 + 16 * k + 200 < _; omega⟩
section
variable {X : Cx} {pins : List (Addr × Obj)} {σ : St} {H : Hp} {s : Shared}
theorem Inv.trackNew {c : Addr} {o : Obj} {u : HO} (I : Inv X pins σ H s) (ho : s.heap.get? c = some o) (hn : H c = none) (hnew : X.s₀.heap.objs.size <= c) (hL : c ≠ X.env.locals) (hc : ∀ x d, X.env.cells.lookup x = some d -> d ≠ c) (hp : ∀ p ∈ X.pn ++ pins, p.1 ≠ c)
  (new : gk X.prog X.w (upd H c u) s.heap c u) : Inv X pins σ (upd H c u) s := by
 have ne : ∀ b u, H b = some u -> b ≠ c := λ b u e z => by rw [z, hn] at e; cases e
 refine ⟨I.ok, I.os, I.bare, ⟨I.base.keep, I.base.slot, λ b ob e n hx => ?_, I.base.there, λ b xs e => ?_, λ b ob u e => ?_, λ b ps e => ?_⟩, I.loc, I.cell, ?_, λ x d e => ?_, λ p hp' => ?_, λ a u e => ?_, I.len⟩
 .rw [aN (Zk (Zc (Ze e) hnew))]; exact I.base.free b ob e n hx
 .have q := I.base.tups b xs e
  rw [aN (ne _ _ q)]; exact q
 .have q := I.base.frzs b ob u e
  rw [aN (ne _ _ q)]; exact q
 .obtain ⟨more, q⟩ := I.base.tbls b ps e
  exact ⟨more, by rw [aN (ne _ _ q)]; exact q⟩
 .rw [aN (Ne.symm hL)]; exact I.free
 .rw [aN (hc x d e)]; exact I.freeC x d e
 .obtain ⟨a, b, r⟩ := I.pin p hp'
  exact ⟨a, by rw [aN (hp p hp')]; exact b, r⟩
 .by_cases z : a = c
  .subst z
   rw [dC] at e; cases e
   exact new
  .rw [aN z] at e
   exact (I.hok a u e).stay (λ b v _ q => q) (λ b q => by rw [aN (ne _ _ q)]; exact q) λ b xs q => by rw [aN (ne _ _ q)]; exact q
structure New (X : Cx) (pins : List (Addr × Obj)) (a : Addr) : Prop where
 s0 : X.s₀.heap.objs.size <= a
 loc : a ≠ X.env.locals
 fs : a ∉ X.fs
 cel : ∀ x d, X.env.cells.lookup x = some d -> d ≠ a
 pin : ∀ p ∈ X.pn ++ pins, p.1 ≠ a
theorem Inv.newA (I : Inv X pins σ H s) {a : Addr} (h : s.heap.objs.size <= a) : New X pins a :=
 ⟨Zl I.sz h, Nat.ne_of_gt (Zc I.lt h), I.nofs h, λ x d e => by
  obtain ⟨v, o, e2, _⟩ := I.cell x d e
  exact Zk (Zc (Ze e2) h), λ p hp => Zk (Zc (Ze (I.pin p hp).1) h)⟩
theorem Inv.chg {h' : Heap} {a : Addr} {tk : Nat} (I : Inv X pins σ H s) (N : New X pins a) (hn : H a = none) (k : ∀ b o, b ≠ a -> s.heap.get? b = some o -> h'.get? b = some o) : Inv X pins σ H { s with heap := h', toks := tk } :=
 I.turned k hn N.loc (.inr N.s0) N.cel N.pin
theorem zg {A : Around} {E : Value -> Shared -> Prop} {P : PySem.Fin -> Shared -> Prop} {D f : Addr} {n : Nat} {xs : List V} {vs : List Value} {W : Nat -> List Int -> Hp -> Prop} (hA : A = X.A.in1.in1) (I : Inv X pins σ H s) (N : New X pins D) (ho : s.heap.get? D = some (seqObj "list" vs.toArray n)) (hn : H D = none) (r : Vals xs vs) (h64 : xs.length < 64) (w0 : W 0 [] H)
  (turn : ∀ (i : Nat) (y : V) (u : Value) (kz : List Int) (Hi : Hp) (s' : Shared) (own : List (Addr × Obj)), xs[i]? = some y -> RelV y u -> W i kz Hi -> Inv X (pins ++ own) σ Hi s' -> wpAny (model X.prog X.w) X.A.in1.in1 (call (.ref f) [u]) (EP X (pins ++ own) σ λ v H' => ∃ k, v = .int k /\ W (i + 1) (kz ++ [k]) H') (λ _ _ => False) s')
  (h : ∀ kz H' s', W xs.length kz H' -> H' D = none -> Inv X pins σ (upd H' D (.lst ((iI (λ i j => decide (kz.getD i 0 < kz.getD j 0)) xs.length).map λ i => xs.getD i .non))) s' -> P (.done (.ret .none)) s') :
  wpAny (model X.prog X.w) A (ksk_tree D (.ref f) false) P E s := by
 subst hA
 have hl := r.length
 have e1 := get?_update_seq ho λ _ => (#[] : Array Value)
 generalize hc1 : (if (#[] : Array Value).size == vs.toArray.size then n else n + 1) = c1 at e1
 have upd1 := λ (a : Addr) (g : Heap) (q : Array Value -> Array Value) => Heap.SameBut.update g a (Obj.mapSeq q)
 unfold ksk_tree
 refine wpAny_bind (listItems_at ho rfl ?_)
 refine wpAny_bind (listUpdate_at ho rfl ?_ (by rw [Zd, sizeLine_eq]; omega) (Nat.zero_le _))
 refine wpAny_bind (seqEpoch_at e1 rfl ?_)
 refine wpAny_bind (wpAny_newTuple ?_ (by show vs.length <= _; rw [sizeLine_eq]; omega))
 refine wpAny_bind (wpAny_newList ?_ (Nat.zero_le _))
 refine wpAny_holding ?_
 have I1 : Inv X pins σ H { s with heap := s.heap.update D (Obj.mapSeq λ _ => (#[] : Array Value)), toks := s.toks } := I.chg N hn λ b o hb e => ((upd1 D s.heap _).2 b hb).trans e
 generalize hg4 : (s.heap.update D (Obj.mapSeq λ _ => (#[] : Array Value))).push (seqObj "tuple" vs.toArray 0) = g4
 have I4 : Inv X pins σ H { s with heap := g4, toks := s.toks } := I1.kept (h' := g4) λ b o e => by rw [<- hg4]; exact Zb _ e
 have o4 : g4.get? D = some (seqObj "list" #[] c1) := by rw [<- hg4]; exact Zb _ e1
 show wpAny (model X.prog X.w) X.A.in1.in1 (ksk_rest D (.ref f) false vs.toArray c1 (.ref g4.objs.size)) P E { s with heap := g4.push (seqObj "list" #[] 0) }
 have NK : New X pins g4.objs.size := I4.newA (Zg _)
 have hDK : D ≠ g4.objs.size := Zk (Ze o4)
 have nK : H g4.objs.size = none := I4.hok.fresh (Zg _)
 have I5 : Inv X pins σ H { s with heap := g4.push (seqObj "list" #[] 0), toks := s.toks } := I4.kept (h' := g4.push (seqObj "list" #[] 0)) λ b o e => Zb _ e
 have o5 : (g4.push (seqObj "list" #[] 0)).get? D = some (seqObj "list" #[] c1) := Zb _ o4
 have k5 : (g4.push (seqObj "list" #[] 0)).get? g4.objs.size = some (seqObj "list" #[] 0) := Zf _ rfl
 generalize g4.objs.size = kS at *
 generalize g4.push (seqObj "list" #[] 0) = g5 at *
 have pinIt : ∀ {Hi : Hp} {s' : Shared} {kA : Array Value} {e : Nat}, Inv X pins σ Hi s' -> s'.heap.get? kS = some (seqObj "list" kA e) -> s'.heap.get? D = some (seqObj "list" #[] c1) -> Hi kS = none -> Hi D = none -> Inv X (pins ++ [(kS, seqObj "list" kA e), (D, seqObj "list" #[] c1)]) σ Hi s' := λ {Hi s' kA e} J q1 q2 q3 q4 => J.more λ p hp => by
  rcases Zi.mp hp with z | z
  .rw [z]; exact ⟨q1, q3, NK.loc, NK.fs, λ v => by intro z; cases z⟩
  .rw [List.mem_singleton.mp z]; exact ⟨q2, q4, N.loc, N.fs, λ v => by intro z; cases z⟩
 unfold ksk_rest
 refine wpAny_bind (wpAny_rule ?_)
 rw [List.forIn_toArray]
 refine wpAny_bind (ksk_fold (λ i s' => ∃ Hi kz kA e, Inv X (pins ++ [(kS, seqObj "list" kA e), (D, seqObj "list" #[] c1)]) σ Hi s' /\ W i kz Hi /\ IntsAre kA.toList kz /\ kz.length = i) vs 0 _ ⟨H, [], #[], 0, pinIt I5 k5 o5 nK hn, w0, .nil, rfl⟩ ?step ?done)
 case step =>
  rintro j v s' hv ⟨Hi, kz, kA, e, J, w, hk, hkl⟩
  simp only [Nat.zero_add] at w hkl ⊢
  obtain ⟨y, hy, ry⟩ : ∃ y, xs[j]? = some y /\ RelV y v := by
   have hj : j < vs.length := (Zh.mp hv).1
   have hj' : j < xs.length := by omega
   have rl := oA r j
   refine ⟨xs[j], List.getElem?_eq_getElem hj', ?_⟩
   have a1 : xs.getD j V.non = xs[j] := by simp [List.getD, hj']
   have a2 : vs.getD j Value.none = v := by simp [List.getD, hv]
   rw [a1, a2] at rl
   exact rl
  have hj : j < xs.length := (Zh.mp hy).1
  refine wpAny_bind (wpAny_attempt (wpAny_mono (turn j y v kz Hi s' _ hy ry w J) (λ u s2 hu => ?_) λ _ _ z => z.elim))
  obtain ⟨z, H2, J2, rz, m, hz, w2⟩ := hu
  subst hz
  obtain ⟨t, rfl⟩ := rz
  have pk := J2.pin (kS, seqObj "list" kA e) (by simp)
  have pd := J2.pin (D, seqObj "list" #[] c1) (by simp)
  have hkA : kA.size <= 64 := by
   have := hk.length
   rw [Array.length_toList] at this
   omega
  have s1 := upd1 kS s2.heap (·.push (.int m t))
  have q1 := get?_update_seq pk.1 (·.push (.int m t))
  try dsimp only
  refine wpAny_bind (listUpdate_at pk.1 rfl ?_ (by rw [sizeLine_eq]; omega) (Zl (Nat.le_of_eq (Array.size_push ..)) (by rw [sizeLine_eq]; omega)))
  have ea : (kA.push (Value.int m t)).toList = kA.toList ++ [Value.int m t] := by simp
  have J3 : Inv X pins σ H2 s2 := J2.unpinned
  refine wpAny_pure ⟨rfl, H2, kz ++ [m], kA.push (.int m t), _, pinIt (J3.chg (tk := s2.toks) NK pk.2.1 λ b o hb e => (s1.2 b hb).trans e) q1 ((s1.2 D hDK).trans pd.1) pk.2.1 pd.2.1, w2, by rw [ea]; exact ksk_snoc hk, by simp [hkl]⟩
 case done =>
  rintro s' ⟨Hi, kz, kA, e, J, w, hk, hkl⟩
  rw [Nat.zero_add, <- hl] at w
  have hkl : kz.length = xs.length := by omega
  have pk := J.pin (kS, seqObj "list" kA e) (by simp)
  have pd := J.pin (D, seqObj "list" #[] c1) (by simp)
  have J3 : Inv X pins σ Hi s' := J.unpinned
  have hkA : kA.size = vs.length := by
   have := hk.length
   rw [Array.length_toList] at this
   omega
  try dsimp only
  refine wpAny_bind (listItems_at pk.1 rfl ?_)
  have tail : ∀ st : SortSt, failedOf st = none -> (arrOf st).map (·.2) = (((iI (λ i j => decide (kz.getD i 0 < kz.getD j 0)) xs.length).map λ i => vs.getD i Value.none).toArray) -> wpAny (model X.prog X.w) X.A.in1.in1 (ksk_tail D false c1 (.ref kS) st) P E s' := λ st hf har => by
   have s1 := upd1 kS s'.heap λ _ => (#[] : Array Value)
   have q1 := (s1.2 D hDK).trans pd.1
   have hsz : ((iI (λ i j => decide (kz.getD i 0 < kz.getD j 0)) xs.length).map λ i => vs.getD i Value.none).toArray.size = vs.length := by rw [Zd, Zu, gH, hl]
   unfold ksk_tail
   rw [har]
   try dsimp only
   refine wpAny_bind (listUpdate_at pk.1 rfl ?_ (by rw [hkA, sizeLine_eq]; omega) (Nat.zero_le _))
   refine wpAny_bind (wpAny_letGo ?_)
   refine wpAny_bind (seqEpoch_at q1 rfl ?_)
   have s2 := upd1 D (s'.heap.update kS (Obj.mapSeq λ _ => (#[] : Array Value))) λ _ => ((iI (λ i j => decide (kz.getD i 0 < kz.getD j 0)) xs.length).map λ i => vs.getD i Value.none).toArray
   have q2 := get?_update_seq q1 λ _ => ((iI (λ i j => decide (kz.getD i 0 < kz.getD j 0)) xs.length).map λ i => vs.getD i Value.none).toArray
   refine wpAny_bind (listUpdate_at q1 rfl ?_ (Nat.zero_le _) (Zl (Nat.le_of_eq hsz) (by rw [sizeLine_eq]; omega)))
   rw [hf]
   simp only [bne_self_eq_false, Bool.false_eq_true, if_false]
   have J4 : Inv X pins σ Hi { s' with heap := s'.heap.update kS (Obj.mapSeq λ _ => (#[] : Array Value)), toks := s'.toks } := J3.chg NK pk.2.1 λ b o hb e => (s1.2 b hb).trans e
   have J5 := J4.chg (tk := s'.toks) N pd.2.1 λ b o hb e => (s2.2 b hb).trans e
   refine wpAny_pure (h kz Hi _ w pd.2.1 (J5.trackNew q2 pd.2.1 N.s0 N.loc N.cel N.pin ⟨by rw [Zu, gH, sizeLine_eq]; omega, _, _, rQ r _, q2⟩))
  unfold ksk_end
  try dsimp only
  simp only [Bool.false_eq_true, if_false]
  by_cases h2 : vs.toArray.size < 2
  .rw [if_pos h2, if_pos h2]
   refine wpAny_bind (wpAny_pure ?_)
   rw [StateT.run_pure]
   refine wpAny_bind (wpAny_pure ?_)
   try dsimp only
   refine tail _ rfl ?_
   rw [Zd] at h2
   unfold iI
   rw [if_neg (by omega), hl, range_getD]
   show (kA.zip vs.toArray).map (λ p => p.2) = vs.toArray
   apply Array.toList_inj.mp
   rw [Array.toList_map, ksk_zip, List.map_snd_zip (by simp [hkA])]
  .rw [if_neg h2, if_neg h2]
   rw [Zd] at h2
   rw [ksk_kind hk (by omega)]
   refine wpAny_bind (wpAny_pure ?_)
   have hkt : kA.toList.length = vs.length := by rw [Array.length_toList, hkA]
   have good : (kas_sort vs.length).kasWp (kas_ask X.prog X.w X.A.in1.in1 oneType' kA.toList) (λ p s'' => p = uw (λ i j => decide (kz.getD i 0 < kz.getD j 0)) (kas_sort vs.length) /\ s'' = s') s' :=
    dB.wp (n := vs.length) (R := eY vs.length) (λ i j C hi hj hC => by
     obtain ⟨t1, g1⟩ := hk.get i (kz.getD i 0) (by simp [List.getD, hkl, <- hl, show i < xs.length by omega])
     obtain ⟨t2, g2⟩ := hk.get j (kz.getD j 0) (by simp [List.getD, hkl, <- hl, show j < xs.length by omega])
     show wpAny _ _ (keyLt' _ (kA.toList.getD i Value.none) (kA.toList.getD j Value.none)) C _ s'
     have f1 : kA.toList.getD i Value.none = .int (kz.getD i 0) t1 := by
      show (kA.toList[i]?).getD Value.none = _
      rw [g1]; rfl
     have f2 : kA.toList.getD j Value.none = .int (kz.getD j 0) t2 := by
      show (kA.toList[j]?).getD Value.none = _
      rw [g2]; rfl
     rw [f1, f2]
     exact kat_lt_int hC) (qd (by omega)) ⟨rfl, rfl⟩
   have run := kat_run (E := E) (Q := λ st' s'' => s'' = s' /\ failedOf st' = none /\ (arrOf st').map (·.2) = List.toArray ((uw (λ i j => decide (kz.getD i 0 < kz.getD j 0)) (kas_sort vs.length)).toList.map λ i => vs.getD i Value.none)) hkt (by omega) (by omega) (λ p st' s'' a1 a2 a3 a4 => ⟨a4.2, a3, by rw [<- a4.1]; exact kat_snds hkt a2⟩) good
   rw [Array.toArray_toList] at run
   refine wpAny_bind (wpAny_mono run ?_ λ _ _ e => e)
   rintro ⟨⟨⟩, st'⟩ s'' ⟨rfl, hf, har⟩
   try dsimp only
   refine tail st' hf ?_
   rw [har]
   unfold iI
   rw [if_pos (by omega), hl]
end
def yZ (kz : List Int) (xs : List V) : List V := (iI (λ i j => decide (kz.getD i 0 < kz.getD j 0)) xs.length).map λ i => xs.getD i .non
def Kr (P : Addr) (capI : List Nat) (ta te : TE) : TE := λ σ H Q => ta σ H λ v H1 => ∃ (a : Addr) (xs : List V) (ps : Array Value), v = .ref a /\ H1 a = some (.lst xs) /\ xs.length < 64 /\ H1 P = some (.tbl ps) /\ TOk H1 ps /\
 ∀ lo H2 ps', zK lo P ps ps' H1 H2 -> ∃ W : Nat -> List Int -> Hp -> Prop, W 0 [] H2 /\ (∀ i kz Hi, W i kz Hi -> (∀ c o, H2 c = some (.frz o (.own 0)) -> Hi c = some (.frz o (.own 0))) /\ ∀ y, xs[i]? = some y -> te (some y :: ju σ capI) Hi λ v H' => ∃ k, v = .int k /\ W (i + 1) (kz ++ [k]) H') /\
  ∀ kz H', W xs.length kz H' -> ∀ p, H' p = none -> Q (.ref p) (upd H' p (.lst (yZ kz xs)))
theorem Fv {X : Cx} {x : Str} {cap : List Str} {capI : List Nat} {scope : Scope} {params : Arguments} {body e : Expr} {ta te : TE} {k : Nat} {P : Addr} {p pos lpos kpos : Pos} (hc : X.calm = true) (hr : dU (k + 1) X.A) (hm : X.mg "sorted" = none) (L : Ay X x cap capI scope params body) (htb : ∃ c, X.env.code = .ref c /\ CodeHd X.base c P) (ha : PE X e ta)
  (he : ∀ q f code s H, (∀ k, dU (k + 1) X.A -> dU k (nZ X X.A.in1.in1 x cap scope q f code s H).A) -> PE (nZ X X.A.in1.in1 x cap scope q f code s H) body te) (hg : Gl X "sorted" := by rfl) (hs : starEach [e] X.env = (false, eval e X.env) :: starEach [] X.env := by rfl) :
  PE X (.Call (.Name "sorted" p) [e] [⟨some "key", .Lambda params body scope lpos, kpos⟩] pos) (Kr P capI ta te) := by
 intro pins s σ H Q I h
 obtain ⟨c, hcode, hhd⟩ := htb
 refine wpAny_Call_Name_kw (jN I hg hm PyProof.Rows.boot_sorted ?_ (by decide) (by decide))
 refine PyProof.Rows.callWith_kw (qQ (thn (ha pins s σ H _ I h) λ u s1 hu => ?_) hs) (by rw [hs]; rfl) (by rw [hs]; rfl)
 obtain ⟨v, H1, I1, r1, a, xs, ps, rfl, hal, h64, hP, ht, hW⟩ := hu
 cases r1
 show wpAny _ _ (evalAll [(do let v <- eval (.Lambda params body scope lpos) X.env; standAt pos; pure v)]) _ _ s1
 refine wpAny_evalAll_cons (wpAny_bind (Ej L I1 hcode hhd hP ht λ f s2 H2 ps' pm cv ct hG I2 hcv => wpAny_bind (wpAny_standAt (wpAny_pure (wpAny_evalAll_nil ?_)))))
 show wpAny _ _ (call (.builtin "sorted") [.ref a] [(Str.ofString "key", .ref f)]) _ _ s2
 obtain ⟨W, w0, wt, wf⟩ := hW _ H2 ps' hG
 have hal2 : H2 a = some (.lst xs) := hG.keep a _ (xJ hal hP (by intro z; cases z)) hal
 obtain ⟨hz, its, n, r, hlen, hobj⟩ := I2.lstM hal2
 refine call_function_entry_kw kind_sorted plain_sorted entry_sorted (ksk_s1 _ _) ?_
 unfold Builtin.«sorted»
 refine wpAny_bind (m := checkCount "sorted" 1 1 _) (wpAny_pure ?_)
 refine wpAny_bind (collect_list (vs := its) ⟨_, hobj, rfl, n, rfl⟩ ?_ (by rw [sizeLine_eq]; omega))
 refine wpAny_bind (wpAny_newList ?_ (by rw [sizeLine_eq]; omega))
 generalize hg1 : (s2.heap.push (seqObj "list" #[] 0)).update s2.heap.objs.size (Obj.mapSeq (· ++ its.toArray)) = g1
 have k1 : ∀ b o, s2.heap.get? b = some o -> g1.get? b = some o := λ b o q => by
  rw [<- hg1, Heap.get?_update_ne _ _ _ _ (Zk (Ze q)), Heap.get?_push_ne _ _ _ (Zk (Ze q))]
  exact q
 have z1 : g1.objs.size = s2.heap.objs.size + 1 := by rw [<- hg1, Heap.size_update, size_push']
 have k2 : ∀ b o, s2.heap.get? b = some o -> (g1.push (seqObj "list" its.toArray 0)).get? b = some o := λ b o q => Zb _ (k1 b o q)
 have o2 : (g1.push (seqObj "list" its.toArray 0)).get? g1.objs.size = some (seqObj "list" its.toArray 0) := Zf _ rfl
 show wpAny _ _ _ _ _ { s2 with heap := g1.push (seqObj "list" its.toArray 0) }
 have hle : s2.heap.objs.size <= g1.objs.size := by omega
 generalize g1.push (seqObj "list" its.toArray 0) = g2 at *
 generalize g1.objs.size = D at *
 have I3 := I2.kept (t' := s2.toks) k2
 refine wpAny_bind (wpAny_holding (wpAny_call_entry_kw slot_list_sort ⟨_, o2, rfl⟩ entry_list_sort ?body (ksk_l1 _ _)))
 case body =>
  show wpAny (model X.prog X.w) X.A.in1.in1 (Builtin.«list.sort» ⟨[.ref D], [(Str.ofString "key", .ref f)]⟩) _ _ _
  rw [ksk_t1]
  refine zg (W := W) rfl I3 (I2.newA hle) o2 (I2.hok.fresh hle) r h64 w0 (λ i y u kz Hi s' own hy ry w J => ?_) λ kz H' s' w hD J => ⟨_, rfl, ?_⟩
  .obtain ⟨hfz, hte⟩ := wt i kz Hi w
   obtain ⟨c', oc, vs', w', e1, e2, e3⟩ := id hcv
   exact Ie hr hc L (λ q f code s H => he q f code s H DX) J (J.pin (f, rR X (X.env.qual ++ "<lambda>") params body scope pm cv ct) (by simp)).1 ⟨c', oc, vs', w', e1, hfz _ _ e2, e3⟩ ry (hte y hy)
  .exact wpAny_pure ⟨_, rfl, .ref D, _, J.unpinned, rfl, wf kz H' w D hD⟩
end L2
namespace L3
open PySem PySem.Spec PyProof.Rows L2
def oh : List fU -> Mu -> Option (List Int × Mu)
 | [], μ => some ([], μ)
 | t :: r, μ => (t μ).bind λ x => match x.1 with
  | .int j => (oh r x.2).map λ q => (j :: q.1, q.2)
  | _ => none
def lG (kz : List Int) (ds : List D) : List D := (iI (λ i j => decide (kz.getD i 0 < kz.getD j 0)) ds.length).map λ i => ds.getD i .non
def vO (own : List Str) (capI : List Nat) (f fe : EF) : LF := λ δ μ => (f δ μ).bind λ r => (jX r.1 r.2).bind λ ds => if ds.length < 64 then (oh (ds.map (thG (hName 0) fe (bQ own δ capI))) r.2).map λ q => (lG q.1 ds, q.2) else none
theorem Cp {X : Cx} {tb : List Addr} {x : Str} {cap : List Str} {capI : List Nat} {scope : Scope} {params : Arguments} {body e : Expr} {f fe : EF} {k : Nat} {P : Addr} {p pos lpos kpos : Pos} (hc : X.calm = true) (hr : dU (k + 1) X.A) (hm : X.mg "sorted" = none) (L : Ay X x cap capI scope params body) (hP : P ∈ tb) (htb : ∃ c, X.env.code = .ref c /\ PySem.W.CodeHd X.base c P) (ha : PD X tb e f)
  (he : ∀ q f code s H, (∀ k, dU (k + 1) X.A -> dU k (nZ X X.A.in1.in1 x cap scope q f code s H).A) -> PD (nZ X X.A.in1.in1 x cap scope q f code s H) tb body fe) (hg : Gl X "sorted" := by rfl) (hs : starEach [e] X.env = (false, eval e X.env) :: starEach [] X.env := by rfl) :
  PDN X tb (.Call (.Name "sorted" p) [e] [⟨some "key", .Lambda params body scope lpos, kpos⟩] pos) (vO [x] capI f fe) :=
 dO (Fv (te := tD X.K tb fe) hc hr hm L htb ha he hg hs) λ σ H Q zq1 => by
  obtain ⟨W, δ, ds, μ', e, ok, hd, hf, kk⟩ := zq1
  unfold vO at hf
  obtain ⟨⟨v0, μ1⟩, e1, hf⟩ := Za.mp hf
  obtain ⟨es, e2, hf⟩ := Za.mp hf
  split at hf
  .rename_i h64
   obtain ⟨⟨kz, μ2⟩, e3, e4⟩ := Zp.mp hf
   cases e4
   refine ⟨W, δ, v0, μ1, e, ok, hd, e1, λ v W1 ok1 l1 m1 d1 => ?_⟩
   obtain ⟨a, xs, rfl, q, r⟩ := lY ok1 d1 (by rw [m1]; exact e2)
   have hlen := az.length r
   obtain ⟨ps, ep, tp⟩ := ok1.tab P hP
   refine ⟨a, xs, ps, rfl, q, by omega, ep, tp, λ lo H2 ps' hG => ?_⟩
   obtain ⟨ok2, l2⟩ := ok1.tbl hP ep hG
   refine ⟨λ i zs Hi => ∃ W3, W3.H = Hi /\ WOk X.K tb W3 /\ Le tb ⟨H2, W1.ad, W1.mu⟩ W3 /\ ∃ rest, oh ((es.drop i).map (thG (hName 0) fe (bQ [x] δ capI))) W3.mu = some (rest, μ2) /\ zs ++ rest = kz, ⟨⟨H2, W1.ad, W1.mu⟩, rfl, ok2, Le.refl _, kz, by rw [List.drop_zero, <- e3, <- m1], rfl⟩, ?_, ?_⟩
   .rintro i zs Hi ⟨W3, rfl, ok3, l3, rest, ek, hz⟩
    refine ⟨λ c o hco => ?_, λ y hy => ?_⟩
    .have nl : ¬ kO W1.ad W1.mu c := λ z => by
      obtain ⟨ys, e⟩ := ok2.live z
      have e : H2 c = some (.lst ys) := e
      rw [hco] at e; cases e
     have nt : c ∉ tb := λ z => by
      obtain ⟨qs, e, _⟩ := ok2.tab c z
      have e : H2 c = some (.tbl qs) := e
      rw [hco] at e; cases e
     have q1 : Wd.fz tb ⟨H2, W1.ad, W1.mu⟩ c = some (.frz o (.own 0)) := (mG (W := ⟨H2, W1.ad, W1.mu⟩) nl nt).trans hco
     exact (cY (l3.same c _ q1)).1
    .obtain ⟨d0, ed, dd⟩ := az.get' r hy
     have hi : i < es.length := (Zh.mp ed).1
     have ed' : es[i] = d0 := (Zh.mp ed).2
     rw [List.drop_eq_getElem_cons hi, Zj, ed'] at ek
     unfold oh at ek
     obtain ⟨⟨w, μ3⟩, e5, e6⟩ := Za.mp ek
     unfold thG at e5
     obtain ⟨δ1, e7, e8⟩ := Za.mp e5
     cases e7
     cases w with
     | int j =>
      obtain ⟨⟨rs, μ4⟩, e9, e10⟩ := Zp.mp (show (oh _ μ3).map (λ q => (j :: q.1, q.2)) = some (rest, μ2) from e6)
      cases e10
      have l13 : Le tb W1 W3 := l2.trans l3
      refine ⟨W3, (bQ [x] δ capI).set 0 (some d0), .int j, μ3, rfl, ok3, ((qM (own := [x]) (capI := capI) hd).mono' (l1.trans l13)).set (i := 0) (Den.mono' dd l13), e8, λ v W4 ok4 l4 m4 d4 => ⟨j, bA d4, W4, rfl, ok4, l3.trans l4, rs, by rw [m4]; exact e9, by rw [List.append_assoc]; exact hz⟩⟩
     | _ => cases e6
   .rintro zs Hi ⟨W3, rfl, ok3, l3, rest, ek, hz⟩ p hp
    rw [List.drop_of_length_le (by omega)] at ek
    cases ek
    rw [List.append_nil] at hz
    subst hz
    have l13 : Le tb W1 W3 := l2.trans l3
    have hb : bN X.K tb W3 (lG zs es) (yZ zs xs) := by
     unfold lG yZ
     rw [hlen]
     exact rA (bN.mono' r l13) _
    exact kk p _ W3 ok3 (l1.trans l13) rfl hp hb
  .cases hf
end L3
namespace L2
open PySem PySem.Spec PyProof.Rows
section
variable {prog : Program} {w : World} {A : Around} {E : Value -> Shared -> Prop} {s : Shared}
theorem pq {t : Addr} {its : List Value} {z : Value} {Q : List Value -> Shared -> Prop} (hh : A.handled = none) (ht : IsTup s.heap t (its ++ [z]).toArray) (hz : (its ++ [z]).length <= sizeLine)
  (hQ : ∀ (g : Heap) (tk : Nat), (∀ b o, s.heap.get? b = some o -> g.get? b = some o) -> Q [.ref g.objs.size, z] { s with heap := g.push { cls := .type "list", data := .seq its.toArray }, toks := tk }) :
  wpAny (model prog w) A (unpackItems (.ref t) 2 (some 0)) Q E s := by
 have hlt : t ≠ s.heap.objs.size := by obtain ⟨o, ho, _⟩ := ht; exact Zk (Ze ho)
 unfold unpackItems
 refine wpAny_bind ?_
 unfold notIterableAtAll
 refine wpAny_bind (wpAny_specialOf ht.typeIs slot_tuple_iter.lookup ?_)
 refine wpAny_pure ?_
 simp only [Bool.false_eq_true, if_false]
 refine wpAny_bind (wpAny_holding (iter_tuple ht ?_))
 have hit : Heap.IsTupleIter (s.heap.push { cls := .type "tuple_iterator", data := .fields #[.ref t, .int 0 0] }) s.heap.objs.size t 0 := ⟨_, Zf _ rfl, rfl, rfl⟩
 have ht1 : Heap.IsTuple (s.heap.push { cls := .type "tuple_iterator", data := .fields #[.ref t, .int 0 0] }) t (its ++ [z]).toArray := by
  obtain ⟨o, ho, hc⟩ := ht
  exact ⟨o, Zb _ ho, hc⟩
 refine wpAny_bind (wpAny_holding (wpAny_pure ?_))
 simp only [List.length_nil, Nat.not_lt_zero, if_false]
 refine wpAny_bind (wpAny_holding (wpAny_collect_iter (T := "tuple_iterator") (.inr (.inr (.inr rfl))) (Walks.tuple (A := A.in1) hh s.heap.objs.size t hlt (its ++ [z]).toArray).toS (λ i s' st => ?_) ⟨hit, ht1⟩ (λ b hb => ?_) (by simp) (λ s' acc hm hi => ?_) (by simpa using hz)))
 .obtain ⟨o, ho, hc, _⟩ := st.1
  exact ⟨o, ho, hc⟩
 .simp only [Zi, List.not_mem_nil, or_false] at hb
  rcases hb with rfl | rfl
  .exact Ze (Zf _ rfl)
  .obtain ⟨o, ho, _⟩ := ht1
   exact Ze ho
 .obtain ⟨hsz, hat⟩ := hi
  have hacc : acc.toList = its ++ [z] := by
   have hsz : acc.toList.length = (its ++ [z]).length := by simpa using hsz
   refine List.ext_getElem? λ j => ?_
   by_cases hj : j < acc.toList.length
   .have e1 : acc[j]? = some acc.toList[j] := by simp [hj]
    have := hat j _ e1
    have e2 : (its ++ [z])[j]? = some acc.toList[j] := by simpa using this
    rw [e2]
    simp [hj]
   .rw [List.getElem?_eq_none (by omega), List.getElem?_eq_none (by omega)]
  rw [hacc]
  have h1 : ¬ (its ++ [z]).length < 2 - 1 - 0 := by simp
  have h2 : (its ++ [z]).length - (2 - 1 - 0) = its.length := by simp
  rw [if_neg h1, h2]
  have h3 : List.take its.length (its ++ [z]) = its := by simp
  have h4 : List.drop its.length (its ++ [z]) = [z] := by simp
  rw [h3, h4]
  refine wpAny_bind (wpAny_newList ?_ )
  refine wpAny_pure ?_
  have es : s' = { s with heap := s'.heap, toks := s'.toks } := by
   have g1 := hm.gens
   have g2 := hm.drawn
   have g3 := hm.os
   cases s'
   simp only at g1 g2 g3
   subst g1 g2 g3
   rfl
  have hk : ∀ b o, s.heap.get? b = some o -> s'.heap.get? b = some o := λ b o e => hm.heap b o (λ hb => by
   simp only [Zi, List.not_mem_nil, or_false] at hb
   exact absurd (Ze e) (by rw [hb]; exact Nat.lt_irrefl _)) (Zb _ e)
  rw [es]
  exact hQ s'.heap s'.toks hk
end
theorem vp : ∀ {xs : List V} {x : V} {us : List Value}, Vals (xs ++ [x]) us -> ∃ vs z, us = vs ++ [z] /\ Vals xs vs /\ RelV x z
 | [], x, _, .cons r .nil => ⟨[], _, rfl, .nil, r⟩
 | y :: xs, x, _, .cons r rr => by
  obtain ⟨vs, z, e, a, b⟩ := vp rr
  exact ⟨_ :: vs, z, by rw [e]; rfl, .cons r a, b⟩
def Qi (K : PySem.W.Frag) (t : TGs) : TG := λ v σ H Q => ∃ a xs x, v = .ref a /\ SqT K H a (xs ++ [x]) /\ ∀ l, H l = none -> t [.ref l, x] σ (upd H l (.lst xs)) Q
theorem Hk {X : Cx} {pos p : Pos} {e1 e2 : Expr} {k : Nat} {t : TGs} (hc : X.calm = true) (h : PGs X [e1, e2] t)
  (hs : (assignEach [.Starred e1 p, e2] X.env).map (·.2) = (assignEach [e1, e2] X.env).map (·.2) := by rfl) (hn : (assignEach [.Starred e1 p, e2] X.env).length = 2 := by rfl)
  (hst : (assignEach [.Starred e1 p, e2] X.env).findIdx? (·.1) = some 0 := by rfl) : PG X (.Tuple [.Starred e1 p, e2] k pos) (Qi X.K t) := by
 intro pins s σ H v u Q I r hw
 obtain ⟨a, xs, x, e0, hq, hw⟩ := hw
 subst e0
 cases r
 obtain ⟨its, rv, ht, hz⟩ := I.tuple hq
 obtain ⟨vs, z, rfl, r1, r2⟩ := vp rv
 have hl : (vs ++ [z]).length <= sizeLine := by rw [<- rv.length]; exact hz
 rw [assign_Tuple]
 refine wpAny_bind (wpAny_standAt ?_)
 unfold unpack
 rw [hn, hst, hs]
 refine wpAny_bind (wpAny_holding (pq (I.ok.hd hc) ht hl λ g tk hk => ?_))
 have I1 : Inv X pins σ H { s with heap := g, toks := tk } := I.kept (t' := tk) hk
 have hf : H g.objs.size = none := I1.hok.fresh (Zg _)
 have I2 : Inv X pins σ (upd H g.objs.size (.lst xs)) { s with heap := g.push { cls := .type "list", data := .seq vs.toArray }, toks := tk } := I1.laid (t' := tk) (λ b u e => Zb _ e) (Zg _) (by
  refine ⟨?_, vs, 0, r1, ?_⟩
  .have := hz; simp at this; omega
  .exact Zf _ rfl)
 exact h pins _ σ _ [.ref g.objs.size, x] _ Q I2 (.cons (show RelV (.ref g.objs.size) (.ref g.objs.size) from rfl) (.cons r2 .nil)) (hw _ hf)
end L2
namespace L3
open PySem PySem.Spec PyProof.Rows L2
def xO (i j : Nat) (f : EF) : SF := λ δ μ => (f δ μ).bind λ r => match r.1 with
 | .tup ds => if ds = [] then none else some (.nx, (δ.set i (some (.lst ds.dropLast))).set j (some (ds.getLastD .non)), r.2)
 | _ => none
theorem bN.snoc {K : PySem.W.Frag} {tb : List Addr} {W : Wd} {ds : List D} {d : D} {vs : List V} (h : bN K tb W (ds ++ [d]) vs) : ∃ ws w, vs = ws ++ [w] /\ bN K tb W ds ws /\ Den K tb W d w := by
 induction ds generalizing vs with
 | nil =>
  obtain ⟨v, rfl, dv⟩ := az.one h
  exact ⟨[], v, rfl, az.nil, dv⟩
 | cons c ds ih =>
  have h' : az _ _ _ (c :: (ds ++ [d])) vs := h
  unfold az at h'
  obtain ⟨u, us, rfl, p, q⟩ := h'
  obtain ⟨ws, w, rfl, a, b⟩ := ih q
  exact ⟨u :: ws, w, rfl, az.cons p a, b⟩
theorem Gg {X : Cx} {tb : List Addr} {e : Expr} {f : EF} {pos p1 p2 p3 p4 : Pos} {k i j : Nat} {x y : Str} (hN : X.N.Nodup) (hc : X.calm = true) (he : PD X tb e f) (hi : X.N[i]? = some x := by rfl) (hj : X.N[j]? = some y := by rfl)
  (hx : Loc X.env.scope x := by first | exact Or.inl rfl | exact Or.inr rfl) (hy : Loc X.env.scope y := by first | exact Or.inl rfl | exact Or.inr rfl)
  (hfx : X.fn x = true ∨ X.env.scope.names.lookup x = some .local := by first | exact .inl rfl | exact .inr rfl | assumption) (hfy : X.fn y = true ∨ X.env.scope.names.lookup y = some .local := by first | exact .inl rfl | exact .inr rfl | assumption)
  (hs : swapsWithSole [.Tuple [.Starred (.Name x p1) p2, .Name y p3] k p4] e pos.line X.env = pure false := by rfl) (hw : swappedStores [.Tuple [.Starred (.Name x p1) p2, .Name y p3] k p4] e X.env = pure none := by rfl)
  (h1 : (assignEach [.Tuple [.Starred (.Name x p1) p2, .Name y p3] k p4] X.env).map (·.2) = [assign (.Tuple [.Starred (.Name x p1) p2, .Name y p3] k p4) X.env] := by rfl) :
  PSD X tb (.Assign [.Tuple [.Starred (.Name x p1) p2, .Name y p3] k p4] e pos) (xO i j f) :=
 mK (Mm he (Hk hc (sH (vC hN hi hx hfx) (sH (vC hN hj hy hfy) Aw))) hs hw h1) λ E σ H zq5 => by
  obtain ⟨W, δ, fl, δ', μ', e, ok, hd, hf, k⟩ := zq5
  unfold xO at hf
  obtain ⟨⟨z, μ1⟩, e1, hf⟩ := Za.mp hf
  cases z with
  | tup ds =>
   have hf : (if ds = [] then none else some (Fl.nx, (δ.set i (some (.lst ds.dropLast))).set j (some (ds.getLastD .non)), μ1)) = some (fl, δ', μ') := hf
   by_cases hz : ds = []
   .rw [if_pos hz] at hf; cases hf
   .rw [if_neg hz] at hf
    cases hf
    refine ⟨W, δ, .tup ds, _, e, ok, hd, e1, λ v W1 ok1 l1 m1 d1 => ?_⟩
    obtain ⟨a, xs, rfl, q, r⟩ := fB d1
    have hds : ds = ds.dropLast ++ [ds.getLastD .non] := by
     have h1 := List.dropLast_concat_getLast hz
     have h2 : ds.getLastD .non = ds.getLast hz := by rw [List.getLastD_eq_getLast?, List.getLast?_eq_getLast hz]; rfl
     rw [h2, h1]
    rw [hds] at r
    obtain ⟨ws, w, rfl, ra, rb⟩ := bN.snoc r
    refine ⟨a, ws, w, rfl, SqT.fz q, λ l hl => ?_⟩
    obtain ⟨ok2, le2, e2⟩ := ok1.alloc (o := .lst ws) hl
    refine ⟨_, _, rfl, _, _, rfl, rfl, ?_⟩
    refine k _ _ ok2 (l1.trans le2) m1 (((hd.mono' (l1.trans le2)).set (d := .lst ds.dropLast) ?_).set (Den.mono' rb le2))
    show bc _ _ _ _ _
    unfold bc
    exact ⟨l, ws, rfl, e2, bN.mono' ra le2⟩
  | _ => cases hf
def CJ (fo : EF) (lf : LF) : EF := λ δ μ => (fo δ μ).bind λ r => (lf δ r.2).bind λ q => match r.1 with
 | .cell n => match q.2[n]? with
  | some (some ds) => if iG r.2 n = true /\ ds.length + q.1.length <= sizeLine then some (.non, q.2.set n (some (ds ++ q.1))) else none
  | _ => none
 | _ => none
theorem Cv {X : Cx} {tb : List Addr} {e : Expr} {lf : LF} {o : Expr} {fo : EF} {apos cpos : Pos} (ho : PD X tb o fo) (ha : PDN X tb e lf)
  (hbase : attributeBase o "extend" X.env (eval o X.env) = eval o X.env := by rfl)
  (hfew : ((backTo cpos (starEach [e] X.env)).all (λ x => !x.1) && (backToKw cpos (keywordEach [] X.env)).all (λ x => x.1.isSome)
   && decide ([e].length + ([] : List Keyword).length + (if ([] : List Keyword).isEmpty then 0 else 1) < 30)) = true := by rfl)
  (hline : (apos.endLine == cpos.line) = true := by rfl) (hs : starEach [e] X.env = (false, eval e X.env) :: starEach [] X.env := by rfl) : PD X tb (.Call (.Attribute o "extend" apos) [e] [] cpos) (CJ fo lf) :=
 dO (EY PySem.F.plainAttrs_list PySem.F.slot_list_extend PySem.F.type_list_extend Cd ho (lM ha sy hs) hbase hfew hline hs (by rfl)) λ σ H Q zq3 => by
  obtain ⟨W, δ, d, μ', e, ok, hd, hf, h⟩ := zq3
  unfold CJ at hf
  obtain ⟨⟨x, μ1⟩, e1, hf⟩ := Za.mp hf
  obtain ⟨⟨ys, μ2⟩, e2, hf⟩ := Za.mp hf
  refine ⟨W, δ, x, μ1, e, ok, hd, e1, λ v W1 ok1 l1 m1 d1 => ?_⟩
  match x, e1, e2, hf, d1 with
  | .cell n, e1, e2, hf, d1 =>
   have hf' : (match μ2[n]? with | some (some ds) => if iG μ1 n = true /\ ds.length + ys.length <= sizeLine then some (D.non, μ2.set n (some (ds ++ ys))) else none | _ => none) = some (d, μ') := hf
   cases e4 : μ2[n]? with
   | none => rw [e4] at hf'; cases hf'
   | some oo =>
    cases oo with
    | none => rw [e4] at hf'; cases hf'
    | some ds =>
     rw [e4] at hf'
     have hf'' : (if iG μ1 n = true /\ ds.length + ys.length <= sizeLine then some (D.non, μ2.set n (some (ds ++ ys))) else none) = some (d, μ') := hf'
     split at hf''
     .rename_i hz
      cases hf''
      obtain ⟨a, rfl, q⟩ := fQ d1
      obtain ⟨ds0, e5⟩ := qj hz.1
      obtain ⟨xs0, ex0, _⟩ := ok1.cont n a ds0 q (by rw [m1]; exact e5)
      refine ⟨.inl ⟨rfl, xs0, SqL.of ex0⟩, W1, δ, ys, μ2, rfl, ok1, hd.mono' l1, (by rw [m1]; exact e2), λ p vs W2 ok2 l2 m2 hp r2 => ?_⟩
      obtain ⟨ok3, l3, e7⟩ := ok2.alloc (o := .lst vs) hp
      have q3 := l3.ad _ _ (l2.ad _ _ q)
      have e6 : W2.mu[n]? = some (some ds) := by rw [m2]; exact e4
      obtain ⟨xs, ex, r⟩ := ok3.cont n a ds q3 e6
      refine ⟨a, p, xs, vs, rfl, rfl, ex, (cY e7).1, by rw [<- az.length r, <- az.length r2]; exact hz.2, ?_⟩
      obtain ⟨ok4, l4⟩ := ok3.write q3 e6 (az.append r (bN.mono' r2 l3))
      exact h .non _ ok4 (((l1.trans l2).trans l3).trans l4) (by show W2.mu.set n _ = _; rw [m2]) lN
     .cases hf''
end L3
set_option maxHeartbeats 4000000
namespace LG
open PySem PySem.Spec PyProof.Rows L2 L3
noncomputable def eZ : SF := bH (oH (M1 (ao 0) (gW "int")) (uQ (M1 (ao 0) (gW "bool"))))
noncomputable def dj (dm : FF) : SF := bH (oH (M1 (ao 0) (gW "tuple")) (yQ (mL ["part"] [] (cj (ao 0)) (hName 0) (MC (aq (ao 0) (aG)) dm))))
noncomputable def cU : SF := aR (ur 0 1 (aq (MC (aq (ao 0) (aG)) (bD nA)) (aq (MC (aq (ao 1) (aG)) (bD nA)) (aG)))) (aR (jD (toB (M2 (ao 1) (mC (.int 0)) oNe)) (ur 0 1 (aq (ao 1) (aq (M2 (ao 0) (ao 1) oMod) (aG))))) (bH (ao 0)))
noncomputable def cT (bJ : FF) : SF := aR (bw 1 (mC (.int 0))) (aR (iK (cj (ao 0)) (hName 2) (aR (bw 1 (MC (aq (ao 1) (aq (ao 2) (aG))) bJ)) (sIf (toB (M2 (ao 1) (mC (.int 1)) oEq)) (sE) (bF)))) (bH (ao 1)))
noncomputable def fZ : SF := aR (bw 2 (M2 (M2 (M2 (M2 (M2 (ao 0) (mC (.int 2147483647)) oMod) (mC (.int 48271)) dg) (M2 (M2 (mC (.int 7919)) (ao 1) dg) (ao 1) dg) bT) (mC (.int 104729)) bT) (mC (.int 2147483647)) oMod)) (bH (M2 (M2 (ao 2) (ao 2) dg) (mC (.int 2147483629)) oMod))
noncomputable def kE (aX : FF) : SF := aR (bw 1 (mx (zO (aG)))) (aR (iK (bW (aq (MC (aq (MC (aq (ao 0) (aG)) (bD eU)) (aq (mC (.int 63)) (aG))) (mV oN)) (aG))) (hName 2) (aR (bw 3 (MC (aq (M2 (ao 0) (ao 2) oIx) (aG)) (bD nA))) (aR (sIf (toB (M2 (ao 3) (M2 (mC (.int 10)) (mC (.int 18)) xQ) oLt)) (iK (bW (aq (mC (.int 12)) (aG))) (hName 4) (gb (kZ (ao 1) (aq (MC (aq (MC (aq (ao 3) (aq (M2 (M2 (mC (.int 3)) (ao 4) dg) (mC (.int 1)) bT) (aG))) aX) (aq (M2 (M2 (ao 4) (ao 2) bT) (mC (.int 2)) bT) (aG))) aX) (aG))))) (bF)) (aR (jD (oV (toB (M2 (ao 3) (M2 (mC (.int 10)) (mC (.int 18)) xQ) oGe)) (toB (M2 (MC (aq (ao 1) (aG)) (bD eU)) (mC (.int 900)) oLt))) (aR (gb (kZ (ao 1) (aq (M2 (ao 3) (mC (.int 2147483629)) oMod) (aG)))) (bw 3 (M2 (ao 3) (mC (.int 2147483629)) oDiv)))) (sIf (toB (M2 (ao 3) (mC (.int 2147483629)) oGe)) (gb (kZ (ao 1) (aq (M2 (ao 3) (mC (.int 2147483629)) oMod) (aG)))) (bF)))))) (bH (ao 1)))
noncomputable def iW : SF := aR (sIf (toB (M2 (ao 0) (MC (aG) oLst) oEq)) (bH (mC (.int 0))) (bF)) (bH (Bj (ao 0)))
noncomputable def pZ : SF := aR (jD (toB (M2 (ao 1) (mC (.int 0)) oNe)) (ur 0 1 (aq (ao 1) (aq (M2 (ao 0) (ao 1) oMod) (aG))))) (bH (MC (aq (ao 0) (aG)) (bD nA)))
noncomputable def ir (iV : FF) : SF := aR (bw 2 (ao 1)) (aR (iK (cj (ao 0)) (hName 3) (bw 2 (MC (aq (ao 2) (aq (ao 3) (aG))) iV))) (aR (sIf (toB (M2 (ao 1) (mC (.int 0)) oLt)) (bw 2 (M2 (mC (.int 0)) (MC (aq (ao 2) (aG)) (bD nA)) gG)) (bF)) (bH (M2 (MC (aq (mFz (lLC ["_law_number"] [2] (cj (ao 0)) (hName 0) (aQ) (M2 (ao 0) (ao 1) oDiv))) (aG)) jb) (MC (aq (M2 (ao 1) (ao 2) oDiv) (aG)) oTup) bT))))
noncomputable def kI : SF := bH (oH (M1 (ao 0) (gW "int")) (uQ (M1 (ao 0) (gW "bool"))))
noncomputable def lH : SF := bH (oH (M1 (ao 0) (gW "bool")) (M2 (ao 0) (ao 1) oEq))
noncomputable def gA (bI : FF) : SF := aR (bw 1 (MC (aq (ao 0) (aG)) bI)) (bH (xm (mL ["number"] [1] (cj (ao 0)) (hName 0) (M2 (ao 0) (ao 1) oDiv))))
noncomputable def gZ (dY : FF) : SF := aR (bw 2 (mIf (toB (M2 (ao 1) (mC (.int 0)) oGt)) (mC (.int 1)) (M1 (mC (.int 1)) qI))) (bH (MC (aq (mFz (lLC ["number"] [2] (cj (MC (Ar (ao 0) (aq (ao 1) (aG))) oTup)) (hName 0) (aQ) (M2 (ao 1) (ao 0) dg))) (aG)) dY))
noncomputable def dG (cM : FF) : SF := aR (sIf (jT (gj (jY (MC (aq (ao 1) (aG)) cM))) (toB (M2 (MC (aq (ao 1) (aG)) (bD eU)) (mC (.int 2)) oNe))) (bH (mC (.bl false))) (bF)) (bH (oH (MCh (mC (.int 0)) (M2 (ao 1) (mC (.int 0)) oIx) (ao 0) oLe oLt) (M2 (M2 (ao 1) (mC (.int 1)) oIx) (mC (.int 1)) oGe)))
noncomputable def cR (dX : FF) : SF := aR (sIf (jT (gj (jY (M1 (ao 1) (gW "tuple")))) (toB (M2 (MC (aq (ao 1) (aG)) (bD eU)) (mC (.int 0)) oEq))) (bH (mC (.bl false))) (bF)) (aR (sIf (gj (jY (yQ (mL ["part"] [0] (cj (ao 1)) (hName 0) (MC (aq (ao 1) (aq (ao 0) (aG))) dX))))) (bH (mC (.bl false))) (bF)) (bH (yQ (mL ["one", "other"] [] (uM (aq (ao 1) (aq (mSl (ao 1) (fAt (mC (.int 1))) (fNo)) (aG)))) (mY 2 (dI (hName 0) (dI (hName 1) (ni)))) (M2 (M2 (ao 0) (mC (.int 0)) oIx) (M2 (ao 1) (mC (.int 0)) oIx) oLt)))))
noncomputable def gw (bC aX : FF) : SF := aR (bw 2 (MC (aq (ao 0) (aG)) bC)) (aR (bw 3 (mFz (vO ["_law_k"] [2] (ao 1) (MC (aq (ao 1) (aq (M2 (ao 0) (mC (.int 3)) bT) (aG))) aX)))) (aR (bw 4 (mFz (xn (aq (mSl (ao 3) (fNo) (fAt (M2 (mC (.int 1)) (M2 (ao 2) (MC (aq (mC (.int 4)) (aq (MC (aq (ao 3) (aG)) (bD eU)) (aG))) (mV oN)) oMod) bT))) (aG))))) (bH (MC (aq (mFz (lLC ["_law_k"] [2] (cj (ao 4)) (hName 0) (aQ) (MC (aq (ao 0) (aq (M2 (mC (.int 1)) (M2 (MC (aq (ao 1) (aq (M2 (ao 0) (mC (.int 60)) bT) (aG))) aX) (M2 (MC (aq (mC (.int 3)) (aq (mC (.int 7)) (aq (mC (.int 1000)) (aG)))) oLst) (M2 (M2 (ao 1) (mC (.int 4)) oDiv) (mC (.int 3)) oMod) oIx) oMod) bT) (aG))) oTup))) (aG)) jb))))
noncomputable def bh : SF := bH (uf (mL ["one", "other"] [] (uM (aq (ao 0) (aq (ao 1) (aG)))) (mY 2 (dI (hName 0) (dI (hName 1) (ni)))) (M2 (ao 0) (ao 1) dg)))
noncomputable def il (aP : FF) : SF := bH (mFz (lLC ["at"] [1, 0] (bW (aq (MC (aq (M2 (ao 0) (mC (.int 0)) oIx) (aG)) (bD eU)) (aG))) (hName 0) (aQ) (MC (aq (ao 1) (aq (mFz (lLC ["row"] [0] (cj (ao 2)) (hName 0) (aQ) (M2 (ao 0) (ao 1) oIx))) (aG))) aP)))
noncomputable def jz (fV fu : FF) : SF := aR (bw 2 (mFz (lLC ["k", "share"] [0] (cj (ao 1)) (mY 2 (dI (hName 0) (dI (hName 1) (ni)))) (aQ) (M2 (ao 2) (ao 0) oIx)))) (aR (bw 3 (mFz (lLC ["k", "share"] [] (cj (ao 1)) (mY 2 (dI (hName 0) (dI (hName 1) (ni)))) (aQ) (ao 1)))) (bH (MC (aq (MC (aq (ao 2) (aq (ao 3) (aG))) fV) (aq (uf (nO (ao 3))) (aG))) fu)))
noncomputable def fX (aP : FF) : SF := aR (xO 2 3 (ao 0)) (bH (M2 (M2 (ao 3) (MC (aq (ao 2) (aq (ao 1) (aG))) aP) dg) (MC (aq (ao 2) (aq (ao 2) (aG))) aP) oGe))
noncomputable def eG (dw fY eF : FF) : SF := aR (sIf (gj (jY (MC (aq (MC (aq (ao 0) (aG)) (bD eU)) (aq (ao 1) (aG))) dw))) (bH (mC (.bl false))) (bF)) (aR (bw 2 (MC (aq (ao 0) (aq (ao 1) (aG))) fY)) (bH (yQ (mL ["arrow"] [2] (cj (ao 0)) (hName 0) (MC (aq (ao 1) (aq (ao 0) (aG))) eF)))))
noncomputable def gV (dD : FF) : SF := aR (bw 2 (M2 (MC (aq (mC (.int 0)) (aG)) oLst) (MC (aq (M2 (ao 0) (mC (.int 0)) oIx) (aG)) (bD eU)) dg)) (aR (bw 3 (mC (.int 0))) (aR (iK (cj (ao 1)) (mY 2 (dI (hName 4) (dI (hName 5) (ni)))) (aR (bw 3 (M2 (ao 3) (ao 5) bT)) (bw 2 (mFz (lLC ["_law_i"] [2, 5, 0, 4] (bW (aq (MC (aq (ao 2) (aG)) (bD eU)) (aG))) (hName 0) (aQ) (M2 (M2 (ao 1) (ao 0) oIx) (M2 (ao 2) (M2 (M2 (ao 3) (ao 4) oIx) (ao 0) oIx) dg) bT)))))) (bH (MC (aq (ao 2) (aq (ao 3) (aG))) dD))))
noncomputable def fP (aX : FF) : SF := aR (bw 3 (mFz (lLC ["_law_k"] [0] (bW (aq (ao 1) (aG))) (hName 0) (aQ) (MC (aq (ao 1) (aq (M2 (ao 0) (mC (.int 5)) bT) (aG))) aX)))) (aR (sIf (toB (M2 (ao 2) (mC (.int 0)) oEq)) (bH (mFz (lLC ["_law_one"] [] (cj (ao 3)) (hName 0) (aQ) (M2 (M2 (ao 0) (mC (.int 7)) oMod) (mC (.int 3)) gG)))) (bF)) (aR (sIf (toB (M2 (ao 2) (mC (.int 1)) oEq)) (bH (mFz (lLC ["_law_one"] [] (cj (ao 3)) (hName 0) (aQ) (M2 (M2 (ao 0) (mC (.int 41)) oMod) (mC (.int 20)) gG)))) (bF)) (aR (sIf (toB (M2 (ao 2) (mC (.int 2)) oEq)) (bH (mFz (lLC ["_law_one"] [] (cj (ao 3)) (hName 0) (aQ) (M2 (M2 (ao 0) (mC (.int 2000001)) oMod) (mC (.int 1000000)) gG)))) (bF)) (aR (sIf (toB (M2 (ao 2) (mC (.int 3)) oEq)) (bH (M2 (MC (aq (M2 (mC (.int 1)) (M2 (M2 (ao 3) (mC (.int 0)) oIx) (mC (.int 9)) oMod) bT) (aG)) oLst) (mFz (lLC ["_law_one"] [] (cj (mSl (ao 3) (fAt (mC (.int 1))) (fNo))) (hName 0) (aQ) (M2 (M2 (ao 0) (mC (.int 11)) oMod) (mC (.int 5)) gG))) bT)) (bF)) (bH (M2 (MC (aq (M2 (mC (.int 3)) (M2 (M2 (M2 (M2 (ao 3) (mC (.int 0)) oIx) (mC (.int 9)) oDiv) (mC (.int 2)) oMod) (M2 (M2 (ao 3) (mC (.int 0)) oIx) (mC (.int 5)) oMod) dg) bT) (aG)) oLst) (mFz (lLC ["_law_one"] [] (cj (mSl (ao 3) (fAt (mC (.int 1))) (fNo))) (hName 0) (aQ) (M2 (M2 (ao 0) (mC (.int 9)) oMod) (mC (.int 4)) gG))) bT))))))
noncomputable def jg (bC fJ bM : FF) : SF := aR (bw 3 (MC (aq (ao 0) (aG)) bC)) (aR (bw 4 (M2 (mC (.int 1)) (M2 (M2 (ao 3) (mC (.int 9)) oDiv) (ao 2) oMod) bT)) (aR (bw 5 (M2 (ao 3) (mC (.int 9)) oMod)) (aR (bw 6 (mx (lLC ["_law_j"] [0, 1, 5] (bW (aq (ao 4) (aG))) (hName 0) (aQ) (MC (aq (MC (aq (ao 1) (aG)) bC) (aq (ao 2) (aq (M2 (ao 3) (mC (.int 5)) oMod) (aG)))) fJ)))) (aR (sIf (toB (M2 (ao 5) (mC (.int 5)) oEq)) (bw 6 (mx (BK (ao 6) (mFz (lLC ["_law_row"] [] (cj (mSl (ao 6) (fNo) (fAt (M2 (mC (.int 1)) (M2 (ao 4) (mC (.int 2)) oDiv) bT)))) (hName 0) (aQ) (mFz (lLC ["_law_one"] [] (cj (ao 0)) (hName 0) (aQ) (M2 (mC (.int 0)) (ao 0) gG)))))))) (bF)) (aR (sIf (toB (M2 (ao 5) (mC (.int 6)) oEq)) (gb (kZ (ao 6) (aq (mFz (lLC ["_law_k"] [6] (bW (aq (ao 1) (aG))) (hName 0) (aQ) (M2 (mC (.int 0)) (uf (nO (mFz (lLC ["_law_row"] [0] (cj (ao 1)) (hName 0) (aQ) (M2 (ao 0) (ao 1) oIx))))) gG))) (aG)))) (bF)) (aR (sIf (toB (M2 (ao 5) (mC (.int 7)) oEq)) (bw 6 (mx (lLC ["_law_row"] [6] (cj (ao 6)) (hName 0) (aQ) (M2 (ao 1) (mC (.int 0)) oIx)))) (bF)) (aR (sIf (toB (M2 (ao 5) (mC (.int 8)) oEq)) (bw 6 (mx (lLC ["_law_j"] [6] (bW (aq (ao 4) (aG))) (hName 0) (aQ) (mFz (lLC ["_law_one"] [0] (cj (M2 (ao 1) (mC (.int 0)) oIx)) (hName 0) (aQ) (M2 (M2 (M2 (ao 1) (mC (.int 5)) oMod) (mC (.int 1)) bT) (ao 0) dg)))))) (bF)) (bH (MC (aq (M2 (ao 3) (mC (.int 9000)) oDiv) (aq (Gn (ao 6)) (aq (ao 1) (aG)))) bM)))))))))
noncomputable def dR (aX : FF) : SF := aR (bw 3 (mFz (xn (aq (mFz (lLC ["_law_k"] [0] (bW (aq (ao 2) (aG))) (hName 0) (aQ) (MC (aq (MC (aq (ao 1) (aq (M2 (ao 0) (mC (.int 9)) bT) (aG))) aX) (aq (ao 0) (aG))) oTup))) (aG))))) (aR (bw 4 (mFz (lLC ["_law_mark"] [] (cj (ao 3)) (hName 0) (aQ) (M2 (mC (.int 1)) (M2 (mC (.int 2)) (M2 (M2 (M2 (ao 0) (mC (.int 0)) oIx) (mC (.int 3)) oDiv) (mC (.int 2)) oMod) dg) gG)))) (bH (mFz (lLC ["_law_row"] [2, 4, 3] (cj (ao 1)) (hName 0) (aQ) (MC (aq (mFz (lLC ["_law_k"] [2, 0, 3] (bW (aq (ao 1) (aG))) (hName 0) (aQ) (M2 (M2 (ao 1) (ao 0) oIx) (M2 (ao 2) (M2 (M2 (ao 3) (ao 0) oIx) (mC (.int 1)) oIx) oIx) dg))) (aG)) jb)))))
noncomputable def jM (di : FF) : SF := aR (sIf (jT (gj (jY (M1 (ao 1) (gW "tuple")))) (toB (M2 (ao 1) (MC (aG) oTup) xZ))) (bH (mC (.bl false))) (bF)) (aR (bw 2 (M1 (mC (.int 1)) qI)) (aR (iK (cj (ao 1)) (hName 3) (aR (sIf (jT (gj (jY (M1 (ao 3) (gW "tuple")))) (jT (toB (M2 (MC (aq (ao 3) (aG)) (bD eU)) (mC (.int 2)) oNe)) (jT (gj (jY (MC (aq (M2 (ao 3) (mC (.int 0)) oIx) (aG)) di))) (gj (jY (MC (aq (M2 (ao 3) (mC (.int 1)) oIx) (aG)) di)))))) (bH (mC (.bl false))) (bF)) (aR (sIf (jT (toB (M2 (M2 (ao 3) (mC (.int 0)) oIx) (ao 2) oLe)) (jT (toB (M2 (M2 (ao 3) (mC (.int 0)) oIx) (ao 0) oGe)) (toB (M2 (M2 (ao 3) (mC (.int 1)) oIx) (mC (.int 1)) oLt)))) (bH (mC (.bl false))) (bF)) (bw 2 (M2 (ao 3) (mC (.int 0)) oIx))))) (bH (mC (.bl true)))))
noncomputable def mZ : SF := bH (uf (nO (mFz (lLC ["_law_one", "_law_other"] [] (uM (aq (ao 0) (aq (ao 1) (aG)))) (mY 2 (dI (hName 0) (dI (hName 1) (ni)))) (aQ) (M2 (ao 0) (ao 1) dg)))))
noncomputable def iJ (cN bU cA : FF) : SF := aR (sIf (gj (jY (MC (aq (MC (aq (ao 0) (aG)) (bD eU)) (aq (ao 1) (aG))) cN))) (bH (mC (.bl false))) (bF)) (aR (bw 2 (MC (aq (ao 0) (aq (ao 1) (aG))) bU)) (aR (bw 3 (MC (aq (ao 2) (aq (mSl (ao 2) (fNo) (fAt (M1 (mC (.int 1)) qI))) (aG))) cA)) (bH (M2 (mFz (lLC ["_law_arrow_here"] [2, 3] (cj (ao 0)) (hName 0) (toB (M2 (M2 (MC (aq (ao 1) (aq (ao 0) (aG))) cA) (M2 (ao 1) (M1 (mC (.int 1)) qI) oIx) dg) (ao 2) oLt)) (ao 0))) (MC (aG) oLst) oEq))))
noncomputable def jq (dD : FF) : SF := aR (bw 2 (M2 (MC (aq (mC (.int 0)) (aG)) oLst) (MC (aq (M2 (ao 0) (mC (.int 0)) oIx) (aG)) (bD eU)) dg)) (aR (bw 3 (mC (.int 0))) (aR (iK (cj (ao 1)) (mY 2 (dI (hName 4) (dI (hName 5) (ni)))) (aR (bw 3 (M2 (ao 3) (ao 5) bT)) (bw 2 (mFz (lLC ["_law_i"] [2, 5, 0, 4] (bW (aq (MC (aq (ao 2) (aG)) (bD eU)) (aG))) (hName 0) (aQ) (M2 (M2 (ao 1) (ao 0) oIx) (M2 (ao 2) (M2 (M2 (ao 3) (ao 4) oIx) (ao 0) oIx) dg) bT)))))) (bH (MC (aq (ao 2) (aq (ao 3) (aG))) dD))))
noncomputable def lB (cN bU cA : FF) : SF := aR (sIf (gj (jY (MC (aq (MC (aq (ao 0) (aG)) (bD eU)) (aq (ao 1) (aG))) cN))) (bH (mC (.bl false))) (bF)) (aR (bw 2 (MC (aq (ao 0) (aq (ao 1) (aG))) bU)) (aR (bw 3 (MC (aq (ao 2) (aq (mSl (ao 2) (fNo) (fAt (M1 (mC (.int 1)) qI))) (aG))) cA)) (bH (M2 (mFz (lLC ["_law_arrow_here"] [2, 3] (cj (ao 0)) (hName 0) (toB (M2 (M2 (MC (aq (ao 1) (aq (ao 0) (aG))) cA) (M2 (ao 1) (M1 (mC (.int 1)) qI) oIx) dg) (ao 2) oLt)) (ao 0))) (MC (aG) oLst) oEq))))
noncomputable def mJ (bC fJ bM : FF) : SF := aR (bw 3 (MC (aq (ao 0) (aG)) bC)) (aR (bw 4 (M2 (mC (.int 1)) (M2 (M2 (ao 3) (mC (.int 9)) oDiv) (ao 2) oMod) bT)) (aR (bw 5 (M2 (ao 3) (mC (.int 9)) oMod)) (aR (bw 6 (mx (lLC ["_law_j"] [0, 1, 5] (bW (aq (ao 4) (aG))) (hName 0) (aQ) (MC (aq (MC (aq (ao 1) (aG)) bC) (aq (ao 2) (aq (M2 (ao 3) (mC (.int 5)) oMod) (aG)))) fJ)))) (aR (sIf (toB (M2 (ao 5) (mC (.int 5)) oEq)) (bw 6 (mx (BK (ao 6) (mFz (lLC ["_law_row"] [] (cj (mSl (ao 6) (fNo) (fAt (M2 (mC (.int 1)) (M2 (ao 4) (mC (.int 2)) oDiv) bT)))) (hName 0) (aQ) (mFz (lLC ["_law_one"] [] (cj (ao 0)) (hName 0) (aQ) (M2 (mC (.int 0)) (ao 0) gG)))))))) (bF)) (aR (sIf (toB (M2 (ao 5) (mC (.int 6)) oEq)) (gb (kZ (ao 6) (aq (mFz (lLC ["_law_k"] [6] (bW (aq (ao 1) (aG))) (hName 0) (aQ) (M2 (mC (.int 0)) (uf (nO (mFz (lLC ["_law_row"] [0] (cj (ao 1)) (hName 0) (aQ) (M2 (ao 0) (ao 1) oIx))))) gG))) (aG)))) (bF)) (aR (sIf (toB (M2 (ao 5) (mC (.int 7)) oEq)) (bw 6 (mx (lLC ["_law_row"] [6] (cj (ao 6)) (hName 0) (aQ) (M2 (ao 1) (mC (.int 0)) oIx)))) (bF)) (aR (sIf (toB (M2 (ao 5) (mC (.int 8)) oEq)) (bw 6 (mx (lLC ["_law_j"] [6] (bW (aq (ao 4) (aG))) (hName 0) (aQ) (mFz (lLC ["_law_one"] [0] (cj (M2 (ao 1) (mC (.int 0)) oIx)) (hName 0) (aQ) (M2 (M2 (M2 (ao 1) (mC (.int 5)) oMod) (mC (.int 1)) bT) (ao 0) dg)))))) (bF)) (bH (MC (aq (M2 (ao 3) (mC (.int 9000)) oDiv) (aq (Gn (ao 6)) (aq (ao 1) (aG)))) bM)))))))))
noncomputable def ie (cA : FF) : SF := aR (ur 3 4 (aq (M2 (ao 0) (ao 1) oIx) (aq (M2 (ao 0) (ao 2) oIx) (aG)))) (aR (bw 5 (M2 (MC (aq (ao 4) (aq (ao 4) (aG))) cA) (MC (aq (ao 3) (aq (ao 4) (aG))) cA) gG)) (aR (bw 6 (M2 (MC (aq (ao 3) (aq (ao 3) (aG))) cA) (MC (aq (ao 3) (aq (ao 4) (aG))) cA) gG)) (aR (sIf (jT (toB (M2 (ao 5) (mC (.int 0)) oLe)) (toB (M2 (ao 6) (mC (.int 0)) oLe))) (bH (mC .non)) (bF)) (bH (MC (aq (MC (aq (ao 1) (aq (ao 5) (aG))) oTup) (aq (MC (aq (ao 2) (aq (ao 6) (aG))) oTup) (aG))) oTup)))))
noncomputable def oX (fW bC fG eO cV dW cQ gJ : FF) : SF := aR (bw 1 (MC (aq (ao 0) (aG)) fW)) (aR (iK (bW (aq (mC (.int 5)) (aG))) (hName 2) (aR (bw 3 (MC (aq (ao 1) (aq (M2 (mC (.int 1)) (M2 (MC (aq (ao 1) (aG)) bC) (mC (.int 6)) oMod) bT) (aq (mC (.int 8)) (aG)))) fG)) (aR (bw 4 (mFz (Aq (aq (MC (aq (ao 3) (aG)) (bD eU)) (aG))))) (aR (bw 5 (mx (BK (mFz (lLC ["_law_k"] [] (cj (ao 4)) (hName 0) (aQ) (MC (aq (MC (aq (ao 0) (aq (mC (.int 1)) (aG))) oTup) (aG)) oTup))) (mFz (lLC ["_law_k"] [1, 4] (cj (ao 4)) (hName 0) (aQ) (MC (aq (ao 1) (aq (ao 2) (aG))) eO)))))) (aR (iK (cj (ao 4)) (hName 6) (gb (CJ (ao 5) (lLC ["_law_j"] [3, 6] (cj (ao 4)) (hName 0) (toB (M2 (ao 0) (ao 2) oGt)) (MC (aq (ao 1) (aq (ao 2) (aq (ao 0) (aG)))) cV))))) (iK (cj (ao 5)) (hName 7) (sIf (toB (M2 (ao 7) (mC .non) pH)) (aR (bw 8 (MC (aq (ao 3) (aq (ao 7) (aG))) dW)) (sIf (gj (jY (MC (aq (MC (aq (ao 3) (aq (ao 7) (aG))) cQ) (aq (ao 8) (aG))) gJ))) (bH (mC (.bl false))) (bF))) (bF)))))))) (bH (mC (.bl true))))
noncomputable def fM (di : FF) : SF := aR (sIf (jT (gj (jY (M1 (ao 1) (gW "tuple")))) (toB (M2 (ao 1) (MC (aG) oTup) xZ))) (bH (mC (.bl false))) (bF)) (aR (bw 2 (M1 (mC (.int 1)) qI)) (aR (iK (cj (ao 1)) (hName 3) (aR (sIf (jT (gj (jY (M1 (ao 3) (gW "tuple")))) (jT (toB (M2 (MC (aq (ao 3) (aG)) (bD eU)) (mC (.int 2)) oNe)) (jT (gj (jY (MC (aq (M2 (ao 3) (mC (.int 0)) oIx) (aG)) di))) (gj (jY (MC (aq (M2 (ao 3) (mC (.int 1)) oIx) (aG)) di)))))) (bH (mC (.bl false))) (bF)) (aR (sIf (jT (toB (M2 (M2 (ao 3) (mC (.int 0)) oIx) (ao 2) oLe)) (jT (toB (M2 (M2 (ao 3) (mC (.int 0)) oIx) (ao 0) oGe)) (toB (M2 (M2 (ao 3) (mC (.int 1)) oIx) (mC (.int 1)) oLt)))) (bH (mC (.bl false))) (bF)) (bw 2 (M2 (ao 3) (mC (.int 0)) oIx))))) (bH (mC (.bl true)))))
end LG
namespace Lk16
open PySem PySem.Spec PyProof.Rows L2 L3 LG
def top (i : Nat) : Stmt := PySem.Challenge.pw_heapsmeet_k16_near_papers_made_up.main.body.getD i (.Pass ⟨0, 0, 0, 0⟩)
structure BI (K : PySem.W.Frag) (mg : Str -> Option Value) : Prop where
 b_abs : mg "abs" = none
 b_all : mg "all" = none
 b_bool : mg "bool" = none
 b_int : mg "int" = none
 b_isinstance : mg "isinstance" = none
 b_len : mg "len" = none
 b_list : mg "list" = none
 b_min : mg "min" = none
 b_range : mg "range" = none
 b_sorted : mg "sorted" = none
 b_sum : mg "sum" = none
 b_tuple : mg "tuple" = none
 b_zip : mg "zip" = none
variable {P : Program} {w : World} {K : PySem.W.Frag} {mg : Str -> Option Value} {base : Heap} {tb : List Addr} {f Tb : Addr} {fd : FuncData}
abbrev rE : Stmt := top 18
theorem vq : bu ["_law_cell", "_law_k", "_law_number"] ["_law_cell", "_law_k"] (aO rE) := ⟨rfl, rfl, rfl, by decide +kernel, rfl, by decide +kernel, by decide +kernel⟩
theorem Bx (T : BI K mg) (F : fK K "_law_mixed" "_law_mixed" rE f fd Tb) (KB : K.In base) (hmg : mg "_law_mixed" = some (.ref f)) : FI P w K mg base tb "_law_mixed" 2 (0 + 1) (aK 3 (fZ)) :=
 dz F KB hmg vq rfl (λ _ _ _ _ _ _ => us2 λ _ _ => rfl) λ c A outer s H E hcd hr => by
  have nd := vq.nd
  refine aF ?_ (aH (aV (aJ cJ (aJ fL (pdv 2) (pdv 2)) aC)))
  refine aZ (i := 2) nd ?_
  refine aJ cJ ?_ aC
  refine aJ cZ ?_ aC
  exact aJ cZ (aJ fL (aJ cJ (pdv 0) aC) aC) (aJ fL (aJ fL aC (pdv 1)) (pdv 1))
abbrev rZ : Stmt := top 19
theorem uT : bu ["_law_script", "_law_drawn", "_law_k", "_law_cell", "_law_j"] ["_law_script"] (aO rZ) := ⟨rfl, rfl, rfl, by decide +kernel, rfl, by decide +kernel, by decide +kernel⟩
theorem Bq {aX : FF} (T : BI K mg) (F : fK K "_law_draws" "_law_draws" rZ f fd Tb) (KB : K.In base) (hmg : mg "_law_draws" = some (.ref f)) (F_Lmixed : FI P w K mg base tb "_law_mixed" 2 1 aX) : FI P w K mg base tb "_law_draws" 1 (1 + 1) (aK 5 (kE aX)) :=
 dz F KB hmg uT rfl (λ _ _ _ _ _ _ => us1 λ _ => rfl) λ c A outer s H E hcd hr => by
  have nd := uT.nd
  refine aF (aZ (i := 1) nd (lL (Iv aA))) ?_
  refine aF ?_ (aH (aV (pdv 1)))
  refine gU (ts := [2]) PassesOwn.never rfl ?_ (aL (i := 2) nd) ?_
  refine cW T.b_range ?_
  refine au ?_ aA
  refine Bk rfl T.b_min ?_
  exact au (gQ T.b_len (au (pdv 0) aA)) (au aC aA)
  refine aF (aZ (i := 3) nd (rP T.b_abs (au (cI (pdv 0) (pdv 2)) aA))) ?_
  refine aF ?_ ?_
  refine cL (bz rW (pdv 3) (aJ Df aC aC)) ?_ bB
  refine aH ?_
  refine gU (ts := [4]) PassesOwn.never rfl (cW T.b_range (au aC aA)) (aL (i := 4) nd) ?_
  refine aH ?_
  refine kY ?_
  refine lZ (pdv 1) ?_
  refine au ?_ aA
  refine aW F_Lmixed (hr.mono (by decide)) ?_ (aB (aB aU))
  refine au ?_ (au (aJ cZ (aJ cZ (pdv 4) (pdv 2)) aC) aA)
  refine aW F_Lmixed (hr.mono (by decide)) ?_ (aB (aB aU))
  exact au (pdv 3) (au (aJ cZ (aJ fL aC (pdv 4)) aC) aA)
  refine aF ?_ ?_
  refine pF PassesOwn.never ?_ ?_
  refine nj ?_
  exact Jq (bz xK (pdv 3) (aJ Df aC aC)) (Fi (bz rW (gQ T.b_len (au (pdv 1) aA)) aC))
  refine aF ?_ (aH (aZ (i := 3) nd (aJ iZ (pdv 3) aC)))
  exact kY (lZ (pdv 1) (au (aJ cJ (pdv 3) aC) aA))
  refine aH ?_
  refine cL (bz xK (pdv 3) aC) ?_ bB
  refine aH ?_
  exact kY (lZ (pdv 1) (au (aJ cJ (pdv 3) aC) aA))
abbrev vM : Stmt := top 20
theorem wZ : bu ["_law_drawn"] ["_law_drawn"] (aO vM) := ⟨rfl, rfl, rfl, by decide +kernel, rfl, by decide +kernel, by decide +kernel⟩
theorem Fg (T : BI K mg) (F : fK K "_law_next" "_law_next" vM f fd Tb) (KB : K.In base) (hmg : mg "_law_next" = some (.ref f)) : FI P w K mg base tb "_law_next" 1 (0 + 1) (aK 1 (iW)) :=
 dz F KB hmg wZ rfl (λ _ _ _ _ _ _ => us1 λ _ => rfl) λ c A outer s H E hcd hr => by
  have nd := wZ.nd
  refine aF ?_ (aH (aV (Ij (pdv 0))))
  exact cL (bz (jt hr) (pdv 0) (pA aA)) (aH (aV aC)) bB
abbrev rF : Stmt := top 30
theorem ux : bu ["_law_number", "_law_size", "_law_kind", "_law_row"] ["_law_number", "_law_size", "_law_kind"] (aO rF) := ⟨rfl, rfl, rfl, by decide +kernel, rfl, by decide +kernel, by decide +kernel⟩
theorem BZ {aX : FF} (T : BI K mg) (F : fK K "_law_arrow" "_law_arrow" rF f fd Tb) (KB : K.In base) (hmg : mg "_law_arrow" = some (.ref f)) (F_Lmixed : FI P w K mg base tb "_law_mixed" 2 1 aX) : FI P w K mg base tb "_law_arrow" 3 (1 + 1) (aK 4 (fP aX)) :=
 dz F KB hmg ux rfl (λ _ _ _ _ _ _ => us3 λ _ _ _ => rfl) λ c A outer s H E hcd hr => by
  have nd := ux.nd
  refine aF ?_ ?_
  refine vL (i := 3) nd (own := ["_law_k"]) (cap := ["_law_number"]) (capI := [0]) (ts := [0]) rfl ⟨rfl, by decide +kernel, ⟨⟨rfl, by first | exact Or.inl rfl | exact Or.inr rfl⟩, trivial⟩, by decide +kernel, by decide +kernel⟩ (by decide +kernel) (cW T.b_range (au (pdv 1) aA)) (λ cs C fp s2 H2 => aL (i := 0) (show (["_law_k", "_law_number"] : List Str).Nodup by decide +kernel)) ?_ ?_
  intro cs C fp s2 H2
  exact bf
  intro cs C fp s2 H2
  exact aW F_Lmixed (hr.mono (by decide)) (au (pdv 1) (au (aJ cZ (pdv 0) aC) aA)) (aB (aB aU))
  refine aF ?_ ?_
  refine cL (bz (jt hr) (pdv 2) aC) ?_ bB
  refine aH ?_
  refine aV ?_
  refine cg ?_
  refine bZ (own := ["_law_one"]) (cap := []) (capI := []) (ts := [0]) rfl ⟨rfl, by decide +kernel, trivial, by decide +kernel, by decide +kernel⟩ (by decide +kernel) (bx (pdv 3)) (λ cs C fp s2 H2 => aL (i := 0) (show (["_law_one"] : List Str).Nodup by decide +kernel)) ?_ ?_
  intro cs C fp s2 H2
  exact bf
  intro cs C fp s2 H2
  exact aJ iD (aJ cJ (pdv 0) aC) aC
  refine aF ?_ ?_
  refine cL (bz (jt hr) (pdv 2) aC) ?_ bB
  refine aH ?_
  refine aV ?_
  refine cg ?_
  refine bZ (own := ["_law_one"]) (cap := []) (capI := []) (ts := [0]) rfl ⟨rfl, by decide +kernel, trivial, by decide +kernel, by decide +kernel⟩ (by decide +kernel) (bx (pdv 3)) (λ cs C fp s2 H2 => aL (i := 0) (show (["_law_one"] : List Str).Nodup by decide +kernel)) ?_ ?_
  intro cs C fp s2 H2
  exact bf
  intro cs C fp s2 H2
  exact aJ iD (aJ cJ (pdv 0) aC) aC
  refine aF ?_ ?_
  refine cL (bz (jt hr) (pdv 2) aC) ?_ bB
  refine aH ?_
  refine aV ?_
  refine cg ?_
  refine bZ (own := ["_law_one"]) (cap := []) (capI := []) (ts := [0]) rfl ⟨rfl, by decide +kernel, trivial, by decide +kernel, by decide +kernel⟩ (by decide +kernel) (bx (pdv 3)) (λ cs C fp s2 H2 => aL (i := 0) (show (["_law_one"] : List Str).Nodup by decide +kernel)) ?_ ?_
  intro cs C fp s2 H2
  exact bf
  intro cs C fp s2 H2
  exact aJ iD (aJ cJ (pdv 0) aC) aC
  refine aF ?_ ?_
  refine cL (bz (jt hr) (pdv 2) aC) ?_ bB
  refine aH ?_
  refine aV ?_
  refine aJ cZ ?_ ?_
  refine pA ?_
  exact au (aJ cZ aC (aJ cJ (cI (pdv 3) aC) aC)) aA
  refine cg ?_
  refine bZ (own := ["_law_one"]) (cap := []) (capI := []) (ts := [0]) rfl ⟨rfl, by decide +kernel, trivial, by decide +kernel, by decide +kernel⟩ (by decide +kernel) (bx (jr (pdv 3) (jn aC) jo)) (λ cs C fp s2 H2 => aL (i := 0) (show (["_law_one"] : List Str).Nodup by decide +kernel)) ?_ ?_
  intro cs C fp s2 H2
  exact bf
  intro cs C fp s2 H2
  exact aJ iD (aJ cJ (pdv 0) aC) aC
  refine aH ?_
  refine aV ?_
  refine aJ cZ ?_ ?_
  refine pA ?_
  refine au ?_ aA
  refine aJ cZ aC ?_
  exact aJ fL (aJ cJ (aJ iZ (cI (pdv 3) aC) aC) aC) (aJ cJ (cI (pdv 3) aC) aC)
  refine cg ?_
  refine bZ (own := ["_law_one"]) (cap := []) (capI := []) (ts := [0]) rfl ⟨rfl, by decide +kernel, trivial, by decide +kernel, by decide +kernel⟩ (by decide +kernel) (bx (jr (pdv 3) (jn aC) jo)) (λ cs C fp s2 H2 => aL (i := 0) (show (["_law_one"] : List Str).Nodup by decide +kernel)) ?_ ?_
  intro cs C fp s2 H2
  exact bf
  intro cs C fp s2 H2
  exact aJ iD (aJ cJ (pdv 0) aC) aC
abbrev iB : Stmt := top 32
theorem jW : bu ["_law_number", "_law_rows", "_law_size", "_law_order", "_law_sign"] ["_law_number", "_law_rows", "_law_size"] (aO iB) := ⟨rfl, rfl, rfl, by decide +kernel, rfl, by decide +kernel, by decide +kernel⟩
theorem qK {aX : FF} (T : BI K mg) (F : fK K "_law_turned_rows" "_law_turned_rows" iB f fd Tb) (KB : K.In base) (hmg : mg "_law_turned_rows" = some (.ref f)) (F_Lmixed : FI P w K mg base tb "_law_mixed" 2 1 aX) : FI P w K mg base tb "_law_turned_rows" 3 (1 + 1) (aK 5 (dR aX)) :=
 dz F KB hmg jW rfl (λ _ _ _ _ _ _ => us3 λ _ _ _ => rfl) λ c A outer s H E hcd hr => by
  have nd := jW.nd
  refine aF ?_ ?_
  refine aZ (i := 3) nd ?_
  refine cg ?_
  refine xU T.b_sorted ?_
  refine au ?_ aA
  refine cg ?_
  refine bZ (own := ["_law_k"]) (cap := ["_law_number"]) (capI := [0]) (ts := [0]) rfl ⟨rfl, by decide +kernel, ⟨⟨rfl, by first | exact Or.inl rfl | exact Or.inr rfl⟩, trivial⟩, by decide +kernel, by decide +kernel⟩ (by decide +kernel) (cW T.b_range (au (pdv 2) aA)) (λ cs C fp s2 H2 => aL (i := 0) (show (["_law_k", "_law_number"] : List Str).Nodup by decide +kernel)) ?_ ?_
  intro cs C fp s2 H2
  exact bf
  intro cs C fp s2 H2
  refine jd ?_
  refine au ?_ (au (pdv 0) aA)
  exact aW F_Lmixed (hr.mono (by decide)) (au (pdv 1) (au (aJ cZ (pdv 0) aC) aA)) (aB (aB aU))
  refine aF ?_ ?_
  refine aZ (i := 4) nd ?_
  refine cg ?_
  refine bZ (own := ["_law_mark"]) (cap := []) (capI := []) (ts := [0]) rfl ⟨rfl, by decide +kernel, trivial, by decide +kernel, by decide +kernel⟩ (by decide +kernel) (bx (pdv 3)) (λ cs C fp s2 H2 => aL (i := 0) (show (["_law_mark"] : List Str).Nodup by decide +kernel)) ?_ ?_
  intro cs C fp s2 H2
  exact bf
  intro cs C fp s2 H2
  refine aJ iD aC ?_
  exact aJ fL aC (aJ cJ (aJ iZ (cI (pdv 0) aC) aC) aC)
  refine aH ?_
  refine aV ?_
  refine cg ?_
  refine bZ (own := ["_law_row"]) (cap := ["_law_size", "_law_sign", "_law_order"]) (capI := [2, 4, 3]) (ts := [0]) rfl ⟨rfl, by decide +kernel, ⟨⟨rfl, by first | exact Or.inl rfl | exact Or.inr rfl⟩, ⟨⟨rfl, by first | exact Or.inl rfl | exact Or.inr rfl⟩, ⟨⟨rfl, by first | exact Or.inl rfl | exact Or.inr rfl⟩, trivial⟩⟩⟩, by decide +kernel, by decide +kernel⟩ (by decide +kernel) (bx (pdv 1)) (λ cs C fp s2 H2 => aL (i := 0) (show (["_law_row", "_law_size", "_law_sign", "_law_order"] : List Str).Nodup by decide +kernel)) ?_ ?_
  intro cs C fp s2 H2
  exact bf
  intro cs C fp s2 H2
  refine sZ T.b_tuple ?_
  refine au ?_ aA
  refine cg ?_
  refine bZ (own := ["_law_k"]) (cap := ["_law_sign", "_law_row", "_law_order"]) (capI := [2, 0, 3]) (ts := [0]) rfl ⟨rfl, by decide +kernel, ⟨⟨rfl, by first | exact Or.inl rfl | exact Or.inr rfl⟩, ⟨⟨rfl, by first | exact Or.inl rfl | exact Or.inr rfl⟩, ⟨⟨rfl, by first | exact Or.inl rfl | exact Or.inr rfl⟩, trivial⟩⟩⟩, by decide +kernel, by decide +kernel⟩ (by decide +kernel) (cW T.b_range (au (pdv 1) aA)) (λ cs C fp s2 H2 => aL (i := 0) (show (["_law_k", "_law_sign", "_law_row", "_law_order"] : List Str).Nodup by decide +kernel)) ?_ ?_
  intro cs C fp s2 H2
  exact bf
  intro cs C fp s2 H2
  exact aJ fL (cI (pdv 1) (pdv 0)) (cI (pdv 2) (cI (cI (pdv 3) (pdv 0)) aC))
abbrev pL : Stmt := top 31
theorem tV : bu ["_law_drawn", "_law_size", "_law_most", "_law_number", "_law_many", "_law_kind", "_law_rows"] ["_law_drawn", "_law_size", "_law_most"] (aO pL) := ⟨rfl, rfl, rfl, by decide +kernel, rfl, by decide +kernel, by decide +kernel⟩
theorem Aa {bC fJ bM : FF} (T : BI K mg) (F : fK K "_law_arrows" "_law_arrows" pL f fd Tb) (KB : K.In base) (hmg : mg "_law_arrows" = some (.ref f)) (F_Lnext : FI P w K mg base tb "_law_next" 1 1 bC) (F_Larrow : FI P w K mg base tb "_law_arrow" 3 2 fJ) (F_Lturned_rows : FI P w K mg base tb "_law_turned_rows" 3 2 bM) : FI P w K mg base tb "_law_arrows" 3 (2 + 1) (aK 7 (mJ bC fJ bM)) :=
 dz F KB hmg tV rfl (λ _ _ _ _ _ _ => us3 λ _ _ _ => rfl) λ c A outer s H E hcd hr => by
  have nd := tV.nd
  refine aF ?_ ?_
  exact aZ (i := 3) nd (aW F_Lnext (hr.mono (by decide)) (au (pdv 0) aA) (aB aU))
  refine aF ?_ ?_
  exact aZ (i := 4) nd (aJ cZ aC (aJ cJ (aJ iZ (pdv 3) aC) (pdv 2)))
  refine aF (aZ (i := 5) nd (aJ cJ (pdv 3) aC)) ?_
  refine aF ?_ ?_
  refine aZ (i := 6) nd ?_
  refine lL ?_
  refine bZ (own := ["_law_j"]) (cap := ["_law_drawn", "_law_size", "_law_kind"]) (capI := [0, 1, 5]) (ts := [0]) rfl ⟨rfl, by decide +kernel, ⟨⟨rfl, by first | exact Or.inl rfl | exact Or.inr rfl⟩, ⟨⟨rfl, by first | exact Or.inl rfl | exact Or.inr rfl⟩, ⟨⟨rfl, by first | exact Or.inl rfl | exact Or.inr rfl⟩, trivial⟩⟩⟩, by decide +kernel, by decide +kernel⟩ (by decide +kernel) (cW T.b_range (au (pdv 4) aA)) (λ cs C fp s2 H2 => aL (i := 0) (show (["_law_j", "_law_drawn", "_law_size", "_law_kind"] : List Str).Nodup by decide +kernel)) ?_ ?_
  intro cs C fp s2 H2
  exact bf
  intro cs C fp s2 H2
  refine aW F_Larrow (hr.mono (by decide)) ?_ (aB (aB (aB aU)))
  exact au (aW F_Lnext (hr.mono (by decide)) (au (pdv 1) aA) (aB aU)) (au (pdv 2) (au (aJ cJ (pdv 3) aC) aA))
  refine aF ?_ ?_
  refine cL (bz (jt hr) (pdv 5) aC) ?_ bB
  refine aH ?_
  refine aZ (i := 6) nd ?_
  refine lL ?_
  refine Bh (pdv 6) ?_
  refine cg ?_
  refine bZ (own := ["_law_row"]) (cap := []) (capI := []) (ts := [0]) rfl ⟨rfl, by decide +kernel, trivial, by decide +kernel, by decide +kernel⟩ (by decide +kernel) ?_ (λ cs C fp s2 H2 => aL (i := 0) (show (["_law_row"] : List Str).Nodup by decide +kernel)) ?_ ?_
  refine bx ?_
  exact jr (pdv 6) jo (jn (aJ cZ aC (aJ iZ (pdv 4) aC)))
  intro cs C fp s2 H2
  exact bf
  intro cs C fp s2 H2
  refine cg ?_
  refine bZ (own := ["_law_one"]) (cap := []) (capI := []) (ts := [0]) rfl ⟨rfl, by decide +kernel, trivial, by decide +kernel, by decide +kernel⟩ (by decide +kernel) (bx (pdv 0)) (λ cs C fp s2 H2 => aL (i := 0) (show (["_law_one"] : List Str).Nodup by decide +kernel)) ?_ ?_
  intro cs C fp s2 H2
  exact bf
  intro cs C fp s2 H2
  exact aJ iD aC (pdv 0)
  refine aF ?_ ?_
  refine cL (bz (jt hr) (pdv 5) aC) ?_ bB
  refine aH ?_
  refine kY ?_
  refine lZ (pdv 6) ?_
  refine au ?_ aA
  refine cg ?_
  refine bZ (own := ["_law_k"]) (cap := ["_law_rows"]) (capI := [6]) (ts := [0]) rfl ⟨rfl, by decide +kernel, ⟨⟨rfl, by first | exact Or.inl rfl | exact Or.inr rfl⟩, trivial⟩, by decide +kernel, by decide +kernel⟩ (by decide +kernel) (cW T.b_range (au (pdv 1) aA)) (λ cs C fp s2 H2 => aL (i := 0) (show (["_law_k", "_law_rows"] : List Str).Nodup by decide +kernel)) ?_ ?_
  intro cs C fp s2 H2
  exact bf
  intro cs C fp s2 H2
  refine aJ iD aC ?_
  refine wN rfl T.b_sum ?_
  refine pU rfl ?_
  refine cg ?_
  refine bZ (own := ["_law_row"]) (cap := ["_law_k"]) (capI := [0]) (ts := [0]) rfl ⟨rfl, by decide +kernel, ⟨⟨rfl, by first | exact Or.inl rfl | exact Or.inr rfl⟩, trivial⟩, by decide +kernel, by decide +kernel⟩ (by decide +kernel) (bx (pdv 1)) (λ cs C fp s2 H2 => aL (i := 0) (show (["_law_row", "_law_k"] : List Str).Nodup by decide +kernel)) ?_ ?_
  intro cs C fp s2 H2
  exact bf
  intro cs C fp s2 H2
  exact cI (pdv 0) (pdv 1)
  refine aF ?_ ?_
  refine cL (bz (jt hr) (pdv 5) aC) ?_ bB
  refine aH ?_
  refine aZ (i := 6) nd ?_
  refine lL ?_
  refine bZ (own := ["_law_row"]) (cap := ["_law_rows"]) (capI := [6]) (ts := [0]) rfl ⟨rfl, by decide +kernel, ⟨⟨rfl, by first | exact Or.inl rfl | exact Or.inr rfl⟩, trivial⟩, by decide +kernel, by decide +kernel⟩ (by decide +kernel) (bx (pdv 6)) (λ cs C fp s2 H2 => aL (i := 0) (show (["_law_row", "_law_rows"] : List Str).Nodup by decide +kernel)) ?_ ?_
  intro cs C fp s2 H2
  exact bf
  intro cs C fp s2 H2
  exact cI (pdv 1) aC
  refine aF ?_ ?_
  refine cL (bz (jt hr) (pdv 5) aC) ?_ bB
  refine aH ?_
  refine aZ (i := 6) nd ?_
  refine lL ?_
  refine bZ (own := ["_law_j"]) (cap := ["_law_rows"]) (capI := [6]) (ts := [0]) rfl ⟨rfl, by decide +kernel, ⟨⟨rfl, by first | exact Or.inl rfl | exact Or.inr rfl⟩, trivial⟩, by decide +kernel, by decide +kernel⟩ (by decide +kernel) (cW T.b_range (au (pdv 4) aA)) (λ cs C fp s2 H2 => aL (i := 0) (show (["_law_j", "_law_rows"] : List Str).Nodup by decide +kernel)) ?_ ?_
  intro cs C fp s2 H2
  exact bf
  intro cs C fp s2 H2
  refine cg ?_
  refine bZ (own := ["_law_one"]) (cap := ["_law_j"]) (capI := [0]) (ts := [0]) rfl ⟨rfl, by decide +kernel, ⟨⟨rfl, by first | exact Or.inl rfl | exact Or.inr rfl⟩, trivial⟩, by decide +kernel, by decide +kernel⟩ (by decide +kernel) (bx (cI (pdv 1) aC)) (λ cs C fp s2 H2 => aL (i := 0) (show (["_law_one", "_law_j"] : List Str).Nodup by decide +kernel)) ?_ ?_
  intro cs C fp s2 H2
  exact bf
  intro cs C fp s2 H2
  exact aJ fL (aJ cZ (aJ cJ (pdv 1) aC) aC) (pdv 0)
  refine aH ?_
  refine aV ?_
  refine aW F_Lturned_rows (hr.mono (by decide)) ?_ (aB (aB (aB aU)))
  exact au (aJ iZ (pdv 3) aC) (au (Kf (pdv 6)) (au (pdv 1) aA))
abbrev pW : Stmt := top 23
theorem rK : bu ["_law_drawn", "_law_numbers", "_law_number", "_law_turn", "_law_some"] ["_law_drawn", "_law_numbers"] (aO pW) := ⟨rfl, rfl, rfl, by decide +kernel, rfl, by decide +kernel, by decide +kernel⟩
theorem zZ {bC aX : FF} (T : BI K mg) (F : fK K "_law_shares" "_law_shares" pW f fd Tb) (KB : K.In base) (hmg : mg "_law_shares" = some (.ref f)) (F_Lnext : FI P w K mg base tb "_law_next" 1 1 bC) (F_Lmixed : FI P w K mg base tb "_law_mixed" 2 1 aX) (hT : Tb ∈ tb) : FI P w K mg base tb "_law_shares" 2 (2 + 1) (aK 5 (gw bC aX)) :=
 dz F KB hmg rK rfl (λ _ _ _ _ _ _ => us2 λ _ _ => rfl) λ c A outer s H E hcd hr => by
  have nd := rK.nd
  refine aF ?_ ?_
  exact aZ (i := 2) nd (aW F_Lnext (hr.mono (by decide)) (au (pdv 0) aA) (aB aU))
  refine aF ?_ ?_
  refine aZ (i := 3) nd ?_
  refine cg ?_
  refine Cp (x := "_law_k") (cap := ["_law_number"]) (capI := [2]) rfl hr T.b_sorted ⟨⟨rfl, by decide +kernel, ⟨⟨rfl, by first | exact Or.inl rfl | exact Or.inr rfl⟩, trivial⟩, by decide +kernel, by decide +kernel⟩, rfl, by decide +kernel, by decide +kernel, by decide +kernel, rfl, rfl, rfl, λ _ _ _ _ _ _ => rfl⟩ hT ⟨c, rfl, hcd⟩ (pdv 1) ?_
  intro q f code s H hm
  have hg1 := hm _ hr
  exact aW F_Lmixed (hg1.mono (by decide)) (au (pdv 1) (au (aJ cZ (pdv 0) aC) aA)) (aB (aB aU))
  refine aF ?_ ?_
  refine aZ (i := 4) nd ?_
  refine cg ?_
  refine xU T.b_sorted ?_
  refine au ?_ aA
  refine jr (pdv 3) jo ?_
  refine jn ?_
  refine aJ cZ aC ?_
  refine aJ cJ (pdv 2) ?_
  refine Bk rfl T.b_min ?_
  exact au aC (au (gQ T.b_len (au (pdv 3) aA)) aA)
  refine aH ?_
  refine aV ?_
  refine sZ T.b_tuple ?_
  refine au ?_ aA
  refine cg ?_
  refine bZ (own := ["_law_k"]) (cap := ["_law_number"]) (capI := [2]) (ts := [0]) rfl ⟨rfl, by decide +kernel, ⟨⟨rfl, by first | exact Or.inl rfl | exact Or.inr rfl⟩, trivial⟩, by decide +kernel, by decide +kernel⟩ (by decide +kernel) (bx (pdv 4)) (λ cs C fp s2 H2 => aL (i := 0) (show (["_law_k", "_law_number"] : List Str).Nodup by decide +kernel)) ?_ ?_
  intro cs C fp s2 H2
  exact bf
  intro cs C fp s2 H2
  refine jd ?_
  refine au (pdv 0) ?_
  refine au ?_ aA
  refine aJ cZ aC ?_
  refine aJ cJ ?_ ?_
  exact aW F_Lmixed (hr.mono (by decide)) (au (pdv 1) (au (aJ cZ (pdv 0) aC) aA)) (aB (aB aU))
  refine cI ?_ (aJ cJ (aJ iZ (pdv 1) aC) aC)
  exact pA (au aC (au aC (au aC aA)))
abbrev Ac : Stmt := top 28
theorem Ao : bu ["_law_mix", "_law_arrow_here"] ["_law_mix", "_law_arrow_here"] (aO Ac) := ⟨rfl, rfl, rfl, by decide +kernel, rfl, by decide +kernel, by decide +kernel⟩
theorem Jj (T : BI K mg) (F : fK K "_law_dot" "_law_dot" Ac f fd Tb) (KB : K.In base) (hmg : mg "_law_dot" = some (.ref f)) : FI P w K mg base tb "_law_dot" 2 (0 + 1) (aK 2 (mZ)) :=
 dz F KB hmg Ao rfl (λ _ _ _ _ _ _ => us2 λ _ _ => rfl) λ c A outer s H E hcd hr => by
  have nd := Ao.nd
  refine aH ?_
  refine aV ?_
  refine wN rfl T.b_sum ?_
  refine pU rfl ?_
  refine cg ?_
  refine bZ (own := ["_law_one", "_law_other"]) (cap := []) (capI := []) (ts := [0, 1]) rfl ⟨rfl, by decide +kernel, trivial, by decide +kernel, by decide +kernel⟩ (by decide +kernel) (vB T.b_zip (au (pdv 0) (au (pdv 1) aA))) (λ cs C fp s2 H2 => lK rfl (dh (aL (i := 0) (show (["_law_one", "_law_other"] : List Str).Nodup by decide +kernel)) (dh (aL (i := 1) (show (["_law_one", "_law_other"] : List Str).Nodup by decide +kernel)) jf))) ?_ ?_
  intro cs C fp s2 H2
  exact bf
  intro cs C fp s2 H2
  exact aJ fL (pdv 0) (pdv 1)
abbrev pJ : Stmt := top 33
theorem qZ : bu ["_law_arrows_here", "_law_k", "_law_j", "_law_one", "_law_other", "_law_first", "_law_second"] ["_law_arrows_here", "_law_k", "_law_j"] (aO pJ) := ⟨rfl, rfl, rfl, by decide +kernel, rfl, by decide +kernel, by decide +kernel⟩
theorem yN {cA : FF} (T : BI K mg) (F : fK K "_law_of_two" "_law_of_two" pJ f fd Tb) (KB : K.In base) (hmg : mg "_law_of_two" = some (.ref f)) (F_Ldot : FI P w K mg base tb "_law_dot" 2 1 cA) : FI P w K mg base tb "_law_of_two" 3 (1 + 1) (aK 7 (ie cA)) :=
 dz F KB hmg qZ rfl (λ _ _ _ _ _ _ => us3 λ _ _ _ => rfl) λ c A outer s H E hcd hr => by
  have nd := qZ.nd
  refine aF ?_ ?_
  refine qO (i := 3) (j := 4) rfl nd ?_
  exact au (cI (pdv 0) (pdv 1)) (au (cI (pdv 0) (pdv 2)) aA)
  refine aF ?_ ?_
  refine aZ (i := 5) nd ?_
  exact aJ iD (aW F_Ldot (hr.mono (by decide)) (au (pdv 4) (au (pdv 4) aA)) (aB (aB aU))) (aW F_Ldot (hr.mono (by decide)) (au (pdv 3) (au (pdv 4) aA)) (aB (aB aU)))
  refine aF ?_ ?_
  refine aZ (i := 6) nd ?_
  exact aJ iD (aW F_Ldot (hr.mono (by decide)) (au (pdv 3) (au (pdv 3) aA)) (aB (aB aU))) (aW F_Ldot (hr.mono (by decide)) (au (pdv 3) (au (pdv 4) aA)) (aB (aB aU)))
  refine aF ?_ ?_
  refine cL ?_ (aH (aV Dd)) bB
  refine nj ?_
  exact jK (bz Ai (pdv 5) aC) (lV (bz Ai (pdv 6) aC))
  refine aH ?_
  refine aV ?_
  refine jd ?_
  refine au (jd (au (pdv 1) (au (pdv 5) aA))) ?_
  exact au (jd (au (pdv 2) (au (pdv 6) aA))) aA
abbrev rB : Stmt := top 24
theorem uW : bu ["_law_thing"] ["_law_thing"] (aO rB) := ⟨rfl, rfl, rfl, by decide +kernel, rfl, by decide +kernel, by decide +kernel⟩
theorem Cm (T : BI K mg) (F : fK K "_law_whole" "_law_whole" rB f fd Tb) (KB : K.In base) (hmg : mg "_law_whole" = some (.ref f)) : FI P w K mg base tb "_law_whole" 1 (0 + 1) (aK 1 (kI)) :=
 dz F KB hmg uW rfl (λ _ _ _ _ _ _ => us1 λ _ => rfl) λ c A outer s H E hcd hr => by
  have nd := uW.nd
  refine aH ?_
  refine aV ?_
  refine tM ?_ ?_
  exact jR T.b_isinstance T.b_int PyProof.Rows.boot_int (by decide) (pdv 0)
  refine nR ?_
  refine DR ?_
  exact jR T.b_isinstance T.b_bool PyProof.Rows.boot_bool (by decide) (pdv 0)
abbrev nq : Stmt := top 26
theorem ql : bu ["_law_many", "_law_thing", "_law_last", "_law_row"] ["_law_many", "_law_thing"] (aO nq) := ⟨rfl, rfl, rfl, by decide +kernel, rfl, by decide +kernel, by decide +kernel⟩
theorem ye {di : FF} (T : BI K mg) (F : fK K "_law_is_rows" "_law_is_rows" nq f fd Tb) (KB : K.In base) (hmg : mg "_law_is_rows" = some (.ref f)) (F_Lwhole : FI P w K mg base tb "_law_whole" 1 1 di) : FI P w K mg base tb "_law_is_rows" 2 (1 + 1) (aK 4 (jM di)) :=
 dz F KB hmg ql rfl (λ _ _ _ _ _ _ => us2 λ _ _ => rfl) λ c A outer s H E hcd hr => by
  have nd := ql.nd
  refine aF ?_ ?_
  refine cL ?_ (aH (aV lu)) bB
  refine nj ?_
  refine jK ?_ (lV (bz (Ng hr) (pdv 1) (jd aA)))
  refine gC ?_
  refine gD ?_
  exact jR T.b_isinstance T.b_tuple PyProof.Rows.boot_tuple (by decide) (pdv 1)
  refine aF (aZ (i := 2) nd (vV aC)) ?_
  refine aF ?_ (aH (aV lu))
  refine gU (ts := [3]) PassesOwn.never rfl (bx (pdv 1)) (aL (i := 3) nd) ?_
  refine aF ?_ ?_
  refine cL ?_ (aH (aV lu)) bB
  refine nj ?_
  refine jK ?_ ?_
  refine gC ?_
  refine gD ?_
  exact jR T.b_isinstance T.b_tuple PyProof.Rows.boot_tuple (by decide) (pdv 3)
  refine jK (bz (Bf hr) (gQ T.b_len (au (pdv 3) aA)) aC) ?_
  refine jK ?_ ?_
  refine gC ?_
  exact gD (aW F_Lwhole (hr.mono (by decide)) (au (cI (pdv 3) aC) aA) (aB aU))
  refine lV ?_
  refine gC ?_
  exact gD (aW F_Lwhole (hr.mono (by decide)) (au (cI (pdv 3) aC) aA) (aB aU))
  refine aF ?_ (aH (aZ (i := 2) nd (cI (pdv 3) aC)))
  refine cL ?_ (aH (aV lu)) bB
  refine nj ?_
  refine jK (bz Ai (cI (pdv 3) aC) (pdv 2)) ?_
  exact jK (bz xK (cI (pdv 3) aC) (pdv 0)) (lV (bz rW (cI (pdv 3) aC) aC))
abbrev yX : Stmt := top 21
theorem Av : bu ["_law_one", "_law_other"] ["_law_one", "_law_other"] (aO yX) := ⟨rfl, rfl, rfl, by decide +kernel, rfl, by decide +kernel, by decide +kernel⟩
theorem Ja (T : BI K mg) (F : fK K "_law_gcd" "_law_gcd" yX f fd Tb) (KB : K.In base) (hmg : mg "_law_gcd" = some (.ref f)) : FI P w K mg base tb "_law_gcd" 2 (0 + 1) (aK 2 (pZ)) :=
 dz F KB hmg Av rfl (λ _ _ _ _ _ _ => us2 λ _ _ => rfl) λ c A outer s H E hcd hr => by
  have nd := Av.nd
  refine aF ?_ (aH (aV (rP T.b_abs (au (pdv 0) aA))))
  refine pF PassesOwn.never (bz (Bf hr) (pdv 1) aC) ?_
  refine aH ?_
  exact qO (i := 0) (j := 1) rfl nd (au (pdv 1) (au (aJ cJ (pdv 0) (pdv 1)) aA))
abbrev pD : Stmt := top 22
theorem tR : bu ["_law_numbers", "_law_bottom", "_law_common", "_law_number"] ["_law_numbers", "_law_bottom"] (aO pD) := ⟨rfl, rfl, rfl, by decide +kernel, rfl, by decide +kernel, by decide +kernel⟩
theorem yS {iV : FF} (T : BI K mg) (F : fK K "_law_lowest" "_law_lowest" pD f fd Tb) (KB : K.In base) (hmg : mg "_law_lowest" = some (.ref f)) (F_Lgcd : FI P w K mg base tb "_law_gcd" 2 1 iV) : FI P w K mg base tb "_law_lowest" 2 (1 + 1) (aK 4 (ir iV)) :=
 dz F KB hmg tR rfl (λ _ _ _ _ _ _ => us2 λ _ _ => rfl) λ c A outer s H E hcd hr => by
  have nd := tR.nd
  refine aF (aZ (i := 2) nd (pdv 1)) ?_
  refine aF ?_ ?_
  refine gU (ts := [3]) PassesOwn.never rfl (bx (pdv 0)) (aL (i := 3) nd) ?_
  refine aH ?_
  exact aZ (i := 2) nd (aW F_Lgcd (hr.mono (by decide)) (au (pdv 2) (au (pdv 3) aA)) (aB (aB aU)))
  refine aF ?_ ?_
  refine cL (bz rW (pdv 1) aC) ?_ bB
  exact aH (aZ (i := 2) nd (aJ iD aC (rP T.b_abs (au (pdv 2) aA))))
  refine aH ?_
  refine aV ?_
  refine aJ cZ ?_ (jd (au (aJ iZ (pdv 1) (pdv 2)) aA))
  refine sZ T.b_tuple ?_
  refine au ?_ aA
  refine cg ?_
  refine bZ (own := ["_law_number"]) (cap := ["_law_common"]) (capI := [2]) (ts := [0]) rfl ⟨rfl, by decide +kernel, ⟨⟨rfl, by first | exact Or.inl rfl | exact Or.inr rfl⟩, trivial⟩, by decide +kernel, by decide +kernel⟩ (by decide +kernel) (bx (pdv 0)) (λ cs C fp s2 H2 => aL (i := 0) (show (["_law_number", "_law_common"] : List Str).Nodup by decide +kernel)) ?_ ?_
  intro cs C fp s2 H2
  exact bf
  intro cs C fp s2 H2
  exact aJ iZ (pdv 0) (pdv 1)
abbrev jU : Stmt := top 27
theorem mH : bu ["_law_arrows_here", "_law_shares_here", "_law_numbers", "_law_bottom", "_law_k", "_law_share"] ["_law_arrows_here", "_law_shares_here"] (aO jU) := ⟨rfl, rfl, rfl, by decide +kernel, rfl, by decide +kernel, by decide +kernel⟩
theorem uv {dD : FF} (T : BI K mg) (F : fK K "_law_arrow_mix" "_law_arrow_mix" jU f fd Tb) (KB : K.In base) (hmg : mg "_law_arrow_mix" = some (.ref f)) (F_Llowest : FI P w K mg base tb "_law_lowest" 2 2 dD) : FI P w K mg base tb "_law_arrow_mix" 2 (2 + 1) (aK 6 (jq dD)) :=
 dz F KB hmg mH rfl (λ _ _ _ _ _ _ => us2 λ _ _ => rfl) λ c A outer s H E hcd hr => by
  have nd := mH.nd
  refine aF ?_ ?_
  refine aZ (i := 2) nd ?_
  exact aJ fL (pA (au aC aA)) (gQ T.b_len (au (cI (pdv 0) aC) aA))
  refine aF (aZ (i := 3) nd aC) ?_
  refine aF ?_ ?_
  refine gU (ts := [4, 5]) PassesOwn.never rfl (bx (pdv 1)) (lK rfl (dh (aL (i := 4) nd) (dh (aL (i := 5) nd) jf))) ?_
  refine aF (aZ (i := 3) nd (aJ cZ (pdv 3) (pdv 5))) ?_
  refine aH ?_
  refine aZ (i := 2) nd ?_
  refine cg ?_
  refine bZ (own := ["_law_i"]) (cap := ["_law_numbers", "_law_share", "_law_arrows_here", "_law_k"]) (capI := [2, 5, 0, 4]) (ts := [0]) rfl ⟨rfl, by decide +kernel, ⟨⟨rfl, by first | exact Or.inl rfl | exact Or.inr rfl⟩, ⟨⟨rfl, by first | exact Or.inl rfl | exact Or.inr rfl⟩, ⟨⟨rfl, by first | exact Or.inl rfl | exact Or.inr rfl⟩, ⟨⟨rfl, by first | exact Or.inl rfl | exact Or.inr rfl⟩, trivial⟩⟩⟩⟩, by decide +kernel, by decide +kernel⟩ (by decide +kernel) (cW T.b_range (au (gQ T.b_len (au (pdv 2) aA)) aA)) (λ cs C fp s2 H2 => aL (i := 0) (show (["_law_i", "_law_numbers", "_law_share", "_law_arrows_here", "_law_k"] : List Str).Nodup by decide +kernel)) ?_ ?_
  intro cs C fp s2 H2
  exact bf
  intro cs C fp s2 H2
  exact aJ cZ (cI (pdv 1) (pdv 0)) (aJ fL (pdv 2) (cI (cI (pdv 3) (pdv 4)) (pdv 0)))
  refine aH ?_
  exact aV (aW F_Llowest (hr.mono (by decide)) (au (pdv 2) (au (pdv 3) aA)) (aB (aB aU)))
abbrev mX : Stmt := top 29
theorem qi : bu ["_law_arrows_here", "_law_thing", "_law_mix", "_law_own"] ["_law_arrows_here", "_law_thing"] (aO mX) := ⟨rfl, rfl, rfl, by decide +kernel, rfl, by decide +kernel, by decide +kernel⟩
theorem yJ {cN bU cA : FF} (T : BI K mg) (F : fK K "_law_is_near" "_law_is_near" mX f fd Tb) (KB : K.In base) (hmg : mg "_law_is_near" = some (.ref f)) (F_Lis_rows : FI P w K mg base tb "_law_is_rows" 2 2 cN) (F_Larrow_mix : FI P w K mg base tb "_law_arrow_mix" 2 3 bU) (F_Ldot : FI P w K mg base tb "_law_dot" 2 1 cA) : FI P w K mg base tb "_law_is_near" 2 (3 + 1) (aK 4 (lB cN bU cA)) :=
 dz F KB hmg qi rfl (λ _ _ _ _ _ _ => us2 λ _ _ => rfl) λ c A outer s H E hcd hr => by
  have nd := qi.nd
  refine aF ?_ ?_
  refine cL ?_ (aH (aV lu)) bB
  refine gC ?_
  refine gD ?_
  refine aW F_Lis_rows (hr.mono (by decide)) ?_ (aB (aB aU))
  exact au (gQ T.b_len (au (pdv 0) aA)) (au (pdv 1) aA)
  refine aF ?_ ?_
  exact aZ (i := 2) nd (aW F_Larrow_mix (hr.mono (by decide)) (au (pdv 0) (au (pdv 1) aA)) (aB (aB aU)))
  refine aF ?_ ?_
  refine aZ (i := 3) nd ?_
  refine aW F_Ldot (hr.mono (by decide)) ?_ (aB (aB aU))
  refine au (pdv 2) ?_
  exact au (jr (pdv 2) jo (jn (vV aC))) aA
  refine aH ?_
  refine aV ?_
  refine tB (jt hr) ?_ (pA aA)
  refine cg ?_
  refine bZ (own := ["_law_arrow_here"]) (cap := ["_law_mix", "_law_own"]) (capI := [2, 3]) (ts := [0]) rfl ⟨rfl, by decide +kernel, ⟨⟨rfl, by first | exact Or.inl rfl | exact Or.inr rfl⟩, ⟨⟨rfl, by first | exact Or.inl rfl | exact Or.inr rfl⟩, trivial⟩⟩, by decide +kernel, by decide +kernel⟩ (by decide +kernel) (bx (pdv 0)) (λ cs C fp s2 H2 => aL (i := 0) (show (["_law_arrow_here", "_law_mix", "_law_own"] : List Str).Nodup by decide +kernel)) ?_ ?_
  intro cs C fp s2 H2
  refine xf ?_
  refine bz rW ?_ (pdv 2)
  exact aJ fL (aW F_Ldot (hr.mono (by decide)) (au (pdv 1) (au (pdv 0) aA)) (aB (aB aU))) (cI (pdv 1) (vV aC))
  intro cs C fp s2 H2
  exact pdv 0
abbrev km : Stmt := top 1
theorem nM : bu ["thing"] ["thing"] (aO km) := ⟨rfl, rfl, rfl, by decide +kernel, rfl, by decide +kernel, by decide +kernel⟩
theorem vP (T : BI K mg) (F : fK K "is_number" "is_number" km f fd Tb) (KB : K.In base) (hmg : mg "is_number" = some (.ref f)) : FI P w K mg base tb "is_number" 1 (0 + 1) (aK 1 (eZ)) :=
 dz F KB hmg nM rfl (λ _ _ _ _ _ _ => us1 λ _ => rfl) λ c A outer s H E hcd hr => by
  have nd := nM.nd
  refine aH ?_
  refine aV ?_
  refine tM ?_ ?_
  exact jR T.b_isinstance T.b_int PyProof.Rows.boot_int (by decide) (pdv 0)
  refine nR ?_
  refine DR ?_
  exact jR T.b_isinstance T.b_bool PyProof.Rows.boot_bool (by decide) (pdv 0)
abbrev jF : Stmt := top 2
theorem mO : bu ["thing"] ["thing"] (aO jF) := ⟨rfl, rfl, rfl, by decide +kernel, rfl, by decide +kernel, by decide +kernel⟩
theorem ug {dm : FF} (T : BI K mg) (F : fK K "is_numbers" "is_numbers" jF f fd Tb) (KB : K.In base) (hmg : mg "is_numbers" = some (.ref f)) (F_is_number : FI P w K mg base tb "is_number" 1 1 dm) (hT : Tb ∈ tb) : FI P w K mg base tb "is_numbers" 1 (2 + 1) (aK 1 (dj dm)) :=
 dz F KB hmg mO rfl (λ _ _ _ _ _ _ => us1 λ _ => rfl) λ c A outer s H E hcd hr => by
  have nd := mO.nd
  refine aH ?_
  refine aV ?_
  refine tM ?_ ?_
  exact jR T.b_isinstance T.b_tuple PyProof.Rows.boot_tuple (by decide) (pdv 0)
  refine nR ?_
  refine wC rfl T.b_all ?_
  refine lr ?_
  refine ik (own := ["part"]) (cap := []) (capI := []) (ts := [0]) rfl hr ⟨rfl, by decide +kernel, trivial, by decide +kernel, by decide +kernel⟩ (by decide +kernel) (by decide +kernel) hT ⟨c, rfl, hcd⟩ (bx (pdv 0)) (λ AG cs C code fp s2 H2 => aL (i := 0) (show (["part"] : List Str).Nodup by decide +kernel)) ?_
  intro AG cs C code fp s2 H2 hm
  have hg1 := hm _ hr
  exact aW F_is_number (hg1.mono (by decide)) (au (pdv 0) aA) (aB aU)
abbrev nD : Stmt := top 9
theorem qw : bu ["many", "thing"] ["many", "thing"] (aO nD) := ⟨rfl, rfl, rfl, by decide +kernel, rfl, by decide +kernel, by decide +kernel⟩
theorem yc {cM : FF} (T : BI K mg) (F : fK K "is_share" "is_share" nD f fd Tb) (KB : K.In base) (hmg : mg "is_share" = some (.ref f)) (F_is_numbers : FI P w K mg base tb "is_numbers" 1 3 cM) : FI P w K mg base tb "is_share" 2 (3 + 1) (aK 2 (dG cM)) :=
 dz F KB hmg qw rfl (λ _ _ _ _ _ _ => us2 λ _ _ => rfl) λ c A outer s H E hcd hr => by
  have nd := qw.nd
  refine aF ?_ ?_
  refine cL ?_ (aH (aV lu)) bB
  refine nj ?_
  refine jK ?_ (lV (bz (Bf hr) (gQ T.b_len (au (pdv 1) aA)) aC))
  refine gC ?_
  exact gD (aW F_is_numbers (hr.mono (by decide)) (au (pdv 1) aA) (aB aU))
  refine aH ?_
  refine aV ?_
  exact tM (Gr Ai rW aC (cI (pdv 1) aC) (pdv 0)) (nR (tB xK (cI (pdv 1) aC) aC))
abbrev kW : Stmt := top 10
theorem nY : bu ["many", "thing"] ["many", "thing"] (aO kW) := ⟨rfl, rfl, rfl, by decide +kernel, rfl, by decide +kernel, by decide +kernel⟩
theorem vZ {dX : FF} (T : BI K mg) (F : fK K "is_shares" "is_shares" kW f fd Tb) (KB : K.In base) (hmg : mg "is_shares" = some (.ref f)) (F_is_share : FI P w K mg base tb "is_share" 2 4 dX) (hT : Tb ∈ tb) : FI P w K mg base tb "is_shares" 2 (5 + 1) (aK 2 (cR dX)) :=
 dz F KB hmg nY rfl (λ _ _ _ _ _ _ => us2 λ _ _ => rfl) λ c A outer s H E hcd hr => by
  have nd := nY.nd
  refine aF ?_ ?_
  refine cL ?_ (aH (aV lu)) bB
  refine nj ?_
  refine jK ?_ (lV (bz (jt hr) (gQ T.b_len (au (pdv 1) aA)) aC))
  refine gC ?_
  refine gD ?_
  exact jR T.b_isinstance T.b_tuple PyProof.Rows.boot_tuple (by decide) (pdv 1)
  refine aF ?_ ?_
  refine cL ?_ (aH (aV lu)) bB
  refine gC ?_
  refine gD ?_
  refine wC rfl T.b_all ?_
  refine lr ?_
  refine ik (own := ["part"]) (cap := ["many"]) (capI := [0]) (ts := [0]) rfl hr ⟨rfl, by decide +kernel, ⟨⟨rfl, by first | exact Or.inl rfl | exact Or.inr rfl⟩, trivial⟩, by decide +kernel, by decide +kernel⟩ (by decide +kernel) (by decide +kernel) hT ⟨c, rfl, hcd⟩ (bx (pdv 1)) (λ AG cs C code fp s2 H2 => aL (i := 0) (show (["part", "many"] : List Str).Nodup by decide +kernel)) ?_
  intro AG cs C code fp s2 H2 hm
  have hg1 := hm _ hr
  exact aW F_is_share (hg1.mono (by decide)) (au (pdv 1) (au (pdv 0) aA)) (aB (aB aU))
  refine aH ?_
  refine aV ?_
  refine wC rfl T.b_all ?_
  refine lr ?_
  refine ik (own := ["one", "other"]) (cap := []) (capI := []) (ts := [0, 1]) rfl hr ⟨rfl, by decide +kernel, trivial, by decide +kernel, by decide +kernel⟩ (by decide +kernel) (by decide +kernel) hT ⟨c, rfl, hcd⟩ ?_ (λ AG cs C code fp s2 H2 => lK rfl (dh (aL (i := 0) (show (["one", "other"] : List Str).Nodup by decide +kernel)) (dh (aL (i := 1) (show (["one", "other"] : List Str).Nodup by decide +kernel)) jf))) ?_
  refine vB T.b_zip ?_
  exact au (pdv 1) (au (jr (pdv 1) (jn aC) jo) aA)
  intro AG cs C code fp s2 H2 hm
  have hg1 := hm _ hr
  exact tB rW (cI (pdv 0) aC) (cI (pdv 1) aC)
abbrev gh : Stmt := top 6
theorem iw : bu ["ones", "others"] ["ones", "others"] (aO gh) := ⟨rfl, rfl, rfl, by decide +kernel, rfl, by decide +kernel, by decide +kernel⟩
theorem nF (T : BI K mg) (F : fK K "sum_of_products" "sum_of_products" gh f fd Tb) (KB : K.In base) (hmg : mg "sum_of_products" = some (.ref f)) (hT : Tb ∈ tb) : FI P w K mg base tb "sum_of_products" 2 (1 + 1) (aK 2 (bh)) :=
 dz F KB hmg iw rfl (λ _ _ _ _ _ _ => us2 λ _ _ => rfl) λ c A outer s H E hcd hr => by
  have nd := iw.nd
  refine aH ?_
  refine aV ?_
  refine wN rfl T.b_sum ?_
  refine lr ?_
  refine ik (own := ["one", "other"]) (cap := []) (capI := []) (ts := [0, 1]) rfl hr ⟨rfl, by decide +kernel, trivial, by decide +kernel, by decide +kernel⟩ (by decide +kernel) (by decide +kernel) hT ⟨c, rfl, hcd⟩ (vB T.b_zip (au (pdv 0) (au (pdv 1) aA))) (λ AG cs C code fp s2 H2 => lK rfl (dh (aL (i := 0) (show (["one", "other"] : List Str).Nodup by decide +kernel)) (dh (aL (i := 1) (show (["one", "other"] : List Str).Nodup by decide +kernel)) jf))) ?_
  intro AG cs C code fp s2 H2 hm
  have hg1 := hm _ hr
  exact aJ fL (pdv 0) (pdv 1)
abbrev pX : Stmt := top 7
theorem tH : bu ["rows", "weights"] ["rows", "weights"] (aO pX) := ⟨rfl, rfl, rfl, by decide +kernel, rfl, by decide +kernel, by decide +kernel⟩
theorem zL {aP : FF} (T : BI K mg) (F : fK K "weighed" "weighed" pX f fd Tb) (KB : K.In base) (hmg : mg "weighed" = some (.ref f)) (F_sum_of_products : FI P w K mg base tb "sum_of_products" 2 2 aP) : FI P w K mg base tb "weighed" 2 (2 + 1) (aK 2 (il aP)) :=
 dz F KB hmg tH rfl (λ _ _ _ _ _ _ => us2 λ _ _ => rfl) λ c A outer s H E hcd hr => by
  have nd := tH.nd
  refine aH ?_
  refine aV ?_
  refine cg ?_
  refine bZ (own := ["at"]) (cap := ["weights", "rows"]) (capI := [1, 0]) (ts := [0]) rfl ⟨rfl, by decide +kernel, ⟨⟨rfl, by first | exact Or.inl rfl | exact Or.inr rfl⟩, ⟨⟨rfl, by first | exact Or.inl rfl | exact Or.inr rfl⟩, trivial⟩⟩, by decide +kernel, by decide +kernel⟩ (by decide +kernel) ?_ (λ cs C fp s2 H2 => aL (i := 0) (show (["at", "weights", "rows"] : List Str).Nodup by decide +kernel)) ?_ ?_
  refine cW T.b_range ?_
  exact au (gQ T.b_len (au (cI (pdv 0) aC) aA)) aA
  intro cs C fp s2 H2
  exact bf
  intro cs C fp s2 H2
  refine aW F_sum_of_products (hr.mono (by decide)) ?_ (aB (aB aU))
  refine au (pdv 1) ?_
  refine au ?_ aA
  refine cg ?_
  refine bZ (own := ["row"]) (cap := ["at"]) (capI := [0]) (ts := [0]) rfl ⟨rfl, by decide +kernel, ⟨⟨rfl, by first | exact Or.inl rfl | exact Or.inr rfl⟩, trivial⟩, by decide +kernel, by decide +kernel⟩ (by decide +kernel) (bx (pdv 2)) (λ cs C fp s2 H2 => aL (i := 0) (show (["row", "at"] : List Str).Nodup by decide +kernel)) ?_ ?_
  intro cs C fp s2 H2
  exact bf
  intro cs C fp s2 H2
  exact cI (pdv 0) (pdv 1)
abbrev gm : Stmt := top 3
theorem iU : bu ["one", "other"] ["one", "other"] (aO gm) := ⟨rfl, rfl, rfl, by decide +kernel, rfl, by decide +kernel, by decide +kernel⟩
theorem oR (T : BI K mg) (F : fK K "divisor_of_two" "divisor_of_two" gm f fd Tb) (KB : K.In base) (hmg : mg "divisor_of_two" = some (.ref f)) : FI P w K mg base tb "divisor_of_two" 2 (0 + 1) (aK 2 (cU)) :=
 dz F KB hmg iU rfl (λ _ _ _ _ _ _ => us2 λ _ _ => rfl) λ c A outer s H E hcd hr => by
  have nd := iU.nd
  refine aF ?_ ?_
  refine qO (i := 0) (j := 1) rfl nd ?_
  exact au (rP T.b_abs (au (pdv 0) aA)) (au (rP T.b_abs (au (pdv 1) aA)) aA)
  refine aF ?_ (aH (aV (pdv 0)))
  refine pF PassesOwn.never (bz (Bf hr) (pdv 1) aC) ?_
  refine aH ?_
  exact qO (i := 0) (j := 1) rfl nd (au (pdv 1) (au (aJ cJ (pdv 0) (pdv 1)) aA))
abbrev gn : Stmt := top 4
theorem iQ : bu ["numbers", "found", "number"] ["numbers"] (aO gn) := ⟨rfl, rfl, rfl, by decide +kernel, rfl, by decide +kernel, by decide +kernel⟩
theorem oF {bJ : FF} (T : BI K mg) (F : fK K "common_divisor" "common_divisor" gn f fd Tb) (KB : K.In base) (hmg : mg "common_divisor" = some (.ref f)) (F_divisor_of_two : FI P w K mg base tb "divisor_of_two" 2 1 bJ) : FI P w K mg base tb "common_divisor" 1 (1 + 1) (aK 3 (cT bJ)) :=
 dz F KB hmg iQ rfl (λ _ _ _ _ _ _ => us1 λ _ => rfl) λ c A outer s H E hcd hr => by
  have nd := iQ.nd
  refine aF (aZ (i := 1) nd aC) ?_
  refine aF ?_ (aH (aV (pdv 1)))
  refine gU (ts := [2]) PassesOwn.never rfl (bx (pdv 0)) (aL (i := 2) nd) ?_
  refine aF ?_ ?_
  exact aZ (i := 1) nd (aW F_divisor_of_two (hr.mono (by decide)) (au (pdv 1) (au (pdv 2) aA)) (aB (aB aU)))
  exact aH (cL (bz (jt hr) (pdv 1) aC) (aH Cw) bB)
abbrev nH : Stmt := top 5
theorem qu : bu ["numbers", "common"] ["numbers"] (aO nH) := ⟨rfl, rfl, rfl, by decide +kernel, rfl, by decide +kernel, by decide +kernel⟩
theorem yG {bI : FF} (T : BI K mg) (F : fK K "lessened" "lessened" nH f fd Tb) (KB : K.In base) (hmg : mg "lessened" = some (.ref f)) (F_common_divisor : FI P w K mg base tb "common_divisor" 1 2 bI) (hT : Tb ∈ tb) : FI P w K mg base tb "lessened" 1 (3 + 1) (aK 2 (gA bI)) :=
 dz F KB hmg qu rfl (λ _ _ _ _ _ _ => us1 λ _ => rfl) λ c A outer s H E hcd hr => by
  have nd := qu.nd
  refine aF ?_ ?_
  exact aZ (i := 1) nd (aW F_common_divisor (hr.mono (by decide)) (au (pdv 0) aA) (aB aU))
  refine aH ?_
  refine aV ?_
  refine Gw rfl T.b_tuple ?_
  refine ik (own := ["number"]) (cap := ["common"]) (capI := [1]) (ts := [0]) rfl hr ⟨rfl, by decide +kernel, ⟨⟨rfl, by first | exact Or.inl rfl | exact Or.inr rfl⟩, trivial⟩, by decide +kernel, by decide +kernel⟩ (by decide +kernel) (by decide +kernel) hT ⟨c, rfl, hcd⟩ (bx (pdv 0)) (λ AG cs C code fp s2 H2 => aL (i := 0) (show (["number", "common"] : List Str).Nodup by decide +kernel)) ?_
  intro AG cs C code fp s2 H2 hm
  have hg1 := hm _ hr
  exact aJ iZ (pdv 0) (pdv 1)
abbrev pR : Stmt := top 12
theorem sV : bu ["numbers", "bottom", "sign"] ["numbers", "bottom"] (aO pR) := ⟨rfl, rfl, rfl, by decide +kernel, rfl, by decide +kernel, by decide +kernel⟩
theorem zx {dY : FF} (T : BI K mg) (F : fK K "spot_at" "spot_at" pR f fd Tb) (KB : K.In base) (hmg : mg "spot_at" = some (.ref f)) (F_lessened : FI P w K mg base tb "lessened" 1 4 dY) : FI P w K mg base tb "spot_at" 2 (4 + 1) (aK 3 (gZ dY)) :=
 dz F KB hmg sV rfl (λ _ _ _ _ _ _ => us2 λ _ _ => rfl) λ c A outer s H E hcd hr => by
  have nd := sV.nd
  refine aF ?_ ?_
  exact aZ (i := 2) nd (NT (bz Jx (pdv 1) aC) aC (vV aC))
  refine aH ?_
  refine aV ?_
  refine aW F_lessened (hr.mono (by decide)) ?_ (aB aU)
  refine au ?_ aA
  refine cg ?_
  refine bZ (own := ["number"]) (cap := ["sign"]) (capI := [2]) (ts := [0]) rfl ⟨rfl, by decide +kernel, ⟨⟨rfl, by first | exact Or.inl rfl | exact Or.inr rfl⟩, trivial⟩, by decide +kernel, by decide +kernel⟩ (by decide +kernel) (bx (jd (Gi (pdv 0) (au (pdv 1) aA)))) (λ cs C fp s2 H2 => aL (i := 0) (show (["number", "sign"] : List Str).Nodup by decide +kernel)) ?_ ?_
  intro cs C fp s2 H2
  exact bf
  intro cs C fp s2 H2
  exact aJ fL (pdv 1) (pdv 0)
abbrev rO : Stmt := top 14
theorem vz : bu ["arrows", "shares", "shared", "weights"] ["arrows", "shares"] (aO rO) := ⟨rfl, rfl, rfl, by decide +kernel, rfl, by decide +kernel, by decide +kernel⟩
theorem BX {fV fu : FF} (T : BI K mg) (F : fK K "mix_of" "mix_of" rO f fd Tb) (KB : K.In base) (hmg : mg "mix_of" = some (.ref f)) (F_weighed : FI P w K mg base tb "weighed" 2 3 fV) (F_spot_at : FI P w K mg base tb "spot_at" 2 5 fu) : FI P w K mg base tb "mix_of" 2 (5 + 1) (aK 4 (jz fV fu)) :=
 dz F KB hmg vz rfl (λ _ _ _ _ _ _ => us2 λ _ _ => rfl) λ c A outer s H E hcd hr => by
  have nd := vz.nd
  refine aF ?_ ?_
  refine vL (i := 2) nd (own := ["k", "share"]) (cap := ["arrows"]) (capI := [0]) (ts := [0, 1]) rfl ⟨rfl, by decide +kernel, ⟨⟨rfl, by first | exact Or.inl rfl | exact Or.inr rfl⟩, trivial⟩, by decide +kernel, by decide +kernel⟩ (by decide +kernel) (bx (pdv 1)) (λ cs C fp s2 H2 => lK rfl (dh (aL (i := 0) (show (["k", "share", "arrows"] : List Str).Nodup by decide +kernel)) (dh (aL (i := 1) (show (["k", "share", "arrows"] : List Str).Nodup by decide +kernel)) jf))) ?_ ?_
  intro cs C fp s2 H2
  exact bf
  intro cs C fp s2 H2
  exact cI (pdv 2) (pdv 0)
  refine aF ?_ ?_
  refine vL (i := 3) nd (own := ["k", "share"]) (cap := []) (capI := []) (ts := [0, 1]) rfl ⟨rfl, by decide +kernel, trivial, by decide +kernel, by decide +kernel⟩ (by decide +kernel) (bx (pdv 1)) (λ cs C fp s2 H2 => lK rfl (dh (aL (i := 0) (show (["k", "share"] : List Str).Nodup by decide +kernel)) (dh (aL (i := 1) (show (["k", "share"] : List Str).Nodup by decide +kernel)) jf))) ?_ ?_
  intro cs C fp s2 H2
  exact bf
  intro cs C fp s2 H2
  exact pdv 1
  refine aH ?_
  refine aV ?_
  refine aW F_spot_at (hr.mono (by decide)) ?_ (aB (aB aU))
  exact au (aW F_weighed (hr.mono (by decide)) (au (pdv 2) (au (pdv 3) aA)) (aB (aB aU))) (au (wN rfl T.b_sum (pU rfl (pdv 3))) aA)
abbrev kh : Stmt := top 15
theorem oU : bu ["mix", "arrow", "numbers", "bottom"] ["mix", "arrow"] (aO kh) := ⟨rfl, rfl, rfl, by decide +kernel, rfl, by decide +kernel, by decide +kernel⟩
theorem wA {aP : FF} (T : BI K mg) (F : fK K "is_behind" "is_behind" kh f fd Tb) (KB : K.In base) (hmg : mg "is_behind" = some (.ref f)) (F_sum_of_products : FI P w K mg base tb "sum_of_products" 2 2 aP) : FI P w K mg base tb "is_behind" 2 (2 + 1) (aK 4 (fX aP)) :=
 dz F KB hmg oU rfl (λ _ _ _ _ _ _ => us2 λ _ _ => rfl) λ c A outer s H E hcd hr => by
  have nd := oU.nd
  refine aF (Gg (i := 2) (j := 3) nd rfl (pdv 0)) ?_
  refine aH ?_
  refine aV ?_
  refine tB xK ?_ (aW F_sum_of_products (hr.mono (by decide)) (au (pdv 2) (au (pdv 2) aA)) (aB (aB aU)))
  exact aJ fL (pdv 3) (aW F_sum_of_products (hr.mono (by decide)) (au (pdv 2) (au (pdv 1) aA)) (aB (aB aU)))
abbrev jP : Stmt := top 16
theorem mQ : bu ["arrows", "thing", "mix"] ["arrows", "thing"] (aO jP) := ⟨rfl, rfl, rfl, by decide +kernel, rfl, by decide +kernel, by decide +kernel⟩
theorem uo {dw fY eF : FF} (T : BI K mg) (F : fK K "near_holds" "near_holds" jP f fd Tb) (KB : K.In base) (hmg : mg "near_holds" = some (.ref f)) (F_is_shares : FI P w K mg base tb "is_shares" 2 6 dw) (F_mix_of : FI P w K mg base tb "mix_of" 2 6 fY) (F_is_behind : FI P w K mg base tb "is_behind" 2 3 eF) (hT : Tb ∈ tb) : FI P w K mg base tb "near_holds" 2 (7 + 1) (aK 3 (eG dw fY eF)) :=
 dz F KB hmg mQ rfl (λ _ _ _ _ _ _ => us2 λ _ _ => rfl) λ c A outer s H E hcd hr => by
  have nd := mQ.nd
  refine aF ?_ ?_
  refine cL ?_ (aH (aV lu)) bB
  refine gC ?_
  refine gD ?_
  refine aW F_is_shares (hr.mono (by decide)) ?_ (aB (aB aU))
  exact au (gQ T.b_len (au (pdv 0) aA)) (au (pdv 1) aA)
  refine aF ?_ ?_
  exact aZ (i := 2) nd (aW F_mix_of (hr.mono (by decide)) (au (pdv 0) (au (pdv 1) aA)) (aB (aB aU)))
  refine aH ?_
  refine aV ?_
  refine wC rfl T.b_all ?_
  refine lr ?_
  refine ik (own := ["arrow"]) (cap := ["mix"]) (capI := [2]) (ts := [0]) rfl hr ⟨rfl, by decide +kernel, ⟨⟨rfl, by first | exact Or.inl rfl | exact Or.inr rfl⟩, trivial⟩, by decide +kernel, by decide +kernel⟩ (by decide +kernel) (by decide +kernel) hT ⟨c, rfl, hcd⟩ (bx (pdv 0)) (λ AG cs C code fp s2 H2 => aL (i := 0) (show (["arrow", "mix"] : List Str).Nodup by decide +kernel)) ?_
  intro AG cs C code fp s2 H2 hm
  have hg1 := hm _ hr
  exact aW F_is_behind (hg1.mono (by decide)) (au (pdv 1) (au (pdv 0) aA)) (aB (aB aU))
abbrev wH : Stmt := top 25
theorem yz : bu ["_law_found", "_law_due"] ["_law_found", "_law_due"] (aO wH) := ⟨rfl, rfl, rfl, by decide +kernel, rfl, by decide +kernel, by decide +kernel⟩
theorem Eg (T : BI K mg) (F : fK K "_law_says" "_law_says" wH f fd Tb) (KB : K.In base) (hmg : mg "_law_says" = some (.ref f)) : FI P w K mg base tb "_law_says" 2 (0 + 1) (aK 2 (lH)) :=
 dz F KB hmg yz rfl (λ _ _ _ _ _ _ => us2 λ _ _ => rfl) λ c A outer s H E hcd hr => by
  have nd := yz.nd
  refine aH ?_
  refine aV ?_
  refine tM ?_ (nR (tB (jt hr) (pdv 0) (pdv 1)))
  exact jR T.b_isinstance T.b_bool PyProof.Rows.boot_bool (by decide) (pdv 0)
abbrev vf : Stmt := top 34
theorem Gq : bu ["_law_script", "_law_drawn", "_law_turn", "_law_arrows_here", "_law_numbers", "_law_some", "_law_k", "_law_shares_here", "_law_due"] ["_law_script"] (aO vf) := ⟨rfl, rfl, rfl, by decide +kernel, rfl, by decide +kernel, by decide +kernel⟩
theorem Ml {fW bC fG eO cV dW cQ gJ : FF} (T : BI K mg) (F : fK K "law" "law" vf f fd Tb) (KB : K.In base) (F_Ldraws : FI P w K mg base tb "_law_draws" 1 2 fW) (F_Lnext : FI P w K mg base tb "_law_next" 1 1 bC) (F_Larrows : FI P w K mg base tb "_law_arrows" 3 3 fG) (F_Lshares : FI P w K mg base tb "_law_shares" 2 3 eO) (F_Lof_two : FI P w K mg base tb "_law_of_two" 3 2 cV) (F_Lis_near : FI P w K mg base tb "_law_is_near" 2 4 dW) (F_near_holds : FI P w K mg base tb "near_holds" 2 8 cQ) (F_Lsays : FI P w K mg base tb "_law_says" 2 1 gJ) : qD P w K mg base CX0 (8 + 1) f fd ["_law_script"] (spD K tb 1 (aK 9 (oX fW bC fG eO cV dW cQ gJ))) :=
 Hy F KB Gq rfl λ c A outer s H E hcd hr => by
  have nd := Gq.nd
  refine aF ?_ ?_
  exact aZ (i := 1) nd (aW F_Ldraws (hr.mono (by decide)) (au (pdv 0) aA) (aB aU))
  refine aF ?_ (aH (aV lu))
  refine gU (ts := [2]) PassesOwn.never rfl (cW T.b_range (au aC aA)) (aL (i := 2) nd) ?_
  refine aF ?_ ?_
  refine aZ (i := 3) nd ?_
  refine aW F_Larrows (hr.mono (by decide)) ?_ (aB (aB (aB aU)))
  refine au (pdv 1) ?_
  refine au ?_ (au aC aA)
  refine aJ cZ aC ?_
  exact aJ cJ (aW F_Lnext (hr.mono (by decide)) (au (pdv 1) aA) (aB aU)) aC
  refine aF ?_ ?_
  refine aZ (i := 4) nd ?_
  exact cg (Fj rfl T.b_list T.b_range (au (gQ T.b_len (au (pdv 3) aA)) aA))
  refine aF ?_ ?_
  refine aZ (i := 5) nd ?_
  refine lL ?_
  refine Bh ?_ ?_
  refine cg ?_
  refine bZ (own := ["_law_k"]) (cap := []) (capI := []) (ts := [0]) rfl ⟨rfl, by decide +kernel, trivial, by decide +kernel, by decide +kernel⟩ (by decide +kernel) (bx (pdv 4)) (λ cs C fp s2 H2 => aL (i := 0) (show (["_law_k"] : List Str).Nodup by decide +kernel)) ?_ ?_
  intro cs C fp s2 H2
  exact bf
  intro cs C fp s2 H2
  refine jd ?_
  exact au (jd (au (pdv 0) (au aC aA))) aA
  refine cg ?_
  refine bZ (own := ["_law_k"]) (cap := ["_law_drawn", "_law_numbers"]) (capI := [1, 4]) (ts := [0]) rfl ⟨rfl, by decide +kernel, ⟨⟨rfl, by first | exact Or.inl rfl | exact Or.inr rfl⟩, ⟨⟨rfl, by first | exact Or.inl rfl | exact Or.inr rfl⟩, trivial⟩⟩, by decide +kernel, by decide +kernel⟩ (by decide +kernel) (bx (pdv 4)) (λ cs C fp s2 H2 => aL (i := 0) (show (["_law_k", "_law_drawn", "_law_numbers"] : List Str).Nodup by decide +kernel)) ?_ ?_
  intro cs C fp s2 H2
  exact bf
  intro cs C fp s2 H2
  exact aW F_Lshares (hr.mono (by decide)) (au (pdv 1) (au (pdv 2) aA)) (aB (aB aU))
  refine aF ?_ ?_
  refine gU (ts := [6]) PassesOwn.never rfl (bx (pdv 4)) (aL (i := 6) nd) ?_
  refine aH ?_
  refine kY ?_
  refine Cv (pdv 5) ?_
  refine bZ (own := ["_law_j"]) (cap := ["_law_arrows_here", "_law_k"]) (capI := [3, 6]) (ts := [0]) rfl ⟨rfl, by decide +kernel, ⟨⟨rfl, by first | exact Or.inl rfl | exact Or.inr rfl⟩, ⟨⟨rfl, by first | exact Or.inl rfl | exact Or.inr rfl⟩, trivial⟩⟩, by decide +kernel, by decide +kernel⟩ (by decide +kernel) (bx (pdv 4)) (λ cs C fp s2 H2 => aL (i := 0) (show (["_law_j", "_law_arrows_here", "_law_k"] : List Str).Nodup by decide +kernel)) ?_ ?_
  intro cs C fp s2 H2
  exact xf (bz Jx (pdv 0) (pdv 2))
  intro cs C fp s2 H2
  exact aW F_Lof_two (hr.mono (by decide)) (au (pdv 1) (au (pdv 2) (au (pdv 0) aA))) (aB (aB (aB aU)))
  refine aH ?_
  refine gU (ts := [7]) PassesOwn.never rfl (bx (pdv 5)) (aL (i := 7) nd) ?_
  refine aH ?_
  refine cL (bz De (pdv 7) Dd) ?_ bB
  refine aF ?_ ?_
  exact aZ (i := 8) nd (aW F_Lis_near (hr.mono (by decide)) (au (pdv 3) (au (pdv 7) aA)) (aB (aB aU)))
  refine aH ?_
  refine cL ?_ (aH (aV lu)) bB
  refine gC ?_
  refine gD ?_
  refine aW F_Lsays (hr.mono (by decide)) ?_ (aB (aB aU))
  exact au (aW F_near_holds (hr.mono (by decide)) (au (pdv 3) (au (pdv 7) aA)) (aB (aB aU))) (au (pdv 8) aA)
noncomputable def aX : FF := trunc (aK 3 (fZ))
noncomputable def fW : FF := aK 5 (kE aX)
noncomputable def bC : FF := trunc (aK 1 (iW))
noncomputable def fJ : FF := trunc (aK 4 (fP aX))
noncomputable def bM : FF := trunc (aK 5 (dR aX))
noncomputable def fG : FF := trunc (aK 7 (mJ bC fJ bM))
noncomputable def eO : FF := trunc (aK 5 (gw bC aX))
noncomputable def cA : FF := trunc (aK 2 (mZ))
noncomputable def cV : FF := trunc (aK 7 (ie cA))
noncomputable def di : FF := trunc (aK 1 (kI))
noncomputable def cN : FF := trunc (aK 4 (jM di))
noncomputable def iV : FF := trunc (aK 2 (pZ))
noncomputable def dD : FF := trunc (aK 4 (ir iV))
noncomputable def bU : FF := trunc (aK 6 (jq dD))
noncomputable def dW : FF := trunc (aK 4 (lB cN bU cA))
noncomputable def dm : FF := trunc (aK 1 (eZ))
noncomputable def cM : FF := trunc (aK 1 (dj dm))
noncomputable def dX : FF := trunc (aK 2 (dG cM))
noncomputable def dw : FF := trunc (aK 2 (cR dX))
noncomputable def aP : FF := trunc (aK 2 (bh))
noncomputable def fV : FF := trunc (aK 2 (il aP))
noncomputable def bJ : FF := trunc (aK 2 (cU))
noncomputable def bI : FF := trunc (aK 3 (cT bJ))
noncomputable def dY : FF := trunc (aK 2 (gA bI))
noncomputable def fu : FF := trunc (aK 3 (gZ dY))
noncomputable def fY : FF := trunc (aK 4 (jz fV fu))
noncomputable def eF : FF := trunc (aK 4 (fX aP))
noncomputable def cQ : FF := trunc (aK 3 (eG dw fY eF))
noncomputable def gJ : FF := trunc (aK 2 (lH))
noncomputable def zp : FF := aK 9 (oX fW bC fG eO cV dW cQ gJ)
abbrev Gt (K : PySem.W.Frag) (x : Str) (s : Stmt) : Prop := ∃ f c P fd, Got K x s f c P fd
abbrev Nn (K : PySem.W.Frag) (x : Str) : Prop := PySem.W.nsIn K mainGlobals x = some none
abbrev Rq (q : Program) (x : Str) : Prop := ((recsOf q).find? (λ e => e.name == x)).isSome = true
theorem Kp {l : PySem.W.OpenLaw} {q : Program} {lo : List Str} {mean : ExcName -> Option Value} {w : World} {K : PySem.W.Frag} {h : Heap} {mg mb : Str -> Option Value} {fa : Addr}
  (X : K.In h) (G : Top q lo mean mg mb h) (hfa : mg "law" = some (.ref fa))
  (d0 : Gt K "_law_mixed" rE)
  (d1 : Gt K "_law_draws" rZ)
  (d2 : Gt K "_law_next" vM)
  (d3 : Gt K "_law_arrow" rF)
  (d4 : Gt K "_law_turned_rows" iB)
  (d5 : Gt K "_law_arrows" pL)
  (d6 : Gt K "_law_shares" pW)
  (d7 : Gt K "_law_dot" Ac)
  (d8 : Gt K "_law_of_two" pJ)
  (d9 : Gt K "_law_whole" rB)
  (d10 : Gt K "_law_is_rows" nq)
  (d11 : Gt K "_law_gcd" yX)
  (d12 : Gt K "_law_lowest" pD)
  (d13 : Gt K "_law_arrow_mix" jU)
  (d14 : Gt K "_law_is_near" mX)
  (d15 : Gt K "is_number" km)
  (d16 : Gt K "is_numbers" jF)
  (d17 : Gt K "is_share" nD)
  (d18 : Gt K "is_shares" kW)
  (d19 : Gt K "sum_of_products" gh)
  (d20 : Gt K "weighed" pX)
  (d21 : Gt K "divisor_of_two" gm)
  (d22 : Gt K "common_divisor" gn)
  (d23 : Gt K "lessened" nH)
  (d24 : Gt K "spot_at" pR)
  (d25 : Gt K "mix_of" rO)
  (d26 : Gt K "is_behind" kh)
  (d27 : Gt K "near_holds" jP)
  (d28 : Gt K "_law_says" wH)
  (d29 : Gt K "law" vf)
  (z_abs : Nn K "abs")
  (z_all : Nn K "all")
  (z_bool : Nn K "bool")
  (z_int : Nn K "int")
  (z_isinstance : Nn K "isinstance")
  (z_len : Nn K "len")
  (z_list : Nn K "list")
  (z_min : Nn K "min")
  (z_range : Nn K "range")
  (z_sorted : Nn K "sorted")
  (z_sum : Nn K "sum")
  (z_tuple : Nn K "tuple")
  (z_zip : Nn K "zip")
  (r_Lshares : Rq q "_law_shares")
  (r_is_numbers : Rq q "is_numbers")
  (r_is_shares : Rq q "is_shares")
  (r_sum_of_products : Rq q "sum_of_products")
  (r_lessened : Rq q "lessened")
  (r_near_holds : Rq q "near_holds")
  (hnt : PySem.W.noTabs K = true) :
  ∃ (fd : FuncData) (tb : List Addr), (∀ (s : Shared) (u : Value), BindsTo s fd ⟨[u], []⟩ [("_law_script", u)]) /\ (∀ P ∈ tb, ∃ c, PySem.W.CodeHd h c P /\ h.get? P = some (PySem.W.tabObj #[])) /\ PySem.W.noTabs K = true /\
   ∀ base : Heap, K.In base -> base.Ns mainGlobals mg -> qD l.prog w K mg base CX0 9 fa fd ["_law_script"] (spD K tb 1 zp) := by
 have N := λ {n : Str} (h : Nn K n) => PySem.W.mg_none_of X G.g h
 have M := λ {n : Str} {v : Value} (e : PySem.W.nsIn K mainGlobals n = some (some v)) => PySem.W.mg_of X G.g e
 have T : BI K mg := ⟨N z_abs, N z_all, N z_bool, N z_int, N z_isinstance, N z_len, N z_list, N z_min, N z_range, N z_sorted, N z_sum, N z_tuple, N z_zip⟩
 obtain ⟨f0, c0, P0, _, G0⟩ := d0
 obtain ⟨f1, c1, P1, _, G1⟩ := d1
 obtain ⟨f2, c2, P2, _, G2⟩ := d2
 obtain ⟨f3, c3, P3, _, G3⟩ := d3
 obtain ⟨f4, c4, P4, _, G4⟩ := d4
 obtain ⟨f5, c5, P5, _, G5⟩ := d5
 obtain ⟨f6, c6, P6, _, G6⟩ := d6
 obtain ⟨f7, c7, P7, _, G7⟩ := d7
 obtain ⟨f8, c8, P8, _, G8⟩ := d8
 obtain ⟨f9, c9, P9, _, G9⟩ := d9
 obtain ⟨f10, c10, P10, _, G10⟩ := d10
 obtain ⟨f11, c11, P11, _, G11⟩ := d11
 obtain ⟨f12, c12, P12, _, G12⟩ := d12
 obtain ⟨f13, c13, P13, _, G13⟩ := d13
 obtain ⟨f14, c14, P14, _, G14⟩ := d14
 obtain ⟨f15, c15, P15, _, G15⟩ := d15
 obtain ⟨f16, c16, P16, _, G16⟩ := d16
 obtain ⟨f17, c17, P17, _, G17⟩ := d17
 obtain ⟨f18, c18, P18, _, G18⟩ := d18
 obtain ⟨f19, c19, P19, _, G19⟩ := d19
 obtain ⟨f20, c20, P20, _, G20⟩ := d20
 obtain ⟨f21, c21, P21, _, G21⟩ := d21
 obtain ⟨f22, c22, P22, _, G22⟩ := d22
 obtain ⟨f23, c23, P23, _, G23⟩ := d23
 obtain ⟨f24, c24, P24, _, G24⟩ := d24
 obtain ⟨f25, c25, P25, _, G25⟩ := d25
 obtain ⟨f26, c26, P26, _, G26⟩ := d26
 obtain ⟨f27, c27, P27, _, G27⟩ := d27
 obtain ⟨f28, c28, P28, _, G28⟩ := d28
 obtain ⟨f29, c29, P29, _, G29⟩ := d29
 have m_law := M G29.m
 have e := hfa.symm.trans m_law
 cases e
 obtain ⟨kV, dc, pm, an, ct, rfl⟩ := G29.e
 refine ⟨PySem.W.fnOf "law" "law" (jO vf) (gY vf) (aO vf) .none kV dc pm an (.ref c29) ct, [P6, P16, P18, P19, P23, P27], λ s u => .of_eq rfl, λ P hP => ?_, hnt, λ base kb nb => ?_⟩
 .have hP : P = P6 ∨ P = P16 ∨ P = P18 ∨ P = P19 ∨ P = P23 ∨ P = P27 := by simpa using hP
  rcases hP with rfl | rfl | rfl | rfl | rfl | rfl
  .exact ⟨c6, oY G X r_Lshares G6.t⟩
  .exact ⟨c16, oY G X r_is_numbers G16.t⟩
  .exact ⟨c18, oY G X r_is_shares G18.t⟩
  .exact ⟨c19, oY G X r_sum_of_products G19.t⟩
  .exact ⟨c23, oY G X r_lessened G23.t⟩
  .exact ⟨c27, oY G X r_near_holds G27.t⟩
 .have U {φ nm n k} (h : FI l.prog w K mg base [P6, P16, P18, P19, P23, P27] nm n k φ) := h
  have fZ := U (φ := aX) (Bx T G0.F kb (M G0.m)).trunc
  have kE := U (φ := fW) (Bq T G1.F kb (M G1.m) fZ)
  have iW := U (φ := bC) (Fg T G2.F kb (M G2.m)).trunc
  have fP := U (φ := fJ) (BZ T G3.F kb (M G3.m) fZ).trunc
  have dR := U (φ := bM) (qK T G4.F kb (M G4.m) fZ).trunc
  have jg := U (φ := fG) (Aa T G5.F kb (M G5.m) iW fP dR).trunc
  have gw := U (φ := eO) (zZ T G6.F kb (M G6.m) iW fZ (by simp)).trunc
  have mZ := U (φ := cA) (Jj T G7.F kb (M G7.m)).trunc
  have ie := U (φ := cV) (yN T G8.F kb (M G8.m) mZ).trunc
  have kI := U (φ := di) (Cm T G9.F kb (M G9.m)).trunc
  have jM := U (φ := cN) (ye T G10.F kb (M G10.m) kI).trunc
  have pZ := U (φ := iV) (Ja T G11.F kb (M G11.m)).trunc
  have ir := U (φ := dD) (yS T G12.F kb (M G12.m) pZ).trunc
  have gV := U (φ := bU) (uv T G13.F kb (M G13.m) ir).trunc
  have iJ := U (φ := dW) (yJ T G14.F kb (M G14.m) jM gV mZ).trunc
  have eZ := U (φ := dm) (vP T G15.F kb (M G15.m)).trunc
  have dj := U (φ := cM) (ug T G16.F kb (M G16.m) eZ (by simp)).trunc
  have dG := U (φ := dX) (yc T G17.F kb (M G17.m) dj).trunc
  have cR := U (φ := dw) (vZ T G18.F kb (M G18.m) dG (by simp)).trunc
  have bh := U (φ := aP) (nF T G19.F kb (M G19.m) (by simp)).trunc
  have il := U (φ := fV) (zL T G20.F kb (M G20.m) bh).trunc
  have cU := U (φ := bJ) (oR T G21.F kb (M G21.m)).trunc
  have cT := U (φ := bI) (oF T G22.F kb (M G22.m) cU).trunc
  have gA := U (φ := dY) (yG T G23.F kb (M G23.m) cT (by simp)).trunc
  have gZ := U (φ := fu) (zx T G24.F kb (M G24.m) gA).trunc
  have jz := U (φ := fY) (BX T G25.F kb (M G25.m) il gZ).trunc
  have fX := U (φ := eF) (wA T G26.F kb (M G26.m) bh).trunc
  have eG := U (φ := cQ) (uo T G27.F kb (M G27.m) cR jz fX (by simp)).trunc
  have lH := U (φ := gJ) (Eg T G28.F kb (M G28.m)).trunc
  exact Ml T G29.F kb kE iW jg gw ie iJ eG lH
end Lk16
namespace LG
open PySem PySem.Spec PyProof.Rows L2 L3
theorem Fo (a b : Int) : Int.gcd b (a.fmod b) = Int.gcd a b := by
 have h : a.fmod b = a - b * a.fdiv b := by have := Int.mul_fdiv_add_fmod a b; omega
 rw [h, Int.gcd_comm]
 have : a - b * a.fdiv b = a + b * (- a.fdiv b) := by rw [Int.mul_neg]; omega
 rw [this, Int.gcd_add_mul_left_left]
theorem Jm (a b : Int) (h : b ≠ 0) : (a.fmod b).natAbs < b.natAbs := by
 rw [Int.fmod_eq_emod]
 have h1 := Int.emod_nonneg a h
 have h2 := Int.emod_lt a h
 by_cases hd : 0 <= b ∨ b ∣ a
 .rw [if_pos hd]; omega
 .rw [if_neg hd]
  have h3 : a % b ≠ 0 := λ z => hd (.inr (Int.dvd_of_emod_eq_zero z))
  omega
abbrev eucC : TF := toB (M2 (ao 1) (mC (.int 0)) oNe)
abbrev eucB : SF := ur 0 1 (aq (ao 1) (aq (M2 (ao 0) (ao 1) oMod) (aG)))
theorem ne_int (a b : Int) (μ : Mu) : oNe (.int a) (.int b) μ = some (.bl (!(a == b)), μ) := by
 unfold oNe rsv
 simp [dH, gP, eqD]
theorem Bd (a b : Int) (μ : Mu) : oEq (.int a) (.int b) μ = some (.bl (a == b), μ) := by
 unfold oEq rsv
 simp [dH, gP, eqD]
theorem euc : ∀ (n : Nat) (a b : Int) (μ : Mu), b.natAbs <= n -> ∃ a', eV eucC eucB (n + 1) [some (.int a), some (.int b)] μ = some (.nx, [some (.int a'), some (.int 0)], μ) /\ a'.natAbs = Int.gcd a b /\ (0 <= a -> 0 <= b -> 0 <= a')
 | n, a, b, μ, h => by
  by_cases hb : b = 0
  .subst hb
   refine ⟨a, ?_, by simp, λ h _ => h⟩
   unfold eV
   simp [toB, M2, ao, mC, ne_int]
  .cases n with
   | zero => omega
   | succ n =>
    obtain ⟨a', e, hg, hs⟩ := euc n b (a.fmod b) μ (by have := Jm a b hb; omega)
    refine ⟨a', ?_, by rw [hg, Fo], λ h0 h1 => hs h1 (Int.fmod_nonneg_of_pos a (by omega))⟩
    unfold eV
    simp [toB, M2, ao, mC, ne_int, hb, ur, aq, aG, oMod, e]
def qz (φ : FF) : Prop := ∀ (a b : Int) (μ : Mu), φ [.int a, .int b] μ = some (.int (Int.gcd a b), μ)
theorem GC : qz (aK 2 cU) := λ a b μ => by
 obtain ⟨a', e, hg, hs⟩ := euc _ (if a < 0 then -a else a) (if b < 0 then -b else b) μ (Zg _)
 have ea : (0 : Int) <= if a < 0 then -a else a := by split <;> omega
 have eb : (0 : Int) <= if b < 0 then -b else b := by split <;> omega
 have h0 := hs ea eb
 have hga : Int.gcd (if a < 0 then -a else a) (if b < 0 then -b else b) = Int.gcd a b := by split <;> split <;> simp
 rw [hga] at hg
 have hv : a' = (Int.gcd a b : Int) := by omega
 subst hv
 have ew := pO e
 unfold aK cU
 simp [aR, ur, aq, aG, MC, ao, bD, nA, ew, bH]
theorem Je : qz (aK 2 pZ) := λ a b μ => by
 obtain ⟨a', e, hg, hs⟩ := euc _ a b μ (Zg _)
 have ew := pO e
 unfold aK pZ
 have hv : (if a' < 0 then -a' else a') = (Int.gcd a b : Int) := by split <;> omega
 simp [aR, ew, bH, aq, aG, MC, ao, bD, nA, hv]
def cG (g : Nat) (ns : List Int) : Nat := ns.foldl (λ g n => Int.gcd g n) g
theorem yI : ∀ ns : List Int, cG 1 ns = 1
 | [] => rfl
 | n :: ns => by
  show cG (Int.gcd (1 : Nat) n) ns = 1
  have : Int.gcd ((1 : Nat) : Int) n = 1 := by simp
  rw [this]; exact yI ns
theorem bj (items : List D) (μ : Mu) : Src.ok ⟨items, none⟩ μ := λ n e => by cases e
theorem Af {φ : FF} (hφ : qz φ) (x : D) (all : List D) : ∀ (ns : List Int) (g : Nat) (o : Option D) (μ : Mu), ∃ o',
  forL ⟨all, none⟩ (hName 2) (aR (bw 1 (MC (aq (ao 1) (aq (ao 2) (aG))) φ)) (sIf (toB (M2 (ao 1) (mC (.int 1)) oEq)) (sE) (bF))) (ns.map D.int) [some x, some (.int g), o] μ = some (.nx, [some x, some (.int (cG g ns : Nat)), o'], μ)
 | [], g, o, μ => ⟨o, by unfold forL; simp [bj, cG]⟩
 | n :: ns, g, o, μ => by
  by_cases h1 : Int.gcd g n = 1
  .refine ⟨some (.int n), ?_⟩
   rw [Zj]
   unfold forL
   have h2 : cG g (n :: ns) = 1 := by show cG (Int.gcd g n) ns = 1; rw [h1]; exact yI ns
   simp [bj, hName, aR, bw, MC, aq, aG, ao, hφ g n, h1, h2, sIf, toB, M2, mC, Bd, sE]
  .obtain ⟨o', e⟩ := Af hφ x all ns (Int.gcd g n) (some (.int n)) μ
   refine ⟨o', ?_⟩
   rw [Zj]
   unfold forL
   have h3 : ((Int.gcd g n : Nat) : Int) ≠ 1 := by omega
   have h2 : cG g (n :: ns) = cG (Int.gcd g n) ns := rfl
   simp [bj, hName, aR, bw, MC, aq, aG, ao, hφ g n, h3, sIf, toB, M2, mC, Bd, bF, e, h2]
def tO (φ : FF) : Prop := ∀ (ns : List Int) (μ : Mu), φ [.lst (ns.map .int)] μ = some (.int (cG 0 ns : Nat), μ)
theorem zy {φ : FF} (hφ : qz φ) : tO (aK 3 (cT φ)) := λ ns μ => by
 obtain ⟨o', e⟩ := Af hφ (.lst (ns.map .int)) (ns.map .int) ns 0 none μ
 unfold aK cT
 have e' := e
 simp at e'
 simp [aR, bw, mC, iK, cj, ao, srcOf, e', bH]
theorem yF {th : D -> fU} {f : D -> D} {μ : Mu} : ∀ (items : List D), (∀ d ∈ items, th d μ = some (f d, μ)) -> wR (items.map th) μ = some (items.map f, μ)
 | [], _ => rfl
 | d :: r, h => by
  have h1 := h d (by simp)
  have h2 := yF r λ x hx => h x (by simp [hx])
  rw [Zj, Zj]
  unfold wR
  simp [h1, h2]
theorem vY {all : List D} {h : GF} {fe : EF} {δb : En} {f : D -> D} {μ : Mu} : ∀ (items : List D), (∀ d ∈ items, ∃ δ1, h d δb μ = some δ1 /\ fe δ1 μ = some (f d, μ)) -> lcL ⟨all, none⟩ h aQ fe δb items μ = some (items.map f, μ)
 | [], _ => by unfold lcL; simp [bj]
 | d :: r, hd => by
  obtain ⟨δ1, h1, h2⟩ := hd d (by simp)
  have h3 := vY (all := all) r λ x hx => hd x (by simp [hx])
  unfold lcL
  simp [bj, h1, aQ, h2, h3]
def Sm (b : Nat) (n : Int) : Prop := n.natAbs < 2 ^ b
theorem bits_le {b : Nat} {n : Int} (h : Sm b n) : Builtin.Int.intBits n <= b + 1 := by
 unfold Builtin.Int.intBits
 split
 .exact Nat.zero_le _
 .rename_i h'
  have hz : n ≠ 0 := by simpa using h'
  have hn : n.natAbs ≠ 0 := by omega
  have := (Nat.log2_lt hn).mpr h
  omega
theorem CT {b : Nat} {n : Int} (h : Sm b n) : n.natAbs.log2 < b + 1 := by
 by_cases h0 : n.natAbs = 0
 .rw [h0]; simp
 .have := (Nat.log2_lt h0).mpr h
  omega
theorem KH {a b : Nat} {x y : Int} (hx : Sm a x) (hy : Sm b y) (h : a + b + 2 <= 134217728) : oO x y <= 134217728 := by
 have := bits_le hx
 have := bits_le hy
 unfold oO
 omega
theorem cH {a b : Nat} {x y : Int} (μ : Mu) (hx : Sm a x) (hy : Sm b y) (h : a + b + 2 <= 134217728) : dg (.int x) (.int y) μ = some (.int (x * y), μ) := by
 unfold dg
 simp [KH hx hy h]
theorem nQ {b : Nat} {x y : Int} (μ : Mu) (h0 : y ≠ 0) (hy : Sm b y) (h : b + 1 <= 9000) : oDiv (.int x) (.int y) μ = some (.int (x.fdiv y), μ) := by
 unfold oDiv
 have := CT hy
 simp [h0, show y.natAbs.log2 < 9000 by omega]
theorem gF {x y : Int} (μ : Mu) (h0 : y ≠ 0) : oMod (.int x) (.int y) μ = some (.int (x.fmod y), μ) := by
 unfold oMod
 simp [h0]
theorem oM : ∀ (ns : List Int) (g : Nat), (∀ n ∈ ns, ((cG g ns : Nat) : Int) ∣ n) /\ cG g ns ∣ g
 | [], g => ⟨λ n h => by simp at h, Nat.dvd_refl _⟩
 | n :: ns, g => by
  obtain ⟨h1, h2⟩ := oM ns (Int.gcd g n)
  have e : cG g (n :: ns) = cG (Int.gcd g n) ns := rfl
  rw [e]
  refine ⟨λ m hm => ?_, ?_⟩
  .rcases Zi.mp hm with z | z
   .subst z
    exact Int.dvd_trans (Int.ofNat_dvd.mpr h2) (Int.gcd_dvd_right _ _)
   .exact h1 m z
  .refine Nat.dvd_trans h2 ?_
   have := Int.gcd_dvd_left (g : Int) n
   exact Int.ofNat_dvd.mp this
theorem rN {ns : List Int} {g : Nat} (h : g ≠ 0 ∨ ∃ n ∈ ns, n ≠ 0) : cG g ns ≠ 0 := λ z => by
 obtain ⟨h1, h2⟩ := oM ns g
 rw [z] at h1 h2
 rcases h with h | ⟨n, hn, h⟩
 .exact h (Nat.eq_zero_of_zero_dvd h2)
 .have := h1 n hn
  exact h (by simpa using this)
theorem Iz {ns : List Int} {g : Nat} {n : Int} (hn : n ∈ ns) (h : n ≠ 0) : cG g ns <= n.natAbs := by
 have h1 := (oM ns g).1 n hn
 have h2 : cG g ns ∣ n.natAbs := by
  have := Int.natAbs_dvd_natAbs.mpr h1
  simpa using this
 exact Nat.le_of_dvd (by omega) h2
def zj (φ : FF) : Prop := ∀ (ns : List Int) (μ : Mu), cG 0 ns ≠ 0 -> Sm 8000 (cG 0 ns : Nat) -> ns.length <= 100 -> φ [.lst (ns.map .int)] μ = some (.tup (ns.map λ n => .int (n.fdiv (cG 0 ns : Nat))), μ)
theorem IK {φ : FF} (hφ : tO φ) : zj (aK 2 (gA φ)) := λ ns μ h0 hs hl => by
 have e : wR ((ns.map D.int).map (thG (hName 0) (M2 (ao 0) (ao 1) oDiv) (bQ ["number"] [some (.lst (ns.map .int)), some (.int (cG 0 ns : Nat))] [1]))) μ = some ((ns.map D.int).map (λ d => match d with | .int n => .int (n.fdiv (cG 0 ns : Nat)) | _ => .non), μ) := by
  refine yF _ λ d hd => ?_
  obtain ⟨n, _, rfl⟩ := Zq.mp hd
  have := nQ (x := n) μ (show ((cG 0 ns : Nat) : Int) ≠ 0 by omega) hs (by decide)
  simp [thG, hName, bQ, M2, ao, this]
 unfold aK gA
 have hz : ns.length <= sizeLine := Zl hl (by decide)
 rw [List.map_map, List.map_map] at e
 simp [aR, bw, MC, aq, aG, ao, hφ ns μ, bH, xm, mL, cj, srcOf, hz, e]
def rowOf (s : Int) (all : List Int) : List Int := let ms := all.map (s * ·); ms.map λ n => n.fdiv (cG 0 ms : Nat)
def sgn (b : Int) : Int := if b > 0 then 1 else -1
theorem Dk {b : Nat} {n s : Int} (hs : s = 1 ∨ s = -1) (h : Sm b n) : Sm b (s * n) := by
 unfold Sm at *
 rw [Int.natAbs_mul]
 rcases hs with rfl | rfl <;> simpa using h
theorem wG (b : Int) : sgn b = 1 ∨ sgn b = -1 := by unfold sgn; split <;> simp
theorem yw {φ : FF} (hφ : qz φ) (x y : D) (all : List D) : ∀ (ns : List Int) (c : Int) (o : Option D) (μ : Mu), ∃ (c' : Int) (o' : Option D),
  forL ⟨all, none⟩ (hName 3) (bw 2 (MC (aq (ao 2) (aq (ao 3) (aG))) φ)) (ns.map D.int) [some x, some y, some (.int c), o] μ = some (.nx, [some x, some y, some (.int c'), o'], μ) /\ c'.natAbs = cG c.natAbs ns /\ (0 <= c ∨ ns ≠ [] -> 0 <= c')
 | [], c, o, μ => ⟨c, o, by unfold forL; simp [bj], rfl, λ h => h.elim id λ z => absurd rfl z⟩
 | n :: ns, c, o, μ => by
  obtain ⟨c', o', e, hc, hn0⟩ := yw hφ x y all ns (Int.gcd c n) (some (.int n)) μ
  refine ⟨c', o', ?_, ?_, λ _ => hn0 (.inl (Int.natCast_nonneg _))⟩
  .rw [Zj]
   unfold forL
   simp [bj, hName, bw, MC, aq, aG, ao, hφ c n, e]
  .rw [hc]
   show _ = cG (Int.gcd (c.natAbs : Nat) n) ns
   congr 1
def Ei (φ : FF) : Prop := ∀ (ns : List Int) (b : Int) (μ : Mu), b ≠ 0 -> Sm 4000 b -> ns.length <= 50 -> ns ≠ [] ->
 φ [.lst (ns.map .int), .int b] μ = some (.tup ((ns ++ [b]).map λ n => .int (n.fdiv (sgn b * (cG b.natAbs ns : Nat)))), μ)
theorem Lb {φ : FF} (hφ : qz φ) : Ei (aK 4 (ir φ)) := λ ns b μ hb hs hl hne => by
 obtain ⟨c', o', e, hc, hc0⟩ := yw hφ (.lst (ns.map .int)) (.int b) (ns.map .int) ns b none μ
 have hsg := wG b
 have hg0 : cG b.natAbs ns ≠ 0 := rN (.inl (by omega))
 have hgle : cG b.natAbs ns <= b.natAbs := Nat.le_of_dvd (by omega) (oM ns b.natAbs).2
 have hdiv : ∀ δo, ∃ δ', sIf (toB (M2 (ao 1) (mC (.int 0)) oLt)) (bw 2 (M2 (mC (.int 0)) (MC (aq (ao 2) (aG)) (bD nA)) gG)) bF [some (.lst (ns.map .int)), some (.int b), some (.int c'), δo] μ = some (.nx, δ', μ) /\ (0 <= c' -> δ' = [some (.lst (ns.map .int)), some (.int b), some (.int (sgn b * (cG b.natAbs ns : Nat))), δo]) := λ δo => by
  by_cases hn : b < 0
  .refine ⟨[some (.lst (ns.map .int)), some (.int b), some (.int (0 - if c' < 0 then -c' else c')), δo], by simp [sIf, toB, M2, ao, mC, oLt, hn, bw, MC, aq, aG, bD, nA, gG], λ hc0 => ?_⟩
   have h1 : sgn b = -1 := by unfold sgn; rw [if_neg (by omega)]
   rw [h1, if_neg (by omega)]
   have : c' = (cG b.natAbs ns : Nat) := by omega
   rw [this]
   simp
  .refine ⟨[some (.lst (ns.map .int)), some (.int b), some (.int c'), δo], by simp [sIf, toB, M2, ao, mC, oLt, hn, bF], λ hc0 => ?_⟩
   have h1 : sgn b = 1 := by unfold sgn; rw [if_pos (by omega)]
   have : c' = (cG b.natAbs ns : Nat) := by omega
   rw [h1, this]
   simp
 obtain ⟨δ', e3, e4⟩ := hdiv o'
 have e5 := e4 (hc0 (.inr hne))
 subst e5
 have hd0 : sgn b * ((cG b.natAbs ns : Nat) : Int) ≠ 0 := by rcases hsg with h | h <;> rw [h] <;> omega
 have hds : Sm 4000 (sgn b * ((cG b.natAbs ns : Nat) : Int)) := Dk hsg (by unfold Sm at *; simp only [Int.natAbs_natCast]; omega)
 have eL : lcL ⟨ns.map D.int, none⟩ (hName 0) aQ (M2 (ao 0) (ao 1) oDiv) (bQ ["_law_number"] [some (.lst (ns.map .int)), some (.int b), some (.int (sgn b * (cG b.natAbs ns : Nat))), o'] [2]) (ns.map D.int) μ = some ((ns.map D.int).map (λ d => match d with | .int n => .int (n.fdiv (sgn b * (cG b.natAbs ns : Nat))) | _ => .non), μ) := by
  refine vY _ λ d hd => ?_
  obtain ⟨n, _, rfl⟩ := Zq.mp hd
  have := nQ (x := n) μ hd0 hds (by decide)
  exact ⟨_, rfl, by simp [hName, bQ, M2, ao, this]⟩
 rw [List.map_map] at eL
 have eL2 : lcL ⟨ns.map D.int, none⟩ (hName 0) aQ (M2 (ao 0) (ao 1) oDiv) (bQ ["_law_number"] [some (.lst (ns.map .int)), some (.int b), some (.int (sgn b * (cG b.natAbs ns : Nat))), o'] [2]) (ns.map D.int) μ = some (ns.map (λ n => D.int (n.fdiv (sgn b * (cG b.natAbs ns : Nat)))), μ) := eL
 have eD := nQ (x := b) μ hd0 hds (by decide)
 have hz : ns.length <= sizeLine := Zl hl (by decide)
 have hz2 : ns.length + 1 <= sizeLine := Zl (by omega : ns.length + 1 <= 100) (by decide)
 have h1s : 1 <= sizeLine := by decide
 unfold aK ir
 simp [aR, bw, ao, iK, cj, srcOf, e, e3, bH, M2, MC, aq, aG, mFz, lLC, hz, eL2, jb, bL, eD, oTup, h1s, bT, hz2]
theorem bY {a b : Nat} {x : Int} (h : Sm a x) (hab : a <= b) : Sm b x := Zc h (Nat.pow_le_pow_right (by decide) hab)
theorem wk {a b : Nat} {x y : Int} (hx : Sm a x) (hy : Sm b y) : Sm (a + b) (x * y) := by
 unfold Sm at *
 rw [Int.natAbs_mul, Nat.pow_add]
 exact Nat.mul_lt_mul'' hx hy
def Dr (x : Int) : Prop := 0 <= x /\ x < 2147483648
theorem oW : ∀ (L : List Int), gf (L.map D.int) = true
 | [] => by unfold gf; rfl
 | x :: L => by
  rw [Zj]
  unfold gf
  rw [oW L]
  simp [dH]
theorem tL : ∀ (L : List Int), jV (L.map D.int) = 0
 | [] => by unfold jV; rfl
 | x :: L => by
  rw [Zj]
  unfold jV
  rw [tL L]
  simp [gP]
theorem Gz {ds : List D} {i : Int} (h0 : 0 <= i) (h1 : i < ds.length) : ∃ d, d ∈ ds /\ atI ds i = some d := by
 have hi : i.toNat < ds.length := by omega
 refine ⟨ds[i.toNat], List.getElem_mem hi, ?_⟩
 unfold atI ixN
 rw [if_pos h0, if_pos h1]
 simp [hi]
theorem bO {x m : Int} (hm : 0 < m) : 0 <= x.fmod m /\ x.fmod m < m := ⟨Int.fmod_nonneg_of_pos x hm, Int.fmod_lt_of_pos x hm⟩
def jw (φ : FF) : Prop := ∀ (x k : Int) (μ : Mu), 0 <= k -> k < 1000 -> ∃ r, φ [.int x, .int k] μ = some (.int r, μ) /\ Dr r
theorem Kl : jw (aK 3 fZ) := λ x k μ h0 h1 => by
 obtain ⟨a0, a1⟩ := bO (x := x) (m := 2147483647) (by decide)
 have w1 := gF (x := x) (y := 2147483647) μ (by decide)
 have sa : Sm 31 (x.fmod 2147483647) := by unfold Sm; have e : (2 : Nat) ^ 31 = 2147483648 := by decide
                                           omega
 have m1 := cH (x := x.fmod 2147483647) (y := 48271) μ sa (show Sm 16 48271 by unfold Sm; decide) (by decide)
 have sk : Sm 10 k := by unfold Sm; have e : (2 : Nat) ^ 10 = 1024 := by decide
                         omega
 have m2 := cH (x := 7919) (y := k) μ (show Sm 13 7919 by unfold Sm; decide) sk (by decide)
 have m3 := cH (x := 7919 * k) (y := k) μ (wk (show Sm 13 7919 by unfold Sm; decide) sk) sk (by decide)
 have w2 := gF (x := x.fmod 2147483647 * 48271 + 7919 * k * k + 104729) (y := 2147483647) μ (by decide)
 obtain ⟨b0, b1⟩ := bO (x := x.fmod 2147483647 * 48271 + 7919 * k * k + 104729) (m := 2147483647) (by decide)
 generalize hn : (x.fmod 2147483647 * 48271 + 7919 * k * k + 104729).fmod 2147483647 = n at *
 have sn : Sm 31 n := by unfold Sm; have e : (2 : Nat) ^ 31 = 2147483648 := by decide
                         omega
 have m4 := cH (x := n) (y := n) μ sn sn (by decide)
 have w3 := gF (x := n * n) (y := 2147483629) μ (by decide)
 obtain ⟨c0, c1⟩ := bO (x := n * n) (m := 2147483629) (by decide)
 refine ⟨(n * n).fmod 2147483629, ?_, c0, by omega⟩
 unfold aK fZ
 simp [aR, bw, M2, ao, mC, w1, m1, m2, m3, bT, w2, bH, m4, w3]
theorem vJ {δ : En} {L : List Int} {y : Int} {fs : AF} (h1 : δ[1]? = some (some (.cell 0))) (h2 : fs δ [some (L.map .int)] = some ([.int y], [some (L.map .int)])) (hl : L.length < 10000) :
  kZ (ao 1) fs δ [some (L.map .int)] = some (.non, [some ((L ++ [y]).map .int)]) := by
 have hz : L.length < sizeLine := Zc hl (by decide)
 unfold kZ
 simp [ao, h1, h2, iG, hz]
theorem Om {φ : FF} (hφ : jw φ) (s : D) (k c : Int) (hk : 0 <= k /\ k < 100) (all : List D) : ∀ (js : List Int), (∀ j ∈ js, 0 <= j /\ j < 12) -> ∀ (L : List Int) (o : Option D), (∀ x ∈ L, Dr x) -> L.length + js.length < 10000 -> ∃ (L' : List Int) (o' : Option D),
  forL ⟨all, none⟩ (hName 4) (gb (kZ (ao 1) (aq (MC (aq (MC (aq (ao 3) (aq (M2 (M2 (mC (.int 3)) (ao 4) dg) (mC (.int 1)) bT) (aG))) φ) (aq (M2 (M2 (ao 4) (ao 2) bT) (mC (.int 2)) bT) (aG))) φ) (aG)))) (js.map D.int)
   [some s, some (.cell 0), some (.int k), some (.int c), o] [some (L.map .int)] = some (.nx, [some s, some (.cell 0), some (.int k), some (.int c), o'], [some (L'.map .int)]) /\ (∀ x ∈ L', Dr x) /\ L'.length = L.length + js.length
 | [], _, L, o, hL, _ => ⟨L, o, by unfold forL; simp [bj], hL, rfl⟩
 | j :: js, hj, L, o, hL, hlen => by
  have hj0 := hj j (by simp)
  obtain ⟨r1, e1, d1⟩ := hφ c (3 * j + 1) [some (L.map .int)] (by omega) (by omega)
  obtain ⟨r2, e2, d2⟩ := hφ r1 (j + k + 2) [some (L.map .int)] (by omega) (by omega)
  have m1 := cH (x := 3) (y := j) [some (L.map D.int)] (show Sm 2 3 by unfold Sm; decide) (show Sm 4 j by unfold Sm; omega) (by decide)
  obtain ⟨L', o', e, hd, hl⟩ := Om hφ s k c hk all js (λ x hx => hj x (by simp [hx])) (L ++ [r2]) (some (.int j)) (λ x hx => by
   rcases Zm.mp hx with z | z
   .exact hL x z
   .simp at z; subst z; exact d2) (by simp at hlen ⊢; omega)
  refine ⟨L', o', ?_, hd, by rw [hl]; simp; omega⟩
  rw [Zj]
  unfold forL
  have ea := vJ (δ := [some s, some (.cell 0), some (.int k), some (.int c), some (.int j)]) (L := L) (y := r2) (fs := aq (MC (aq (MC (aq (ao 3) (aq (M2 (M2 (mC (.int 3)) (ao 4) dg) (mC (.int 1)) bT) (aG))) φ) (aq (M2 (M2 (ao 4) (ao 2) bT) (mC (.int 2)) bT) (aG))) φ) (aG)) rfl
   (by simp [aq, aG, MC, M2, ao, mC, m1, bT, e1, e2]) (by simp at hlen; omega)
  simp only [List.map_append, Zj, List.map_nil] at ea e
  simp [bj, hName, gb, ea, e]
abbrev drC : TF := oV (toB (M2 (ao 3) (M2 (mC (.int 10)) (mC (.int 18)) xQ) oGe)) (toB (M2 (MC (aq (ao 1) (aG)) (bD eU)) (mC (.int 900)) oLt))
abbrev drB : SF := aR (gb (kZ (ao 1) (aq (M2 (ao 3) (mC (.int 2147483629)) oMod) (aG)))) (bw 3 (M2 (ao 3) (mC (.int 2147483629)) oDiv))
theorem yu (s k o : Option D) : ∀ (n : Nat) (c : Int) (L : List Int), 0 <= c -> (∀ x ∈ L, Dr x) -> 900 - L.length <= n -> ∃ (c' : Int) (L' : List Int),
  eV drC drB (n + 1) [s, some (.cell 0), k, some (.int c), o] [some (L.map .int)] = some (.nx, [s, some (.cell 0), k, some (.int c'), o], [some (L'.map .int)]) /\ 0 <= c' /\ (∀ x ∈ L', Dr x) /\ L'.length <= max L.length 900
 | n, c, L, hc, hL, hn => by
  have ep : xQ (.int 10) (.int 18) [some (L.map D.int)] = some (.int 1000000000000000000, [some (L.map .int)]) := rfl
  by_cases ht : (1000000000000000000 : Int) <= c /\ L.length < 900
  .cases n with
   | zero => omega
   | succ n =>
    obtain ⟨m0, m1⟩ := bO (x := c) (m := 2147483629) (by decide)
    have w1 := gF (x := c) (y := 2147483629) [some (L.map D.int)] (by decide)
    have w2 := nQ (x := c) (y := 2147483629) [some ((L ++ [c.fmod 2147483629]).map D.int)] (by decide) (show Sm 31 2147483629 by unfold Sm; decide) (by decide)
    have q0 : 0 <= c.fdiv 2147483629 := by rw [Int.fdiv_eq_ediv_of_nonneg c (by decide)]; exact Int.ediv_nonneg hc (by decide)
    obtain ⟨c', L', e, h1, h2, h3⟩ := yu s k o n (c.fdiv 2147483629) (L ++ [c.fmod 2147483629]) q0 (λ x hx => by
     rcases Zm.mp hx with z | z
     .exact hL x z
     .simp at z; subst z; exact ⟨m0, by omega⟩) (by simp; omega)
    refine ⟨c', L', ?_, h1, h2, by simp at h3; omega⟩
    unfold eV
    have ea := vJ (δ := [s, some (.cell 0), k, some (.int c), o]) (L := L) (y := c.fmod 2147483629) (fs := aq (M2 (ao 3) (mC (.int 2147483629)) oMod) (aG)) rfl (by simp [aq, aG, M2, ao, mC, w1]) (by omega)
    simp only [List.map_append, Zj, List.map_nil] at ea e w2
    have hlen : ((L.length : Nat) : Int) < 900 := by omega
    have ht1 := ht.1
    simp [oV, toB, M2, ao, mC, ep, oGe, ht1, MC, aq, aG, bD, eU, bL, oLt, hlen, aR, gb] at ea ⊢
    simp [ea, bw, M2, ao, mC, w2, e]
  .refine ⟨c, L, ?_, hc, hL, by omega⟩
   unfold eV
   by_cases h1 : (1000000000000000000 : Int) <= c
   .have h2 : ¬ ((L.length : Nat) : Int) < 900 := by omega
    simp [oV, toB, M2, ao, mC, ep, oGe, h1, MC, aq, aG, bD, eU, bL, oLt, h2]
   .simp [oV, toB, M2, ao, mC, ep, oGe, h1]
theorem yD (n : Nat) : cX 0 n = ((List.range n).map λ (k : Nat) => (k : Int)).map D.int := by
 unfold cX
 rw [List.map_map]
 apply List.map_congr_left
 intro k _
 simp
noncomputable abbrev vm (φ : FF) : SF := (aR (bw 3 (MC (aq (M2 (ao 0) (ao 2) oIx) (aG)) (bD nA))) (aR (sIf (toB (M2 (ao 3) (M2 (mC (.int 10)) (mC (.int 18)) xQ) oLt)) (iK (bW (aq (mC (.int 12)) (aG))) (hName 4) (gb (kZ (ao 1) (aq (MC (aq (MC (aq (ao 3) (aq (M2 (M2 (mC (.int 3)) (ao 4) dg) (mC (.int 1)) bT) (aG))) φ) (aq (M2 (M2 (ao 4) (ao 2) bT) (mC (.int 2)) bT) (aG))) φ) (aG))))) (bF)) (aR (jD drC drB) (sIf (toB (M2 (ao 3) (mC (.int 2147483629)) oGe)) (gb (kZ (ao 1) (aq (M2 (ao 3) (mC (.int 2147483629)) oMod) (aG)))) (bF)))))
theorem Ih {φ : FF} (hφ : jw φ) (ns : List Int) (k : Nat) (hk : k < ns.length) (hk2 : k < 100) (L : List Int) (o3 o4 : Option D) (hL : ∀ x ∈ L, Dr x) (hlen : L.length < 9000) : ∃ (L' : List Int) (o3' o4' : Option D),
  vm φ [some (.ro (ns.map .int)), some (.cell 0), some (.int k), o3, o4] [some (L.map .int)] = some (.nx, [some (.ro (ns.map .int)), some (.cell 0), some (.int k), o3', o4'], [some (L'.map .int)]) /\ (∀ x ∈ L', Dr x) /\ L'.length <= max (L.length + 12) 900 + 1 := by
 have hat : atI (ns.map D.int) (k : Int) = some (.int ns[k]) := Ji (by simp [hk])
 generalize hc : (if ns[k] < 0 then -ns[k] else ns[k]) = c
 have hc0 : 0 <= c := by rw [<- hc]; split <;> omega
 have ep : xQ (.int 10) (.int 18) [some (L.map D.int)] = some (.int 1000000000000000000, [some (L.map .int)]) := rfl
 obtain ⟨L1, o1, e1, h1, l1⟩ : ∃ (L1 : List Int) (o1 : Option D), sIf (toB (M2 (ao 3) (M2 (mC (.int 10)) (mC (.int 18)) xQ) oLt)) (iK (bW (aq (mC (.int 12)) (aG))) (hName 4) (gb (kZ (ao 1) (aq (MC (aq (MC (aq (ao 3) (aq (M2 (M2 (mC (.int 3)) (ao 4) dg) (mC (.int 1)) bT) (aG))) φ) (aq (M2 (M2 (ao 4) (ao 2) bT) (mC (.int 2)) bT) (aG))) φ) (aG))))) (bF)
   [some (.ro (ns.map .int)), some (.cell 0), some (.int k), some (.int c), o4] [some (L.map .int)] = some (.nx, [some (.ro (ns.map .int)), some (.cell 0), some (.int k), some (.int c), o1], [some (L1.map .int)]) /\ (∀ x ∈ L1, Dr x) /\ L1.length <= L.length + 12 := by
  by_cases hs : c < 1000000000000000000
  .obtain ⟨L1, o1, e, h, l⟩ := Om hφ (.ro (ns.map .int)) k c (by omega) (cX 0 12) ((List.range 12).map λ (k : Nat) => (k : Int)) (λ j hj => by simp at hj; omega) L o4 hL (by simp; omega)
   refine ⟨L1, o1, ?_, h, by rw [l]; simp⟩
   rw [<- yD] at e
   simp [sIf, toB, M2, ao, mC, ep, oLt, hs, iK, bW, aq, aG]
   exact e
  .exact ⟨L, o4, by simp [sIf, toB, M2, ao, mC, ep, oLt, hs, bF], hL, by omega⟩
 obtain ⟨c', L2, e2, hc', h2, l2⟩ := yu (some (.ro (ns.map .int))) (some (.int k)) o1 _ c L1 hc0 h1 (Zg _)
 have ew := pO e2
 have hab : nA (.int ns[k]) [some (L.map D.int)] = some (.int c, [some (L.map D.int)]) := by rw [<- hc]; rfl
 by_cases hb : (2147483629 : Int) <= c'
 .obtain ⟨m0, m1⟩ := bO (x := c') (m := 2147483629) (by decide)
  have w1 := gF (x := c') (y := 2147483629) [some (L2.map D.int)] (by decide)
  have ea := vJ (δ := [some (.ro (ns.map .int)), some (.cell 0), some (.int k), some (.int c'), o1]) (L := L2) (y := c'.fmod 2147483629) (fs := aq (M2 (ao 3) (mC (.int 2147483629)) oMod) (aG)) rfl (by simp [aq, aG, M2, ao, mC, w1]) (by omega)
  refine ⟨L2 ++ [c'.fmod 2147483629], some (.int c'), o1, ?_, λ x hx => by
   rcases Zm.mp hx with z | z
   .exact h2 x z
   .simp at z; subst z; exact ⟨m0, by omega⟩, by simp; omega⟩
  have e0 : bw 3 (MC (aq (M2 (ao 0) (ao 2) oIx) (aG)) (bD nA)) [some (.ro (ns.map .int)), some (.cell 0), some (.int k), o3, o4] [some (L.map .int)] = some (.nx, [some (.ro (ns.map .int)), some (.cell 0), some (.int k), some (.int c), o4], [some (L.map .int)]) := by
   simp [bw, MC, aq, aG, M2, ao, oIx, bL, hat, bD, hab]
  have e3 : sIf (toB (M2 (ao 3) (mC (.int 2147483629)) oGe)) (gb (kZ (ao 1) (aq (M2 (ao 3) (mC (.int 2147483629)) oMod) (aG)))) (bF) [some (.ro (ns.map .int)), some (.cell 0), some (.int k), some (.int c'), o1] [some (L2.map .int)] = some (.nx, [some (.ro (ns.map .int)), some (.cell 0), some (.int k), some (.int c'), o1], [some ((L2 ++ [c'.fmod 2147483629]).map .int)]) := by
   simp only [sIf, toB, M2, ao, mC, oGe, gb] at ea ⊢
   simp [hb] at ea ⊢
   simp [ea]
  unfold vm aR
  rw [e0]
  simp only [Option.bind_some]
  rw [e1]
  simp only [Option.bind_some]
  rw [ew]
  simp only [Option.bind_some]
  exact e3
 .refine ⟨L2, some (.int c'), o1, ?_, h2, by omega⟩
  have e0 : bw 3 (MC (aq (M2 (ao 0) (ao 2) oIx) (aG)) (bD nA)) [some (.ro (ns.map .int)), some (.cell 0), some (.int k), o3, o4] [some (L.map .int)] = some (.nx, [some (.ro (ns.map .int)), some (.cell 0), some (.int k), some (.int c), o4], [some (L.map .int)]) := by
   simp [bw, MC, aq, aG, M2, ao, oIx, bL, hat, bD, hab]
  have e3 : sIf (toB (M2 (ao 3) (mC (.int 2147483629)) oGe)) (gb (kZ (ao 1) (aq (M2 (ao 3) (mC (.int 2147483629)) oMod) (aG)))) (bF) [some (.ro (ns.map .int)), some (.cell 0), some (.int k), some (.int c'), o1] [some (L2.map .int)] = some (.nx, [some (.ro (ns.map .int)), some (.cell 0), some (.int k), some (.int c'), o1], [some (L2.map .int)]) := by
   simp [sIf, toB, M2, ao, mC, oGe, hb, bF]
  unfold vm aR
  rw [e0]
  simp only [Option.bind_some]
  rw [e1]
  simp only [Option.bind_some]
  rw [ew]
  simp only [Option.bind_some]
  exact e3
theorem Al {φ : FF} (hφ : jw φ) (ns : List Int) (all : List D) : ∀ (ks : List Nat), (∀ k ∈ ks, k < ns.length /\ k < 100) -> ∀ (L : List Int) (o2 o3 o4 : Option D), (∀ x ∈ L, Dr x) -> max L.length 900 + 13 * ks.length <= 5000 -> ∃ (L' : List Int) (o2' o3' o4' : Option D),
  forL ⟨all, none⟩ (hName 2) (vm φ) ((ks.map λ (k : Nat) => (k : Int)).map D.int) [some (.ro (ns.map .int)), some (.cell 0), o2, o3, o4] [some (L.map .int)] = some (.nx, [some (.ro (ns.map .int)), some (.cell 0), o2', o3', o4'], [some (L'.map .int)]) /\ (∀ x ∈ L', Dr x)
 | [], _, L, o2, o3, o4, hL, _ => ⟨L, o2, o3, o4, by simp only [List.map_nil]; unfold forL; simp [bj], hL⟩
 | k :: ks, hk, L, o2, o3, o4, hL, hlen => by
  have hk0 := hk k (by simp)
  simp only [List.length_cons] at hlen
  obtain ⟨L1, a3, a4, e1, h1, l1⟩ := Ih hφ ns k hk0.1 hk0.2 L o3 o4 hL (by omega)
  obtain ⟨L', b2, b3, b4, e, h⟩ := Al hφ ns all ks (λ x hx => hk x (by simp [hx])) L1 (some (.int k)) a3 a4 h1 (by omega)
  refine ⟨L', b2, b3, b4, ?_, h⟩
  rw [Zj, Zj]
  unfold forL
  simp only [hName, List.set_cons_succ, List.set_cons_zero, Option.bind_some]
  rw [if_pos (bj _ _), e1]
  exact e
def wu (φ : FF) : Prop := ∀ (ns : List Int), ns.length <= 63 -> ∃ L : List Int, φ [.ro (ns.map .int)] [] = some (.cell 0, [some (L.map .int)]) /\ ∀ x ∈ L, Dr x
theorem DY {φ : FF} (hφ : jw φ) : wu (aK 5 (kE φ)) := λ ns hn => by
 obtain ⟨L, o2, o3, o4, e, h⟩ := Al hφ ns (cX 0 ns.length) (List.range ns.length) (λ k hk => by simp at hk; omega) [] none none none (λ x hx => by simp at hx) (by simp; omega)
 refine ⟨L, ?_, h⟩
 rw [<- yD] at e
 have hmin : (if (63 : Int) < (ns.length : Int) then (63 : Int) else (ns.length : Int)) = (ns.length : Int) := by rw [if_neg (by omega)]
 have hr : (-(2 ^ 62) <= (ns.length : Int) /\ (ns.length : Int) < 2 ^ 62) := by omega
 have hz : 0 <= sizeLine := Nat.zero_le _
 have eS : ∀ δ : En, δ[0]? = some (some (.ro (ns.map .int))) -> ∀ μ, bW (aq (MC (aq (MC (aq (ao 0) (aG)) (bD eU)) (aq (mC (.int 63)) (aG))) (mV oN)) (aG)) δ μ = some (⟨cX 0 ns.length, none⟩, μ) := λ δ h0 μ => by
  simp only [bW, aq, MC, ao, h0, aG, bD, eU, bL, mC, mV, oN, Option.bind_some, Option.map_some, Zu]
  rw [hmin]
  rw [if_pos hr]
  simp
 have e0 : bw 1 (mx (zO aG)) [some (.ro (ns.map .int)), none, none, none, none] [] = some (.nx, [some (.ro (ns.map .int)), some (.cell 0), none, none, none], [some []]) := by
  simp [bw, mx, zO, aG]
 have e1 : iK (bW (aq (MC (aq (MC (aq (ao 0) (aG)) (bD eU)) (aq (mC (.int 63)) (aG))) (mV oN)) (aG))) (hName 2) (vm φ) [some (.ro (ns.map .int)), some (.cell 0), none, none, none] [some []] = some (.nx, [some (.ro (ns.map .int)), some (.cell 0), o2, o3, o4], [some (L.map .int)]) := by
  unfold iK
  rw [eS _ rfl]
  exact e
 show (aR (bw 1 (mx (zO aG))) (aR (iK (bW (aq (MC (aq (MC (aq (ao 0) (aG)) (bD eU)) (aq (mC (.int 63)) (aG))) (mV oN)) (aG))) (hName 2) (vm φ)) (bH (ao 1))) [some (.ro (ns.map .int)), none, none, none, none] []).bind _ = _
 unfold aR
 rw [e0]
 simp only [Option.bind_some]
 rw [e1]
 simp [bH, ao]
theorem jx : ∀ (ns : List Int) (g d : Nat), d ∣ cG g ns ↔ d ∣ g /\ ∀ n ∈ ns, d ∣ n.natAbs
 | [], g, d => by simp [cG]
 | n :: ns, g, d => by
  have e : cG g (n :: ns) = cG (Int.gcd g n) ns := rfl
  rw [e, jx ns (Int.gcd g n) d]
  have h : d ∣ Int.gcd g n ↔ d ∣ g /\ d ∣ n.natAbs := by
   show d ∣ Nat.gcd (Int.natAbs g) (Int.natAbs n) ↔ _
   rw [Nat.dvd_gcd_iff]
   simp
  rw [h]
  simp only [Zi, forall_eq_or_imp]
  constructor
  .rintro ⟨⟨h1, h2⟩, h3⟩; exact ⟨h1, h2, h3⟩
  .rintro ⟨h1, h2, h3⟩; exact ⟨⟨h1, h2⟩, h3⟩
theorem HW {s b : Int} {ns : List Int} (hs : s = 1 ∨ s = -1) : cG 0 ((ns ++ [b]).map (s * ·)) = cG b.natAbs ns := by
 have hab : ∀ n : Int, (s * n).natAbs = n.natAbs := λ n => by rw [Int.natAbs_mul]; rcases hs with h | h <;> rw [h] <;> simp
 apply Nat.dvd_antisymm
 .have h := (jx ((ns ++ [b]).map (s * ·)) 0 _).mp (Nat.dvd_refl _)
  refine (jx ns b.natAbs _).mpr ⟨?_, λ n hn => ?_⟩
  .have := h.2 (s * b) (Zq.mpr ⟨b, by simp, rfl⟩)
   rwa [hab] at this
  .have := h.2 (s * n) (Zq.mpr ⟨n, by simp [hn], rfl⟩)
   rwa [hab] at this
 .have h := (jx ns b.natAbs _).mp (Nat.dvd_refl _)
  refine (jx _ 0 _).mpr ⟨Nat.dvd_zero _, λ m hm => ?_⟩
  obtain ⟨n, hn, rfl⟩ := Zq.mp hm
  rw [hab]
  rcases Zm.mp hn with z | z
  .exact h.2 n z
  .simp at z; subst z; exact h.1
theorem FQ {s n : Int} {G : Nat} (hs : s = 1 ∨ s = -1) (hd : (G : Int) ∣ n) : (s * n).fdiv G = n.fdiv (s * G) := by
 rcases hs with h | h
 .subst h; simp
 .subst h
  have e1 : (-1 : Int) * n = -n := by omega
  have e2 : (-1 : Int) * G = -G := by omega
  rw [e1, e2]
  have h1 : (G : Int) ∣ -n := (Int.dvd_neg).mpr hd
  have h2 : -(G : Int) ∣ n := (Int.neg_dvd).mpr hd
  rw [Int.fdiv_eq_ediv_of_dvd h1, Int.fdiv_eq_ediv_of_dvd h2, Int.neg_ediv_of_dvd hd, Int.ediv_neg]
theorem Ag (ns : List Int) (b : Int) : rowOf (sgn b) (ns ++ [b]) = (ns ++ [b]).map λ n => n.fdiv (sgn b * (cG b.natAbs ns : Nat)) := by
 unfold rowOf
 simp only []
 rw [HW (wG b), List.map_map]
 apply List.map_congr_left
 intro n hn
 have h := (jx ns b.natAbs _).mp (Nat.dvd_refl _)
 refine FQ (wG b) ?_
 have hN : cG b.natAbs ns ∣ n.natAbs := by
  rcases Zm.mp hn with z | z
  .exact h.2 n z
  .simp at z; subst z; exact h.1
 exact Int.ofNat_dvd_left.mpr hN
end LG
namespace L3
open PySem PySem.Spec PyProof.Rows L2
class Post (α : Type) where
 run : α -> Prop
@[simp] theorem wJ {α : Type} {f : α -> Prop} {r : α} : @Post.run α ⟨f⟩ r = f r := rfl
def OkI {α : Type} (o : Option α) [Q : Post α] : Prop := ∃ r, o = some r /\ Q.run r
abbrev Ok {α : Type} (o : Option α) (Q : α -> Prop) : Prop := @OkI α o ⟨Q⟩
section
variable {α β : Type} {Q : Post α}
@[simp] theorem Ax {r : α} : OkI (some r) (Q := Q) = Q.run r := by
 apply propext
 exact ⟨λ ⟨q, e, h⟩ => by cases e; exact h, λ h => ⟨r, rfl, h⟩⟩
@[simp] theorem Rf : OkI (none : Option α) (Q := Q) = False := by
 apply propext
 exact ⟨λ ⟨q, e, h⟩ => (by cases e), λ h => h.elim⟩
@[simp] theorem dJ {o : Option β} {k : β -> Option α} : OkI (o.bind k) (Q := Q) = OkI o (Q := ⟨λ r => OkI (k r) (Q := Q)⟩) := by
 apply propext
 constructor
 .rintro ⟨q, e, h⟩
  obtain ⟨r, e1, e2⟩ := Za.mp e
  exact ⟨r, e1, q, e2, h⟩
 .rintro ⟨r, e1, q, e2, h⟩
  exact ⟨q, by rw [e1]; exact e2, h⟩
@[simp] theorem Ri {o : Option β} {k : β -> α} : OkI (o.map k) (Q := Q) = OkI o (Q := ⟨λ r => Q.run (k r)⟩) := by
 apply propext
 constructor
 .rintro ⟨q, e, h⟩
  obtain ⟨r, e1, e2⟩ := Zp.mp e
  exact ⟨r, e1, by subst e2; exact h⟩
 .rintro ⟨r, e1, h⟩
  exact ⟨_, by rw [e1]; rfl, h⟩
theorem OkI.mono {o : Option α} {Q' : Post α} (h : OkI o (Q := Q)) (k : ∀ r, Q.run r -> Q'.run r) : OkI o (Q := Q') := let ⟨r, e, q⟩ := h; ⟨r, e, k r q⟩
end
class Two where
 t : Prop
 f : Prop
def qG (b : Bool) [T : Two] : Prop := if b = true then T.t else T.f
@[simp] theorem Nv {P R : Prop} : qG true (T := ⟨P, R⟩) = P := rfl
@[simp] theorem Lq {P R : Prop} : qG false (T := ⟨P, R⟩) = R := rfl
def asB (r : D × Mu) : Option (Bool × Mu) := match r.1 with
 | .bl k => some (k, r.2)
 | _ => none
@[simp] theorem RL {k : Bool} {μ : Mu} : asB (.bl k, μ) = some (k, μ) := rfl
def Jz (r : List D × Mu) : Option (Src × Mu) := match r.1 with
 | [.int j] => if -(2 ^ 62) <= j /\ j < 2 ^ 62 then some (⟨cX 0 j.toNat, none⟩, r.2) else none
 | _ => none
def DW (r : List D × Mu) : Option (List D × Mu) := match r.1 with
 | [.int j] => if -(2 ^ 62) <= j /\ j < 2 ^ 62 /\ j.toNat <= sizeLine then some (cX 0 j.toNat, r.2) else none
 | _ => none
theorem yW {j : Int} {μ : Mu} (h0 : -(2 ^ 62) <= j) (h1 : j < 2 ^ 62) : Jz ([.int j], μ) = some (⟨cX 0 j.toNat, none⟩, μ) := if_pos ⟨h0, h1⟩
theorem Qg {j : Int} {μ : Mu} (h0 : -(2 ^ 62) <= j) (h1 : j.toNat <= sizeLine) (h2 : j < 2 ^ 62) : DW ([.int j], μ) = some (cX 0 j.toNat, μ) := if_pos ⟨h0, h2, h1⟩
def Oj (r : List D × Mu) : Option (Src × Mu) := match r.1 with
 | [x, y] => (dN x).bind λ xs => (dN y).map λ ys => (⟨iH xs ys, none⟩, r.2)
 | _ => none
@[simp] theorem OJ {x y : D} {μ : Mu} : Oj ([x, y], μ) = (dN x).bind λ xs => (dN y).map λ ys => (⟨iH xs ys, none⟩, μ) := rfl
@[simp] theorem Qs {ds : List D} : dN (.tup ds) = some ds := rfl
@[simp] theorem QD {ds : List D} : dN (.lst ds) = some ds := rfl
def Ot (th : D -> fU) (r : Src × Mu) : Option (List fU × Mu) := match r.1.cel with
 | none => some (r.1.items.map th, r.2)
 | some _ => none
@[simp] theorem Ny {th : D -> fU} {items : List D} {μ : Mu} : Ot th (⟨items, none⟩, μ) = some (items.map th, μ) := rfl
def Kd (r : D × Mu) : Option (List fU × Mu) := match r.1 with
 | .tup ds => some (ds.map thE, r.2)
 | .lst ds => some (ds.map thE, r.2)
 | _ => none
@[simp] theorem Ox {ds : List D} {μ : Mu} : Kd (.tup ds, μ) = some (ds.map thE, μ) := rfl
@[simp] theorem Qd {ds : List D} {μ : Mu} : Kd (.lst ds, μ) = some (ds.map thE, μ) := rfl
def Qm (r : D × Mu) : Option (D × Mu) := match r.1 with
 | .cell n => (r.2.getD n none).map λ ds => (.lst ds, r.2.set n none)
 | d => some (d, r.2)
@[simp] theorem NP {n : Nat} {μ : Mu} : Qm (.cell n, μ) = (μ.getD n none).map λ ds => (.lst ds, μ.set n none) := rfl
section
variable {Q : Post (D × Mu)} {QT : Post (Bool × Mu)} {QS : Post (Fl × En × Mu)} {δ : En} {μ : Mu} {f fa fb fc : EF} {fs : AF} {t ta tc : TF} {g h : SF} {op op' : O2}
@[simp] theorem Kv {d : D} : ao 0 (some d :: δ) μ = some (d, μ) := rfl
@[simp] theorem Rz {i : Nat} {o : Option D} : ao (i + 1) (o :: δ) μ = ao i δ μ := rfl
@[simp] theorem w_c {d : D} : mC d δ μ = some (d, μ) := rfl
@[simp] theorem w_m1 {op : O1'} : M1 fa op δ μ = (fa δ μ).bind λ r => op r.1 r.2 := rfl
@[simp] theorem Qc : M2 fa fb op δ μ = (fa δ μ).bind λ r => (fb δ r.2).bind λ q => op r.1 q.1 q.2 := rfl
@[simp] theorem Jt : aG δ μ = some ([], μ) := rfl
@[simp] theorem Eb : aq f fs δ μ = (f δ μ).bind λ r => (fs δ r.2).bind λ q => some (r.1 :: q.1, q.2) := rfl
@[simp] theorem w_mc {op : ON} : MC fs op δ μ = (fs δ μ).bind λ r => op r.1 r.2 := rfl
@[simp] theorem Rm : jY f δ μ = (f δ μ).bind λ r => (xg r.1 r.2).map λ k => (k, r.2) := rfl
@[simp] theorem w_toB : toB f δ μ = (f δ μ).bind asB := rfl
@[simp] theorem w_ch : OkI (MCh fa fb fc op op' δ μ) (Q := Q) = OkI (fa δ μ) (Q := ⟨λ r => OkI (fb δ r.2) (Q := ⟨λ q => OkI ((op r.1 q.1 q.2).bind asB) (Q := ⟨λ z => qG z.1 (T := ⟨OkI ((fc δ z.2).bind λ t => op' q.1 t.1 t.2) (Q := Q), Q.run (.bl false, z.2)⟩)⟩)⟩)⟩) := by
 unfold MCh; rw [dJ]; congr 2; funext r; rw [dJ]; congr 2; funext q; rw [dJ, dJ]; congr 2; funext z; obtain ⟨d, μ'⟩ := z
 cases d <;> simp [asB]
 rename_i b
 cases b <;> simp
@[simp] theorem w_and : OkI (oV ta tc δ μ) (Q := QT) = OkI (ta δ μ) (Q := ⟨λ r => qG r.1 (T := ⟨OkI (tc δ r.2) (Q := QT), QT.run (false, r.2)⟩)⟩) := by
 unfold oV; rw [dJ]; congr 2; funext r; unfold qG; split <;> simp [*]
@[simp] theorem w_or : OkI (jT ta tc δ μ) (Q := QT) = OkI (ta δ μ) (Q := ⟨λ r => qG r.1 (T := ⟨QT.run (true, r.2), OkI (tc δ r.2) (Q := QT)⟩)⟩) := by
 unfold jT; rw [dJ]; congr 2; funext r; unfold qG; split <;> simp [*]
@[simp] theorem w_not : gj ta δ μ = (ta δ μ).bind λ r => some (!r.1, r.2) := rfl
@[simp] theorem w_mif : OkI (mIf t fa fb δ μ) (Q := Q) = OkI (t δ μ) (Q := ⟨λ r => qG r.1 (T := ⟨OkI (fa δ r.2) (Q := Q), OkI (fb δ r.2) (Q := Q)⟩)⟩) := by
 unfold mIf; rw [dJ]; congr 2; funext r; unfold qG; split <;> simp [*]
@[simp] theorem Rj : OkI (oH fa fb δ μ) (Q := Q) = OkI ((fa δ μ).bind asB) (Q := ⟨λ k => qG k.1 (T := ⟨OkI (fb δ k.2) (Q := Q), Q.run (.bl false, k.2)⟩)⟩) := by
 unfold oH; rw [dJ, dJ]; congr 2; funext r; obtain ⟨d, μ'⟩ := r
 cases d <;> simp [asB]
 rename_i b
 cases b <;> simp
@[simp] theorem Ro : uQ fa δ μ = ((fa δ μ).bind asB).bind λ r => some (.bl !r.1, r.2) := by
 unfold uQ
 cases fa δ μ with
 | none => rfl
 | some r => obtain ⟨d, μ'⟩ := r; cases d <;> rfl
@[simp] theorem w_next : bF δ μ = some (.nx, δ, μ) := rfl
@[simp] theorem QH : sE δ μ = some (.bk, δ, μ) := rfl
@[simp] theorem w_ret : bH f δ μ = (f δ μ).bind λ r => some (.rt r.1, δ, r.2) := rfl
@[simp] theorem Rk : gb f δ μ = (f δ μ).bind λ r => some (.nx, δ, r.2) := rfl
@[simp] theorem w_set {i : Nat} : bw i f δ μ = (f δ μ).bind λ r => some (.nx, δ.set i (some r.1), r.2) := rfl
@[simp] theorem w_if : OkI (sIf t g h δ μ) (Q := QS) = OkI (t δ μ) (Q := ⟨λ r => qG r.1 (T := ⟨OkI (g δ r.2) (Q := QS), OkI (h δ r.2) (Q := QS)⟩)⟩) := by
 unfold sIf; rw [dJ]; congr 2; funext r; unfold qG; split <;> simp [*]
def uD (h : SF) (QS : Post (Fl × En × Mu)) (r : Fl × En × Mu) : Prop := match r.1 with
 | .nx => OkI (h r.2.1 r.2.2) (Q := QS)
 | _ => QS.run r
@[simp] theorem w_seq : OkI (aR g h δ μ) (Q := QS) = OkI (g δ μ) (Q := ⟨uD h QS⟩) := by
 unfold aR
 rw [dJ]
 congr 2
 funext r
 obtain ⟨fl, δ', μ'⟩ := r
 cases fl <;> simp [uD]
@[simp] theorem Qx {δ' : En} {μ' : Mu} : uD h QS (.nx, δ', μ') = OkI (h δ' μ') (Q := QS) := rfl
@[simp] theorem QV {d : D} {δ' : En} {μ' : Mu} : uD h QS (.rt d, δ', μ') = QS.run (.rt d, δ', μ') := rfl
@[simp] theorem QC {δ' : En} {μ' : Mu} : uD h QS (.bk, δ', μ') = QS.run (.bk, δ', μ') := rfl
@[simp] theorem Qv {δ' : En} {μ' : Mu} : uD h QS (.ct, δ', μ') = QS.run (.ct, δ', μ') := rfl
@[simp] theorem w_par {i j : Nat} : ur i j fs δ μ = (fs δ μ).bind λ r => match r.1 with
 | [x, y] => some (.nx, (δ.set i (some x)).set j (some y), r.2)
 | _ => none := rfl
@[simp] theorem w_for {fi : IF} {hh : GF} : iK fi hh g δ μ = (fi δ μ).bind λ r => forL r.1 hh g r.1.items δ r.2 := rfl
@[simp] theorem w_fz {lf : LF} : mFz lf δ μ = (lf δ μ).bind λ r => some (.lst r.1, r.2) := rfl
@[simp] theorem w_new {lf : LF} : mx lf δ μ = (lf δ μ).bind λ r => some (.cell r.2.length, r.2 ++ [some r.1]) := rfl
@[simp] theorem Rh : zO fs δ μ = (fs δ μ).bind λ r => if r.1.length <= sizeLine then some r else none := rfl
@[simp] theorem Rx {i : Nat} {d : D} : hName i d δ μ = some (δ.set i (some d)) := rfl
@[simp] theorem w_tup {n : Nat} {hs : GsF} {ds : List D} : mY n hs (.tup ds) δ μ = if ds.length = n then hs ds δ μ else none := rfl
@[simp] theorem RC : ni [] δ μ = some δ := rfl
@[simp] theorem QG {hh : GF} {hs : GsF} {d : D} {ds : List D} : dI hh hs (d :: ds) δ μ = (hh d δ μ).bind λ δ1 => hs ds δ1 μ := rfl
@[simp] theorem Ru : cj f δ μ = (f δ μ).bind λ r => (srcOf r.1 r.2).map λ S => (S, r.2) := rfl
@[simp] theorem Rc {ds : List D} : srcOf (.tup ds) μ = some ⟨ds, none⟩ := rfl
@[simp] theorem Qt {ds : List D} : srcOf (.lst ds) μ = some ⟨ds, none⟩ := rfl
@[simp] theorem QW {fl fh : PF} : mSl f fl fh δ μ = (f δ μ).bind λ r => (fl δ r.2).bind λ l => (fh δ l.2).bind λ u => oSl r.1 l.1 u.1 u.2 := rfl
@[simp] theorem Ry : BK fa fb δ μ = (fa δ μ).bind λ r => (fb δ r.2).bind λ q => (jX r.1 q.2).bind λ xs => (jX q.1 q.2).bind λ ys => if xs.length + ys.length <= sizeLine then some (xs ++ ys, q.2) else none := rfl
@[simp] theorem Nu {ds : List D} : jX (.lst ds) μ = some ds := rfl
@[simp] theorem w_fno : fNo δ μ = some (none, μ) := rfl
@[simp] theorem w_fat : fAt f δ μ = (f δ μ).bind λ r => match r.1 with
 | .int i => some (some i, r.2)
 | _ => none := rfl
@[simp] theorem NZ {op : O1'} {x : D} : bD op [x] μ = op x μ := rfl
@[simp] theorem w_two {x y : D} : mV op [x, y] μ = op x y μ := rfl
variable {i j : Int} {ds es : List D} {k : Bool}
@[simp] theorem a_add : bT (.int i) (.int j) μ = some (.int (i + j), μ) := rfl
@[simp] theorem Rw : bT (.tup ds) (.tup es) μ = if ds.length + es.length <= sizeLine then some (.tup (ds ++ es), μ) else none := rfl
@[simp] theorem Rn : bT (.lst ds) (.lst es) μ = if ds.length + es.length <= sizeLine then some (.lst (ds ++ es), μ) else none := rfl
@[simp] theorem Dl : gG (.int i) (.int j) μ = some (.int (i - j), μ) := rfl
@[simp] theorem a_mod (h : j ≠ 0) : oMod (.int i) (.int j) μ = some (.int (i.fmod j), μ) := if_pos h
theorem uC (h : j ≠ 0) (h2 : j.natAbs.log2 < 9000) : oDiv (.int i) (.int j) μ = some (.int (i.fdiv j), μ) := if_pos ⟨h, h2⟩
@[simp] theorem a_lt : oLt (.int i) (.int j) μ = some (.bl (decide (i < j)), μ) := rfl
@[simp] theorem a_le : oLe (.int i) (.int j) μ = some (.bl (decide (i <= j)), μ) := rfl
@[simp] theorem a_gt : oGt (.int i) (.int j) μ = some (.bl (decide (j < i)), μ) := rfl
@[simp] theorem a_ge : oGe (.int i) (.int j) μ = some (.bl (decide (j <= i)), μ) := rfl
@[simp] theorem a_neg : qI (.int i) μ = some (.int (-i), μ) := rfl
@[simp] theorem a_abs : nA (.int i) μ = some (.int (i.natAbs), μ) := by
 show some (D.int (if i < 0 then -i else i), μ) = _
 congr 3
 split <;> omega
@[simp] theorem JK : oN (.int i) (.int j) μ = some (.int (min i j), μ) := by
 show some (D.int (if j < i then j else i), μ) = _
 congr 3
 split <;> omega
@[simp] theorem a_eq : oEq (.int i) (.int j) μ = some (.bl (i == j), μ) := by unfold oEq rsv; simp [dH, gP, eqD]
@[simp] theorem a_ne : oNe (.int i) (.int j) μ = some (.bl (!(i == j)), μ) := by unfold oNe rsv; simp [dH, gP, eqD]
@[simp] theorem a_eqU : xZ (.tup ds) (.tup []) μ = some (.bl ds.isEmpty, μ) := rfl
@[simp] theorem a_eqB {k l : Bool} : oEq (.bl k) (.bl l) μ = some (.bl (k == l), μ) := by unfold oEq rsv; simp [dH, gP, eqD]
@[simp] theorem a_neB {k l : Bool} : oNe (.bl k) (.bl l) μ = some (.bl (!(k == l)), μ) := by unfold oNe rsv; simp [dH, gP, eqD]
@[simp] theorem a_isB {k l : Bool} : oIs (.bl k) (.bl l) μ = some (.bl (k == l), μ) := rfl
@[simp] theorem a_isN {d : D} : oIs d .non μ = some (.bl (nG d), μ) := by cases d <;> rfl
@[simp] theorem Rp {k l : Bool} : pH (.bl k) (.bl l) μ = some (.bl (k != l), μ) := rfl
@[simp] theorem RM {d : D} : pH d .non μ = some (.bl (!nG d), μ) := by cases d <;> rfl
@[simp] theorem a_tup : oTup ds μ = if ds.length <= sizeLine then some (.tup ds, μ) else none := rfl
@[simp] theorem a_lst : oLst ds μ = if ds.length <= sizeLine then some (.lst ds, μ) else none := rfl
@[simp] theorem Qp {d : D} : oIx d (.int i) μ = (bL d μ).bind λ ds => (atI ds i).map λ d => (d, μ) := rfl
@[simp] theorem Pn : bL (.tup ds) μ = some ds := rfl
@[simp] theorem i_lst : bL (.lst ds) μ = some ds := rfl
@[simp] theorem i_ro : bL (.ro ds) μ = some ds := rfl
@[simp] theorem RJ : eU (.tup ds) μ = some (.int ds.length, μ) := rfl
@[simp] theorem iu : eU (.lst ds) μ = some (.int ds.length, μ) := rfl
@[simp] theorem Rt : eU (.ro ds) μ = some (.int ds.length, μ) := rfl
@[simp] theorem Qw {d : D} : jb [d] μ = (bL d μ).map λ ds => (.tup ds, μ) := rfl
@[simp] theorem w_lOf : lOf fs δ μ = (fs δ μ).bind λ r => match r.1 with
 | [x] => (bL x r.2).map λ ds => (ds, r.2)
 | _ => none := rfl
@[simp] theorem Pk {own : List Str} {capI : List Nat} {f fe : EF} : vO own capI f fe δ μ = (f δ μ).bind λ r => (jX r.1 r.2).bind λ ds => if ds.length < 64 then (oh (ds.map (thG (hName 0) fe (bQ own δ capI))) r.2).map λ q => (lG q.1 ds, q.2) else none := rfl
@[simp] theorem QZ : xn fs δ μ = (fs δ μ).bind λ r => match r.1 with
 | [x] => (jX x r.2).bind λ ds => (qp ds).map λ es => (es, r.2)
 | _ => none := rfl
@[simp] theorem t_bl : xg (.bl k) μ = some k := rfl
@[simp] theorem t_int : xg (.int i) μ = some (i != 0) := rfl
@[simp] theorem t_tup : xg (.tup ds) μ = some !ds.isEmpty := rfl
@[simp] theorem t_lst : xg (.lst ds) μ = some !ds.isEmpty := rfl
@[simp] theorem t_non : xg .non μ = some false := rfl
@[simp] theorem Ra {T : String} : gW T (.int i) μ = some (.bl (T == "int"), μ) := rfl
@[simp] theorem RK {T : String} : gW T (.bl k) μ = some (.bl (T == "bool" || T == "int"), μ) := rfl
@[simp] theorem QX {T : String} : gW T (.tup ds) μ = some (.bl (T == "tuple"), μ) := rfl
@[simp] theorem Qy {T : String} : gW T (.lst ds) μ = some (.bl (T == "list"), μ) := rfl
@[simp] theorem QQ {T : String} {x : Str} : gW T (.str x) μ = some (.bl (T == "str"), μ) := rfl
@[simp] theorem QJ {T : String} : gW T .non μ = some (.bl false, μ) := rfl
@[simp] theorem QB {T : String} {x} : gW T (.dic x) μ = some (.bl (T == "dict"), μ) := rfl
@[simp] theorem Ms : bW fs δ μ = (fs δ μ).bind Jz := rfl
@[simp] theorem Rb : Aq fs δ μ = (fs δ μ).bind DW := rfl
@[simp] theorem w_zip : uM fs δ μ = (fs δ μ).bind Oj := rfl
@[simp] theorem w_lc {own : List Str} {capI : List Nat} {fi : IF} {hh : GF} : lLC own capI fi hh t f δ μ = (fi δ μ).bind λ r => if r.1.items.length <= sizeLine then lcL r.1 hh t f (bQ own δ capI) r.1.items r.2 else none := rfl
@[simp] theorem w_all {st : StF} : yQ st δ μ = (st δ μ).bind λ r => (yf r.1 r.2).bind λ q => some (.bl q.1, q.2) := rfl
@[simp] theorem RB {st : StF} : xm st δ μ = (st δ μ).bind λ r => if r.1.length <= sizeLine then (wR r.1 r.2).bind λ q => some (.tup q.1, q.2) else none := rfl
@[simp] theorem w_sum {st : StF} : uf st δ μ = (st δ μ).bind λ r => (qF 0 r.1 r.2).bind λ q => some (.int q.1, q.2) := rfl
@[simp] theorem w_gen {own : List Str} {capI : List Nat} {fi : IF} {hh : GF} : mL own capI fi hh f δ μ = (fi δ μ).bind λ r => Ot (thG hh f (bQ own δ capI)) r := rfl
@[simp] theorem Rr : nO f δ μ = (f δ μ).bind Kd := rfl
@[simp] theorem w_frz : Gn f δ μ = (f δ μ).bind Qm := rfl
end
theorem JL {items : List D} {μ : Mu} : Src.ok ⟨items, none⟩ μ := λ n e => by cases e
def uG (I : En -> Mu -> Prop) (QS : Post (Fl × En × Mu)) (r : Fl × En × Mu) : Prop := match r.1 with
 | .nx => I r.2.1 r.2.2
 | .ct => I r.2.1 r.2.2
 | .bk => QS.run (.nx, r.2)
 | .rt d => QS.run (.rt d, r.2)
section
variable {I : En -> Mu -> Prop} {QS : Post (Fl × En × Mu)} {δ : En} {μ : Mu}
@[simp] theorem Qu : uG I QS (.nx, δ, μ) = I δ μ := rfl
@[simp] theorem QF : uG I QS (.ct, δ, μ) = I δ μ := rfl
@[simp] theorem QM : uG I QS (.bk, δ, μ) = QS.run (.nx, δ, μ) := rfl
@[simp] theorem QR {d : D} : uG I QS (.rt d, δ, μ) = QS.run (.rt d, δ, μ) := rfl
end
theorem lW {all : List D} {h : GF} {b : SF} {QS : Post (Fl × En × Mu)} (I : List D -> En -> Mu -> Prop)
  (turn : ∀ d r δ μ, I (d :: r) δ μ -> OkI (h d δ μ) (Q := ⟨λ δ1 => OkI (b δ1 μ) (Q := ⟨uG (I r) QS⟩)⟩)) (fin : ∀ δ μ, I [] δ μ -> QS.run (.nx, δ, μ)) :
  ∀ (its : List D) (δ : En) (μ : Mu), I its δ μ -> OkI (forL ⟨all, none⟩ h b its δ μ) (Q := QS)
 | [], δ, μ, hI => by unfold forL; rw [if_pos JL, Ax]; exact fin δ μ hI
 | d :: r, δ, μ, hI => by
  unfold forL
  rw [if_pos JL, dJ]
  refine (turn d r δ μ hI).mono λ δ1 h1 => ?_
  rw [wJ] at h1 ⊢
  rw [dJ]
  refine h1.mono λ q h2 => ?_
  rw [wJ] at h2 ⊢
  obtain ⟨fl, δ', μ'⟩ := q
  cases fl with
  | nx => exact lW (all := all) I turn fin r δ' μ' h2
  | ct => exact lW (all := all) I turn fin r δ' μ' h2
  | bk => exact ⟨_, rfl, h2⟩
  | rt d => exact ⟨_, rfl, h2⟩
def retS (R : Post (D × Mu)) (r : Fl × En × Mu) : Prop := match r.1 with
 | .rt d => R.run (d, r.2.2)
 | .nx => R.run (.non, r.2.2)
 | _ => False
@[simp] theorem Rg {R : Post (D × Mu)} {d : D} {δ : En} {μ : Mu} : retS R (.rt d, δ, μ) = R.run (d, μ) := rfl
@[simp] theorem Rv {R : Post (D × Mu)} {δ : En} {μ : Mu} : retS R (.nx, δ, μ) = R.run (.non, μ) := rfl
theorem vN {m : Nat} {g : SF} {ds : List D} {μ : Mu} {R : Post (D × Mu)} (h : OkI (g (ds.map some ++ List.replicate (m - ds.length) none) μ) (Q := ⟨retS R⟩)) : OkI (aK m g ds μ) (Q := R) := by
 unfold aK
 rw [dJ]
 refine h.mono λ r hr => ?_
 obtain ⟨fl, δ, μ'⟩ := r
 cases fl with
 | rt d => exact ⟨_, rfl, hr⟩
 | nx => exact ⟨_, rfl, hr⟩
 | bk => exact hr.elim
 | ct => exact hr.elim
end L3
namespace LG
open PySem PySem.Spec PyProof.Rows L2 L3
theorem JG {α : Type} {o : Option α} {x : α} (h : Ok o (λ r => r = x)) : o = some x := by
 obtain ⟨r, e, h⟩ := h
 have h : r = x := h
 rw [e, h]
theorem bV {m : Nat} {g : SF} {ds : List D} {μ : Mu} {d : D} (h : OkI (g (ds.map some ++ List.replicate (m - ds.length) none) μ) (Q := ⟨retS ⟨λ r => r = (d, μ)⟩⟩)) : trunc (aK m g) ds μ = some (d, μ) :=
 fH (JG (vN h))
@[simp] theorem sz {n : Nat} (h : n <= 1000) : (n <= sizeLine) = True := eq_true (Zl h (by decide))
abbrev nc (d : D) : Prop := cLt 0 d = true
theorem qN : ∀ {ds : List D}, kj 0 ds = true ↔ ∀ d ∈ ds, nc d
 | [] => by unfold kj; simp
 | d :: ds => by unfold kj; simp [qN (ds := ds)]
theorem lF {ds : List D} : nc (.tup ds) ↔ ∀ d ∈ ds, nc d := by
 have e : cLt 0 (.tup ds) = kj 0 ds := by rw [cLt]
 unfold nc
 rw [e]
 exact qN
theorem Mf {ds : List D} : nc (.lst ds) ↔ ∀ d ∈ ds, nc d := by
 have e : cLt 0 (.lst ds) = kj 0 ds := by rw [cLt]
 unfold nc
 rw [e]
 exact qN
theorem zJ {i : Int} : nc (.int i) := by unfold nc cLt; rfl
theorem wy {ns : List Int} : ∀ d ∈ ns.map D.int, nc d := λ d h => by
 obtain ⟨n, _, rfl⟩ := Zq.mp h
 exact zJ
def isInt : D -> Bool
 | .int _ => true
 | _ => false
def intOf : D -> Int
 | .int i => i
 | _ => 0
@[simp] theorem Nx {i : Int} : isInt (.int i) = true := rfl
@[simp] theorem Nz {i : Int} : intOf (.int i) = i := rfl
theorem ints_of : ∀ {ds : List D}, ds.all isInt = true -> ds = (ds.map intOf).map D.int
 | [], _ => rfl
 | d :: ds, h => by
  rw [List.all_cons, Zo] at h
  cases d with
  | int i => rw [Zj, Zj, <- ints_of h.2]; rfl
  | _ => exact absurd h.1 (by simp [isInt])
theorem ints_map (ns : List Int) : (ns.map D.int).map intOf = ns := by simp [Function.comp_def]
theorem Ed (d : D) (μ : Mu) (h : nc d) : trunc (aK 1 eZ) [d] μ = some (.bl (isInt d), μ) := by
 apply bV
 cases d with
 | cell n => simp [nc, cLt] at h
 | ro ds => simp [eZ, isInt, gW, Cy]
 | _ => simp [eZ, isInt]
theorem DK (d : D) (μ : Mu) (h : nc d) : trunc (aK 1 kI) [d] μ = some (.bl (isInt d), μ) := Ed d μ h
theorem lw {th : D -> fU} {p : D -> Bool} {μ : Mu} : ∀ (ds : List D), (∀ d ∈ ds, th d μ = some (.bl (p d), μ)) -> yf (ds.map th) μ = some (ds.all p, μ)
 | [], _ => rfl
 | d :: ds, h => by
  rw [Zj]
  unfold yf
  rw [h d (by simp)]
  have ih := lw ds λ x hx => h x (by simp [hx])
  cases hp : p d <;> simp [hp, Kq, ih]
theorem sO {all : List D} {h : GF} {tt : TF} {fe : EF} {δb : En} {p : D -> Bool} {f : D -> D} {μ : Mu} : ∀ (items : List D), (∀ d ∈ items, ∃ δ1, h d δb μ = some δ1 /\ tt δ1 μ = some (p d, μ) /\ (p d = true -> fe δ1 μ = some (f d, μ))) -> lcL ⟨all, none⟩ h tt fe δb items μ = some ((items.filter p).map f, μ)
 | [], _ => by unfold lcL; simp [bj]
 | d :: r, hd => by
  obtain ⟨δ1, h1, h2, h3⟩ := hd d (by simp)
  have ih := sO (all := all) r λ x hx => hd x (by simp [hx])
  unfold lcL
  cases hp : p d with
  | false => simp [bj, h1, h2, hp, ih]
  | true => simp [bj, h1, h2, hp, h3 hp, ih]
def sS : D -> Bool
 | .tup ds => ds.all isInt
 | _ => false
def Ad (φ : FF) : Prop := ∀ d μ, nc d -> φ [d] μ = some (.bl (isInt d), μ)
theorem zT {φ : FF} (hφ : Ad φ) (d : D) (μ : Mu) (h : nc d) : trunc (aK 1 (dj φ)) [d] μ = some (.bl (sS d), μ) := by
 apply bV
 cases d with
 | cell n => simp [nc, cLt] at h
 | ro ds => simp [dj, sS, gW, Cy]
 | tup ds =>
  have e := lw (th := thG (hName 0) (MC (aq (ao 0) aG) φ) (bQ ["part"] [some (D.tup ds)] [])) (p := isInt) (μ := μ) ds λ x hx => by
   simp [thG, bQ, hφ x μ (lF.mp h x hx)]
  simp [dj, sS, e]
 | _ => simp [dj, sS]
theorem xW {ds : List D} (h : ds ≠ []) : atI ds (-1) = some (ds.getLast h) := by
 have hl : 0 < ds.length := List.length_pos_iff.mpr h
 unfold atI ixN
 rw [if_neg (by omega), if_pos (by omega)]
 have : ((-1 : Int) + ds.length).toNat = ds.length - 1 := by omega
 simp only [Option.bind_some, this]
 rw [List.getLast_eq_getElem]
 simp [hl]
theorem Bs {ns : List Int} (h : ns ≠ []) : atI (ns.map D.int) (-1) = some (.int (ns.getLastD 0)) := by
 rw [xW (by simpa using h)]
 simp [List.getLastD_eq_getLast?, List.getLast?_eq_some_getLast h]
def DN (φ : FF) : Prop := ∀ d μ, nc d -> φ [d] μ = some (.bl (sS d), μ)
theorem HQ (k l : Bool) (μ : Mu) : trunc (aK 2 lH) [.bl k, .bl l] μ = some (.bl (k == l), μ) := by
 apply bV
 simp [lH]
theorem wL {n d : Nat} {i : Int} (h : 0 <= i) : HT.sIx n d (some i) = min i.toNat n := if_neg (by omega)
theorem HY {ds : List D} {i : Int} {μ : Mu} (h0 : 0 < i) (h1 : i <= ds.length) : oSl (.tup ds) (some i) none μ = some (.tup (ds.drop i.toNat), μ) := by
 have h0' : 0 <= i := by omega
 have e : HT.sIx ds.length 0 (some i) = i.toNat := by rw [wL h0']; omega
 have e0 : HT.sIx ds.length ds.length none = ds.length := rfl
 unfold oSl L3.cutD
 simp only [e, e0]
 simp [List.take_of_length_le]
theorem Hs {ds : List D} {μ : Mu} (h : ds ≠ []) : oSl (.tup ds) none (some (-1)) μ = some (.tup ds.dropLast, μ) := by
 have hl : 0 < ds.length := List.length_pos_iff.mpr h
 have e : HT.sIx ds.length ds.length (some (-1)) = ds.length - 1 := by show (if (-1 : Int) < 0 then ((-1 : Int) + ds.length).toNat else min (-1 : Int).toNat ds.length) = _; rw [if_pos (by decide)]; omega
 have e0 : HT.sIx ds.length 0 none = 0 := rfl
 unfold oSl L3.cutD
 simp only [e, e0]
 simp [List.dropLast_eq_take]
theorem Dw {ds : List D} {i : Int} {μ : Mu} (h0 : 0 <= i) : oSl (.lst ds) none (some i) μ = some (.lst (ds.take i.toNat), μ) := by
 have h0' : 0 <= i := by omega
 have e : HT.sIx ds.length ds.length (some i) = min i.toNat ds.length := by rw [wL h0']
 have e0 : HT.sIx ds.length 0 none = 0 := rfl
 unfold oSl L3.cutD
 simp only [e, e0]
 simp [List.take_eq_take_iff]
theorem yC {ds : List D} {i : Int} {μ : Mu} (h0 : 0 <= i) : oSl (.lst ds) (some i) none μ = some (.lst (ds.drop i.toNat), μ) := by
 have h0' : 0 <= i := by omega
 have e : HT.sIx ds.length 0 (some i) = min i.toNat ds.length := by rw [wL h0']
 have e0 : HT.sIx ds.length ds.length none = ds.length := rfl
 unfold oSl L3.cutD
 simp only [e, e0]
 congr 3
 by_cases h : i.toNat <= ds.length
 .rw [Nat.min_eq_left h]; simp [List.take_of_length_le]
 .rw [Nat.min_eq_right (by omega)]; simp; omega
def muD (L : List Int) : Mu := [some (L.map .int)]
def DlD (L : List Int) : Prop := ∀ x ∈ L, Dr x
theorem yr {a : Nat} {x y : Int} (hx : Sm a x) (hy : 0 < y) : Sm a (x.fdiv y) := by
 rw [Int.fdiv_eq_ediv_of_nonneg x (by omega)]
 unfold Sm at *
 have := Int.natAbs_ediv_le_natAbs x y
 omega
theorem mulL {ds : List D} {k : Int} {μ : Mu} (h0 : 0 <= k) (h1 : k <= 1000) (hl : ds.length * k.toNat <= 1000) : dg (.lst ds) (.int k) μ = some (.lst (List.replicate k.toNat ds).flatten, μ) := if_pos ⟨by omega, by omega, Zl hl (by decide)⟩
theorem dM {a : Int} {n : Nat} : (cX a n).length = n := by unfold cX; simp
theorem Fq {φ : FF} (h : wu φ) (ns : List Int) (hn : ns.length <= 63) : ∃ L, φ [.ro (ns.map .int)] [] = some (.cell 0, muD L) /\ DlD L := h ns hn
theorem IV {φ : FF} {ns : List Int} (h : Ok (φ [.ro (ns.map .int)] []) (λ r => r.1 = .bl true)) : ∃ μ', φ [.ro (ns.map .int)] [] = some (.bl true, μ') := by
 obtain ⟨⟨d, μ'⟩, e, h⟩ := h
 have h : d = .bl true := h
 subst h
 exact ⟨μ', e⟩
@[simp] theorem Pj {α : Type} {l : List α} {x y : α} : (l ++ [x]).set l.length y = l ++ [y] := by simp [List.set_append]
mutual
theorem rC {m : Nat} : ∀ {d : D}, cLt 0 d = true -> cLt m d = true
 | .non, _ => by simp [cLt]
 | .bl _, _ => by simp [cLt]
 | .int _, _ => by simp [cLt]
 | .str _, _ => by simp [cLt]
 | .tup ds, h => by rw [cLt] at h ⊢; exact ji h
 | .lst ds, h => by rw [cLt] at h ⊢; exact ji h
 | .ro ds, h => by rw [cLt] at h ⊢; exact ji h
 | .dic ds, h => by rw [cLt] at h ⊢; exact uO h
 | .cell n, h => by rw [cLt] at h; simp at h
theorem ji {m : Nat} : ∀ {ds : List D}, kj 0 ds = true -> kj m ds = true
 | [], _ => by rw [kj]
 | d :: ds, h => by
  rw [kj, Zo] at h ⊢
  exact ⟨rC h.1, ji h.2⟩
theorem uO {m : Nat} : ∀ {ds : List (Key × D)}, yE 0 ds = true -> yE m ds = true
 | [], _ => by rw [yE]
 | d :: ds, h => by
  rw [yE, Zo] at h ⊢
  exact ⟨rC h.1, uO h.2⟩
end
def jh (μ : Mu) : Prop := ∀ ds, some ds ∈ μ -> ∀ d ∈ ds, nc d
theorem jh.c {μ : Mu} (h : jh μ) (m : Nat) : cOk m μ = true := by
 unfold cOk
 rw [List.all_eq_true]
 intro o ho
 cases o with
 | none => rfl
 | some ds => exact ji (qN.mpr (h ds ho))
theorem jh.nil : jh [] := λ ds h => by simp at h
theorem jh.cons {ds : List D} {μ : Mu} (h1 : ∀ d ∈ ds, nc d) (h2 : jh μ) : jh (some ds :: μ) := λ es h => by
 rcases Zi.mp h with z | z
 .cases z; exact h1
 .exact h2 es z
theorem jh.dr {L : List Int} {μ : Mu} (h : jh μ) : jh (some (L.map .int) :: μ) := jh.cons wy h
theorem Dt {φ : FF} {ds : List D} {μ μ' junk : Mu} {d : D} (h : φ ds μ = some (d, μ' ++ junk)) (hl : μ'.length = μ.length) (hd : nc d) (hm : jh μ') : trunc φ ds μ = some (d, μ') := by
 unfold trunc
 rw [h]
 simp only [Option.bind_some]
 have e : (μ' ++ junk).take μ.length = μ' := by rw [<- hl]; simp
 rw [e, rC hd, hm.c]
 rfl
theorem Ly {φ : FF} {ds : List D} {μ : Mu} {P : D -> Mu -> Prop} (h : Ok (φ ds μ) (λ r => ∃ μ' junk, r.2 = μ' ++ junk /\ μ'.length = μ.length /\ jh μ' /\ nc r.1 /\ P r.1 μ')) : ∃ d μ', trunc φ ds μ = some (d, μ') /\ P d μ' := by
 obtain ⟨⟨d, μ1⟩, e, μ', junk, h1, h2, h3, h4, h5⟩ := h
 have h1 : μ1 = μ' ++ junk := h1
 subst h1
 exact ⟨d, μ', Dt e h2 h4 h3, h5⟩
def lR (φ : FF) : Prop := ∀ (L : List Int) (rest : Mu), φ [.cell 0] (some (L.map .int) :: rest) = some (.int (L.headD 0), some (L.tail.map .int) :: rest)
theorem Eo : lR (trunc (aK 1 iW)) := λ L rest => by
 have h1 : oEq (.cell 0) (.lst []) (some (L.map D.int) :: rest) = some (.bl L.isEmpty, some (L.map D.int) :: rest) := by
  unfold oEq rsv
  simp [dH, oW, gP, tL, eqD, gf]
  cases L <;> simp [je]
 refine pQ ?_ (by simp)
 unfold aK iW
 have hz : 0 <= sizeLine := Nat.zero_le _
 cases L with
 | nil =>
  simp at h1
  simp [aR, sIf, toB, M2, ao, MC, aG, oLst, hz, h1, bH, mC]
 | cons x t =>
  simp at h1
  simp [aR, sIf, toB, M2, ao, MC, aG, oLst, hz, h1, bH, mC, bF, Bj]
theorem nW {φ : FF} (h : lR φ) {L : List Int} (hL : DlD L) (rest : Mu) : ∃ x L', φ [.cell 0] (some (L.map .int) :: rest) = some (.int x, some (L'.map .int) :: rest) /\ Dr x /\ DlD L' := by
 refine ⟨L.headD 0, L.tail, h L rest, ?_, λ x hx => hL x (List.mem_of_mem_tail hx)⟩
 cases L with
 | nil => exact ⟨by decide, by decide⟩
 | cons a b => exact hL a (by simp)
theorem Jc {a : Int} {n : Nat} {d : D} (h : d ∈ cX a n) : ∃ k : Int, d = .int k /\ a <= k /\ k < a + n := by
 unfold cX at h
 obtain ⟨k, hk, rfl⟩ := Zq.mp h
 have := List.mem_range.mp hk
 exact ⟨_, rfl, by omega, by omega⟩
section
variable {α : Type} {r j : List α} {x y z : α}
@[simp] theorem Qz : (r ++ x :: j)[r.length]? = some x := by simp
@[simp] theorem Qq : (r ++ x :: j).set r.length y = r ++ y :: j := by simp [List.set_append]
@[simp] theorem QL : (r ++ x :: (j ++ [y]))[r.length + (j.length + 1)]? = some y := by
 rw [List.getElem?_append_right (by omega)]
 have : r.length + (j.length + 1) - r.length = j.length + 1 := by omega
 rw [this]
 simp
@[simp] theorem QK : (r ++ x :: (j ++ [y])).set (r.length + (j.length + 1)) z = r ++ x :: (j ++ [z]) := by
 rw [List.set_append_right _ _ (by omega)]
 have : r.length + (j.length + 1) - r.length = j.length + 1 := by omega
 rw [this]
 simp
end
theorem nT {ys : List Int} {k : Int} (h0 : 0 <= k) (h1 : k < ys.length) : atI (ys.map D.int) k = some (.int (ys.getD k.toNat 0)) /\ ys.getD k.toNat 0 ∈ ys := by
 have hk : k.toNat < ys.length := by omega
 have e : ys.getD k.toNat 0 = ys[k.toNat] := by simp [List.getD, hk]
 refine ⟨?_, by rw [e]; exact List.getElem_mem hk⟩
 unfold atI ixN
 rw [if_pos h0, if_pos (by simpa using h1), e]
 simp [hk]
theorem Li {ps : List D} {μ : Mu} (h1 : gf ps = true) (h2 : jV ps < 90) : oEq (.lst ps) (.lst []) μ = some (.bl ps.isEmpty, μ) := by
 unfold oEq
 have e1 : rsv (.lst ps) μ = .lst ps := rfl
 have e2 : rsv (.lst []) μ = .lst [] := rfl
 rw [e1, e2]
 have e3 : dH (.lst ps) = true := by rw [dH]; exact h1
 have e4 : dH (.lst []) = true := by rw [dH, gf]
 have e5 : gP (.lst ps) < 100 := by rw [gP]; omega
 have e6 : eqD (.lst ps) (.lst []) = ps.isEmpty := by cases ps <;> rw [eqD] <;> simp [je]
 rw [e3, e4, e6, if_pos ⟨rfl, e5⟩]
theorem rY {α : Type} {p q : α -> Bool} : ∀ (l : List α), (∀ x ∈ l, q x = !p x) -> (l.filter q).isEmpty = l.all p
 | [], _ => rfl
 | x :: l, h => by
  have hx := h x (by simp)
  have ih := rY l λ y hy => h y (by simp [hy])
  rw [List.filter_cons, List.all_cons]
  cases hp : p x with
  | true => rw [hp] at hx; rw [hx]; simpa using ih
  | false => rw [hp] at hx; rw [hx]; rfl
theorem vX {b : Nat} {x : Int} (n : Nat) (h : x.natAbs < n) (hn : n <= 2 ^ b) : Sm b x := Zc h hn
def aM (r : List Int) : D := .tup (r.map .int)
@[simp] theorem NB {r : List Int} {μ : Mu} : bL (aM r) μ = some (r.map .int) := rfl
@[simp] theorem Ha {r : List Int} {μ : Mu} : eU (aM r) μ = some (.int r.length, μ) := by simp [aM]
def pairD (p : Int × Int) : D := .tup [.int p.1, .int p.2]
theorem iR {α : Type} {F : α -> D} {l : List α} {k : Int} {z : α} (h0 : 0 <= k) (h1 : k < l.length) : atI (l.map F) k = some (F (l.getD k.toNat z)) /\ l.getD k.toNat z ∈ l := by
 have hk : k.toNat < l.length := by omega
 have e : l.getD k.toNat z = l[k.toNat] := by simp [List.getD, hk]
 refine ⟨?_, by rw [e]; exact List.getElem_mem hk⟩
 unfold atI ixN
 rw [if_pos h0, if_pos (by simpa using h1), e]
 simp [hk]
theorem lA {α β : Type} {F : α -> D} {G : β -> D} : ∀ (a : List α) (b : List β), iH (a.map F) (b.map G) = (a.zip b).map λ p => .tup [F p.1, G p.2]
 | [], _ => by simp [iH]
 | a :: as, [] => by simp [iH]
 | a :: as, b :: bs => by simp [iH, lA as bs]
theorem oJ {α : Type} {th : D -> fU} {F : α -> D} {g : α -> Int} {μ : Mu} : ∀ (l : List α) (a : Int), (∀ x ∈ l, th (F x) μ = some (.int (g x), μ)) -> qF a ((l.map F).map th) μ = some (a + (l.map g).sum, μ)
 | [], a, _ => by simp [qF]
 | x :: l, a, h => by
  have h1 := h x (by simp)
  have ih := oJ l (a + g x) λ y hy => h y (by simp [hy])
  rw [Zj, Zj]
  unfold qF
  rw [h1]
  simp only [Option.bind_some]
  rw [ih]
  simp
  omega
theorem cC {α : Type} {all : List D} {h : GF} {fe : EF} {δb : En} {F : α -> D} {f : α -> D} {μ : Mu} : ∀ (l : List α), (∀ x ∈ l, ∃ δ1, h (F x) δb μ = some δ1 /\ fe δ1 μ = some (f x, μ)) -> lcL ⟨all, none⟩ h aQ fe δb (l.map F) μ = some (l.map f, μ)
 | [], _ => by simp only [List.map_nil]; unfold lcL; simp [bj]
 | d :: r, hd => by
  obtain ⟨δ1, h1, h2⟩ := hd d (by simp)
  have h3 := cC (all := all) r λ x hx => hd x (by simp [hx])
  rw [Zj]
  unfold lcL
  simp [bj, h1, aQ, h2, h3]
def dot (ws cs : List Int) : Int := ((ws.zip cs).map λ p => p.1 * p.2).sum
def Es (φ : FF) : Prop := ∀ (ws cs : List Int) (μ : Mu), (∀ w ∈ ws, Sm 9000 w) -> (∀ c ∈ cs, Sm 9000 c) -> φ [.lst (ws.map .int), .lst (cs.map .int)] μ = some (.int (dot ws cs), μ)
theorem JZ : Es (trunc (aK 2 bh)) := λ ws cs μ hw hc => by
 apply bV
 have e := oJ (th := thG (mY 2 (dI (hName 0) (dI (hName 1) ni))) (M2 (ao 0) (ao 1) dg) (bQ ["one", "other"] [some (.lst (ws.map .int)), some (.lst (cs.map .int))] [])) (F := λ p : Int × Int => .tup [D.int p.1, .int p.2]) (g := λ p => p.1 * p.2) (μ := μ) (ws.zip cs) 0 λ p hp => by
  obtain ⟨p1, p2⟩ := p
  have hm := List.of_mem_zip hp
  have := cH (x := p1) (y := p2) μ (hw _ hm.1) (hc _ hm.2) (by decide)
  simp [thG, bQ, this]
 have ez := lA (F := D.int) (G := D.int) ws cs
 unfold dot
 simp [bh, ez]
 rw [List.map_map] at e
 rw [e]
 simp
def xH (r : List Int) : Int := r.getLastD 0
def col (rs : List (List Int)) (i : Nat) : List Int := rs.map λ r => r.getD i 0
theorem Nb {F : EF} {δ : En} {μ : Mu} {k : Int} (h0 : 0 <= k) (h1 : k <= 100000) (a : F δ μ = some (.int k, μ)) : bW (aq F aG) δ μ = some (⟨cX 0 k.toNat, none⟩, μ) := by
 have rr := yW (j := k) (μ := μ) (by omega) (by omega)
 rw [Ms, Eb, a]
 simp only [Option.bind_some, Jt]
 exact rr
theorem CW {F : EF} {δ : En} {μ : Mu} {r : List Int} {d1 : Nat} (hl : r.length = d1) (a : F δ μ = some (aM r, μ)) : MC (aq F aG) (bD eU) δ μ = some (.int d1, μ) := by
 rw [w_mc, Eb, a]
 simp only [Option.bind_some, Jt, NZ, Ha, hl]
def rowsOf (ps : List (List Int)) (sh : List (Int × Int)) : List (List Int) := sh.map λ x => ps.getD x.1.toNat []
def Ab (n : Nat) (sh : List (Int × Int)) : Prop := ∀ x ∈ sh, 0 <= x.1 /\ x.1 < n /\ 1 <= x.2 /\ Sm 2000 x.2
theorem su {w c : Int} {ws cs : List Int} : dot (w :: ws) (c :: cs) = w * c + dot ws cs := by unfold dot; simp
theorem Ex : ∀ (ss : List Int) (k : Nat), (∀ s ∈ ss, 1 <= s /\ Sm k s) -> (0 <= ss.sum /\ (ss ≠ [] -> 1 <= ss.sum)) /\ ss.sum.natAbs <= ss.length * 2 ^ k
 | [], k, _ => by simp
 | s :: ss, k, h => by
  obtain ⟨h1, h2⟩ := h s (by simp)
  obtain ⟨⟨i1, i2⟩, i3⟩ := Ex ss k λ x hx => h x (by simp [hx])
  rw [List.sum_cons, List.length_cons, Nat.succ_mul]
  refine ⟨⟨by omega, λ _ => by omega⟩, ?_⟩
  unfold Sm at h2
  have := Int.natAbs_add_le s ss.sum
  omega
@[simp] theorem Nt {μ : Mu} {ds : List D} : bL (.cell μ.length) (μ ++ [some ds]) = some ds := by unfold bL; simp
def fnL (d : Nat) (g : Nat -> Int) : List D := ((List.range d).map g).map D.int
theorem An {d : Nat} {g : Nat -> Int} : (fnL d g).length = d := by unfold fnL; simp
theorem Lf {d : Nat} {g : Nat -> Int} {j : Nat} (h : j < d) : atI (fnL d g) (0 + (j : Int)) = some (.int (g j)) := by
 unfold atI ixN
 rw [if_pos (by omega), if_pos (by rw [An]; omega)]
 have : (0 + (j : Int)).toNat = j := by omega
 simp only [Option.bind_some, this]
 unfold fnL
 simp [h]
def pairOf : D -> Int × Int
 | .tup [.int k, .int s] => (k, s)
 | _ => (0, 0)
def jE : D -> Bool
 | .tup [.int _, .int _] => true
 | _ => false
def bK (many : Int) (d : D) : Bool := jE d && decide (0 <= (pairOf d).1 /\ (pairOf d).1 < many /\ 1 <= (pairOf d).2)
def uc : List (Int × Int) -> Bool
 | [] => true
 | a :: l => match l with
  | [] => true
  | b :: _ => decide (a.1 < b.1) && uc l
def cB (many : Int) : D -> Bool
 | .tup ds => !ds.isEmpty && (ds.all (bK many) && uc (ds.map pairOf))
 | _ => false
theorem oG {d : D} (h : jE d = true) : d = pairD (pairOf d) := by
 unfold jE at h
 split at h
 .rfl
 .cases h
theorem xq {many : Int} : ∀ {ds : List D}, ds.all (bK many) = true -> ds = (ds.map pairOf).map pairD
 | [], _ => rfl
 | d :: ds, h => by
  rw [List.all_cons, Zo] at h
  have h1 := h.1
  unfold bK at h1
  rw [Zo] at h1
  rw [Zj, Zj, <- oG h1.1, <- xq h.2]
theorem yt {φ : FF} (hφ : DN φ) (many : Int) (d : D) (μ : Mu) (h : nc d) : trunc (aK 2 (dG φ)) [.int many, d] μ = some (.bl (bK many d), μ) := by
 apply bV
 have e1 := hφ d μ h
 cases hn : sS d with
 | false =>
  rw [hn] at e1
  have es : bK many d = false := by
   unfold bK
   cases hp : jE d with
   | false => rfl
   | true =>
    have := oG hp
    rw [this] at hn
    unfold pairD sS at hn
    simp at hn
  rw [es]
  simp [dG, e1]
 | true =>
  rw [hn] at e1
  cases d with
  | tup ds =>
   have hd := ints_of hn
   generalize ds.map intOf = ns at hd
   subst hd
   by_cases hl : ns.length = 2
   .match ns, hl with
    | [k, s], _ =>
     have at0 : atI [D.int k, D.int s] 0 = some (.int k) := rfl
     have at1 : atI [D.int k, D.int s] 1 = some (.int s) := rfl
     have es : bK many (.tup ([k, s].map D.int)) = decide (0 <= k /\ k < many /\ 1 <= s) := by
      show (true && decide (0 <= k /\ k < many /\ 1 <= s)) = _
      simp
     rw [es]
     simp only [Zj, List.map_nil] at e1 ⊢
     by_cases c1 : 0 <= k
     .by_cases c2 : k < many
      .simp [dG, e1, at0, at1, c1, c2]
      .simp [dG, e1, at0, at1, c1, c2]
     .simp [dG, e1, at0, at1, c1]
   .have es : bK many (.tup (ns.map D.int)) = false := by
     unfold bK
     cases hp : jE (.tup (ns.map D.int)) with
     | false => rfl
     | true =>
      have := oG hp
      unfold pairD at this
      injection this with this
      have := congrArg List.length this
      simp at this
      exact absurd this hl
    rw [es]
    have hlb : ((ns.length : Int) == 2) = false := by
     have : (ns.length : Int) ≠ 2 := by omega
     simpa using this
    simp [dG, e1, hlb]
  | _ => cases hn
def yh (φ : FF) : Prop := ∀ (many : Int) (d : D) (μ : Mu), nc d -> φ [.int many, d] μ = some (.bl (bK many d), μ)
theorem Bc : ∀ (l : List (Int × Int)), (l.zip (l.drop 1)).all (λ p => decide (p.1.1 < p.2.1)) = uc l
 | [] => rfl
 | [a] => rfl
 | a :: b :: l => by
  have ih := Bc (b :: l)
  simp only [List.drop_succ_cons, List.drop_zero] at ih ⊢
  rw [List.zip_cons_cons, List.all_cons, ih]
  rfl
theorem vH {φ : FF} (hφ : yh φ) (many : Int) (d : D) (μ : Mu) (h : nc d) : trunc (aK 2 (cR φ)) [.int many, d] μ = some (.bl (cB many d), μ) := by
 apply bV
 cases d with
 | cell n => simp [nc, cLt] at h
 | ro ds => simp [cR, cB, gW, Cy]
 | tup ds =>
  by_cases hne : ds = []
  .subst hne
   simp [cR, cB]
  .have hem : ds.isEmpty = false := by cases ds <;> simp_all
   have hlb : ((ds.length : Int) == 0) = false := by
    have : (ds.length : Int) ≠ 0 := by have := List.length_pos_iff.mpr hne; omega
    simpa using this
   have ea := lw (th := thG (hName 0) (MC (aq (ao 1) (aq (ao 0) aG)) φ) (bQ ["part"] [some (.int many), some (D.tup ds)] [0])) (p := bK many) (μ := μ) ds λ x hx => by
    simp [thG, bQ, hφ many x μ (lF.mp h x hx)]
   have es : cB many (.tup ds) = (ds.all (bK many) && uc (ds.map pairOf)) := by
    show (!ds.isEmpty && (ds.all (bK many) && uc (ds.map pairOf))) = _
    rw [hem]; rfl
   rw [es]
   cases ha : ds.all (bK many) with
   | false =>
    rw [ha] at ea
    simp [cR, hlb, ea]
   | true =>
    rw [ha] at ea
    have hd := xq ha
    generalize ds.map pairOf = sh at hd
    have hsl := HY (ds := ds) (i := 1) (μ := μ) (by decide) (by have := List.length_pos_iff.mpr hne; omega)
    rw [show (1 : Int).toNat = 1 from rfl] at hsl
    have ez : iH ds (ds.drop 1) = (sh.zip (sh.drop 1)).map λ p => .tup [pairD p.1, pairD p.2] := by
     rw [hd, <- List.map_drop, lA]
    have eb := lw (th := thG (mY 2 (dI (hName 0) (dI (hName 1) ni))) (M2 (M2 (ao 0) (mC (.int 0)) oIx) (M2 (ao 1) (mC (.int 0)) oIx) oLt) (bQ ["one", "other"] [some (.int many), some (D.tup ds)] [])) (p := λ d => match d with | .tup [a, b] => decide ((pairOf a).1 < (pairOf b).1) | _ => false) (μ := μ) (iH ds (ds.drop 1)) λ x hx => by
     rw [ez] at hx
     obtain ⟨⟨⟨a1, a2⟩, ⟨b1, b2⟩⟩, _, rfl⟩ := Zq.mp hx
     have at0 : ∀ u v : Int, atI [D.int u, D.int v] 0 = some (.int u) := λ _ _ => rfl
     simp [thG, bQ, pairD, at0, pairOf]
     try rfl
    have er : (iH ds (ds.drop 1)).all (λ d => match d with | .tup [a, b] => decide ((pairOf a).1 < (pairOf b).1) | _ => false) = uc sh := by
     rw [ez, List.all_map, <- Bc]
     congr 1
    rw [er] at eb
    generalize ds.drop 1 = es' at *
    simp [cR, hlb, ea, hsl, eb]
 | _ => simp [cR, cB]
def chB (b : Int) : List (Int × Int) -> Bool
 | [] => true
 | a :: l => decide (b < a.1) && chB a.1 l
theorem Dh : ∀ (l : List (Int × Int)) (a : Int × Int), chB a.1 l = uc (a :: l)
 | [], a => rfl
 | b :: l, a => by
  show (decide (a.1 < b.1) && chB b.1 l) = (decide (a.1 < b.1) && uc (b :: l))
  rw [Dh l b]
theorem zF {many : Int} {ds : List D} : cB many (.tup ds) = (!ds.isEmpty && (ds.all (bK many) && chB (-1) (ds.map pairOf))) := by
 show (!ds.isEmpty && (ds.all (bK many) && uc (ds.map pairOf))) = _
 cases ds with
 | nil => rfl
 | cons d ds =>
  cases ha : (d :: ds).all (bK many) with
  | false => rfl
  | true =>
   rw [List.all_cons, Zo] at ha
   have h1 := ha.1
   unfold bK at h1
   rw [Zo] at h1
   have h2 := of_decide_eq_true h1.2
   rw [Zj]
   show _ = (_ && (true && (decide (-1 < (pairOf d).1) && chB (pairOf d).1 (ds.map pairOf))))
   rw [Dh, decide_eq_true (by omega : -1 < (pairOf d).1)]
   rfl
def uH (φ : FF) : Prop := ∀ (many : Int) (d : D) (μ : Mu), nc d -> φ [.int many, d] μ = some (.bl (cB many d), μ)
theorem ud {φ : FF} (hφ : Ad φ) (many : Int) (d : D) (μ : Mu) (hn : nc d) : trunc (aK 4 (fM φ)) [.int many, d] μ = some (.bl (cB many d), μ) := by
 apply bV
 cases d with
 | cell n => simp [nc, cLt] at hn
 | ro ds => simp [fM, gW, Cy, cB]
 | tup ds =>
  have hnd := lF.mp hn
  have eu : xZ (.tup ds) (.tup []) μ = some (.bl ds.isEmpty, μ) := rfl
  rw [zF]
  cases hem : ds.isEmpty with
  | true =>
   rw [hem] at eu
   simp [fM, eu]
  | false =>
   rw [hem] at eu
   simp [fM, eu]
   refine lW (λ its δ μ' => ∃ (b : Int) (o : Option D), μ' = μ /\ -1 <= b /\ (∀ x ∈ its, nc x) /\ (ds.all (bK many) && chB (-1) (ds.map pairOf)) = (its.all (bK many) && chB b (its.map pairOf)) /\ δ = [some (.int many), some (.tup ds), some (.int b), o]) ?_ ?_ _ _ _ ⟨-1, none, rfl, by decide, hnd, rfl, rfl⟩
   .rintro x rest δ μ' ⟨b, o, rfl, hb1, hx, hv, rfl⟩
    have hxn := hx x (by simp)
    have bad : bK many x = false -> (ds.all (bK many) && chB (-1) (ds.map pairOf)) = false := λ z => by
     rw [hv, List.all_cons, z]; rfl
    cases hp : jE x with
    | false =>
     have hs : bK many x = false := by unfold bK; rw [hp]; rfl
     have hbad := bad hs
     generalize (ds.all (bK many) && chB (-1) (ds.map pairOf)) = VV at *
     subst hbad
     cases x with
     | tup es =>
      by_cases hl : es.length = 2
      .match es, hl with
       | [u, v], _ =>
        have nu : nc u := lF.mp hxn u (by simp)
        have nv : nc v := lF.mp hxn v (by simp)
        have at0 : atI [u, v] 0 = some u := rfl
        have at1 : atI [u, v] 1 = some v := rfl
        have eu := hφ u μ' nu
        have ev := hφ v μ' nv
        cases hu : isInt u with
        | false => rw [hu] at eu; simp [at0, eu]
        | true =>
         rw [hu] at eu
         cases hvv : isInt v with
         | false => rw [hvv] at ev; simp [at0, at1, eu, ev]
         | true =>
          cases u <;> simp [isInt] at hu
          cases v <;> simp [isInt] at hvv
          simp [jE] at hp
      .have hlb : ((es.length : Int) == 2) = false := by
        have : (es.length : Int) ≠ 2 := by omega
        simpa using this
       simp [hlb]
     | cell n => simp [nc, cLt] at hxn
     | ro es => simp [gW, Cy]
     | _ => simp
    | true =>
     have hxe := oG hp
     generalize hpo : pairOf x = p at hxe
     obtain ⟨k, s⟩ := p
     have at0 : atI [D.int k, D.int s] 0 = some (.int k) := rfl
     have at1 : atI [D.int k, D.int s] 1 = some (.int s) := rfl
     have ek : φ [.int k] μ' = some (.bl true, μ') := hφ (.int k) μ' zJ
     have es : φ [.int s] μ' = some (.bl true, μ') := hφ (.int s) μ' zJ
     have hsh : bK many x = decide (0 <= k /\ k < many /\ 1 <= s) := by unfold bK; rw [hp, hpo]; rfl
     rw [List.all_cons, Zj, hpo, hsh] at hv
     have hch : chB b ((k, s) :: rest.map pairOf) = (decide (b < k) && chB k (rest.map pairOf)) := rfl
     rw [hch] at hv
     generalize (ds.all (bK many) && chB (-1) (ds.map pairOf)) = VV at *
     have hxe : x = .tup [.int k, .int s] := hxe
     subst hxe
     by_cases c1 : k <= b
     .have : ¬ b < k := by omega
      simp only [this, decide_false, Bool.false_and, Bool.and_false] at hv
      subst hv
      simp [at0, at1, ek, es, c1]
     .by_cases c2 : many <= k
      .have : ¬ (0 <= k /\ k < many /\ 1 <= s) := by omega
       simp only [this, decide_false, Bool.false_and] at hv
       subst hv
       simp [at0, at1, ek, es, c1, c2]
      .by_cases c3 : s < 1
       .have : ¬ (0 <= k /\ k < many /\ 1 <= s) := by omega
        simp only [this, decide_false, Bool.false_and] at hv
        subst hv
        simp [at0, at1, ek, es, c1, c2, c3]
       .simp [at0, at1, ek, es, c1, c2, c3]
        have t1 : 0 <= k /\ k < many /\ 1 <= s := by omega
        have t2 : b < k := by omega
        rw [decide_eq_true t1, decide_eq_true t2] at hv
        exact ⟨k, by omega, λ y hy => hx y (List.mem_cons_of_mem _ hy), by simpa using hv, rfl⟩
   .rintro δ μ' ⟨b, o, rfl, hb1, hx, hv, rfl⟩
    have hv : (ds.all (bK many) && chB (-1) (ds.map pairOf)) = true := hv
    rw [hv]
    simp
 | _ => simp [fM, cB]
theorem sum_ints (μ : Mu) : ∀ (ns : List Int) (a : Int), qF a ((ns.map D.int).map thE) μ = some (a + ns.sum, μ)
 | [], a => by simp [qF]
 | n :: ns, a => by
  have ih := sum_ints μ ns (a + n)
  rw [Zj, Zj]
  unfold qF
  show qF (a + n) ((ns.map D.int).map thE) μ = _
  rw [ih, List.sum_cons, Int.add_assoc]
def aY (r : List Int) : D := .lst (r.map .int)
theorem szl {n : Nat} (h : n <= 1000) : n <= sizeLine := Zl h (by decide)
theorem sG {α : Type} {c : Nat} {all : List D} {h : GF} {fe : EF} {δb : En} {F : α -> D} {f : α -> D} {μ : Mu} (hc : μ[c]? = some (some all)) : ∀ (l : List α), (∀ x ∈ l, ∃ δ1, h (F x) δb μ = some δ1 /\ fe δ1 μ = some (f x, μ)) -> lcL ⟨all, some c⟩ h aQ fe δb (l.map F) μ = some (l.map f, μ)
 | [], _ => by
  have ok : Src.ok ⟨all, some c⟩ μ := λ n e => by cases e; exact hc
  simp only [List.map_nil]; unfold lcL; simp [ok]
 | d :: r, hd => by
  have ok : Src.ok ⟨all, some c⟩ μ := λ n e => by cases e; exact hc
  obtain ⟨δ1, h1, h2⟩ := hd d (by simp)
  have h3 := sG hc r λ x hx => hd x (by simp [hx])
  rw [Zj]
  unfold lcL
  simp [ok, h1, aQ, h2, h3]
theorem Do {φ : FF} (hφ : jw φ) (c : Int) (c0 : 0 <= c) (c1 : c < 100) (x : Int) (all : List D) (μ : Mu) : ∀ (its : List D), (∀ i ∈ its, ∃ k : Int, i = .int k /\ 0 <= k /\ k < 100) -> ∃ zs : List Int,
  lcL ⟨all, none⟩ (hName 0) aQ (MC (aq (ao 1) (aq (M2 (ao 0) (mC (.int c)) bT) (aG))) φ) [none, some (.int x)] its μ = some (zs.map .int, μ) /\ zs.length = its.length /\ ∀ z ∈ zs, Dr z
 | [], _ => ⟨[], by unfold lcL; simp [bj], rfl, by simp⟩
 | i :: its, hi => by
  obtain ⟨k, rfl, k0, k1⟩ := hi i (by simp)
  obtain ⟨r, er, hr⟩ := hφ x (k + c) μ (by omega) (by omega)
  obtain ⟨zs, e, hl, hz⟩ := Do hφ c c0 c1 x all μ its λ j hj => hi j (by simp [hj])
  refine ⟨r :: zs, ?_, by simp [hl], λ z hz' => ?_⟩
  .unfold lcL
   simp [bj, aQ, er, e]
  .rcases Zi.mp hz' with h | h
   .rw [h]; exact hr
   .exact hz z h
theorem Gk (m s : Int) (hm : m ≠ 0) (all : List D) (μ : Mu) (zs : List Int) : lcL ⟨all, none⟩ (hName 0) aQ (M2 (M2 (ao 0) (mC (.int m)) oMod) (mC (.int s)) gG) [none] (zs.map .int) μ = some ((zs.map λ z => z.fmod m - s).map .int, μ) := by
 have e := cC (all := all) (h := hName 0) (fe := M2 (M2 (ao 0) (mC (.int m)) oMod) (mC (.int s)) gG) (δb := [none]) (F := D.int) (f := λ z => .int (z.fmod m - s)) (μ := μ) zs λ z _ => ⟨[some (.int z)], by simp, by simp [hm]⟩
 rw [e, List.map_map]
 rfl
def isArrow (φ : FF) : Prop := ∀ (x n k : Int) (μ : Mu), 1 <= n -> n <= 20 -> 0 <= k -> k <= 4 -> ∃ r : List Int, φ [.int x, .int n, .int k] μ = some (aY r, μ) /\ r.length = n.toNat /\ ∀ z ∈ r, z.natAbs <= 1000000
theorem yK {zs : List Int} {m s B : Int} (hm : 0 < m) (h1 : -B <= -s) (h2 : m - 1 - s <= B) (hB : B <= 1000000) : ∀ z ∈ zs.map (λ z => z.fmod m - s), z.natAbs <= 1000000 := λ z hz => by
 obtain ⟨y, _, rfl⟩ := Zq.mp hz
 obtain ⟨a, b⟩ := bO (x := y) hm
 omega
theorem Dn {φ : FF} (hφ : jw φ) : isArrow (trunc (aK 4 (fP φ))) := λ x n k μ n1 n2 k0 k4 => by
 obtain ⟨zs, e1, hl, hz⟩ := Do hφ 5 (by decide) (by decide) x (cX 0 n.toNat) μ (cX 0 n.toNat) (λ i hi => by
  obtain ⟨j, rfl, j0, j1⟩ := Jc hi
  exact ⟨j, rfl, by omega, by omega⟩)
 rw [dM] at hl
 have rn := yW (j := n) (μ := μ) (by omega) (by omega)
 have zn : n.toNat <= 1000 := by omega
 have zz : (zs.map D.int).length <= 1000 := by simp; omega
 have ms := λ m s hm => Gk m s hm (zs.map .int) μ zs
 have hk : k = 0 ∨ k = 1 ∨ k = 2 ∨ k = 3 ∨ k = 4 := by omega
 rcases hk with rfl | rfl | rfl | rfl | rfl
 .refine ⟨zs.map λ z => z.fmod 7 - 3, bV ?_, by simp [hl], yK (B := 10) (by decide) (by decide) (by decide) (by decide)⟩
  have e2 := ms 7 3 (by decide)
  unfold aY
  generalize (zs.map λ z => z.fmod 7 - 3).map D.int = W at *
  generalize zs.map D.int = Z at *
  simp [fP, rn, dM, zn, bQ, e1, zz, e2]
 .refine ⟨zs.map λ z => z.fmod 41 - 20, bV ?_, by simp [hl], yK (B := 40) (by decide) (by decide) (by decide) (by decide)⟩
  have e2 := ms 41 20 (by decide)
  unfold aY
  generalize (zs.map λ z => z.fmod 41 - 20).map D.int = W at *
  generalize zs.map D.int = Z at *
  simp [fP, rn, dM, zn, bQ, e1, zz, e2]
 .refine ⟨zs.map λ z => z.fmod 2000001 - 1000000, bV ?_, by simp [hl], yK (B := 1000000) (by decide) (by decide) (by decide) (by decide)⟩
  have e2 := ms 2000001 1000000 (by decide)
  unfold aY
  generalize (zs.map λ z => z.fmod 2000001 - 1000000).map D.int = W at *
  generalize zs.map D.int = Z at *
  simp [fP, rn, dM, zn, bQ, e1, zz, e2]
 .cases zs with
  | nil => simp at hl; omega
  | cons z0 zs =>
   obtain ⟨a0, a1⟩ := bO (x := z0) (m := 9) (by decide)
   refine ⟨(1 + z0.fmod 9) :: zs.map λ z => z.fmod 11 - 5, bV ?_, by simpa using hl, λ z hz' => ?_⟩
   .have e2 := Gk 11 5 (by decide) (zs.map .int) μ zs
    have z2 : (zs.map D.int).length <= 1000 := by simp at hl ⊢; omega
    have z3 : (zs.map λ z => z.fmod 11 - 5).length + 1 <= sizeLine := szl (by simp at hl ⊢; omega)
    have at0 : atI ((z0 :: zs).map D.int) 0 = some (.int z0) := by unfold atI ixN; simp
    have sl : oSl (.lst ((z0 :: zs).map D.int)) (some 1) none μ = some (.lst (zs.map D.int), μ) := yC (ds := (z0 :: zs).map D.int) (i := 1) (μ := μ) (by decide)
    have ad : bT (.lst [.int (1 + z0.fmod 9)]) (.lst ((zs.map λ z => z.fmod 11 - 5).map D.int)) μ = some (aY ((1 + z0.fmod 9) :: zs.map λ z => z.fmod 11 - 5), μ) := if_pos (szl (by simp at hl ⊢; omega))
    generalize aY ((1 + z0.fmod 9) :: zs.map λ z => z.fmod 11 - 5) = R at *
    generalize (zs.map λ z => z.fmod 11 - 5).map D.int = W at *
    generalize (z0 :: zs).map D.int = Z at *
    generalize zs.map D.int = Z' at *
    simp [fP, rn, dM, zn, bQ, e1, at0, sl, z2, e2, ad]
   .rcases Zi.mp hz' with h | h
    .rw [h]; omega
    .exact yK (B := 20) (by decide) (by decide) (by decide) (by decide) z h
 .cases zs with
  | nil => simp at hl; omega
  | cons z0 zs =>
   obtain ⟨a0, a1⟩ := bO (x := z0.fdiv 9) (m := 2) (by decide)
   obtain ⟨b0, b1⟩ := bO (x := z0) (m := 5) (by decide)
   have hmul : 0 <= (z0.fdiv 9).fmod 2 * z0.fmod 5 /\ (z0.fdiv 9).fmod 2 * z0.fmod 5 <= 4 := by
    have : (z0.fdiv 9).fmod 2 = 0 ∨ (z0.fdiv 9).fmod 2 = 1 := by omega
    rcases this with h | h <;> rw [h] <;> omega
   have em := cH (x := (z0.fdiv 9).fmod 2) (y := z0.fmod 5) μ (vX (b := 4) 5 (by omega) (by decide)) (vX (b := 4) 5 (by omega) (by decide)) (by decide)
   have ed := uC (i := z0) (j := 9) (μ := μ) (by decide) (by decide)
   refine ⟨(3 + (z0.fdiv 9).fmod 2 * z0.fmod 5) :: zs.map λ z => z.fmod 9 - 4, bV ?_, by simpa using hl, λ z hz' => ?_⟩
   .have e2 := Gk 9 4 (by decide) (zs.map .int) μ zs
    have z2 : (zs.map D.int).length <= 1000 := by simp at hl ⊢; omega
    have at0 : atI ((z0 :: zs).map D.int) 0 = some (.int z0) := by unfold atI ixN; simp
    have sl : oSl (.lst ((z0 :: zs).map D.int)) (some 1) none μ = some (.lst (zs.map D.int), μ) := yC (ds := (z0 :: zs).map D.int) (i := 1) (μ := μ) (by decide)
    have ad : bT (.lst [.int (3 + (z0.fdiv 9).fmod 2 * z0.fmod 5)]) (.lst ((zs.map λ z => z.fmod 9 - 4).map D.int)) μ = some (aY ((3 + (z0.fdiv 9).fmod 2 * z0.fmod 5) :: zs.map λ z => z.fmod 9 - 4), μ) := if_pos (szl (by simp at hl ⊢; omega))
    generalize aY ((3 + (z0.fdiv 9).fmod 2 * z0.fmod 5) :: zs.map λ z => z.fmod 9 - 4) = R at *
    generalize (zs.map λ z => z.fmod 9 - 4).map D.int = W at *
    generalize (z0 :: zs).map D.int = Z at *
    generalize zs.map D.int = Z' at *
    simp [fP, rn, dM, zn, bQ, e1, at0, sl, z2, e2, ed, em, ad]
   .rcases Zi.mp hz' with h | h
    .rw [h]; omega
    .exact yK (B := 20) (by decide) (by decide) (by decide) (by decide) z h
theorem Bb {φ : FF} (hφ : jw φ) (x : Int) (all : List D) (μ : Mu) : ∀ (js : List Nat), (∀ j ∈ js, j < 100) -> ∃ kss : List (List Int),
  lcL ⟨all, none⟩ (hName 0) aQ (MC (aq (MC (aq (ao 1) (aq (M2 (ao 0) (mC (.int 9)) bT) (aG))) φ) (aq (ao 0) (aG))) oTup) [none, some (.int x)] (js.map λ (j : Nat) => D.int (0 + (j : Int))) μ = some (kss.map aM, μ) /\ kss.length = js.length /\ ∀ i, i < js.length -> ∃ r, kss.getD i [] = [r, (js.getD i 0 : Int)] /\ Dr r
 | [], _ => ⟨[], by unfold lcL; simp [bj], rfl, λ i hi => absurd hi (by simp)⟩
 | j :: js, hj => by
  have j1 := hj j (by simp)
  obtain ⟨r, er, hr⟩ := hφ x ((j : Int) + 9) μ (by omega) (by omega)
  obtain ⟨kss, e, hl, hz⟩ := Bb hφ x all μ js λ i hi => hj i (by simp [hi])
  refine ⟨[r, (j : Int)] :: kss, ?_, by simp [hl], λ i hi => ?_⟩
  .have e0 : (0 : Int) + (j : Int) = j := by omega
   rw [Zj, e0]
   generalize (js.map λ (j : Nat) => D.int (0 + (j : Int))) = JS at *
   generalize (j : Int) = jj at *
   unfold lcL
   simp [bj, aQ, er, e, aM]
  .cases i with
   | zero => exact ⟨r, rfl, hr⟩
   | succ i => exact hz i (by simpa using hi)
def zb (φ : FF) : Prop := ∀ (x n : Int) (rows : List (List Int)) (b : Nat) (μ : Mu), 1 <= n -> n <= 20 -> rows.length <= 100 -> b <= 1000 -> (∀ r ∈ rows, r.length = n.toNat /\ ∀ z ∈ r, Sm b z) ->
 ∃ rs : List (List Int), φ [.int x, .lst (rows.map aY), .int n] μ = some (.lst (rs.map aM), μ) /\ rs.length = rows.length /\ ∀ r ∈ rs, r.length = n.toNat /\ ∀ z ∈ r, Sm (b + 2) z
theorem za {kss : List (List Int)} {n : Nat} (hl : kss.length = n) (h1 : 1 <= n) (h64 : n < 64) (hk : ∀ i, i < n -> ∃ r, kss.getD i [] = [r, (i : Int)] /\ Dr r) : ∃ oss : List (List Int), qp (kss.map aM) = some (oss.map aM) /\ oss.length = n /\ ∀ o ∈ oss, ∃ (r : Int) (k : Nat), o = [r, (k : Int)] /\ k < n /\ Dr r := by
 have hlen : (kss.map aM).length = n := by simp [hl]
 have hI : mD (kss.map aM) = none := by
  cases kss with
  | nil => simp at hl; omega
  | cons a b => rfl
 have hR : sX (kss.map aM) = some kss := yq kss
 have hln : ∀ ks ∈ kss, ks.length = 2 := λ ks h => by
  obtain ⟨i, hi, e⟩ := List.getElem_of_mem h
  obtain ⟨r, e2, _⟩ := hk i (by omega)
  have : kss.getD i [] = ks := by rw [<- e]; simp [List.getD, hi]
  rw [<- this, e2]; rfl
 have hE : Fw kss = true := by
  unfold Fw
  rw [List.all_eq_true]
  intro ks h
  have h2 := hln ks h
  cases kss with
  | nil => cases h
  | cons a b =>
   have := hln a (by simp)
   simp [h2, this]
 refine ⟨(iI (λ i j => HT.lexLt (kss.getD i []) (kss.getD j [])) n).map λ i => kss.getD i [], ?_, by rw [Zu, gH], λ o ho => ?_⟩
 .unfold qp
  rw [if_pos (by omega), hI, hR]
  simp only [hE, if_true, hlen]
  congr 1
  rw [List.map_map]
  apply List.map_congr_left
  intro i hi
  have hin : i < n := List.mem_range.mp ((jm _ n).mem_iff.mp hi)
  simp [List.getD, hl, hin]
 .obtain ⟨i, hi, rfl⟩ := Zq.mp ho
  have hin : i < n := List.mem_range.mp ((jm _ n).mem_iff.mp hi)
  obtain ⟨r, e, hr⟩ := hk i hin
  exact ⟨r, i, e, hin, hr⟩
def lz (o : List Int) : Int := 1 - 2 * ((o.getD 0 0).fdiv 3).fmod 2
def lE (n : Nat) (sg : List Int) (oss : List (List Int)) (r : List Int) : List Int := (List.range n).map λ k => sg.getD k 0 * r.getD ((oss.getD k []).getD 1 0).toNat 0
theorem Jr {φ : FF} (hφ : jw φ) : zb (trunc (aK 5 (dR φ))) := λ x n rows b μ n1 n2 hrl hb hr => by
 obtain ⟨kss, e1, hkl, hkk⟩ := Bb hφ x (cX 0 n.toNat) μ (List.range n.toNat) (λ j hj => by have := List.mem_range.mp hj; omega)
 have e1 : lcL ⟨cX 0 n.toNat, none⟩ (hName 0) aQ (MC (aq (MC (aq (ao 1) (aq (M2 (ao 0) (mC (.int 9)) bT) (aG))) φ) (aq (ao 0) (aG))) oTup) [none, some (.int x)] (cX 0 n.toNat) μ = some (kss.map aM, μ) := e1
 rw [List.length_range] at hkl hkk
 obtain ⟨oss, e2, hol, ho⟩ := za (n := n.toNat) hkl (by omega) (by omega) (λ i hi => by
  obtain ⟨r, e, h⟩ := hkk i hi
  refine ⟨r, ?_, h⟩
  rw [e]
  simp [List.getD, hi])
 have rn := λ μ => yW (j := n) (μ := μ) (by omega) (by omega)
 have zn : n.toNat <= 1000 := by omega
 have zo : (oss.map aM).length <= 1000 := by simp; omega
 have e3 := cC (all := oss.map aM) (h := hName 0) (fe := M2 (mC (.int 1)) (M2 (mC (.int 2)) (M2 (M2 (M2 (ao 0) (mC (.int 0)) oIx) (mC (.int 3)) oDiv) (mC (.int 2)) oMod) dg) gG) (δb := [none]) (F := aM) (f := λ o => .int (lz o)) (μ := μ) oss λ o h => by
  obtain ⟨r, k, rfl, hk, hrr⟩ := ho o h
  have at0 : atI ([r, (k : Int)].map D.int) 0 = some (.int r) := by unfold atI ixN; simp
  have ed := uC (i := r) (j := 3) (μ := μ) (by decide) (by decide)
  obtain ⟨a0, a1⟩ := bO (x := r.fdiv 3) (m := 2) (by decide)
  have em := cH (x := 2) (y := (r.fdiv 3).fmod 2) μ (vX (b := 4) 5 (by decide) (by decide)) (vX (b := 4) 5 (by omega) (by decide)) (by decide)
  refine ⟨[some (aM [r, (k : Int)])], by simp, ?_⟩
  unfold lz
  have ei : bL (aM [r, (k : Int)]) μ = some ([r, (k : Int)].map D.int) := rfl
  generalize [r, (k : Int)].map D.int = RR at *
  generalize aM [r, (k : Int)] = RD at *
  simp [ei, at0, ed, em]
 have e3' : oss.map (λ o => D.int (lz o)) = (oss.map lz).map D.int := by simp
 rw [e3'] at e3
 have hsg : ∀ k, k < n.toNat -> (oss.map lz).getD k 0 = 1 ∨ (oss.map lz).getD k 0 = -1 := λ k hk => by
  have : (oss.map lz).getD k 0 = lz (oss.getD k []) := by simp [List.getD, hol, hk]
  rw [this]
  unfold lz
  obtain ⟨a0, a1⟩ := bO (x := ((oss.getD k []).getD 0 0).fdiv 3) (m := 2) (by decide)
  omega
 have hsl : (oss.map lz).length = n.toNat := by simp [hol]
 have hoD : ∀ k, k < n.toNat -> ∃ (r : Int) (j : Nat), oss.getD k [] = [r, (j : Int)] /\ j < n.toNat := λ k hk => by
  have : oss.getD k [] = oss[k] := by simp [List.getD, hol, hk]
  obtain ⟨r, j, e, hj, _⟩ := ho oss[k] (List.getElem_mem _)
  exact ⟨r, j, by rw [this, e], hj⟩
 generalize oss.map lz = sg at *
 have e4 : ∀ r ∈ rows, lcL ⟨cX 0 n.toNat, none⟩ (hName 0) aQ (M2 (M2 (ao 1) (ao 0) oIx) (M2 (ao 2) (M2 (M2 (ao 3) (ao 0) oIx) (mC (.int 1)) oIx) oIx) dg) [none, some (.lst (sg.map .int)), some (aY r), some (.lst (oss.map aM))] (cX 0 n.toNat) μ = some ((lE n.toNat sg oss r).map .int, μ) := λ r hrm => by
  obtain ⟨hlr, hsr⟩ := hr r hrm
  have e := cC (all := cX 0 n.toNat) (h := hName 0) (fe := M2 (M2 (ao 1) (ao 0) oIx) (M2 (ao 2) (M2 (M2 (ao 3) (ao 0) oIx) (mC (.int 1)) oIx) oIx) dg) (δb := [none, some (.lst (sg.map .int)), some (aY r), some (.lst (oss.map aM))]) (F := λ k : Nat => D.int (0 + (k : Int))) (f := λ k => .int (sg.getD k 0 * r.getD ((oss.getD k []).getD 1 0).toNat 0)) (μ := μ) (List.range n.toNat) λ k hk => by
   have hk := List.mem_range.mp hk
   obtain ⟨rr, j, eo, hj⟩ := hoD k hk
   have a1 := (nT (ys := sg) (k := 0 + (k : Int)) (by omega) (by omega)).1
   have a2 := (iR (F := aM) (l := oss) (k := 0 + (k : Int)) (z := []) (by omega) (by omega)).1
   rw [show (0 + (k : Int)).toNat = k by omega] at a1 a2
   rw [eo] at a2
   have a3 : atI ([rr, (j : Int)].map D.int) 1 = some (.int j) := by unfold atI ixN; simp
   obtain ⟨a4, hm⟩ := nT (ys := r) (k := (j : Int)) (by omega) (by omega)
   rw [show ((j : Int)).toNat = j by omega] at a4 hm
   have e5 : (oss.getD k []).getD 1 0 = (j : Int) := by rw [eo]; rfl
   rw [e5, show ((j : Int)).toNat = j by omega]
   have hs1 : Sm 1 (sg.getD k 0) := by
    unfold Sm
    rcases hsg k hk with h | h <;> rw [h] <;> decide
   have em := cH (x := sg.getD k 0) (y := r.getD j 0) μ hs1 (hsr _ hm) (by omega)
   have ei : bL (aM [rr, (j : Int)]) μ = some ([rr, (j : Int)].map D.int) := rfl
   have el : bL (aY r) μ = some (r.map D.int) := rfl
   refine ⟨[some (.int (0 + (k : Int))), some (.lst (sg.map .int)), some (aY r), some (.lst (oss.map aM))], by simp, ?_⟩
   generalize (0 + (k : Int)) = kk at *
   generalize sg.getD k 0 = sk at *
   generalize r.getD j 0 = rj at *
   generalize sg.map D.int = sgD at *
   generalize aY r = rD at *
   generalize r.map D.int = rI at *
   generalize oss.map aM = oD at *
   generalize [rr, (j : Int)].map D.int = RR at *
   generalize aM [rr, (j : Int)] = RD at *
   generalize (j : Int) = jj at *
   simp [a1, a2, ei, a3, el, a4, em]
  have e' : (List.range n.toNat).map (λ k => D.int (sg.getD k 0 * r.getD ((oss.getD k []).getD 1 0).toNat 0)) = (lE n.toNat sg oss r).map .int := by unfold lE; rw [List.map_map]; rfl
  rw [e'] at e
  exact e
 have e6 := cC (all := rows.map aY) (h := hName 0) (fe := MC (aq (mFz (lLC ["_law_k"] [2, 0, 3] (bW (aq (ao 1) (aG))) (hName 0) (aQ) (M2 (M2 (ao 1) (ao 0) oIx) (M2 (ao 2) (M2 (M2 (ao 3) (ao 0) oIx) (mC (.int 1)) oIx) oIx) dg))) (aG)) jb) (δb := [none, some (.int n), some (.lst (sg.map .int)), some (.lst (oss.map aM))]) (F := aY) (f := λ r => aM (lE n.toNat sg oss r)) (μ := μ) rows λ r hrm => by
  have e := e4 r hrm
  refine ⟨[some (aY r), some (.int n), some (.lst (sg.map .int)), some (.lst (oss.map aM))], by simp, ?_⟩
  unfold aM at e ⊢
  generalize (lE n.toNat sg oss r).map D.int = TV at *
  generalize sg.map D.int = sgD at *
  generalize aY r = rD at *
  generalize oss.map (λ r => D.tup (r.map .int)) = oD at *
  simp [rn, dM, zn, bQ, e]
 have e6' : rows.map (λ r => aM (lE n.toNat sg oss r)) = (rows.map (lE n.toNat sg oss)).map aM := by simp
 rw [e6'] at e6
 refine ⟨rows.map (lE n.toNat sg oss), bV ?_, by simp, λ r h => ?_⟩
 .have zr : (rows.map aY).length <= 1000 := by simp; omega
  generalize (rows.map (lE n.toNat sg oss)).map aM = RES at *
  generalize kss.map aM = KD at *
  generalize oss.map aM = OD at *
  generalize sg.map D.int = sgD at *
  generalize rows.map aY = RW at *
  simp [dR, rn, dM, zn, bQ, e1, e2, zo, e3, zr, e6]
 .obtain ⟨r0, hr0, rfl⟩ := Zq.mp h
  obtain ⟨hl0, hs0⟩ := hr r0 hr0
  refine ⟨by unfold lE; simp, λ z hz => ?_⟩
  unfold lE at hz
  obtain ⟨k, hk, rfl⟩ := Zq.mp hz
  have hk := List.mem_range.mp hk
  obtain ⟨rr, j, eo, hj⟩ := hoD k hk
  have e5 : (oss.getD k []).getD 1 0 = (j : Int) := by rw [eo]; rfl
  rw [e5, show ((j : Int)).toNat = j by omega]
  have hm : r0.getD j 0 ∈ r0 := by
   have : r0.getD j 0 = r0[j] := by simp [List.getD, hl0, hj]
   rw [this]; exact List.getElem_mem _
  have hs1 : Sm 1 (sg.getD k 0) := by
   unfold Sm
   rcases hsg k hk with h | h <;> rw [h] <;> decide
  exact bY (wk hs1 (hs0 _ hm)) (by omega)
def gM (n : Int) (b : Nat) (rows : List (List Int)) : Prop := ∀ r ∈ rows, r.length = n.toNat /\ ∀ z ∈ r, Sm b z
theorem Fp {φ1 φ2 : FF} (h1 : lR φ1) (h2 : isArrow φ2) (n kd : Int) (n1 : 1 <= n) (n2 : n <= 20) (all : List D) (rest : Mu) : ∀ (its : List D) (L : List Int), DlD L -> ∃ (rows : List (List Int)) (L' : List Int),
  lcL ⟨all, none⟩ (hName 0) aQ (MC (aq (MC (aq (ao 1) (aG)) φ1) (aq (ao 2) (aq (M2 (ao 3) (mC (.int 5)) oMod) (aG)))) φ2) [none, some (.cell 0), some (.int n), some (.int kd)] its (some (L.map .int) :: rest) = some (rows.map aY, some (L'.map .int) :: rest) /\ DlD L' /\ rows.length = its.length /\ gM n 20 rows
 | [], L, hL => ⟨[], L, by unfold lcL; simp [bj], hL, rfl, λ r h => by cases h⟩
 | i :: its, L, hL => by
  obtain ⟨x, L1, e1, hx, hL1⟩ := nW h1 hL rest
  obtain ⟨a0, a1⟩ := bO (x := kd) (m := 5) (by decide)
  obtain ⟨r, e2, hr1, hr2⟩ := h2 x n (kd.fmod 5) (some (L1.map .int) :: rest) n1 n2 a0 (by omega)
  obtain ⟨rows, L', e, hL', hl, hq⟩ := Fp h1 h2 n kd n1 n2 all rest its L1 hL1
  refine ⟨r :: rows, L', ?_, hL', by simp [hl], λ q hq' => ?_⟩
  .unfold lcL
   simp [bj, aQ, e1, e2, e]
  .rcases Zi.mp hq' with z | z
   .rw [z]; exact ⟨hr1, λ y hy => vX 1000001 (by have := hr2 y hy; omega) (by decide)⟩
   .exact hq q z
theorem MJ {c : Nat} {ds : List D} {i : Int} {μ : Mu} (hc : μ[c]? = some (some ds)) (h0 : 0 <= i) : oSl (.cell c) none (some i) μ = some (.lst (ds.take i.toNat), μ) := by
 have := Dw (ds := ds) (i := i) (μ := μ) h0
 unfold oSl at this ⊢
 simp only [hc]
 exact this
theorem lq {φ3 : FF} (h3 : zb φ3) (q n : Int) (RR : List (List Int)) (L2 : List Int) (μ : Mu) (n1 : 1 <= n) (n2 : n <= 20) (hne : RR ≠ []) (hl : RR.length <= 40) (hR : gM n 30 RR) : ∃ rs : List (List Int), φ3 [.int q, .lst (RR.map aY), .int n] μ = some (.lst (rs.map aM), μ) /\ rs ≠ [] /\ rs.length <= 40 /\ gM n 40 rs := by
 obtain ⟨rs, e, hl', hs⟩ := h3 q n RR 30 μ n1 n2 (by omega) (by decide) hR
 refine ⟨rs, e, ?_, by omega, λ r h => ⟨(hs r h).1, λ z hz => bY ((hs r h).2 z hz) (by decide)⟩⟩
 intro z
 rw [z] at hl'
 cases RR with
 | nil => exact hne rfl
 | cons a b => cases hl'
theorem Nm (all : List D) (μ : Mu) (rows : List (List Int)) (hr : ∀ r ∈ rows, r.length <= 1000) : lcL ⟨all, none⟩ (hName 0) aQ (mFz (lLC ["_law_one"] [] (cj (ao 0)) (hName 0) (aQ) (M2 (mC (.int 0)) (ao 0) gG))) [none] (rows.map aY) μ = some ((rows.map λ r => r.map λ z => 0 - z).map aY, μ) := by
 have e := cC (all := all) (h := hName 0) (fe := mFz (lLC ["_law_one"] [] (cj (ao 0)) (hName 0) (aQ) (M2 (mC (.int 0)) (ao 0) gG))) (δb := [none]) (F := aY) (f := λ r => aY (r.map λ z => 0 - z)) (μ := μ) rows λ r hrm => by
  refine ⟨[some (aY r)], by simp, ?_⟩
  have e2 := cC (all := r.map D.int) (h := hName 0) (fe := M2 (mC (.int 0)) (ao 0) gG) (δb := [none]) (F := D.int) (f := λ z => .int (0 - z)) (μ := μ) r λ z _ => ⟨[some (.int z)], by simp, by simp only [Qc, w_c, Kv, Option.bind_some, Dl]⟩
  have e3 : r.map (λ z => D.int (0 - z)) = (r.map λ z => 0 - z).map D.int := by simp
  rw [e3] at e2
  have hz : (r.map D.int).length <= 1000 := by rw [Zu]; exact hr r hrm
  unfold aY
  generalize (r.map λ z => 0 - z).map D.int = W at *
  generalize r.map D.int = Z at *
  simp [hz, bQ, e2]
 rw [e, List.map_map]
 rfl
theorem Em {b : Nat} {z : Int} (h : Sm b z) : Sm b (0 - z) := by unfold Sm at *; omega
theorem wg {b : Nat} : ∀ (l : List Int), (∀ z ∈ l, Sm b z) -> l.sum.natAbs <= l.length * 2 ^ b
 | [], _ => by simp
 | z :: l, h => by
  have ih := wg l λ y hy => h y (by simp [hy])
  have hz : z.natAbs < 2 ^ b := h z (by simp)
  rw [List.sum_cons, List.length_cons, Nat.succ_mul]
  have := Int.natAbs_add_le z l.sum
  omega
def jJ (n : Nat) (rows : List (List Int)) : List Int := (List.range n).map λ k => 0 - (rows.map λ r => r.getD k 0).sum
theorem Mr {c : Nat} (n : Nat) (all : List D) (μ : Mu) (rows : List (List Int)) (hc : μ[c]? = some (some (rows.map aY))) (hl : rows.length <= 1000) (hr : ∀ r ∈ rows, r.length = n) :
  lcL ⟨all, none⟩ (hName 0) aQ (M2 (mC (.int 0)) (uf (nO (mFz (lLC ["_law_row"] [0] (cj (ao 1)) (hName 0) (aQ) (M2 (ao 0) (ao 1) oIx))))) gG) [none, some (.cell c)] (cX 0 n) μ = some ((jJ n rows).map .int, μ) := by
 have e := cC (all := all) (h := hName 0) (fe := M2 (mC (.int 0)) (uf (nO (mFz (lLC ["_law_row"] [0] (cj (ao 1)) (hName 0) (aQ) (M2 (ao 0) (ao 1) oIx))))) gG) (δb := [none, some (.cell c)]) (F := λ k : Nat => D.int (0 + (k : Int))) (f := λ k => .int (0 - (rows.map λ r => r.getD k 0).sum)) (μ := μ) (List.range n) λ k hk => by
  have hk := List.mem_range.mp hk
  refine ⟨[some (.int (0 + (k : Int))), some (.cell c)], by simp, ?_⟩
  have e2 := sG (h := hName 0) (fe := M2 (ao 0) (ao 1) oIx) (δb := [none, some (.int (0 + (k : Int)))]) (F := aY) (f := λ r => .int (r.getD k 0)) hc rows λ r hrm => by
   have a1 := (nT (ys := r) (k := 0 + (k : Int)) (by omega) (by rw [hr r hrm]; omega)).1
   rw [show (0 + (k : Int)).toNat = k by omega] at a1
   have el : bL (aY r) μ = some (r.map D.int) := rfl
   refine ⟨[some (aY r), some (.int (0 + (k : Int)))], by simp, ?_⟩
   generalize (0 + (k : Int)) = kk at *
   generalize r.map D.int = rI at *
   generalize aY r = rD at *
   simp [el, a1]
  have e3 : rows.map (λ r => D.int (r.getD k 0)) = (rows.map λ r => r.getD k 0).map D.int := by simp
  rw [e3] at e2
  have es := sum_ints μ (rows.map λ r => r.getD k 0) 0
  rw [Int.zero_add] at es
  have esrc : srcOf (.cell c) μ = some ⟨rows.map aY, some c⟩ := by show (match μ[c]? with | some (some ds) => some (⟨ds, some c⟩ : Src) | _ => none) = _; rw [hc]
  have hz : (rows.map aY).length <= 1000 := by rw [Zu]; exact hl
  generalize (rows.map λ r => r.getD k 0).sum = S at *
  generalize (rows.map λ r => r.getD k 0).map D.int = W at *
  generalize rows.map aY = RD at *
  generalize (0 + (k : Int)) = kk at *
  have efz : dN (.lst W) = some W := rfl
  have a0 : gG (.int 0) (.int S) μ = some (.int (0 - S), μ) := Dl
  generalize (0 - S) = S' at *
  simp [esrc, hz, bQ, e2, es, a0, -Dl]
 have e' : (List.range n).map (λ k => D.int (0 - (rows.map λ r => r.getD k 0).sum)) = (jJ n rows).map .int := by unfold jJ; rw [List.map_map]; rfl
 rw [e'] at e
 exact e
theorem GQ {c : Nat} (r0 : List Int) (μ : Mu) (rows : List (List Int)) (hc : μ[c]? = some (some ((r0 :: rows).map aY))) : lcL ⟨(r0 :: rows).map aY, some c⟩ (hName 0) aQ (M2 (ao 1) (mC (.int 0)) oIx) [none, some (.cell c)] ((r0 :: rows).map aY) μ = some (((r0 :: rows).map λ _ => r0).map aY, μ) := by
 have e := sG (h := hName 0) (fe := M2 (ao 1) (mC (.int 0)) oIx) (δb := [none, some (.cell c)]) (F := aY) (f := λ _ => aY r0) hc (r0 :: rows) λ r _ => by
  have ei : bL (.cell c) μ = some ((r0 :: rows).map aY) := by show (match μ[c]? with | some (some ds) => some ds | _ => none) = _; rw [hc]
  have a0 : atI ((r0 :: rows).map aY) 0 = some (aY r0) := by unfold atI ixN; simp
  refine ⟨[some (aY r), some (.cell c)], by simp, ?_⟩
  generalize (r0 :: rows).map aY = RD at *
  generalize aY r = rD at *
  simp [ei, a0]
 rw [e, List.map_map]
 rfl
def gq (j : Nat) (r : List Int) : List Int := r.map λ z => ((0 + (j : Int)).fmod 5 + 1) * z
theorem Ni {c : Nat} (m : Nat) (r0 : List Int) (all : List D) (μ : Mu) (rows : List (List Int)) (hc : μ[c]? = some (some ((r0 :: rows).map aY))) (hl : r0.length <= 1000) (hs : ∀ z ∈ r0, Sm 20 z) :
  lcL ⟨all, none⟩ (hName 0) aQ (mFz (lLC ["_law_one"] [0] (cj (M2 (ao 1) (mC (.int 0)) oIx)) (hName 0) (aQ) (M2 (M2 (M2 (ao 1) (mC (.int 5)) oMod) (mC (.int 1)) bT) (ao 0) dg))) [none, some (.cell c)] (cX 0 m) μ = some (((List.range m).map λ j => gq j r0).map aY, μ) := by
 have e := cC (all := all) (h := hName 0) (fe := mFz (lLC ["_law_one"] [0] (cj (M2 (ao 1) (mC (.int 0)) oIx)) (hName 0) (aQ) (M2 (M2 (M2 (ao 1) (mC (.int 5)) oMod) (mC (.int 1)) bT) (ao 0) dg))) (δb := [none, some (.cell c)]) (F := λ k : Nat => D.int (0 + (k : Int))) (f := λ j => aY (gq j r0)) (μ := μ) (List.range m) λ j hj => by
  have ei : bL (.cell c) μ = some ((r0 :: rows).map aY) := by show (match μ[c]? with | some (some ds) => some ds | _ => none) = _; rw [hc]
  have a0 : atI ((r0 :: rows).map aY) 0 = some (aY r0) := by unfold atI ixN; simp
  obtain ⟨f0, f1⟩ := bO (x := 0 + (j : Int)) (m := 5) (by decide)
  have e2 := cC (all := r0.map D.int) (h := hName 0) (fe := M2 (M2 (M2 (ao 1) (mC (.int 5)) oMod) (mC (.int 1)) bT) (ao 0) dg) (δb := [none, some (.int (0 + (j : Int)))]) (F := D.int) (f := λ z => .int (((0 + (j : Int)).fmod 5 + 1) * z)) (μ := μ) r0 λ z hz => by
   have em := cH (x := (0 + (j : Int)).fmod 5 + 1) (y := z) μ (vX (b := 4) 7 (by omega) (by decide)) (hs z hz) (by decide)
   refine ⟨[some (.int z), some (.int (0 + (j : Int)))], by simp, ?_⟩
   generalize (0 + (j : Int)) = jj at *
   simp [em]
  have e3 : r0.map (λ z => D.int (((0 + (j : Int)).fmod 5 + 1) * z)) = (gq j r0).map D.int := by unfold gq; simp
  rw [e3] at e2
  have hz : (r0.map D.int).length <= 1000 := by rw [Zu]; exact hl
  refine ⟨[some (.int (0 + (j : Int))), some (.cell c)], by simp, ?_⟩
  have esrc : srcOf (aY r0) μ = some ⟨r0.map D.int, none⟩ := rfl
  have ew : aY (gq j r0) = .lst ((gq j r0).map D.int) := rfl
  rw [ew]
  generalize (gq j r0).map D.int = W at *
  generalize (r0 :: rows).map aY = RD at *
  generalize r0.map D.int = Z at *
  generalize aY r0 = rD at *
  generalize (0 + (j : Int)) = jj at *
  simp [ei, a0, esrc, hz, bQ, e2]
 have e' : (List.range m).map (λ j => aY (gq j r0)) = ((List.range m).map λ j => gq j r0).map aY := by rw [List.map_map]; rfl
 rw [e'] at e
 exact e
theorem lX {n : Int} {a b : Nat} {rows : List (List Int)} (h : gM n a rows) (hab : a <= b) : gM n b rows := λ r hr => ⟨(h r hr).1, λ z hz => bY ((h r hr).2 z hz) hab⟩
theorem xr {φ : FF} (hφ : jw φ) (c : Int) (c0 : 0 <= c) (c1 : c < 100) (x : Int) (μ : Mu) : ∀ (js : List Int), (∀ j ∈ js, 0 <= j /\ j < 100) -> ∃ kz : List Int,
  oh ((js.map D.int).map (thG (hName 0) (MC (aq (ao 1) (aq (M2 (ao 0) (mC (.int c)) bT) (aG))) φ) [none, some (.int x)])) μ = some (kz, μ)
 | [], _ => ⟨[], rfl⟩
 | j :: js, hj => by
  obtain ⟨j0, j1⟩ := hj j (by simp)
  obtain ⟨r, er, _⟩ := hφ x (j + c) μ (by omega) (by omega)
  obtain ⟨kz, e⟩ := xr hφ c c0 c1 x μ js λ i hi => hj i (by simp [hi])
  refine ⟨r :: kz, ?_⟩
  rw [Zj, Zj]
  have et : thG (hName 0) (MC (aq (ao 1) (aq (M2 (ao 0) (mC (.int c)) bT) (aG))) φ) [none, some (.int x)] (.int j) μ = some (.int r, μ) := by simp [thG, er]
  unfold oh
  rw [et]
  show Option.map (λ q => (r :: q.1, q.2)) (oh _ μ) = _
  rw [e]
  rfl
theorem wX (kz : List Int) (js : List Int) : ∃ ts : List Int, lG kz (js.map .int) = ts.map .int /\ ts.Perm js := by
 refine ⟨(iI (λ i j => decide (kz.getD i 0 < kz.getD j 0)) js.length).map λ i => js.getD i 0, ?_, ?_⟩
 .unfold lG
  rw [Zu, List.map_map]
  apply List.map_congr_left
  intro i hi
  have hin : i < js.length := List.mem_range.mp ((jm _ _).mem_iff.mp hi)
  simp [List.getD, hin]
 .have h := (jm (λ i j => decide (kz.getD i 0 < kz.getD j 0)) js.length).map λ i => js.getD i 0
  rw [L2.range_getD] at h
  exact h
theorem uY {φ : FF} (hφ : jw φ) (x : Int) (all : List D) (μ : Mu) : ∀ (ys : List Int), (∀ j ∈ ys, 0 <= j /\ j < 100) -> ∃ sh : List (Int × Int),
  lcL ⟨all, none⟩ (hName 0) aQ (MC (aq (ao 0) (aq (M2 (mC (.int 1)) (M2 (MC (aq (ao 1) (aq (M2 (ao 0) (mC (.int 60)) bT) (aG))) φ) (M2 (MC (aq (mC (.int 3)) (aq (mC (.int 7)) (aq (mC (.int 1000)) (aG)))) oLst) (M2 (M2 (ao 1) (mC (.int 4)) oDiv) (mC (.int 3)) oMod) oIx) oMod) bT) (aG))) oTup) [none, some (.int x)] (ys.map .int) μ = some (sh.map pairD, μ) /\ sh.map (·.1) = ys /\ ∀ p ∈ sh, 1 <= p.2 /\ p.2 <= 1000
 | [], _ => ⟨[], by simp only [List.map_nil]; unfold lcL; simp [bj], rfl, by simp⟩
 | j :: ys, hj => by
  obtain ⟨j0, j1⟩ := hj j (by simp)
  obtain ⟨r, er, _⟩ := hφ x (j + 60) μ (by omega) (by omega)
  obtain ⟨sh, e, hf, hs⟩ := uY hφ x all μ ys λ i hi => hj i (by simp [hi])
  have v4 := uC (i := x) (j := 4) (μ := μ) (by decide) (by decide)
  obtain ⟨i0, i1⟩ := bO (x := x.fdiv 4) (m := 3) (by decide)
  obtain ⟨m, hm, em⟩ := Gz (ds := [D.int 3, .int 7, .int 1000]) i0 i1
  have hm : ∃ z : Int, m = .int z /\ 1 <= z /\ z <= 1000 := by
   simp only [Zi, List.not_mem_nil, or_false] at hm
   rcases hm with rfl | rfl | rfl <;> exact ⟨_, rfl, by decide, by decide⟩
  obtain ⟨m, rfl, m1, m2⟩ := hm
  obtain ⟨q0, q1⟩ := bO (x := r) (m := m) (by omega)
  have eo := gF (x := r) (y := m) μ (by omega)
  refine ⟨(j, 1 + r.fmod m) :: sh, ?_, by rw [Zj, hf], λ p hp => ?_⟩
  .rw [Zj]
   generalize ys.map D.int = YD at *
   unfold lcL
   simp [bj, aQ, er, v4, em, eo, e, pairD]
  .rcases Zi.mp hp with h | h
   .rw [h]; constructor <;> simp only <;> omega
   .exact hs p h
theorem BL {ts : List Int} {c : Nat} (hn : ts.Nodup) : (PySem.W.sortI (ts.take c)).Pairwise (· < ·) := by
 have h1 := PySem.W.sortI_rises (ts.take c)
 have h2 : (PySem.W.sortI (ts.take c)).Nodup := (PySem.W.sortI_perm _).nodup_iff.mpr (hn.sublist (List.take_sublist _ _))
 have h3 := h1.and h2
 exact h3.imp λ {a b} h => by have := h.1; have := h.2; omega
theorem Ak {n : Int} {b : Nat} {rs : List (List Int)} {i : Nat} (h : gM n b rs) (hi : i < n.toNat) : ∀ c ∈ col rs i, Sm b c := λ c hc => by
 obtain ⟨r, hr, rfl⟩ := Zq.mp hc
 have hl := (h r hr).1
 have hk : i < r.length := by omega
 have : r.getD i 0 = r[i] := by simp [List.getD, hk]
 rw [this]
 exact (h r hr).2 _ (List.getElem_mem hk)
def sJ (φ : FF) : Prop := ∀ (n : Int) (rs : List (List Int)) (ws : List Int) (μ : Mu), 1 <= n -> n <= 20 -> rs ≠ [] -> gM n 40 rs -> rs.length <= 60 -> (∀ w ∈ ws, Sm 9000 w) -> φ [.lst (rs.map aM), .lst (ws.map .int)] μ = some (.lst (((List.range n.toNat).map λ i => dot ws (col rs i)).map .int), μ)
theorem uq {φ : FF} (hφ : Es φ) {n : Int} {rs : List (List Int)} {ws : List Int} {μ : Mu} (hr : gM n 40 rs) (hz1 : rs.length <= 1000) (hw : ∀ w ∈ ws, Sm 9000 w) (i : Nat) (hi : i < n.toNat) :
  MC (aq (ao 1) (aq (mFz (lLC ["row"] [0] (cj (ao 2)) (hName 0) (aQ) (M2 (ao 0) (ao 1) oIx))) (aG))) φ [some (.int (0 + (i : Int))), some (.lst (ws.map .int)), some (.lst (rs.map aM))] μ = some (.int (dot ws (col rs i)), μ) := by
 have e1 := cC (all := rs.map aM) (h := hName 0) (fe := M2 (ao 0) (ao 1) oIx) (δb := [none, some (.int (0 + (i : Int)))]) (F := aM) (f := λ r => .int (r.getD i 0)) (μ := μ) rs λ r h => ⟨_, rfl, by
  have hk : ((0 : Int) + i) < r.length := by have := (hr r h).1; omega
  obtain ⟨a1, _⟩ := nT (ys := r) (k := 0 + (i : Int)) (by omega) hk
  have : (0 + (i : Int)).toNat = i := by omega
  rw [this] at a1
  generalize r.getD i 0 = z at *
  generalize (0 + (i : Int)) = j at *
  simp [a1]⟩
 have e1' : rs.map (λ r => D.int (r.getD i 0)) = (col rs i).map D.int := by unfold col; simp
 rw [e1'] at e1
 have e2 := hφ ws (col rs i) μ hw λ c hc => bY (Ak hr hi c hc) (by decide)
 generalize (col rs i).map D.int = cD at *
 generalize dot ws (col rs i) = z at *
 generalize (0 + (i : Int)) = j at *
 simp [hz1, bQ, e1, e2]
theorem xR {φ : FF} (hφ : Es φ) : sJ (trunc (aK 2 (il φ))) := λ n rs ws μ hd hd2 hne hr hl hw => by
 apply bV
 have hz1 : rs.length <= 1000 := by omega
 have e3 := cC (all := cX 0 n.toNat) (h := hName 0) (fe := MC (aq (ao 1) (aq (mFz (lLC ["row"] [0] (cj (ao 2)) (hName 0) (aQ) (M2 (ao 0) (ao 1) oIx))) (aG))) φ) (δb := bQ ["at"] [some (.lst (rs.map aM)), some (.lst (ws.map .int))] [1, 0]) (F := λ i : Nat => D.int (0 + (i : Int))) (f := λ i => .int (dot ws (col rs i))) (μ := μ) (List.range n.toNat) λ i hi =>
  ⟨[some (.int (0 + (i : Int))), some (.lst (ws.map .int)), some (.lst (rs.map aM))], by simp [bQ], uq hφ hr hz1 hw i (List.mem_range.mp hi)⟩
 have e3' : (List.range n.toNat).map (λ i => D.int (dot ws (col rs i))) = ((List.range n.toNat).map λ i => dot ws (col rs i)).map D.int := by simp
 rw [e3'] at e3
 have er : (List.range n.toNat).map (λ i : Nat => D.int (0 + (i : Int))) = cX 0 n.toNat := rfl
 rw [er] at e3
 have h0 : ∃ r0, atI (rs.map aM) 0 = some (aM r0) /\ r0 ∈ rs := by
  obtain ⟨a, b⟩ := iR (F := aM) (l := rs) (k := 0) (z := []) (by decide) (by have := List.length_pos_iff.mpr hne; omega)
  exact ⟨_, a, b⟩
 obtain ⟨r0, a0, hr0⟩ := h0
 have hlen0 := (hr r0 hr0).1
 generalize ((List.range n.toNat).map λ i => dot ws (col rs i)).map D.int = wD at *
 have it : bW (aq (MC (aq (M2 (ao 0) (mC (.int 0)) oIx) (aG)) (bD eU)) (aG)) [some (.lst (rs.map aM)), some (.lst (ws.map .int))] μ = some (⟨cX 0 n.toNat, none⟩, μ) := by
  have := Nb (k := (n.toNat : Int)) (by omega) (by omega) (CW (F := M2 (ao 0) (mC (.int 0)) oIx) (δ := [some (.lst (rs.map aM)), some (.lst (ws.map .int))]) (μ := μ) hlen0 (by simp [a0]))
  rwa [show ((n.toNat : Int)).toNat = n.toNat by omega] at this
 have hz2 : (cX 0 n.toNat).length <= sizeLine := by rw [dM]; exact Zl (by omega : _ <= 1000) (by decide)
 unfold il
 generalize bW (aq (MC (aq (M2 (ao 0) (mC (.int 0)) oIx) (aG)) (bD eU)) (aG)) = IT at it ⊢
 simp [it, hz2, e3]
def vG (φ : FF) : Prop := ∀ (ns : List Int) (b : Int) (μ : Mu), b ≠ 0 -> (∀ n ∈ ns ++ [b], Sm 4000 n) -> ns.length <= 50 -> φ [.lst (ns.map .int), .int b] μ = some (.tup ((rowOf (sgn b) (ns ++ [b])).map .int), μ)
theorem DP {φ : FF} (hφ : zj φ) : vG (aK 3 (gZ φ)) := λ ns b μ hb hs hl => by
 have hsg := wG b
 have e : lcL ⟨(ns ++ [b]).map D.int, none⟩ (hName 0) aQ (M2 (ao 1) (ao 0) dg) (bQ ["number"] [some (.lst (ns.map .int)), some (.int b), some (.int (sgn b))] [2]) ((ns ++ [b]).map D.int) μ = some (((ns ++ [b]).map D.int).map (λ d => match d with | .int n => .int (sgn b * n) | _ => .non), μ) := by
  refine vY _ λ d hd => ?_
  obtain ⟨n, hn, rfl⟩ := Zq.mp hd
  have := cH (x := sgn b) (y := n) (a := 1) (b := 4000) μ (by unfold Sm; rcases hsg with h | h <;> rw [h] <;> decide) (hs n hn) (by decide)
  exact ⟨_, rfl, by simp [hName, bQ, M2, ao, this]⟩
 rw [List.map_map] at e
 have hm : ∀ n ∈ (ns ++ [b]).map (sgn b * ·), Sm 4000 n := λ n hn => by
  obtain ⟨m, hm, rfl⟩ := Zq.mp hn
  exact Dk hsg (hs m hm)
 have hmem : sgn b * b ∈ (ns ++ [b]).map (sgn b * ·) := Zq.mpr ⟨b, by simp, rfl⟩
 have hne : sgn b * b ≠ 0 := by rcases hsg with h | h <;> rw [h] <;> omega
 have hg0 : cG 0 ((ns ++ [b]).map (sgn b * ·)) ≠ 0 := rN (.inr ⟨_, hmem, hne⟩)
 have hgs : Sm 8000 (cG 0 ((ns ++ [b]).map (sgn b * ·)) : Nat) := by
  have h1 := Iz (g := 0) hmem hne
  have h2 := hm _ hmem
  unfold Sm at *
  have : (2 : Nat) ^ 4000 <= 2 ^ 8000 := Nat.pow_le_pow_right (by decide) (by decide)
  simp only [Int.natAbs_natCast]
  omega
 have hL := hφ ((ns ++ [b]).map (sgn b * ·)) μ hg0 hgs (by simp; omega)
 rw [List.map_map] at hL
 have hz : ns.length + 1 <= sizeLine := Zl (by omega : ns.length + 1 <= 100) (by decide)
 unfold aK gZ rowOf
 have hsign : ∀ x : D, mIf (toB (M2 (ao 1) (mC (.int 0)) oGt)) (mC (.int 1)) (M1 (mC (.int 1)) qI) [some x, some (.int b), none] μ = some (.int (sgn b), μ) := λ x => by
  unfold sgn
  by_cases hp : 0 < b
  .simp [mIf, toB, M2, ao, mC, oGt, hp]
  .simp [mIf, toB, M2, M1, qI, ao, mC, oGt, hp]
 have e' := e
 simp only [List.map_append, Zj, List.map_nil] at e' hL
 have e2 : lcL { items := List.map D.int ns ++ [D.int b], cel := none } (hName 0) aQ (M2 (ao 1) (ao 0) dg) (bQ ["number"] [some (D.lst (List.map D.int ns)), some (D.int b), some (D.int (sgn b))] [2]) (List.map D.int ns ++ [D.int b]) μ = some (ns.map (λ n => D.int (sgn b * n)) ++ [D.int (sgn b * b)], μ) := e'
 have hL2 : φ [D.lst (ns.map (λ n => D.int (sgn b * n)) ++ [D.int (sgn b * b)])] μ = _ := hL
 simp [aR, bw, hsign, bH, MC, aq, aG, mFz, lLC, cj, Ar, bL, oTup, srcOf, hz, ao, e2, hL2, Function.comp_def]
def amL (n : Int) (rs : List (List Int)) (sh : List (Int × Int)) : List Int := (List.range n.toNat).map λ i => dot (sh.map (·.2)) (col (rowsOf rs sh) i)
def amB (sh : List (Int × Int)) : Int := (sh.map (·.2)).sum
def amR (n : Int) (rs : List (List Int)) (sh : List (Int × Int)) : List Int := rowOf (sgn (amB sh)) (amL n rs sh ++ [amB sh])
theorem sW {n : Int} {b : Nat} {ps : List (List Int)} {sh : List (Int × Int)} (hp : gM n b ps) (hs : Ab ps.length sh) : gM n b (rowsOf ps sh) := λ r hr => by
 obtain ⟨x, hx, rfl⟩ := Zq.mp hr
 obtain ⟨h0, h1, _⟩ := hs x hx
 exact hp _ (iR (F := aM) (l := ps) (k := x.1) (z := []) h0 h1).2
theorem yM {n : Nat} {sh : List (Int × Int)} (hs : Ab n sh) (hne : sh ≠ []) (hl : sh.length <= 60) : 1 <= amB sh /\ Sm 2010 (amB sh) := by
 have hss : ∀ s ∈ sh.map (·.2), 1 <= s /\ Sm 2000 s := λ s h => by
  obtain ⟨x, hx, rfl⟩ := Zq.mp h
  exact ⟨(hs x hx).2.2.1, (hs x hx).2.2.2⟩
 obtain ⟨⟨s0, s1⟩, s2⟩ := Ex (sh.map (·.2)) 2000 hss
 refine ⟨s1 (by simpa using hne), ?_⟩
 unfold amB
 unfold Sm
 rw [Zu] at s2
 have : sh.length * 2 ^ 2000 < 2 ^ 10 * 2 ^ 2000 := Nat.mul_lt_mul_of_pos_right (by omega) (Nat.two_pow_pos _)
 rw [<- Nat.pow_add] at this
 omega
theorem oZ {a b : Nat} {ws cs : List Int} (hw : ∀ w ∈ ws, Sm a w) (hc : ∀ c ∈ cs, Sm b c) (hl : ws.length <= 60) : Sm (a + b + 10) (dot ws cs) := by
 have h := wg (b := a + b) ((ws.zip cs).map λ p => p.1 * p.2) λ z hz => by
  obtain ⟨⟨w, c⟩, hp, rfl⟩ := Zq.mp hz
  have hm := List.of_mem_zip hp
  exact wk (hw w hm.1) (hc c hm.2)
 unfold dot
 generalize ((ws.zip cs).map λ p => p.1 * p.2).sum = z at *
 rw [Zu, List.length_zip] at h
 unfold Sm
 have : min ws.length cs.length * 2 ^ (a + b) < 2 ^ 10 * 2 ^ (a + b) := Nat.mul_lt_mul_of_pos_right (by omega) (Nat.two_pow_pos _)
 rw [<- Nat.pow_add] at this
 rw [Nat.add_comm (a + b) 10]
 omega
theorem CN {n : Int} {rs : List (List Int)} {sh : List (Int × Int)} (hr : gM n 40 rs) (hs : Ab rs.length sh) (hl : sh.length <= 60) : ∀ z ∈ amL n rs sh, Sm 2050 z := λ z hz => by
 obtain ⟨i, hi, rfl⟩ := Zq.mp hz
 exact oZ (a := 2000) (b := 40) (λ s h => by
  obtain ⟨x, hx, rfl⟩ := Zq.mp h
  exact (hs x hx).2.2.2) (Ak (sW hr hs) (List.mem_range.mp hi)) (by simpa using hl)
theorem qR {n : Int} {rs : List (List Int)} {sh : List (Int × Int)} : (amL n rs sh).length = n.toNat := by unfold amL; simp
def zc (φ : FF) : Prop := ∀ (n : Int) (rs : List (List Int)) (sh : List (Int × Int)) (μ : Mu), 1 <= n -> n <= 20 -> gM n 40 rs -> sh ≠ [] -> sh.length <= 60 -> Ab rs.length sh -> φ [.lst (rs.map aM), .tup (sh.map pairD)] μ = some (aM (amR n rs sh), μ)
theorem Hr {φ1 φ2 : FF} (h1 : sJ φ1) (h2 : vG φ2) : zc (trunc (aK 4 (jz φ1 φ2))) := λ n rs sh μ n1 n2 hr hne hl hs => by
 apply bV
 have hr' := sW hr hs
 have hss : ∀ s ∈ sh.map (·.2), Sm 9000 s := λ s h => by
  obtain ⟨x, hx, rfl⟩ := Zq.mp h
  exact bY (hs x hx).2.2.2 (by decide)
 have hl60 : (rowsOf rs sh).length <= 60 := by unfold rowsOf; simp; exact hl
 have hrne : rowsOf rs sh ≠ [] := by unfold rowsOf; simpa using hne
 have e1 := cC (all := sh.map pairD) (h := mY 2 (dI (hName 0) (dI (hName 1) ni))) (fe := M2 (ao 2) (ao 0) oIx) (δb := [none, none, some (.lst (rs.map aM))]) (F := pairD) (f := λ x => aM (rs.getD x.1.toNat [])) (μ := μ) sh λ x hx => by
  obtain ⟨k, s⟩ := x
  obtain ⟨k0, k1, _⟩ := hs _ hx
  refine ⟨[some (.int k), some (.int s), some (.lst (rs.map aM))], by simp [pairD], ?_⟩
  have := (iR (F := aM) (l := rs) (k := k) (z := []) k0 k1).1
  simp only at this ⊢
  generalize rs.getD k.toNat [] = r at *
  simp [this]
 have e1' : sh.map (λ x => aM (rs.getD x.1.toNat [])) = (rowsOf rs sh).map aM := by unfold rowsOf; simp
 rw [e1'] at e1
 have e2 := cC (all := sh.map pairD) (h := mY 2 (dI (hName 0) (dI (hName 1) ni))) (fe := ao 1) (δb := [none, none]) (F := pairD) (f := λ x => .int x.2) (μ := μ) sh λ x hx => ⟨[some (.int x.1), some (.int x.2)], by simp [pairD], by simp⟩
 have e2' : sh.map (λ x => D.int x.2) = (sh.map (·.2)).map D.int := by simp
 rw [e2'] at e2
 obtain ⟨b1, b2⟩ := yM hs hne hl
 have e3 := h1 n (rowsOf rs sh) (sh.map (·.2)) μ n1 n2 hrne hr' hl60 hss
 have e3 : φ1 [.lst ((rowsOf rs sh).map aM), .lst ((sh.map (·.2)).map .int)] μ = some (.lst ((amL n rs sh).map .int), μ) := e3
 have e4 := h2 (amL n rs sh) (amB sh) μ (by omega) (λ z hz => by
  rcases Zm.mp hz with h | h
  .exact bY (CN hr hs hl z h) (by decide)
  .rw [List.mem_singleton.mp h]; exact bY b2 (by decide)) (by rw [qR]; omega)
 have e4 : φ2 [.lst ((amL n rs sh).map .int), .int (amB sh)] μ = some (aM (amR n rs sh), μ) := e4
 have es := oJ (th := thE) (F := D.int) (g := λ z => z) (μ := μ) (sh.map (·.2)) 0 λ x _ => rfl
 have es' : (0 : Int) + ((sh.map (·.2)).map λ z => z).sum = amB sh := by unfold amB; rw [Int.zero_add]; simp [Function.comp_def]
 rw [es'] at es
 generalize (sh.map (·.2)).map D.int = wD at *
 generalize (amL n rs sh).map D.int = aD at *
 generalize amB sh = B at *
 generalize aM (amR n rs sh) = R at *
 have hz : sh.length <= 1000 := by omega
 unfold jz
 simp [hz, bQ, e1, e2, e3, es, e4]
theorem Nf (n : Nat) : (List.replicate n [D.int 0]).flatten = fnL n λ _ => 0 := by
 unfold fnL
 induction n with
 | zero => rfl
 | succ n ih =>
  rw [List.replicate_succ, List.flatten_cons, ih, List.range_succ_eq_map]
  simp
theorem Dj {x : Int × Int} {sh : List (Int × Int)} : amB (x :: sh) = x.2 + amB sh := by unfold amB; simp
theorem KN {rs : List (List Int)} {x : Int × Int} {sh : List (Int × Int)} {i : Nat} : dot ((x :: sh).map (·.2)) (col (rowsOf rs (x :: sh)) i) = x.2 * (rs.getD x.1.toNat []).getD i 0 + dot (sh.map (·.2)) (col (rowsOf rs sh) i) := by
 have e1 : rowsOf rs (x :: sh) = rs.getD x.1.toNat [] :: rowsOf rs sh := rfl
 have e2 : ∀ (r : List Int) (q : List (List Int)), col (r :: q) i = r.getD i 0 :: col q i := λ r q => rfl
 rw [e1, e2, Zj, su]
def vR (φ : FF) : Prop := ∀ (n : Int) (rs : List (List Int)) (sh : List (Int × Int)) (μ : Mu), 1 <= n -> n <= 20 -> rs ≠ [] -> gM n 40 rs -> sh ≠ [] -> sh.length <= 60 -> Ab rs.length sh -> φ [.lst (rs.map aM), .tup (sh.map pairD)] μ = some (aM (amR n rs sh), μ)
theorem yL {n k s : Int} {rs : List (List Int)} {g : Nat -> Int} {μ : Mu} (n1 : 1 <= n) (n2 : n <= 20) (hr : gM n 40 rs) (k0 : 0 <= k) (k1 : k < rs.length) (hs : Sm 2000 s) :
  lcL ⟨cX 0 n.toNat, none⟩ (hName 0) aQ (M2 (M2 (ao 1) (ao 0) oIx) (M2 (ao 2) (M2 (M2 (ao 3) (ao 4) oIx) (ao 0) oIx) dg) bT) [none, some (.lst (fnL n.toNat g)), some (.int s), some (.lst (rs.map aM)), some (.int k)] (cX 0 n.toNat) μ = some (fnL n.toNat (λ i => g i + s * (rs.getD k.toNat []).getD i 0), μ) := by
 obtain ⟨ak, hmem⟩ := iR (F := aM) (l := rs) (k := k) (z := []) k0 k1
 obtain ⟨hlen, hsm⟩ := hr _ hmem
 generalize rs.getD k.toNat [] = r at *
 have e := cC (all := cX 0 n.toNat) (h := hName 0) (fe := M2 (M2 (ao 1) (ao 0) oIx) (M2 (ao 2) (M2 (M2 (ao 3) (ao 4) oIx) (ao 0) oIx) dg) bT) (δb := [none, some (.lst (fnL n.toNat g)), some (.int s), some (.lst (rs.map aM)), some (.int k)]) (F := λ i : Nat => D.int (0 + (i : Int))) (f := λ i => .int (g i + s * r.getD i 0)) (μ := μ) (List.range n.toNat) λ i hi => by
  have hi := List.mem_range.mp hi
  refine ⟨[some (.int (0 + (i : Int))), some (.lst (fnL n.toNat g)), some (.int s), some (.lst (rs.map aM)), some (.int k)], by simp, ?_⟩
  have ga := Lf (g := g) hi
  have hk : ((0 : Int) + i) < r.length := by omega
  obtain ⟨a1, hm⟩ := nT (ys := r) (k := 0 + (i : Int)) (by omega) hk
  have : (0 + (i : Int)).toNat = i := by omega
  rw [this] at a1 hm
  have hz := hsm _ hm
  generalize r.getD i 0 = z at *
  have em := cH (x := s) (y := z) μ hs hz (by decide)
  generalize g i = gi at *
  generalize fnL n.toNat g = GL at *
  generalize (0 + (i : Int)) = j at *
  simp [ga, ak, a1, em]
 have e' : (List.range n.toNat).map (λ i => D.int (g i + s * r.getD i 0)) = fnL n.toNat (λ i => g i + s * r.getD i 0) := by unfold fnL; simp
 rw [e'] at e
 exact e
theorem JR {n : Int} {δ : En} {μ : Mu} {r0 : List Int} {F : EF} (h : F δ μ = some (aM r0, μ)) (hl : r0.length = n.toNat) (n1 : 1 <= n) (n2 : n <= 20) : M2 (MC (aq (mC (.int 0)) (aG)) oLst) (MC (aq F (aG)) (bD eU)) dg δ μ = some (.lst (fnL n.toNat λ _ => 0), μ) := by
 have e1 : MC (aq (mC (.int 0)) (aG)) oLst δ μ = some (.lst [.int 0], μ) := by simp
 have e2 := CW hl h
 rw [show ((n.toNat : Nat) : Int) = n by omega] at e2
 have e3 := mulL (ds := [D.int 0]) (k := n) (μ := μ) (by omega) (by omega) (by simp; omega)
 rw [Nf] at e3
 rw [Qc, e1]
 simp only [Option.bind_some]
 rw [e2]
 simp only [Option.bind_some]
 exact e3
theorem FJ {φ : FF} (hφ : Ei φ) : vR (trunc (aK 6 (gV φ))) := λ n rs sh μ n1 n2 hrne hr hne hl hs => by
 apply bV
 obtain ⟨b1, b2⟩ := yM hs hne hl
 have h0 : ∃ r0, atI (rs.map aM) 0 = some (aM r0) /\ r0 ∈ rs := by
  obtain ⟨a, b⟩ := iR (F := aM) (l := rs) (k := 0) (z := []) (by decide) (by have := List.length_pos_iff.mpr hrne; omega)
  exact ⟨_, a, b⟩
 obtain ⟨r0, a0, hr0⟩ := h0
 have hlen0 := (hr r0 hr0).1
 have eN := JR (F := M2 (ao 0) (mC (.int 0)) oIx) (δ := [some (.lst (rs.map aM)), some (.tup (sh.map pairD)), none, none, none, none]) (μ := μ) (by simp [a0]) hlen0 n1 n2
 have elow := hφ (amL n rs sh) (amB sh) μ (by omega) (bY b2 (by decide)) (by rw [qR]; omega) (λ z => by
  have := qR (n := n) (rs := rs) (sh := sh)
  rw [z] at this; simp at this; omega)
 have eR : D.tup ((amL n rs sh ++ [amB sh]).map λ z => .int (z.fdiv (sgn (amB sh) * (cG (amB sh).natAbs (amL n rs sh) : Nat)))) = aM (amR n rs sh) := by
  unfold amR aM
  rw [Ag, List.map_map]
  rfl
 rw [eR] at elow
 generalize hRS : rs.map aM = RS at *
 unfold gV
 generalize M2 (MC (aq (mC (.int 0)) (aG)) oLst) (MC (aq (M2 (ao 0) (mC (.int 0)) oIx) (aG)) (bD eU)) dg = Z at eN ⊢
 simp [eN]
 refine lW (λ its δ μ' => ∃ (xs : List (Int × Int)) (g : Nat -> Int) (t : Int) (o4 o5 : Option D), its = xs.map pairD /\ μ' = μ /\ (∀ i < n.toNat, g i + dot (xs.map (·.2)) (col (rowsOf rs xs) i) = dot (sh.map (·.2)) (col (rowsOf rs sh) i)) /\ t + amB xs = amB sh /\ (∀ x ∈ xs, x ∈ sh) /\ δ = [some (.lst RS), some (.tup (sh.map pairD)), some (.lst (fnL n.toNat g)), some (.int t), o4, o5]) ?_ ?_ _ _ _ ⟨sh, λ _ => 0, 0, none, none, rfl, rfl, λ i _ => by simp, by simp, λ x h => h, rfl⟩
 .rintro dd rest δ μ' ⟨xs, g, t, o4, o5, hi, rfl, hg, ht, hsub, rfl⟩
  cases xs with
  | nil => cases hi
  | cons x xs =>
   obtain ⟨k, s⟩ := x
   cases hi
   obtain ⟨k0, k1, s1, s2⟩ := hs _ (hsub _ (List.mem_cons_self ..))
   simp only at k0 k1 s1 s2
   have e := yL (g := g) (μ := μ') n1 n2 hr k0 k1 s2
   rw [hRS] at e
   have lg : eU (.lst (fnL n.toNat g)) μ' = some (.int n, μ') := by rw [iu, An, show ((n.toNat : Nat) : Int) = n by omega]
   have rn := yW (j := n) (μ := μ') (by omega) (by omega)
   have zr : (cX 0 n.toNat).length <= 1000 := by rw [dM]; omega
   rw [Dj] at ht
   simp only [KN] at hg
   generalize hG : fnL n.toNat g = GL at *
   generalize hG2 : fnL n.toNat (λ i => g i + s * (rs.getD k.toNat []).getD i 0) = GL2 at *
   generalize cX 0 n.toNat = RG at *
   simp [pairD, lg, rn, zr, bQ, e]
   refine ⟨xs, rfl, _, λ i hi => ?_, t + s, by simp only at ht; omega, λ a b h => hsub _ (List.mem_cons_of_mem _ h), hG2.symm, rfl⟩
   have := hg i (by omega)
   omega
 .rintro δ μ' ⟨xs, g, t, o4, o5, hi, rfl, hg, ht, hsub, rfl⟩
  cases xs with
  | cons b ms => cases hi
  | nil =>
  have e1 : fnL n.toNat g = (amL n rs sh).map D.int := by
   unfold fnL amL
   congr 1
   apply List.map_congr_left
   intro i hi
   have := hg i (List.mem_range.mp hi)
   simpa [dot] using this
  have e2 : t = amB sh := by
   have : amB [] = 0 := rfl
   omega
  rw [e1, e2]
  generalize (amL n rs sh).map D.int = A at *
  simp [elow]
def iM (many : Int) : List Int := (List.range many.toNat).map λ (k : Nat) => (0 + (k : Int))
theorem Lz {many : Int} : cX 0 many.toNat = (iM many).map D.int := by unfold cX iM; rw [List.map_map]; rfl
theorem CP {many : Int} : (iM many).length = many.toNat := by unfold iM; simp
theorem Kh {many : Int} : ∀ j ∈ iM many, 0 <= j /\ j < many := λ j hj => by
 obtain ⟨k, hk, rfl⟩ := Zq.mp hj
 have := List.mem_range.mp hk
 omega
def ThB (t : D) : Prop := nc t /\ ∀ ds, t = .tup ds -> ds.length <= 60 /\ ∀ k s, D.tup [.int k, .int s] ∈ ds -> Sm 2000 s
theorem yH {many : Nat} {ds : List D} (h : cB many (.tup ds) = true) (ht : ThB (.tup ds)) : ds = (ds.map pairOf).map pairD /\ ds.map pairOf ≠ [] /\ (ds.map pairOf).length <= 60 /\ Ab many (ds.map pairOf) := by
 obtain ⟨_, ht⟩ := ht
 obtain ⟨hl, hsm⟩ := ht ds rfl
 have h : (!ds.isEmpty && (ds.all (bK many) && uc (ds.map pairOf))) = true := h
 rw [Zo, Zo] at h
 obtain ⟨h1, h2, _⟩ := h
 have h2 := List.all_eq_true.mp h2
 have hp : ∀ d ∈ ds, d = pairD (pairOf d) := λ d hd => by
  have := h2 d hd
  unfold bK at this
  rw [Zo] at this
  exact oG this.1
 refine ⟨?_, λ z => ?_, by simpa using hl, λ x hx => ?_⟩
 .rw [List.map_map]
  conv => lhs; rw [<- List.map_id ds]
  apply List.map_congr_left
  intro d hd
  exact hp d hd
 .have : ds = [] := by simpa using z
  subst this
  simp at h1
 .obtain ⟨d, hd, rfl⟩ := Zq.mp hx
  have h3 := h2 d hd
  unfold bK at h3
  rw [Zo] at h3
  have h4 := of_decide_eq_true h3.2
  exact ⟨h4.1, h4.2.1, h4.2.2, hsm (pairOf d).1 (pairOf d).2 (by have := hp d hd; unfold pairD at this; rw [<- this]; exact hd)⟩
theorem uE : ∀ qs : List (List Int), gf (qs.map aM) = true /\ jV (qs.map aM) <= 1
 | [] => ⟨by simp [gf], by simp [jV]⟩
 | q :: qs => by
  obtain ⟨a, b⟩ := uE qs
  refine ⟨?_, ?_⟩
  .rw [Zj, gf, a]; unfold aM; rw [dH, oW]; rfl
  .rw [Zj, jV]; unfold aM at *; rw [gP, tL]; omega
theorem Ko {μ : Mu} {ds : List D} (h : jh μ) (hd : ∀ d ∈ ds, nc d) : jh (μ ++ [some ds]) := λ es he => by
 rcases Zm.mp he with z | z
 .exact h es z
 .rw [List.mem_singleton] at z
  cases z
  exact hd
theorem Pq {x y : D} (ws cs : List Int) (μ : Mu) (hx : dN x = some (ws.map .int)) (hy : dN y = some (cs.map .int)) (hw : ∀ w ∈ ws, Sm 9000 w) (hc : ∀ c ∈ cs, Sm 9000 c) : trunc (aK 2 bh) [x, y] μ = some (.int (dot ws cs), μ) := by
 apply bV
 have e := oJ (th := thG (mY 2 (dI (hName 0) (dI (hName 1) ni))) (M2 (ao 0) (ao 1) dg) (bQ ["one", "other"] [some x, some y] [])) (F := λ p : Int × Int => .tup [D.int p.1, .int p.2]) (g := λ p => p.1 * p.2) (μ := μ) (ws.zip cs) 0 λ p hp => by
  obtain ⟨p1, p2⟩ := p
  have hm := List.of_mem_zip hp
  have := cH (x := p1) (y := p2) μ (hw _ hm.1) (hc _ hm.2) (by decide)
  simp [thG, bQ, this]
 have ez := lA (F := D.int) (G := D.int) ws cs
 unfold dot
 simp [bh, hx, hy, ez]
 rw [List.map_map] at e
 rw [e]
 simp
def zG (φ : FF) : Prop := ∀ (x y : D) (ws cs : List Int) (μ : Mu), dN x = some (ws.map .int) -> dN y = some (cs.map .int) -> (∀ w ∈ ws, Sm 9000 w) -> (∀ c ∈ cs, Sm 9000 c) -> ws.length <= 900 -> φ [x, y] μ = some (.int (dot ws cs), μ)
theorem GP : zG (trunc (aK 2 mZ)) := λ x y ws cs μ hx hy hw hc hl => by
 apply bV
 have ez := lA (F := D.int) (G := D.int) ws cs
 have ec := cC (all := iH (ws.map D.int) (cs.map D.int)) (h := mY 2 (dI (hName 0) (dI (hName 1) (ni)))) (fe := M2 (ao 0) (ao 1) dg) (δb := [none, none]) (F := λ p : Int × Int => D.tup [.int p.1, .int p.2]) (f := λ p => D.int (p.1 * p.2)) (μ := μ) (ws.zip cs) λ p hp => by
  obtain ⟨p1, p2⟩ := p
  have hm := List.of_mem_zip hp
  have := cH (x := p1) (y := p2) μ (hw _ hm.1) (hc _ hm.2) (by decide)
  exact ⟨[some (.int p1), some (.int p2)], by simp, by simp [this]⟩
 rw [<- ez] at ec
 have es := sum_ints μ ((ws.zip cs).map λ p => p.1 * p.2) 0
 rw [Int.zero_add] at es
 have fm : (ws.zip cs).map (λ p => D.int (p.1 * p.2)) = ((ws.zip cs).map λ p => p.1 * p.2).map D.int := by simp
 rw [fm] at ec
 have zz : (iH (ws.map D.int) (cs.map D.int)).length <= 1000 := by rw [ez]; simp; omega
 unfold dot
 generalize ((ws.zip cs).map λ p => p.1 * p.2).map D.int = M at *
 generalize ((ws.zip cs).map λ p => p.1 * p.2).sum = S at *
 unfold mZ
 simp [hx, hy, zz, bQ, ec, es]
theorem qY {c : Int} : ∀ (N r : List Int), r.length <= N.length -> dot (N ++ [c]) r = dot N r
 | N, [], _ => by cases N <;> simp [dot]
 | [], x :: r, h => by simp at h
 | n :: N, x :: r, h => by rw [List.cons_append, su, su, qY N r (by simpa using h)]
def Gf (φ : FF) : Prop := ∀ (N : List Int) (c : Int) (r : List Int) (μ : Mu), (∀ n ∈ N, Sm 3000 n) -> Sm 3000 c -> (∀ n ∈ r, Sm 100 n) -> N.length <= 50 -> φ [aM (N ++ [c]), aM r] μ = some (.bl (decide (dot N N <= c * dot N r)), μ)
theorem Jd : Gf (trunc (aK 4 (fX (trunc (aK 2 bh))))) := λ N c r μ hN hc hr hl => by
 have e1 := Pq (x := .lst (N.map .int)) (y := aM r) N r μ rfl rfl (λ w h => bY (hN w h) (by decide)) λ w h => bY (hr w h) (by decide)
 have e2 := Pq (x := .lst (N.map .int)) (y := .lst (N.map .int)) N N μ rfl rfl (λ w h => bY (hN w h) (by decide)) λ w h => bY (hN w h) (by decide)
 have s1 : Sm 3110 (dot N r) := oZ (a := 3000) (b := 100) hN hr (by omega)
 have e3 := cH (x := c) (y := dot N r) μ hc s1 (by decide)
 have hst : ∀ (f : EF) (δ : En), f δ μ = some (aM (N ++ [c]), μ) -> xO 2 3 f δ μ = some (.nx, (δ.set 2 (some (.lst (N.map .int)))).set 3 (some (.int c)), μ) := λ f δ h => by
  unfold xO
  rw [h]
  have hne : ((N ++ [c]).map D.int) ≠ [] := by simp
  have h1 : ((N ++ [c]).map D.int).dropLast = N.map .int := by rw [<- List.map_dropLast]; simp
  have h2 : ((N ++ [c]).map D.int).getLastD .non = .int c := by simp
  show (if ((N ++ [c]).map D.int) = [] then none else some (Fl.nx, (δ.set 2 (some (.lst ((N ++ [c]).map D.int).dropLast))).set 3 (some (((N ++ [c]).map D.int).getLastD .non)), μ)) = _
  rw [if_neg hne, h1, h2]
 apply bV
 generalize trunc (aK 2 bh) = φ at *
 generalize aM (N ++ [c]) = M at *
 generalize aM r = R at *
 generalize N.map D.int = ND at *
 generalize dot N r = S at *
 generalize dot N N = T at *
 unfold fX
 have hs := hst (ao 0) [some M, some R, none, none] rfl
 simp [hs, e1, e2, e3]
def tW (n : Int) (rs : List (List Int)) (sh : List (Int × Int)) : Bool := rs.all λ r => decide (dot (amR n rs sh).dropLast (amR n rs sh).dropLast <= xH (amR n rs sh) * dot (amR n rs sh).dropLast r)
def uz (n : Int) (rs : List (List Int)) : D -> Bool
 | .tup ds => cB rs.length (.tup ds) && tW n rs (ds.map pairOf)
 | _ => false
theorem yp {n : Int} {rs : List (List Int)} {t : D} (h : cB rs.length t = false) : uz n rs t = false := by
 unfold uz
 split
 .rw [h]; rfl
 .rfl
theorem uN {n : Int} {rs : List (List Int)} {sh : List (Int × Int)} (n1 : 1 <= n) (n2 : n <= 20) (hr : gM n 40 rs) (hne : sh ≠ []) (hl : sh.length <= 60) (hs : Ab rs.length sh) : ∃ (N : List Int) (c : Int), amR n rs sh = N ++ [c] /\ N.length = n.toNat /\ (∀ z ∈ N, Sm 3000 z) /\ Sm 3000 c := by
 obtain ⟨b1, b2⟩ := yM hs hne hl
 have hz := CN hr hs hl
 have e1 : sgn (amB sh) = 1 := if_pos (by omega)
 unfold amR
 rw [Ag, e1, Int.one_mul]
 have g0 : cG (amB sh).natAbs (amL n rs sh) ≠ 0 := rN (.inl (by omega))
 refine ⟨(amL n rs sh).map λ z => z.fdiv (cG (amB sh).natAbs (amL n rs sh) : Nat), (amB sh).fdiv (cG (amB sh).natAbs (amL n rs sh) : Nat), by simp, by simp [qR], λ z hzm => ?_, bY (yr b2 (by omega)) (by decide)⟩
 obtain ⟨w, hw, rfl⟩ := Zq.mp hzm
 exact bY (yr (hz w hw) (by omega)) (by decide)
def qP (φ : FF) : Prop := ∀ (n : Int) (rs : List (List Int)) (t : D) (μ : Mu), 1 <= n -> n <= 20 -> rs ≠ [] -> rs.length <= 40 -> gM n 40 rs -> ThB t -> φ [.lst (rs.map aM), t] μ = some (.bl (uz n rs t), μ)
theorem Ia {φ1 φ2 φ3 : FF} (h1 : uH φ1) (h2 : zc φ2) (h3 : Gf φ3) : qP (trunc (aK 3 (eG φ1 φ2 φ3))) := λ n rs t μ n1 n2 hne hl hr ht => by
 apply bV
 have e1 := h1 rs.length t μ ht.1
 have elen : ∀ μ, eU (.lst (rs.map aM)) μ = some (.int (rs.length : Int), μ) := λ μ => by rw [iu, Zu]
 cases hs : cB rs.length t with
 | false =>
  rw [hs] at e1
  rw [yp hs]
  generalize (rs.length : Int) = m at *
  generalize rs.map aM = PD at *
  unfold eG
  simp [elen, e1, -iu]
 | true =>
  rw [hs] at e1
  cases t with
  | tup ds =>
   obtain ⟨hd, hsn, hsl, hso⟩ := yH hs ht
   have ev : uz n rs (.tup ds) = tW n rs (ds.map pairOf) := by
    show (cB rs.length (.tup ds) && _) = _
    rw [hs]; rfl
   rw [ev]
   have e2 := h2 n rs (ds.map pairOf) μ n1 n2 hr hsn hsl hso
   rw [<- hd] at e2
   obtain ⟨N, c, hm, hN, sN, sc⟩ := uN n1 n2 hr hsn hsl hso
   have ea : yf ((rs.map aM).map (thG (hName 0) (MC (aq (ao 1) (aq (ao 0) (aG))) φ3) [none, some (aM (N ++ [c]))])) μ = some (rs.all λ r => decide (dot N N <= c * dot N r), μ) := by
    have := lw (th := thG (hName 0) (MC (aq (ao 1) (aq (ao 0) (aG))) φ3) [none, some (aM (N ++ [c]))]) (p := λ d => match d with | .tup ds => decide (dot N N <= c * dot N (ds.map intOf)) | _ => false) (μ := μ) (rs.map aM) λ d hd => by
     obtain ⟨q, hq, rfl⟩ := Zq.mp hd
     have e := h3 N c q μ sN sc (λ z hz => bY ((hr q hq).2 z hz) (by decide)) (by omega)
     show _ = some (D.bl (decide (dot N N <= c * dot N ((q.map D.int).map intOf))), μ)
     rw [ints_map]
     generalize aM q = Q at *
     generalize aM (N ++ [c]) = M at *
     simp [thG, e]
    rw [this, List.all_map]
    congr 3
    funext q
    show decide (dot N N <= c * dot N ((q.map D.int).map intOf)) = _
    rw [ints_map]
   have ev2 : tW n rs (ds.map pairOf) = rs.all λ r => decide (dot N N <= c * dot N r) := by
    unfold tW
    rw [hm]
    simp [xH]
   rw [ev2]
   rw [hm] at e2
   generalize (rs.all λ r => decide (dot N N <= c * dot N r)) = A at *
   generalize aM (N ++ [c]) = M at *
   generalize hTH : (rs.map aM).map (thG (hName 0) (MC (aq (ao 1) (aq (ao 0) (aG))) φ3) [none, some M]) = TH at *
   generalize D.tup ds = T at *
   generalize (rs.length : Int) = m at *
   generalize rs.map aM = PD at *
   unfold eG
   simp [elen, e1, e2, bQ, hTH, ea, -iu]
  | _ => simp [cB] at hs
theorem DG {φ1 φ2 φ3 : FF} (h1 : ∀ (many : Int) (d : D) (μ : Mu), nc d -> φ1 [.int many, d] μ = some (.bl (cB many d), μ)) (h2 : vR φ2) (h3 : zG φ3) : qP (trunc (aK 4 (iJ φ1 φ2 φ3))) := λ n rs t μ n1 n2 hne hl hr ht => by
 apply bV
 have e1 := h1 rs.length t μ ht.1
 have elen : ∀ μ, eU (.lst (rs.map aM)) μ = some (.int (rs.length : Int), μ) := λ μ => by rw [iu, Zu]
 cases hs : cB rs.length t with
 | false =>
  rw [hs] at e1
  rw [yp hs]
  generalize (rs.length : Int) = m at *
  generalize rs.map aM = PD at *
  unfold iJ
  simp [elen, e1, -iu]
 | true =>
  rw [hs] at e1
  cases t with
  | tup ds =>
   obtain ⟨hd, hsn, hsl, hso⟩ := yH hs ht
   have ev : uz n rs (.tup ds) = tW n rs (ds.map pairOf) := by
    show (cB rs.length (.tup ds) && _) = _
    rw [hs]; rfl
   rw [ev]
   have e2 := h2 n rs (ds.map pairOf) μ n1 n2 hne hr hsn hsl hso
   rw [<- hd] at e2
   obtain ⟨N, c, hm, hN, sN, sc⟩ := uN n1 n2 hr hsn hsl hso
   have sM : ∀ z ∈ N ++ [c], Sm 9000 z := λ z hz => by
    rcases Zm.mp hz with w | w
    .exact bY (sN z w) (by decide)
    .rw [List.mem_singleton.mp w]; exact bY sc (by decide)
   have e3 := h3 (aM (N ++ [c])) (aM N) (N ++ [c]) N μ rfl rfl sM (λ z hz => bY (sN z hz) (by decide)) (by simp; omega)
   rw [qY N N (Zg _)] at e3
   have esl : oSl (aM (N ++ [c])) none (some (-1)) μ = some (aM N, μ) := by
    have := Hs (ds := (N ++ [c]).map D.int) (μ := μ) (by simp)
    rw [<- List.map_dropLast, List.dropLast_concat] at this
    exact this
   have eix : oIx (aM (N ++ [c])) (.int (-1)) μ = some (.int c, μ) := by
    unfold aM
    rw [Qp]
    have := Bs (ns := N ++ [c]) (by simp)
    have h2 : (N ++ [c]).getLastD 0 = c := by simp
    rw [h2] at this
    simp only [Pn, Option.bind_some, this, Option.map_some]
   have ef := sO (all := rs.map aM) (h := hName 0) (tt := toB (M2 (M2 (MC (aq (ao 1) (aq (ao 0) (aG))) φ3) (M2 (ao 1) (M1 (mC (.int 1)) qI) oIx) dg) (ao 2) oLt)) (fe := ao 0) (δb := [none, some (aM (N ++ [c])), some (.int (dot N N))]) (p := λ d => match d with | .tup ds => decide (dot N (ds.map intOf) * c < dot N N) | _ => false) (f := λ d => d) (μ := μ) (rs.map aM) λ d hdm => by
    obtain ⟨q, hq, rfl⟩ := Zq.mp hdm
    have sq : ∀ z ∈ q, Sm 40 z := (hr q hq).2
    have e := h3 (aM (N ++ [c])) (aM q) (N ++ [c]) q μ rfl rfl sM (λ z hz => bY (sq z hz) (by decide)) (by simp; omega)
    rw [qY N q (by rw [(hr q hq).1, hN]; exact Zg _)] at e
    have em := cH (x := dot N q) (y := c) μ (oZ (a := 3000) (b := 40) sN sq (by omega)) sc (by decide)
    refine ⟨[some (aM q), some (aM (N ++ [c])), some (.int (dot N N))], by simp, ?_, λ _ => by simp⟩
    show _ = some (decide (dot N ((q.map D.int).map intOf) * c < dot N N), μ)
    rw [ints_map]
    generalize dot N q = S at *
    generalize aM q = Q at *
    generalize aM (N ++ [c]) = M at *
    simp [e, eix, em, -Qp]
   have ev2 : tW n rs (ds.map pairOf) = ((rs.map aM).filter (λ d => match d with | .tup ds => decide (dot N (ds.map intOf) * c < dot N N) | _ => false)).isEmpty := by
    rw [rY (p := λ d => match d with | .tup ds => !decide (dot N (ds.map intOf) * c < dot N N) | _ => true) (rs.map aM) λ x hx => by
     obtain ⟨q, hq, rfl⟩ := Zq.mp hx
     simp [aM]]
    unfold tW
    rw [hm, List.all_map]
    congr 1
    funext q
    show decide (dot (N ++ [c]).dropLast (N ++ [c]).dropLast <= xH (N ++ [c]) * dot (N ++ [c]).dropLast q) = !decide (dot N ((q.map D.int).map intOf) * c < dot N N)
    rw [ints_map]
    have h2 : xH (N ++ [c]) = c := by simp [xH]
    rw [List.dropLast_concat, h2, Int.mul_comm c]
    by_cases h : dot N q * c < dot N N
    .simp [h]
    .have h3 : dot N N <= dot N q * c := by omega
     simp [h, h3]
   rw [ev2]
   rw [hm] at e2
   have hmap : ((rs.map aM).filter (λ d => match d with | .tup ds => decide (dot N (ds.map intOf) * c < dot N N) | _ => false)).map (λ d => d) = (rs.map aM).filter (λ d => match d with | .tup ds => decide (dot N (ds.map intOf) * c < dot N N) | _ => false) := by simp
   rw [hmap] at ef
   have hpure : ∃ qs : List (List Int), (rs.map aM).filter (λ d => match d with | .tup ds => decide (dot N (ds.map intOf) * c < dot N N) | _ => false) = qs.map aM := ⟨_, List.filter_map⟩
   obtain ⟨qs, hqs⟩ := hpure
   obtain ⟨p1, p2⟩ := uE qs
   have en := Li (μ := μ) p1 (by omega)
   rw [<- hqs] at en
   have zz : (rs.map aM).length <= 1000 := by simp; omega
   generalize (rs.map aM).filter (λ d => match d with | .tup ds => decide (dot N (ds.map intOf) * c < dot N N) | _ => false) = FL at *
   generalize aM (N ++ [c]) = M at *
   generalize aM N = NR at *
   generalize dot N N = T at *
   generalize D.tup ds = TD at *
   generalize (rs.length : Int) = m at *
   generalize rs.map aM = PD at *
   unfold iJ
   simp [elen, e1, e2, esl, e3, zz, bQ, ef, en, -iu]
  | _ => simp [cB] at hs
def vo (φ : FF) : Prop := ∀ (L : List Int) (rest : Mu) (js : List Int), DlD L -> js ≠ [] -> js.length < 64 -> (∀ j ∈ js, 0 <= j /\ j < 100) -> ∃ (sh : List (Int × Int)) (L' : List Int), φ [.cell 0, .lst (js.map .int)] (some (L.map .int) :: rest) = some (.tup (sh.map pairD), some (L'.map .int) :: rest) /\ DlD L' /\ sh ≠ [] /\ sh.length <= 4 /\ (∀ p ∈ sh, p.1 ∈ js /\ 1 <= p.2 /\ p.2 <= 1000) /\ (js.Nodup -> (sh.map (·.1)).Pairwise (· < ·))
theorem Ef {φ1 φ2 : FF} (h1 : lR φ1) (h2 : jw φ2) : vo (trunc (aK 5 (gw φ1 φ2))) := λ L rest js hL hne hl hj => by
 obtain ⟨x, L1, e1, hx, hL1⟩ := nW h1 hL rest
 obtain ⟨kz, e2⟩ := xr h2 3 (by decide) (by decide) x (some (L1.map .int) :: rest) js hj
 obtain ⟨ts, e3, hp⟩ := wX kz js
 have hlen : ts.length = js.length := hp.length_eq
 have hpos : 0 < js.length := List.length_pos_iff.mpr hne
 obtain ⟨m, hm⟩ : ∃ m : Int, min 4 (ts.length : Int) = m := ⟨_, rfl⟩
 have hm1 : 1 <= m := by omega
 have hm4 : m <= 4 := by omega
 obtain ⟨q0, q1⟩ := bO (x := x) (m := m) (by omega)
 have eo := gF (x := x) (y := m) (some (L1.map .int) :: rest) (by omega)
 have es := Dw (ds := ts.map D.int) (i := 1 + x.fmod m) (μ := (some (L1.map .int) :: rest)) (by omega)
 rw [<- List.map_take] at es
 have hsub : ∀ j ∈ PySem.W.sortI (ts.take (1 + x.fmod m).toNat), j ∈ js := λ j hjm => hp.mem_iff.mp (List.mem_of_mem_take ((PySem.W.sortI_perm _).mem_iff.mp hjm))
 have hsl : (PySem.W.sortI (ts.take (1 + x.fmod m).toNat)).length = min (1 + x.fmod m).toNat ts.length := by rw [(PySem.W.sortI_perm _).length_eq, List.length_take]
 have e4 : qp ((ts.take (1 + x.fmod m).toNat).map D.int) = some ((PySem.W.sortI (ts.take (1 + x.fmod m).toNat)).map .int) := by
  unfold qp
  rw [if_pos (by rw [Zu, List.length_take]; omega), rM]
 obtain ⟨sh, e5, hf, hs⟩ := uY h2 x ((PySem.W.sortI (ts.take (1 + x.fmod m).toNat)).map .int) (some (L1.map .int) :: rest) (PySem.W.sortI (ts.take (1 + x.fmod m).toNat)) λ j hjm => hj j (hsub j hjm)
 have hris : js.Nodup -> (sh.map (·.1)).Pairwise (· < ·) := λ hn => by
  rw [hf]
  exact BL (hp.nodup_iff.mpr hn)
 have hshl : sh.length = min (1 + x.fmod m).toNat ts.length := by rw [<- hsl, <- hf, Zu]
 refine ⟨sh, L1, ?_, hL1, λ z => by rw [z] at hshl; simp at hshl; omega, by omega, λ p hpm => ⟨hsub p.1 (by rw [<- hf]; exact Zq.mpr ⟨p, hpm, rfl⟩), hs p hpm⟩, hris⟩
 have z6 : (PySem.W.sortI (ts.take (1 + x.fmod m).toNat)).length <= 1000 := by omega
 have hjl : (js.map D.int).length < 64 := by simpa using hl
 have hl3 : (ts.map D.int).length = ts.length := by simp
 generalize PySem.W.sortI (ts.take (1 + x.fmod m).toNat) = ys at *
 generalize (ts.take (1 + x.fmod m).toNat).map D.int = TK at *
 have hz : (ys.map D.int).length <= 1000 := by simpa using z6
 have elen : eU (.lst (ts.map D.int)) (some (L1.map .int) :: rest) = some (.int ts.length, (some (L1.map .int) :: rest)) := by rw [iu, hl3]
 have emin : oN (.int 4) (.int (ts.length : Int)) (some (L1.map .int) :: rest) = some (.int m, (some (L1.map .int) :: rest)) := by rw [JK, hm]
 generalize (ts.length : Int) = tl at *
 generalize ts.map D.int = TD at *
 generalize js.map D.int = JD at *
 generalize ys.map D.int = YD at *
 generalize sh.map pairD = SD at *
 have key : Ok (aK 5 (gw φ1 φ2) [.cell 0, .lst JD] (some (L.map .int) :: rest)) (λ r => r = (.tup SD, (some (L1.map .int) :: rest))) := by
  apply vN
  unfold gw
  simp [e1, hjl, bQ, e2, e3, elen, emin, eo, es, e4, hz, e5, -iu, -JK]
 exact pQ (JG key) rfl
def uK (φ : FF) : Prop := ∀ (L : List Int) (rest : Mu) (n most : Int), DlD L -> jh rest -> 1 <= n -> n <= 20 -> 1 <= most -> most <= 16 -> ∃ (rs : List (List Int)) (L' : List Int), φ [.cell 0, .int n, .int most] (some (L.map .int) :: rest) = some (.lst (rs.map aM), some (L'.map .int) :: rest) /\ DlD L' /\ rs ≠ [] /\ rs.length <= 40 /\ gM n 40 rs
def xX (n : Int) (rest : Mu) (t : D) (μ' : Mu) : Prop := ∃ (rs : List (List Int)) (L' : List Int), t = .lst (rs.map aM) /\ μ' = some (L'.map .int) :: rest /\ DlD L' /\ rs ≠ [] /\ rs.length <= 40 /\ gM n 40 rs
theorem xX.fin {n : Int} {rs : List (List Int)} {L' : List Int} {junk rest : Mu} (hm : jh rest) (hL : DlD L') (h1 : rs ≠ []) (h2 : rs.length <= 40) (h3 : gM n 40 rs) : ∃ μ', (∃ x, (some (L'.map D.int) :: (rest ++ junk) : Mu) = μ' ++ x) /\ μ'.length = rest.length + 1 /\ jh μ' /\ nc (.lst (rs.map aM)) /\ xX n rest (.lst (rs.map aM)) μ' :=
 ⟨some (L'.map .int) :: rest, ⟨junk, rfl⟩, rfl, hm.dr, Mf.mpr λ d h => by
  obtain ⟨q, _, rfl⟩ := Zq.mp h
  exact lF.mpr wy, rs, L', rfl, rfl, hL, h1, h2, h3⟩
theorem yU {φ1 φ2 φ3 : FF} (h1 : lR φ1) (h2 : isArrow φ2) (h3 : zb φ3) : uK (trunc (aK 7 (jg φ1 φ2 φ3))) := λ L rest n most hL hm n1 n2 m1 m2 => by
 suffices key : ∃ t μ', trunc (aK 7 (jg φ1 φ2 φ3)) [.cell 0, .int n, .int most] (some (L.map .int) :: rest) = some (t, μ') /\ xX n rest t μ' by
  obtain ⟨t, μ', e, rs, L', rfl, rfl, h⟩ := key
  exact ⟨rs, L', e, h⟩
 apply Ly
 apply vN
 obtain ⟨x, L1, e1, hx, hL1⟩ := nW h1 hL rest
 have v9 := λ μ => uC (i := x) (j := 9) (μ := μ) (by decide) (by decide)
 have v9000 := λ μ => uC (i := x) (j := 9000) (μ := μ) (by decide) (by decide)
 obtain ⟨j0, j1⟩ := bO (x := x.fdiv 9) (m := most) (by omega)
 have wm := λ μ => gF (x := x.fdiv 9) (y := most) μ (by omega)
 obtain ⟨d0, d1⟩ := bO (x := x) (m := 9) (by decide)
 generalize hmv : (x.fdiv 9).fmod most = mv at *
 obtain ⟨many, hmn⟩ : ∃ many : Int, 1 + mv = many := ⟨_, rfl⟩
 generalize hkd : x.fmod 9 = kd at *
 obtain ⟨rows, L2, e3, hL2, hrl, hr⟩ := Fp h1 h2 n kd n1 n2 (cX 0 many.toNat) rest (cX 0 many.toNat) L1 hL1
 rw [dM] at hrl
 have rm := λ μ => yW (j := many) (μ := μ) (by omega) (by omega)
 have rn := λ μ => yW (j := n) (μ := μ) (by omega) (by omega)
 have zm : many.toNat <= 1000 := by omega
 have zn : n.toNat <= 1000 := by omega
 have hrl16 : rows.length <= 16 := by omega
 have hne : rows ≠ [] := λ z => by rw [z] at hrl; simp at hrl; omega
 unfold jg
 have hkc : kd = 5 ∨ kd = 6 ∨ kd = 7 ∨ kd = 8 ∨ (kd ≠ 5 /\ kd ≠ 6 /\ kd ≠ 7 /\ kd ≠ 8) := by omega
 rcases hkc with rfl | rfl | rfl | rfl | ⟨k5, k6, k7, k8⟩
 .
  have v2 := λ μ => uC (i := many) (j := 2) (μ := μ) (by decide) (by decide)
  have hq0 : 0 <= 1 + many.fdiv 2 := by
   have : 0 <= many.fdiv 2 := Int.fdiv_nonneg (by omega) (by decide)
   omega
  have hc1 : (some (L2.map .int) :: (rest ++ [some (rows.map aY)]) : Mu)[rest.length + 1]? = some (some (rows.map aY)) := by simp
  have es := MJ (i := 1 + many.fdiv 2) hc1 hq0
  rw [<- List.map_take] at es
  generalize hTT : rows.take (1 + many.fdiv 2).toNat = TT at *
  have hTr : ∀ r ∈ TT, r ∈ rows := λ r h => by rw [<- hTT] at h; exact List.mem_of_mem_take h
  have hTl : TT.length <= 16 := by rw [<- hTT, List.length_take]; omega
  have en := Nm (TT.map aY) (some (L2.map .int) :: (rest ++ [some (rows.map aY)])) TT (λ r h => by have := (hr r (hTr r h)).1; omega)
  have zt : (TT.map aY).length <= 1000 := by simp; omega
  have hcat : rows.map aY ++ (TT.map λ (r : List Int) => r.map λ z => 0 - z).map aY = (rows ++ TT.map λ (r : List Int) => r.map λ z => 0 - z).map aY := by rw [List.map_append]
  have hcz : (rows.map aY).length + ((TT.map λ (r : List Int) => r.map λ z => 0 - z).map aY).length <= sizeLine := szl (by simp; omega)
  have hRR : gM n 30 (rows ++ TT.map λ (r : List Int) => r.map λ z => 0 - z) := λ r h => by
   rcases Zm.mp h with z | z
   .exact lX hr (by decide) r z
   .obtain ⟨q, hq, rfl⟩ := Zq.mp z
    obtain ⟨a, b⟩ := hr q (hTr q hq)
    refine ⟨by simp [a], λ y hy => ?_⟩
    obtain ⟨w, hw, rfl⟩ := Zq.mp hy
    exact Em (bY (b w hw) (by decide))
  obtain ⟨rs, et, f1, f2, f3⟩ := lq h3 (x.fdiv 9000) n (rows ++ TT.map λ (r : List Int) => r.map λ z => 0 - z) L2 (some (L2.map .int) :: (rest ++ [some (rows.map aY), none])) n1 n2 (by simp [hne]) (by simp; omega) hRR
  rw [<- hcat] at et
  generalize (TT.map λ (r : List Int) => r.map λ z => 0 - z).map aY = ND at *
  generalize TT.map aY = TD at *
  generalize hRD : rows.map aY = RD at *
  simp [e1, v9, wm, hmv, hmn, hkd, rm, dM, zm, bQ, e3, v2, es, zt, en, jX, hcz, v9000, et]
  exact xX.fin hm hL2 f1 f2 f3
 .
  have hc1 : (some (L2.map .int) :: (rest ++ [some (rows.map aY)]) : Mu)[rest.length + 1]? = some (some (rows.map aY)) := by simp
  have es := Mr n.toNat (cX 0 n.toNat) (some (L2.map .int) :: (rest ++ [some (rows.map aY)])) rows hc1 (by omega) (λ r h => (hr r h).1)
  have hcat : rows.map aY ++ [aY (jJ n.toNat rows)] = (rows ++ [jJ n.toNat rows]).map aY := by rw [List.map_append]; rfl
  have hcz : (rows.map aY).length < sizeLine := Zc (by simp; omega : _ < 1000) (by decide)
  have hRR : gM n 30 (rows ++ [jJ n.toNat rows]) := λ r h => by
   rcases Zm.mp h with z | z
   .exact lX hr (by decide) r z
   .rw [List.mem_singleton.mp z]
    unfold jJ
    refine ⟨by simp, λ y hy => ?_⟩
    obtain ⟨k, hk, rfl⟩ := Zq.mp hy
    have hk := List.mem_range.mp hk
    refine Em ?_
    have hb := wg (b := 20) (rows.map λ r => r.getD k 0) λ w hw => by
     obtain ⟨r, hrm, rfl⟩ := Zq.mp hw
     obtain ⟨a, b⟩ := hr r hrm
     have : r.getD k 0 = r[k] := by simp [List.getD, a, hk]
     rw [this]; exact b _ (List.getElem_mem _)
    rw [Zu] at hb
    have h16 : rows.length * 2 ^ 20 <= 16 * 2 ^ 20 := Nat.mul_le_mul_right _ hrl16
    unfold Sm
    have : (2 : Nat) ^ 30 = 1073741824 := by decide
    have : (2 : Nat) ^ 20 = 1048576 := by decide
    omega
  obtain ⟨rs, et, f1, f2, f3⟩ := lq h3 (x.fdiv 9000) n (rows ++ [jJ n.toNat rows]) L2 (some (L2.map .int) :: (rest ++ [none])) n1 n2 (by simp) (by simp; omega) hRR
  rw [<- hcat] at et
  unfold aY at et
  unfold aY at hcz es e3
  generalize (jJ n.toNat rows).map D.int = SD at *
  generalize rows.map (λ r => D.lst (r.map D.int)) = RD at *
  simp [e1, v9, wm, hmv, hmn, hkd, rm, rn, dM, zm, zn, bQ, e3, es, kZ, iG, hcz, v9000, et]
  exact xX.fin hm hL2 f1 f2 f3
 .
  cases rows with
  | nil => exact absurd rfl hne
  | cons r0 rt =>
   have hc1 : (some (L2.map .int) :: (rest ++ [some ((r0 :: rt).map aY)]) : Mu)[rest.length + 1]? = some (some ((r0 :: rt).map aY)) := by simp
   have es := GQ r0 (some (L2.map .int) :: (rest ++ [some ((r0 :: rt).map aY)])) rt hc1
   have esrc : srcOf (.cell (rest.length + 1)) (some (L2.map .int) :: (rest ++ [some ((r0 :: rt).map aY)])) = some ⟨(r0 :: rt).map aY, some (rest.length + 1)⟩ := by simp [srcOf]
   have hz : ((r0 :: rt).map aY).length <= 1000 := by simp at hrl16 ⊢; omega
   have hRR : gM n 30 ((r0 :: rt).map λ _ => r0) := λ r h => by
    obtain ⟨q, _, rfl⟩ := Zq.mp h
    exact lX hr (by decide) r0 (by simp)
   obtain ⟨rs, et, f1, f2, f3⟩ := lq h3 (x.fdiv 9000) n ((r0 :: rt).map λ _ => r0) L2 (some (L2.map .int) :: (rest ++ [some ((r0 :: rt).map aY), none])) n1 n2 (by simp) (by simp at hrl16 ⊢; omega) hRR
   generalize ((r0 :: rt).map λ _ => r0).map aY = ND at *
   generalize (r0 :: rt).map aY = RD at *
   simp [e1, v9, wm, hmv, hmn, hkd, rm, dM, zm, bQ, e3, esrc, hz, es, v9000, et]
   exact xX.fin hm hL2 f1 f2 f3
 .
  cases rows with
  | nil => exact absurd rfl hne
  | cons r0 rt =>
   have hc1 : (some (L2.map .int) :: (rest ++ [some ((r0 :: rt).map aY)]) : Mu)[rest.length + 1]? = some (some ((r0 :: rt).map aY)) := by simp
   obtain ⟨q1, q2⟩ := hr r0 (by simp)
   have es := Ni many.toNat r0 (cX 0 many.toNat) (some (L2.map .int) :: (rest ++ [some ((r0 :: rt).map aY)])) rt hc1 (by omega) q2
   have hRR : gM n 30 ((List.range many.toNat).map λ j => gq j r0) := λ r h => by
    obtain ⟨j, _, rfl⟩ := Zq.mp h
    unfold gq
    refine ⟨by simp [q1], λ y hy => ?_⟩
    obtain ⟨w, hw, rfl⟩ := Zq.mp hy
    obtain ⟨f0, f1⟩ := bO (x := 0 + (j : Int)) (m := 5) (by decide)
    exact bY (wk (vX (b := 4) 7 (by omega) (by decide)) (q2 w hw)) (by decide)
   obtain ⟨rs, et, f1, f2, f3⟩ := lq h3 (x.fdiv 9000) n ((List.range many.toNat).map λ j => gq j r0) L2 (some (L2.map .int) :: (rest ++ [some ((r0 :: rt).map aY), none])) n1 n2 (λ z => by
    have := congrArg List.length z
    simp at this; omega) (by simp; omega) hRR
   generalize ((List.range many.toNat).map λ j => gq j r0).map aY = ND at *
   generalize (r0 :: rt).map aY = RD at *
   simp [e1, v9, wm, hmv, hmn, hkd, rm, dM, zm, bQ, e3, es, v9000, et]
   exact xX.fin hm hL2 f1 f2 f3
 .have b5 : (kd == 5) = false := by simpa using k5
  have b6 : (kd == 6) = false := by simpa using k6
  have b7 : (kd == 7) = false := by simpa using k7
  have b8 : (kd == 8) = false := by simpa using k8
  obtain ⟨rs, et, f1, f2, f3⟩ := lq h3 (x.fdiv 9000) n rows L2 (some (L2.map .int) :: (rest ++ [none])) n1 n2 hne (by omega) (lX hr (by decide))
  generalize rows.map aY = RD at *
  simp [e1, v9, wm, hmv, hmn, hkd, rm, dM, zm, bQ, e3, b5, b6, b7, b8, v9000, et]
  exact xX.fin hm hL2 f1 f2 f3
end LG
namespace Lk16
open PySem PySem.Spec PyProof.Rows L2 L3 LG
theorem gcd1 : qz iV := λ a b μ => fH (Je a b μ)
theorem gcd2 : qz bJ := λ a b μ => fH (GC a b μ)
theorem Hv : jw aX := λ x k μ h0 h1 => by
 obtain ⟨r, e, h⟩ := Kl x k μ h0 h1
 exact ⟨r, fH e, h⟩
theorem CQ : lR bC := Eo
theorem Mt : wu fW := DY Hv
theorem low' : Ei dD := λ ns b μ h1 h2 h3 h4 => fH (Lb gcd1 ns b μ h1 h2 h3 h4)
theorem num' : Ad dm := Ed
theorem Mg : Ad di := DK
theorem Oz : DN cM := zT num'
theorem MK : yh dX := λ m d μ h => yt Oz m d μ h
theorem Im : uH dw := λ m d μ h => vH MK m d μ h
theorem Pg (k l : Bool) (μ : Mu) : gJ [.bl k, .bl l] μ = some (.bl (k == l), μ) := HQ k l μ
theorem Ii : tO bI := λ ns μ => fH (zy gcd2 ns μ)
theorem Og : zj dY := λ ns μ h1 h2 h3 => fH (IK Ii ns μ h1 h2 h3)
theorem MN : vG fu := λ ns b μ h1 h2 h3 => fH (DP Og ns b μ h1 h2 h3)
theorem PX : zc fY := Hr (xR JZ) MN
theorem near' : qP cQ := Ia Im PX Jd
theorem Ow (many : Int) (d : D) (μ : Mu) (h : nc d) : cN [.int many, d] μ = some (.bl (cB many d), μ) := ud Mg many d μ h
theorem Nq : vR bU := FJ low'
theorem GZ : zG cA := GP
theorem Ks : qP dW := DG Ow Nq GZ
theorem PN : vo eO := Ef CQ Hv
theorem Ik : uK fG := yU CQ (Dn Hv) (Jr Hv)
theorem pC {sh : List (Int × Int)} (h : ∀ p ∈ sh, Sm 2000 p.2) (hl : sh.length <= 60) : ThB (.tup (sh.map LG.pairD)) := ⟨lF.mpr λ e he => by
 obtain ⟨q, _, rfl⟩ := Zq.mp he
 exact lF.mpr (wy (ns := [q.1, q.2])), λ ds e => by
 cases e
 refine ⟨by simpa using hl, λ k s hm => ?_⟩
 obtain ⟨q, hq, e⟩ := Zq.mp hm
 unfold LG.pairD at e
 cases e
 exact h q hq⟩
def Th6 (t : D) : Prop := t = .non ∨ ThB t
theorem two' {n : Int} {rs : List (List Int)} (hr : gM n 40 rs) (n2 : n <= 20) (k j : Int) (μ : Mu) (k0 : 0 <= k) (k1 : k < rs.length) (j0 : 0 <= j) (j1 : j < rs.length) : ∃ t, cV [.lst (rs.map aM), .int k, .int j] μ = some (t, μ) /\ Th6 t := by
 obtain ⟨ak, mk⟩ := iR (F := aM) (l := rs) (k := k) (z := []) k0 k1
 obtain ⟨aj, mj⟩ := iR (F := aM) (l := rs) (k := j) (z := []) j0 j1
 have hk := hr _ mk
 have hj := hr _ mj
 generalize rs.getD k.toNat [] = a at *
 generalize rs.getD j.toNat [] = b at *
 have up : ∀ r : List Int, (∀ z ∈ r, Sm 40 z) -> ∀ z ∈ r, Sm 9000 z := λ r h z hz => bY (h z hz) (by decide)
 have d1 := GZ (aM b) (aM b) b b μ rfl rfl (up b hj.2) (up b hj.2) (by omega)
 have d2 := GZ (aM a) (aM b) a b μ rfl rfl (up a hk.2) (up b hj.2) (by omega)
 have d3 := GZ (aM a) (aM a) a a μ rfl rfl (up a hk.2) (up a hk.2) (by omega)
 have s1 : Sm 90 (dot b b) := oZ (a := 40) (b := 40) hj.2 hj.2 (by omega)
 have s2 : Sm 90 (dot a b) := oZ (a := 40) (b := 40) hk.2 hj.2 (by omega)
 have s3 : Sm 90 (dot a a) := oZ (a := 40) (b := 40) hk.2 hk.2 (by omega)
 have t1 : Sm 2000 (dot b b - dot a b) := by unfold Sm at *; exact Zc (by omega : _ < 2 * 2 ^ 90) (by rw [<- Nat.pow_succ']; exact Nat.pow_le_pow_right (by decide) (by decide))
 have t2 : Sm 2000 (dot a a - dot a b) := by unfold Sm at *; exact Zc (by omega : _ < 2 * 2 ^ 90) (by rw [<- Nat.pow_succ']; exact Nat.pow_le_pow_right (by decide) (by decide))
 generalize hx : dot b b - dot a b = x at *
 generalize hy : dot a a - dot a b = y at *
 generalize dot b b = bb at *
 generalize dot a b = ab at *
 generalize dot a a = aa at *
 generalize aM a = A at *
 generalize aM b = B at *
 generalize rs.map aM = PD at *
 by_cases hz : x <= 0 ∨ y <= 0
 .refine ⟨.non, bV ?_, .inl rfl⟩
  unfold ie
  rcases hz with h | h
  .simp [ak, aj, d1, d2, d3, hx, hy, h]
  .by_cases h' : x <= 0
   .simp [ak, aj, d1, d2, d3, hx, hy, h']
   .simp [ak, aj, d1, d2, d3, hx, hy, h, h']
 .have z1 : ¬ x <= 0 := λ h => hz (.inl h)
  have z2 : ¬ y <= 0 := λ h => hz (.inr h)
  refine ⟨.tup ([(k, x), (j, y)].map LG.pairD), bV ?_, .inr (pC (λ p hp => ?_) (by simp))⟩
  .unfold ie
   simp [ak, aj, d1, d2, d3, hx, hy, z1, z2, LG.pairD]
  .simp only [Zi, List.not_mem_nil, or_false] at hp
   rcases hp with rfl | rfl
   .exact t1
   .exact t2
theorem tu {c : Nat} {all : List D} {h : GF} {b : SF} {QS : Post (Fl × En × Mu)} (I : List D -> En -> Mu -> Prop) (hc : ∀ its δ μ, I its δ μ -> μ[c]? = some (some all))
  (turn : ∀ d r δ μ, I (d :: r) δ μ -> OkI (h d δ μ) (Q := ⟨λ δ1 => OkI (b δ1 μ) (Q := ⟨uG (I r) QS⟩)⟩)) (fin : ∀ δ μ, I [] δ μ -> QS.run (.nx, δ, μ)) :
  ∀ (its : List D) (δ : En) (μ : Mu), I its δ μ -> OkI (forL ⟨all, some c⟩ h b its δ μ) (Q := QS)
 | [], δ, μ, hI => by
  have ok : Src.ok ⟨all, some c⟩ μ := λ n e => by cases e; exact hc _ _ _ hI
  unfold forL; rw [if_pos ok, Ax]; exact fin δ μ hI
 | d :: r, δ, μ, hI => by
  have ok : Src.ok ⟨all, some c⟩ μ := λ n e => by cases e; exact hc _ _ _ hI
  unfold forL
  rw [if_pos ok, dJ]
  refine (turn d r δ μ hI).mono λ δ1 h1 => ?_
  rw [wJ] at h1 ⊢
  rw [dJ]
  refine h1.mono λ q h2 => ?_
  rw [wJ] at h2 ⊢
  obtain ⟨fl, δ', μ'⟩ := q
  cases fl with
  | nx => exact tu (all := all) I hc turn fin r δ' μ' h2
  | ct => exact tu (all := all) I hc turn fin r δ' μ' h2
  | bk => exact ⟨_, rfl, h2⟩
  | rt d => exact ⟨_, rfl, h2⟩
theorem Io (μ : Mu) (all : List D) (js : List Int) : lcL ⟨all, none⟩ (hName 0) aQ (MC (aq (MC (aq (ao 0) (aq (mC (.int 1)) (aG))) oTup) (aG)) oTup) [none] (js.map D.int) μ = some (js.map (λ j => D.tup ([(j, (1 : Int))].map LG.pairD)), μ) :=
 cC (F := D.int) js λ j hj => ⟨[some (.int j)], by simp, by simp [LG.pairD]⟩
theorem Be (js : List Int) (hne : js ≠ []) (hl : js.length < 64) (hj : ∀ j ∈ js, 0 <= j /\ j < 100) (all : List D) (rest : Mu) : ∀ (its : List D) (L : List Int), DlD L -> ∃ (ts : List D) (L' : List Int),
  lcL ⟨all, none⟩ (hName 0) aQ (MC (aq (ao 1) (aq (ao 2) (aG))) eO) [none, some (.cell 0), some (.lst (js.map .int))] its (some (L.map .int) :: rest) = some (ts, some (L'.map .int) :: rest) /\ DlD L' /\ ts.length = its.length /\ ∀ t ∈ ts, ThB t
 | [], L, hL => ⟨[], L, by unfold lcL; simp [bj], hL, rfl, λ r h => by cases h⟩
 | i :: its, L, hL => by
  obtain ⟨sh, L1, e1, hL1, _, hq, hs, _⟩ := PN L rest js hL hne hl hj
  obtain ⟨ts, L', e, hL', hl', ht⟩ := Be js hne hl hj all rest its L1 hL1
  have hT : ThB (.tup (sh.map LG.pairD)) := pC (λ p hp => bY (vX (b := 10) 1001 (by have := (hs p hp).2; omega) (by decide)) (by decide)) (by omega)
  refine ⟨.tup (sh.map LG.pairD) :: ts, L', ?_, hL', by simp [hl'], λ q hq' => ?_⟩
  .generalize D.tup (sh.map LG.pairD) = T at *
   generalize js.map D.int = JD at *
   unfold lcL
   simp [bj, aQ, e1, e]
  .rcases Zi.mp hq' with z | z
   .rw [z]; exact hT
   .exact ht q z
theorem FT {n : Int} {rs : List (List Int)} (hr : gM n 40 rs) (n2 : n <= 20) (k : Int) (k0 : 0 <= k) (k1 : k < rs.length) (all : List D) (μ : Mu) : ∀ (js : List Int), (∀ j ∈ js, 0 <= j /\ j < rs.length) -> ∃ ts : List D,
  lcL ⟨all, none⟩ (hName 0) (toB (M2 (ao 0) (ao 2) oGt)) (MC (aq (ao 1) (aq (ao 2) (aq (ao 0) (aG)))) cV) [none, some (.lst (rs.map aM)), some (.int k)] (js.map .int) μ = some (ts, μ) /\ ts.length <= js.length /\ ∀ t ∈ ts, Th6 t
 | [], _ => ⟨[], by unfold lcL; simp [bj], by simp, λ r h => by cases h⟩
 | j :: js, hj => by
  obtain ⟨j0, j1⟩ := hj j (by simp)
  obtain ⟨t, e1, ht⟩ := two' hr n2 k j μ k0 k1 j0 j1
  obtain ⟨ts, e, hl, hq⟩ := FT hr n2 k k0 k1 all μ js λ i hi => hj i (by simp [hi])
  generalize rs.map aM = PD at *
  by_cases hkj : k < j
  .refine ⟨t :: ts, ?_, by simp; omega, λ q hq' => ?_⟩
   .rw [Zj]
    unfold lcL
    simp [bj, hkj, e1, e]
   .rcases Zi.mp hq' with z | z
    .rw [z]; exact ht
    .exact hq q z
  .refine ⟨ts, ?_, by simp; omega, hq⟩
   rw [Zj]
   unfold lcL
   simp [bj, hkj, e]
theorem Th6.nc {t : D} (h : Th6 t) : nc t := by
 rcases h with rfl | h
 .simp [LG.nc, cLt]
 .exact h.1
theorem Lr {f : EF} {lf : LF} {δ : En} {o : Option (List D)} {junk : Mu} {acc ts : List D} (h1 : f δ (o :: (junk ++ [some acc])) = some (.cell (junk.length + 1), o :: (junk ++ [some acc]))) (h2 : lf δ (o :: (junk ++ [some acc])) = some (ts, o :: (junk ++ [some acc]))) (hl : acc.length + ts.length <= sizeLine) :
  CJ f lf δ (o :: (junk ++ [some acc])) = some (.non, o :: (junk ++ [some (acc ++ ts)])) := by
 unfold CJ
 rw [h1]
 simp only [Option.bind_some]
 rw [h2]
 simp [iG, hl]
theorem HX (ns : List Int) (h : ns.length <= 63) : ∃ μ', zp [.ro (ns.map .int)] [] = some (.bl true, μ') := by
 apply IV
 obtain ⟨L, eD, hL⟩ := Fq Mt ns h
 apply vN
 unfold oX
 simp [eD, yW (j := 5) (by decide) (by decide)]
 refine lW (λ its δ μ => ∃ L junk o2 o3 o4 o5 o6 o7 o8, DlD L /\ jh junk /\ μ = some (L.map .int) :: junk /\ δ = [some (.ro (ns.map .int)), some (.cell 0), o2, o3, o4, o5, o6, o7, o8]) ?_ ?_ _ _ _ ⟨L, [], none, none, none, none, none, none, none, hL, jh.nil, rfl, rfl⟩
 .rintro dd rest δ μ ⟨L, junk, o2, o3, o4, o5, o6, o7, o8, hL, hmu, rfl, rfl⟩
  obtain ⟨x, L1, e1, hx, hL1⟩ := nW CQ hL junk
  obtain ⟨m0, m1⟩ := bO (x := x) (m := 6) (by decide)
  obtain ⟨n, hn⟩ : ∃ n : Int, 1 + x.fmod 6 = n := ⟨_, rfl⟩
  obtain ⟨rs, L2, e2, hL2, hne, hl, hr⟩ := Ik L1 junk n 8 hL1 hmu (by omega) (by omega) (by decide) (by decide)
  obtain ⟨many, hmany⟩ : ∃ z : Int, z = rs.length := ⟨_, rfl⟩
  have hm1 : 1 <= many := by
   have := List.length_pos_iff.mpr hne
   omega
  have elen : ∀ μ, eU (.lst (rs.map aM)) μ = some (.int many, μ) := λ μ => by rw [iu, Zu, hmany]
  have rl := λ μ => Qg (j := many) (μ := μ) (by omega) (szl (by omega)) (by omega)
  simp only [Lz] at rl
  have hjs : ∀ j ∈ iM many, 0 <= j /\ j < rs.length := λ j hj => by have := Kh j hj; omega
  have hjl : (iM many).length <= 40 := by rw [CP]; omega
  have hjne : iM many ≠ [] := λ z => by
   have := congrArg List.length z
   rw [CP] at this; simp at this; omega
  have c1 := λ μ => Io μ ((iM many).map D.int) (iM many)
  obtain ⟨ts, L3, c2, hL3, htl, hts⟩ := Be (iM many) hjne (by omega) (λ j hj => by have := hjs j hj; omega) ((iM many).map D.int) junk ((iM many).map D.int) L2 hL2
  have hO : ∀ t ∈ (iM many).map (λ j => D.tup ([(j, (1 : Int))].map LG.pairD)), Th6 t := λ t ht => by
   obtain ⟨j, _, rfl⟩ := Zq.mp ht
   exact .inr (pC (λ p hp => by rw [List.mem_singleton.mp hp]; exact vX 2 (by show (1 : Int).natAbs < 2; decide) (by decide)) (by simp))
  have hOl : ((iM many).map (λ j => D.tup ([(j, (1 : Int))].map LG.pairD))).length <= 40 := by simpa using hjl
  have htl : ts.length <= 40 := by rw [htl]; simpa using hjl
  have zz : ((iM many).map D.int).length <= 1000 := by simp; omega
  have c3 := λ (k : Int) (k0 : 0 <= k) (k1 : k < rs.length) (μ : Mu) => FT hr (by omega) k k0 k1 ((iM many).map D.int) μ (iM many) hjs
  have q1 := λ t μ (ht : ThB t) => near' n rs t μ (by omega) (by omega) hne hl hr ht
  have q2 := λ t μ (ht : ThB t) => Ks n rs t μ (by omega) (by omega) hne hl hr ht
  have hits : ∀ d ∈ (iM many).map D.int, ∃ k : Int, d = .int k /\ 0 <= k /\ k < rs.length := λ d hd => by
   obtain ⟨k, hk, rfl⟩ := Zq.mp hd
   exact ⟨k, rfl, hjs k hk⟩
  have hJl : ((iM many).map D.int).length <= 40 := by simpa using hjl
  generalize (iM many).map (λ j => D.tup ([(j, (1 : Int))].map LG.pairD)) = OD at *
  have z1 : OD.length + ts.length <= sizeLine := szl (by omega)
  generalize hJD : (iM many).map D.int = JD at *
  generalize hPD : rs.map aM = PD at *
  simp [e1, hn, e2, elen, rl, zz, bQ, c1, c2, z1, -iu]
  refine lW (λ its δ μ => ∃ acc o6, (∀ d ∈ its, ∃ k : Int, d = .int k /\ 0 <= k /\ k < rs.length) /\ acc.length + 40 * its.length <= 1700 /\ (∀ t ∈ acc, Th6 t) /\ μ = some (L3.map .int) :: (junk ++ [some acc]) /\ δ = [some (.ro (ns.map .int)), some (.cell 0), some dd, some (.lst PD), some (.lst JD), some (.cell (junk.length + 1)), o6, o7, o8]) ?_ ?_ _ _ _ ⟨OD ++ ts, o6, hits, by simp; omega, λ t ht => ?_, rfl, rfl⟩
  .rintro d6 rest6 δ μ ⟨acc, p6, hk6, ha, hT, rfl, rfl⟩
   obtain ⟨k, rfl, k0, k1⟩ := hk6 d6 (by simp)
   obtain ⟨us, f1, hul, hut⟩ := c3 k k0 k1 (some (L3.map .int) :: (junk ++ [some acc]))
   have hz : acc.length + us.length <= sizeLine := Zl (show _ <= 5000 by simp at ha; omega) (by decide)
   have f2 := Lr (f := ao 5) (lf := lLC ["_law_j"] [3, 6] (cj (ao 4)) (hName 0) (toB (M2 (ao 0) (ao 2) oGt)) (MC (aq (ao 1) (aq (ao 2) (aq (ao 0) (aG)))) cV)) (δ := [some (.ro (ns.map .int)), some (.cell 0), some dd, some (.lst PD), some (.lst JD), some (.cell (junk.length + 1)), some (.int k), o7, o8]) (o := some (L3.map .int)) (junk := junk) (acc := acc) (ts := us) (by simp) (by simp [zz, bQ, f1]) hz
   generalize lLC ["_law_j"] [3, 6] (cj (ao 4)) (hName 0) (toB (M2 (ao 0) (ao 2) oGt)) (MC (aq (ao 1) (aq (ao 2) (aq (ao 0) (aG)))) cV) = LF at *
   simp [f2]
   refine ⟨λ d hd => hk6 d (by simp [hd]), by simp at ha; omega, λ t ht => ?_⟩
   rcases ht with z | z
   .exact hT t z
   .exact hut t z
  .rintro δ μ ⟨acc, p6, _, ha, hT, rfl, rfl⟩
   have esrc : srcOf (.cell (junk.length + 1)) (some (L3.map .int) :: (junk ++ [some acc])) = some ⟨acc, some (junk.length + 1)⟩ := by simp [srcOf]
   simp [esrc]
   refine tu (λ its δ μ => ∃ p7 p8, (∀ t ∈ its, Th6 t) /\ μ = some (L3.map .int) :: (junk ++ [some acc]) /\ δ = [some (.ro (ns.map .int)), some (.cell 0), some dd, some (.lst PD), some (.lst JD), some (.cell (junk.length + 1)), p6, p7, p8]) (λ its δ μ ⟨_, _, _, e, _⟩ => by rw [e]; simp) ?_ ?_ _ _ _ ⟨o7, o8, hT, rfl, rfl⟩
   .rintro d7 rest7 δ μ ⟨p7, p8, h7, rfl, rfl⟩
    have ht := h7 d7 (by simp)
    cases hb : nG d7 with
    | true =>
     simp [hb]
     exact λ t h => h7 t (by simp [h])
    | false =>
     have hB : ThB d7 := by
      rcases ht with z | z
      .rw [z] at hb; cases hb
      .exact z
     have g1 := q1 d7 (some (L3.map .int) :: (junk ++ [some acc])) hB
     have g2 := q2 d7 (some (L3.map .int) :: (junk ++ [some acc])) hB
     generalize uz n rs d7 = v at *
     simp [hb, g1, g2, Pg]
     exact λ t h => h7 t (by simp [h])
   .rintro δ μ ⟨p7, p8, _, rfl, rfl⟩
    simp
    exact ⟨L3, hL3, Ko hmu (λ d hd => (hT d hd).nc), rfl⟩
  .rcases Zm.mp ht with z | z
   .exact hO t z
   .exact .inr (hts t z)
 .rintro δ μ ⟨L, junk, o2, o3, o4, o5, o6, o7, o8, hL, hmu, rfl, rfl⟩
  simp
end Lk16
def PySem.W.Fast.tw10196422762493340308 := 0
def PySem.W.Fast.tw10434598353613422675 := 0
def PySem.W.Fast.tw11652161696102800009 := 0
def PySem.W.Fast.tw11890772424098906725 := 0
def PySem.W.Fast.tw12478810318494622273 := 0
def PySem.W.Fast.tw1349305318760736077 := 0
def PySem.W.Fast.tw14147317726257889194 := 0
def PySem.W.Fast.tw14721129302490087878 := 0
def PySem.W.Fast.tw1583033326622281935 := 0
def PySem.W.Fast.tw16568169844436240817 := 0
def PySem.W.Fast.tw17121166381736046626 := 0
def PySem.W.Fast.tw17417037981295700820 := 0
def PySem.W.Fast.tw17758251264958693699 := 0
def PySem.W.Fast.tw17842983607859161063 := 0
def PySem.W.Fast.tw17928245928416798966 := 0
def PySem.W.Fast.tw17959676464083201628 := 0
def PySem.W.Fast.tw18097491873542525671 := 0
def PySem.W.Fast.tw1823380095146145554 := 0
def PySem.W.Fast.tw2385390487427631970 := 0
def PySem.W.Fast.tw2389004338348058067 := 0
def PySem.W.Fast.tw258161674880392182 := 0
def PySem.W.Fast.tw3281803222364380331 := 0
def PySem.W.Fast.tw4554654156805471625 := 0
def PySem.W.Fast.tw4622078396196506494 := 0
def PySem.W.Fast.tw4859378295353177622 := 0
def PySem.W.Fast.tw5137356836727350699 := 0
def PySem.W.Fast.tw5289562138741074093 := 0
def PySem.W.Fast.tw5390792464417730900 := 0
def PySem.W.Fast.tw5952983668716743581 := 0
def PySem.W.Fast.tw611380695534772376 := 0
def PySem.W.Fast.tw6629481000177515665 := 0
def PySem.W.Fast.tw6850614251546416907 := 0
def PySem.W.Fast.tw8056339205180632966 := 0
def PySem.W.Fast.tw9414049726484213768 := 0
def PySem.W.Fast.tw9444777773404577185 := 0
def PySem.W.Fast.tw9679700170489799168 := 0
def PySem.W.Fast.tw9731598038101589446 := 0
def PySem.W.Fast.tw9951859212508380849 := 0
open PySem PySem.W PyProof.Rows
set_option maxRecDepth 100000 in
set_option maxHeartbeats 0 in
theorem PySem.Challenge.cw_heapsmeet_k16_near_papers_made_up_holds : PySem.Challenge.rw_heapsmeet_k16_near_papers_made_up.Holds := by
 w_on; o_law; k_head; (case hw => w_witness2)
 k_fill
 refine L3.Ea (l := PySem.Challenge.rw_heapsmeet_k16_near_papers_made_up) (n := 63) (k := 9) (x := "_law_script") (φ := Lk16.zp) rfl (by decide) rfl ⟨rfl, by decide, by decide⟩ (λ w h Y => by first | exact PySem.W.kIn_of Y | exact PySem.W.km_in_of Y) ?F ?S
 case F =>
  intro w mg mb mean lo fa h KX G hmg
  apply Lk16.Kp KX G hmg <;> first | (apply L3.JQ <;> first | k_is | rfl) | k_is | rfl
 case S => exact λ ns hl => Lk16.HX ns hl
