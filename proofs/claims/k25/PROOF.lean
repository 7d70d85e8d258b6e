import PyProof.Rows.All
import Wide.All
import OpenK.AllK
import Wide.FinOn
import Lean
import PyProof.EqAt
import PyProof.EqKinds
import PyProof.TupleCall
import PySem.Challenge.RW_heapsmeet_k25_no_papers
set_option Elab.async false
abbrev Za := @Option.bind_eq_some_iff
abbrev Zb := @PySem.Heap.get?_push_of_some
abbrev Zc := @Nat.lt_of_lt_of_le
abbrev Zd := @List.size_toArray
abbrev Ze := @PySem.Heap.lt_size
abbrev Zf := @PySem.Heap.get?_push_size
abbrev Zg := @Nat.le_refl
abbrev Zh := @List.getElem?_eq_some_iff
abbrev Zi := @List.mem_cons
abbrev Zj := @List.map_cons
abbrev Zk := @Nat.ne_of_lt
abbrev Zl := @Nat.le_trans
abbrev Zm := @List.mem_append
abbrev Zn := @List.mem_append_right
abbrev Zo := @Bool.and_eq_true
abbrev Zp := @Option.map_eq_some_iff
abbrev Zq := @List.mem_map
abbrev Zr := @Bool.false_ne_true
abbrev Zs := @List.getElem?_append_left
abbrev Zt := @PySem.mem_of_lookup
abbrev Zu := @List.length_map
set_option linter.all false
set_option maxRecDepth 100000
namespace L2
open PySem PySem.Spec PyProof.Rows
abbrev Key := Sum Int Str
def wH : Key -> Value -> Bool
 | .inl k, v => Value.isInt k v
 | .inr x, v => Value.isStrOf x v
def keyH (w : World) : Key -> Int
 | .inl k => hashInt k
 | .inr x => hashStr w x
theorem dW : ∀ {k : Key} {v : Value}, wH k v = true -> (∃ i t, k = Sum.inl i /\ v = Value.int i t) ∨ (∃ x t, k = Sum.inr x /\ v = Value.str x t)
 | .inl i, v, h => by
  obtain ⟨t, e⟩ := Value.isInt_shape (k := i) (v := v) h;exact .inl ⟨i, t, rfl, e⟩
 | .inr x, v, h => by
  obtain ⟨t, e⟩ := Value.isStrOf_shape (x := x) (v := v) h;exact .inr ⟨x, t, rfl, e⟩
theorem Hx (i : Int) (t : Tok) : wH (.inl i) (.int i t) = true := by simp [wH, Value.isInt]
theorem Gu (x : Str) (t : Tok) : wH (.inr x) (.str x t) = true := by simp [wH, Value.isStrOf]
theorem Rz (a b : Int) : decide ((Sum.inl a : Key) = Sum.inl b) = (a == b) := by
 by_cases e : a = b
 .subst e; simp
 .have h : ¬ (Sum.inl a : Key) = Sum.inl b := λ q => e (Sum.inl.inj q);rw [decide_eq_false h];exact (beq_eq_false_iff_ne.mpr e).symm
theorem Rw (a b : Str) : decide ((Sum.inr a : Key) = Sum.inr b) = decide (a = b) := by
 by_cases e : a = b
 .subst e; simp
 .have h : ¬ (Sum.inr a : Key) = Sum.inr b := λ q => e (Sum.inr.inj q);rw [decide_eq_false h, decide_eq_false e]
theorem Rj (a : Int) (b : Str) : decide ((Sum.inl a : Key) = Sum.inr b) = false := decide_eq_false (λ q => nomatch q)
theorem Tp (a : Str) (b : Int) : decide ((Sum.inr a : Key) = Sum.inl b) = false := decide_eq_false (λ q => nomatch q)
def jo (prog : Program) (w : World) : PySem.KeyKind prog w Key where
 is := wH
 hash := keyH w
 inj := λ v a b ha hb => by
  rcases dW ha with ⟨i, t, rfl, rfl⟩ | ⟨x, t, rfl, rfl⟩
  .rcases dW hb with ⟨j, u, rfl, e⟩ | ⟨y, u, rfl, e⟩
   .injection e with e1 _; rw [e1]
   .exact nomatch e
  .rcases dW hb with ⟨j, u, rfl, e⟩ | ⟨y, u, rfl, e⟩
   .exact nomatch e
   .injection e with e1 _; rw [e1]
 byValue := λ k v h => by
  rcases dW h with ⟨i, t, rfl, rfl⟩ | ⟨x, t, rfl, rfl⟩ <;> rfl
 pyHash := λ hv h => by
  rcases dW hv with ⟨i, t, rfl, rfl⟩ | ⟨x, t, rfl, rfl⟩
  .exact wpAny_pyHash_int h
  .exact wpAny_pyHash_str h
 eqBool := λ hu hv h => by
  rcases dW hu with ⟨i, t, rfl, rfl⟩ | ⟨x, t, rfl, rfl⟩
  .rcases dW hv with ⟨j, u, rfl, rfl⟩ | ⟨y, u, rfl, rfl⟩
   .rw [Rz] at h; exact wpAny_eqBool_int h
   .rw [Rj] at h; exact SeqAt.EqAt.int_str i t y u _ _ _ _ h
  .rcases dW hv with ⟨j, u, rfl, rfl⟩ | ⟨y, u, rfl, rfl⟩
   .rw [Tp] at h; exact SeqAt.EqAt.str_int x t j u _ _ _ _ h
   .rw [Rw] at h; exact wpAny_eqBool_str h
 «strs» := λ k x t v h => by
  rcases dW h with ⟨i, u, rfl, e⟩ | ⟨y, u, rfl, e⟩
  .exact nomatch e
  .injection e with e1 _
   subst e1;cases v <;> rfl
theorem zF (prog : Program) (w : World) (i : Int) (t : Tok) : (jo prog w).is (.inl i) (.int i t) = true := Hx i t
theorem Bx (prog : Program) (w : World) (x : Str) (t : Tok) : (jo prog w).is (.inr x) (.str x t) = true := Gu x t
inductive V where
 | non | bl (b : Bool) | int (i : Int) | str (x : Str) | byt (b : Array UInt8) | flt (b : UInt64) | ref (a : Addr) | ty (n : String)
 deriving DecidableEq
def RelV : V -> Value -> Prop
 | .non, u => u = Value.none
 | .bl b, u => u = Value.bool b
 | .int i, u => ∃ t, u = Value.int i t
 | .str x, u => ∃ t, u = Value.str x t
 | .byt b, u => ∃ t, u = Value.bytes b t
 | .flt b, u => ∃ t, u = Value.float b t
 | .ref a, u => u = Value.ref a
 | .ty n, u => u = Value.type n
abbrev Vals : List V -> List Value -> Prop := Paired RelV
theorem Vals.length (r : Vals xs us) : xs.length = us.length := Paired.length r
theorem Vals.get : ∀ {xs : List V} {us : List Value} {i : Nat} {x : V}, Vals xs us -> xs[i]? = some x -> ∃ u, us[i]? = some u /\ RelV x u
 | _, _, _, _, .nil, e => by simp at e
 | _, _, 0, _, .cons r _, e => by simp at e; subst e; exact ⟨_, rfl, r⟩
 | _, _, i + 1, x, .cons _ t, e => by
  obtain ⟨u, h1, h2⟩ := Vals.get (i := i) (x := x) t (by simpa using e)
  exact ⟨u, by simpa using h1, h2⟩
theorem Vals.set (r : RelV x u) : ∀ {xs : List V} {us : List Value} (i : Nat), Vals xs us -> Vals (xs.set i x) (us.set i u)
 | _, _, _, .nil => .nil
 | _, _, 0, .cons _ t => .cons r t
 | _, _, i + 1, .cons q t => .cons q (Vals.set r i t)
theorem Vals.append : ∀ {xs ys : List V} {us ws : List Value}, Vals xs us -> Vals ys ws -> Vals (xs ++ ys) (us ++ ws)
 | _, _, _, _, .nil, s => s
 | _, _, _, _, .cons r t, s => .cons r (Vals.append t s)
theorem Vals.take : ∀ {xs : List V} {us : List Value} (n : Nat), Vals xs us -> Vals (xs.take n) (us.take n)
 | _, _, 0, _ => .nil
 | _, _, _ + 1, .nil => .nil
 | _, _, n + 1, .cons r t => .cons r (Vals.take n t)
theorem Vals.drop : ∀ {xs : List V} {us : List Value} (n : Nat), Vals xs us -> Vals (xs.drop n) (us.drop n)
 | _, _, 0, r => r
 | _, _, _ + 1, .nil => .nil
 | _, _, n + 1, .cons _ t => Vals.drop n t
theorem Vals.none_of : ∀ {xs : List V} {us : List Value} {i : Nat}, Vals xs us -> xs[i]? = none -> us[i]? = none := λ {xs us i} r e => by
 have h1 := r.length;have h2 : xs.length <= i := List.getElem?_eq_none_iff.mp e;exact List.getElem?_eq_none_iff.mpr (by omega)
def Ut : Option V -> Option Value -> Prop
 | some v, some u => RelV v u
 | none, none => True
 | _, _ => False
def KV {κ : Type} : List (κ × V) -> List (κ × Value) -> Prop := Paired λ (p : κ × V) (q : κ × Value) => p.1 = q.1 /\ RelV p.2 q.2
def kV : Key -> V
 | .inl i => .int i
 | .inr x => .str x
inductive HO where
 | lst (xs : List V)
 | tup (xs : List V)
 | dK (kvs : List (Key × V)) | dT (kvs : List (List Key × V))
 | set (S : Int -> Bool) (n : Nat)
 | ins (C dx : Addr) (fs : List (Str × V))
 | own (x : Addr)
 | xd (fs : List (Str × V))
 | met (f x : Addr)
 | rng (lo hi : Int)
 | frz (o : Obj) (u : HO)
 | tbl (ps : Array Value)
 | ext (φ : Heap -> Prop)
abbrev Hp := Addr -> Option HO
def upd (H : Hp) (a : Addr) (o : HO) : Hp := λ b => if b = a then some o else H b
theorem dG : upd H a o a = some o := by unfold upd; rw [if_pos rfl]
theorem aR (h : b ≠ a) : upd H a o b = H b := by unfold upd; rw [if_neg h]
theorem Ao {H : Hp} {a b : Addr} {o u : HO} (h : H a = some o) (h' : H b = some u) (d : o ≠ u) : a ≠ b := by
 intro e; subst e; rw [h] at h'; exact d (Option.some.inj h')
theorem cG {H : Hp} {a b : Addr} {o : HO} (h : H a = some o) (h' : H b = none) : a ≠ b := by
 intro e; subst e; rw [h] at h'; cases h'
section
variable (P : Program) (w : World)
def gM (H : Hp) (h : Heap) (a : Addr) : HO -> Prop
 | .lst xs => xs.length <= sizeLine /\ ∃ (its : List Value) (n : Nat), Vals xs its /\ h.get? a = some { cls := .type "list", data := .seq its.toArray n }
 | .tup xs => xs.length <= sizeLine /\ ∃ its : List Value, Vals xs its /\ IsTup h a its.toArray
 | .dK kvs => kvs.length <= sizeLine /\ (a == sysModules) = false /\ ∃ vs, KV kvs vs /\ h.DictOf (jo P w) a vs
 | .dT kvs => kvs.length <= sizeLine /\ (a == sysModules) = false /\ ∃ xs : List (List Key × Addr × Value),
   Paired (λ (p : List Key × V) (q : List Key × Addr × Value) => p.1 = q.1 /\ H q.2.1 = some (.tup (p.1.map kV)) /\ RelV p.2 q.2.2) kvs xs /\
   ∃ o es ep, h.get? a = some o /\ o.ExactDict /\ o.data = .dict es ep /\ es.toList = xs.map (entryOfKey (tupleKind (jo P w))) /\ (xs.map (·.1)).Nodup
 | .set S n => h.SetOf (intKind P w) a S n
 | .ins C dx fs => H dx = some (.own a) /\ fs.length <= 1000 /\ dx ≠ a /\ h.get? a = some (PySem.W.instObj C dx) /\
   ∃ mA, h.Ns1 dx mA /\ (∀ f, Ut (fs.lookup f) (mA f)) /\ PySem.Within mA (fs.map (·.1))
 | .own _ => ∃ o, h.get? a = some o
 | .xd fs => ∃ mA, h.Ns1 a mA /\ ∀ f, Ut (fs.lookup f) (mA f)
 | .rng lo hi => ∃ t u v, h.get? a = some { cls := .type "range", data := .fields #[.int lo t, .int hi u, .int 1 v] }
 | .frz o u => h.get? a = some o /\ gM H h a u
 | .tbl ps => h.get? a = some { cls := .none, data := .fields ps }
 | .met f x => h.get? a = some (PySem.W.methodObj (.ref f) (.ref x))
 | .ext φ => φ h /\ (∃ o, h.get? a = some o) /\ ∀ h1 h2 : Heap, φ h1 -> (∀ o, h1.get? a = some o -> h2.get? a = some o) -> φ h2
def HOk (H : Hp) (h : Heap) : Prop := ∀ a o, H a = some o -> gM P w H h a o
end
section
variable {P : Program} {w : World} {H H' : Hp} {h h' : Heap} {a : Addr} {o : HO}
theorem gM.lt (x : gM P w H h a o) : a < h.objs.size := by
 cases o with
 | lst xs => obtain ⟨_, _, _, _, e⟩ := x; exact Ze e
 | tup xs => obtain ⟨_, _, _, p⟩ := x; exact p.lt
 | dK kvs => obtain ⟨_, _, _, _, o, _, _, e, _⟩ := x; exact Ze e
 | dT kvs => obtain ⟨_, _, _, _, o, _, _, e, _⟩ := x; exact Ze e
 | set S n => obtain ⟨o, _, _, _, e, _⟩ := x; exact Ze e
 | ins C dx fs => obtain ⟨_, _, _, e, _⟩ := x; exact Ze e
 | own y => obtain ⟨_, e⟩ := x; exact Ze e
 | xd fs => obtain ⟨_, ⟨_, _, _, e, _⟩, _⟩ := x; exact Ze e
 | rng lo hi => obtain ⟨_, _, _, e⟩ := x; exact Ze e
 | frz ob u => obtain ⟨e, _⟩ := x; exact Ze e
 | tbl ps => exact Ze (show h.get? a = some _ from x)
 | met f y => exact Ze (show h.get? a = some _ from x)
 | ext φ => obtain ⟨_, ⟨_, e⟩, _⟩ := x; exact Ze e
theorem Paired.mapP {α β : Type} {F G : α -> β -> Prop} : ∀ {l₁ : List α} {l₂ : List β}, Paired F l₁ l₂ -> (∀ a b, F a b -> G a b) -> Paired G l₁ l₂
 | _, _, .nil, _ => .nil
 | _, _, .cons r t, f => .cons (f _ _ r) (Paired.mapP t f)
theorem gM.stay (x : gM P w H h a o) (k : ∀ b u, (b = a ∨ H b = some (.own a)) -> h.get? b = some u -> h'.get? b = some u)
  (ho : ∀ b, H b = some (.own a) -> H' b = some (.own a)) (ht : ∀ b xs, H b = some (.tup xs) -> H' b = some (.tup xs)) : gM P w H' h' a o := by
 induction o with
 | lst xs => obtain ⟨z, its, n, r, e⟩ := x; exact ⟨z, its, n, r, k _ _ (.inl rfl) e⟩
 | tup xs => obtain ⟨z, its, r, ob, e, c⟩ := x; exact ⟨z, its, r, ob, k _ _ (.inl rfl) e, c⟩
 | dK kvs => obtain ⟨z, y, vs, r, ob, es, ep, e, c⟩ := x; exact ⟨z, y, vs, r, ob, es, ep, k _ _ (.inl rfl) e, c⟩
 | dT kvs =>
  obtain ⟨z, y, xs, r, ob, es, ep, e, c⟩ := x;exact ⟨z, y, xs, Paired.mapP r λ p q z => ⟨z.1, ht _ _ z.2.1, z.2.2⟩, ob, es, ep, k _ _ (.inl rfl) e, c⟩
 | set S n => obtain ⟨ob, es, ep, t, e, c⟩ := x; exact ⟨ob, es, ep, t, k _ _ (.inl rfl) e, c⟩
 | ins C dx fs =>
  obtain ⟨d, z, ne, e, mA, ⟨od, es, ep, e2, c⟩, r⟩ := x;exact ⟨ho _ d, z, ne, k _ _ (.inl rfl) e, mA, ⟨od, es, ep, k _ _ (.inr d) e2, c⟩, r⟩
 | own y => obtain ⟨ob, e⟩ := x; exact ⟨ob, k _ _ (.inl rfl) e⟩
 | xd fs => obtain ⟨mA, ⟨od, es, ep, e, c⟩, r⟩ := x; exact ⟨mA, ⟨od, es, ep, k _ _ (.inl rfl) e, c⟩, r⟩
 | rng lo hi => obtain ⟨t, u, v, e⟩ := x; exact ⟨t, u, v, k _ _ (.inl rfl) e⟩
 | frz ob u ih => obtain ⟨e, q⟩ := x; exact ⟨k _ _ (.inl rfl) e, ih q⟩
 | tbl ps =>
  have e : h.get? a = some { cls := .none, data := .fields ps } := x;show h'.get? a = some { cls := .none, data := .fields ps };exact k a _ (.inl rfl) e
 | met f y =>
  have e : h.get? a = some (PySem.W.methodObj (.ref f) (.ref y)) := x;show h'.get? a = some (PySem.W.methodObj (.ref f) (.ref y));exact k a _ (.inl rfl) e
 | ext φ => obtain ⟨p, ⟨o, e⟩, st⟩ := x; exact ⟨st _ _ p λ o q => k _ _ (.inl rfl) q, ⟨o, k _ _ (.inl rfl) e⟩, st⟩
theorem HOk.lt (x : HOk P w H h) (e : H a = some o) : a < h.objs.size := (x a o e).lt
theorem HOk.fresh (x : HOk P w H h) (e : h.objs.size <= a) : H a = none := by
 cases q : H a with
 | none => rfl
 | some u => exact absurd (Zc (x.lt q) e) (Nat.lt_irrefl _)
theorem HOk.kept (x : HOk P w H h) (k : ∀ b u, h.get? b = some u -> h'.get? b = some u) : HOk P w H h' := λ a o e =>
 (x a o e).stay (λ b u _ q => k b u q) (λ _ q => q) λ _ _ q => q
theorem HOk.laid (x : HOk P w H h) (k : ∀ b u, h.get? b = some u -> h'.get? b = some u) (hp : h.objs.size <= a) (new : gM P w (upd H a o) h' a o) : HOk P w (upd H a o) h' := λ b u e => by
 have hn := x.fresh hp;by_cases hb : b = a
 .subst hb; rw [dG] at e; cases e; exact new
 .rw [aR hb] at e;exact (x b u e).stay (λ c v _ q => k c v q) (λ c q => by rw [aR (cG q hn)]; exact q) λ c xs q => by rw [aR (cG q hn)]; exact q
end
def Rd (H : Hp) (a : Addr) (u : HO) : Prop := H a = some u ∨ ∃ o, H a = some (.frz o u)
theorem Rd.ok (r : Rd H a u) (x : HOk P w H h) : gM P w H h a u := by
 rcases r with r | ⟨o, r⟩
 .exact x a u r
 .obtain ⟨_, q⟩ := x a _ r;exact q
def Mut : Option HO -> Prop
 | some (.lst _) => True
 | some (.dK _) => True
 | some (.dT _) => True
 | some (.set _ _) => True
 | some (.ins _ _ _) => True
 | some (.ext _) => True
 | _ => False
section
variable {P : Program} {w : World} {H : Hp} {h h' : Heap} {x e : Addr} {o' : HO}
theorem HOk.write (ok : HOk P w H h) (mu : Mut (H x)) (he : e = x ∨ H e = some (.own x)) (k : ∀ b u, b ≠ e -> h.get? b = some u -> h'.get? b = some u) (heo : ∃ u, h'.get? e = some u)
  (new : gM P w (upd H x o') h' x o') : HOk P w (upd H x o') h' := λ b u q => by
 have nown : ∀ c y, H c = some (.own y) -> c ≠ x := λ c y r z => by subst z; rw [r] at mu; exact mu
 have ntup : ∀ c xs, H c = some (.tup xs) -> c ≠ x := λ c xs r z => by subst z; rw [r] at mu; exact mu
 by_cases hb : b = x
 .subst hb; rw [dG] at q; cases q; exact new
 .rw [aR hb] at q;by_cases hbe : b = e
  .have q' : H b = some (.own x) := by
    rcases he with z | z
    .exact absurd (hbe.trans z) hb
    .rw [hbe]; exact z
   rw [q] at q'; cases q';obtain ⟨v, hv⟩ := heo;exact ⟨v, by rw [hbe]; exact hv⟩
  .refine (ok b u q).stay (λ c v hc r => k c v ?_ r) (λ c r => by rw [aR (nown c b r)]; exact r) λ c xs r => by rw [aR (ntup c xs r)]; exact r
   rcases hc with rfl | hc
   .exact hbe
   .rintro rfl
    rcases he with z | z
    .exact nown c b hc z
    .rw [hc] at z; cases z; exact hb rfl
end
structure Un (fs ex : List Addr) (H H' : Hp) (h h' : Heap) : Prop where
 keep : ∀ b o, h.get? b = some o -> H b = none -> b ∉ fs -> b ∉ ex -> h'.get? b = some o
 slot : ∀ b o, h.get? b = some o -> H b = none -> b ∈ fs -> b ∉ ex -> ∃ sl, h'.get? b = some { o with slots := sl }
 free : ∀ b o, h.get? b = some o -> H b = none -> b ∉ ex -> H' b = none
 there : ∀ b o, h.get? b = some o -> b ∉ ex -> ∃ o', h'.get? b = some o'
 tups : ∀ b xs, H b = some (.tup xs) -> H' b = some (.tup xs)
 frzs : ∀ b o u, H b = some (.frz o u) -> H' b = some (.frz o u)
 tbls : ∀ b ps, H b = some (.tbl ps) -> ∃ more, H' b = some (.tbl (ps ++ more))
section
variable {fs fs' ex ex' : List Addr} {H H1 H2 : Hp} {h h1 h2 h' : Heap} {a x e : Addr} {o : HO}
theorem Un.any (u : Un fs ex H H1 h h1) (q : h.get? b = some ob) (n : H b = none) (hx : b ∉ ex) : ∃ sl, h1.get? b = some { ob with slots := sl } := by
 by_cases hb : b ∈ fs
 .exact u.slot b ob q n hb hx
 .exact ⟨ob.slots, u.keep b ob q n hb hx⟩
theorem Un.kept (k : ∀ b u, h.get? b = some u -> h'.get? b = some u) : Un fs ex H H h h' :=
 ⟨λ b ob q _ _ _ => k b ob q, λ b ob q _ _ _ => ⟨ob.slots, k b ob q⟩, λ _ _ _ n _ => n, λ b ob q _ => ⟨ob, k b ob q⟩, λ _ _ q => q, λ _ _ _ q => q, λ _ ps q => ⟨#[], by rw [q]; simp⟩⟩
theorem Un.refl : Un fs ex H H h h := Un.kept λ _ _ q => q
theorem Un.laid (k : ∀ b u, h.get? b = some u -> h'.get? b = some u) (hp : h.objs.size <= a) (hn : H a = none) : Un fs ex H (upd H a o) h h' where
 keep := λ b u q _ _ _ => k b u q
 slot := λ b u q _ _ _ => ⟨u.slots, k b u q⟩
 free := λ b u q n _ => by rw [aR (Zk (Zc (Ze q) hp))]; exact n
 there := λ b u q _ => ⟨u, k b u q⟩
 tups := λ b xs q => by rw [aR (cG q hn)]; exact q
 frzs := λ b u xs q => by rw [aR (cG q hn)]; exact q
 tbls := λ b ps q => ⟨#[], by rw [aR (cG q hn), q]; simp⟩
theorem Un.write (mu : Mut (H x)) (he : e = x ∨ H e = some (.own x)) (k : ∀ b u, b ≠ e -> h.get? b = some u -> h'.get? b = some u) (heo : ∃ u, h'.get? e = some u) : Un fs ex H (upd H x o) h h' := by
 have hx : ∀ b, H b = none -> b ≠ x := λ b n z => by subst z; rw [n] at mu; exact mu
 have hb : ∀ b, H b = none -> b ≠ e := λ b n z => by
  subst z
  rcases he with r | r
  .exact hx b n r
  .rw [n] at r; cases r
 have hm : ∀ b u, H b = some u -> ¬ Mut (some u) -> b ≠ x := λ b u q nm z => by subst z; rw [q] at mu; exact nm mu
 refine ⟨λ b u q n _ _ => k b u (hb b n) q, λ b u q n _ _ => ⟨u.slots, k b u (hb b n) q⟩, λ b u q n _ => by rw [aR (hx b n)]; exact n, λ b u q _ => ?_,
  λ b xs q => by rw [aR (hm b _ q λ z => z)]; exact q, λ b u xs q => by rw [aR (hm b _ q λ z => z)]; exact q, λ b ps q => ⟨#[], by rw [aR (hm b _ q λ z => z), q]; simp⟩⟩
 by_cases hbe : b = e
 .subst hbe; exact heo
 .exact ⟨u, k b u hbe q⟩
end
def trk (h : Heap) (H : Hp) : List Addr := (List.range h.objs.size).filter λ a => (H a).isSome
def yw (h : Heap) (H : Hp) : Heap := PySem.W.hideAll h (trk h H)
theorem Hn (h : Heap) (H : Hp) : (yw h H).objs.size = h.objs.size := PySem.W.hideAll_size _ _
theorem JM (e : h.get? b = some o) (n : H b = none) : (yw h H).get? b = some o :=
 PySem.W.hideAll_get _ e λ hm => by
  have q : (H b).isSome = true := (List.mem_filter.mp hm).2;rw [n] at q; simp at q
theorem NP (e : (yw h H).get? b = some o) : h.get? b = some o /\ H b = none := by
 have e' : h.get? b = some o := PySem.W.of_hideAll (trk h H) e;refine ⟨e', ?_⟩;cases q : H b with
 | none => rfl
 | some x =>
  have hm : b ∈ trk h H := List.mem_filter.mpr ⟨List.mem_range.mpr (Ze e'), by simp [q]⟩
  have z : (yw h H).get? b = none := PySem.W.hideAll_none (trk h H) hm;rw [z] at e; cases e
def Mm (g h : Heap) (L : Addr) : List (Addr × Obj) := (List.range h.objs.size).filterMap λ a => if a = L ∨ (g.get? a).isSome = true then none else (h.get? a).map λ o => (a, o)
def rest (g h : Heap) (L d : Addr) : List (Addr × Obj) := (Mm g h L).filter λ p => decide (p.1 ≠ d)
structure Mod (K : PySem.W.Frag) (mg : Str -> Option Value) (base : Heap) : Prop where
 kin : K.In base
 glob : base.Ns mainGlobals mg
 blt : ∃ mb, base.Ns builtinsNs mb /\ ∀ x : Str, x ≠ "__name__" -> mb x = bootBuiltins x
 nolimit : base.NoLimit
 bmain : ∃ bm ob, mg "__builtins__" = some (.ref bm) /\ bm ≠ builtinsNs /\ base.get? bm = some ob /\ ob.cls = .type "module" /\ ob.dict = some builtinsNs /\ ob.data = .plain
structure Cx where
 prog : Program
 w : World
 K : PySem.W.Frag
 mg : Str -> Option Value
 base : Heap
 A : Around
 N : List Str
 s₀ : Shared
 H₀ : Hp
 env : Env
 outer : List Env
 stack : List Env
 ex : List Addr
 fn : Str -> Bool
 calm : Bool
 pn : List (Addr × Obj)
 xe : Value -> Shared -> Prop
def frs (l : List Env) : List Addr := l.filterMap (·.frame)
abbrev Cx.fs (X : Cx) : List Addr := frs X.outer
def Vis (sc : Scope) (x : Str) : Prop := sc.names.lookup x = some .local ∨ sc.names.lookup x = some .cell ∨ sc.names.lookup x = some .free
def Loc (sc : Scope) (x : Str) : Prop := sc.names.lookup x = some .local ∨ sc.names.lookup x = some .cell
def Look (env : Env) (h : Heap) (m : Str -> Option Value) (x : Str) (u : Value) : Prop :=
 (env.kindOf x = some .local /\ m x = some u) ∨ ((env.kindOf x = some .cell ∨ env.kindOf x = some .free) /\ ∃ c, env.cells.lookup x = some c /\ h.IsCell c (some u))
structure Cx.Ok (X : Cx) : Prop where
 mod : Mod X.K X.mg X.base
 kind : X.env.scope.kind = .function
 glob : X.env.globals = mainGlobals
 blt : X.env.builtins = builtinsNs
 above : X.s₀.heap.objs.size <= X.env.locals
 inj : ∀ x y c, X.env.cells.lookup x = some c -> X.env.cells.lookup y = some c -> x = y
 has : ∀ x, (X.env.kindOf x = some .cell ∨ X.env.kindOf x = some .free) -> ∃ c, X.env.cells.lookup x = some c
 cab : ∀ x c, X.fn x = true -> X.env.cells.lookup x = some c -> X.s₀.heap.objs.size <= c
 hd : X.calm = true -> X.A.handled = none
 frames : X.A.frames = some X.stack
 stk : X.stack = X.outer ∨ (X.stack = X.env :: X.outer /\ X.env.frame = some X.env.locals)
 exf : ∀ b ∈ X.ex, b ≠ X.env.locals /\ ∀ x c, X.env.cells.lookup x = some c -> c ≠ b
 bs : ∀ b o, X.base.get? b = some o -> X.s₀.heap.get? b = some o /\ X.H₀ b = none
 bsz : X.base.objs.size <= X.s₀.heap.objs.size
 noex : ∀ b o, X.base.get? b = some o -> b ∉ X.ex
 exfs : ∀ b ∈ X.ex, b ∉ X.fs
 funs : X.s₀.heap.FunFrames X.base X.outer
 frf : ∀ b ∈ X.fs, X.H₀ b = none
structure GK (a b : Array GenState) : Prop where
 bare : AllBare b
 kept : ∀ (k : Nat) (g : GenState), a[k]? = some g -> b[k]? = some g
theorem GK.refl (h : AllBare a) : GK a a := ⟨h, λ _ _ e => e⟩
theorem GK.trans (x : GK a b) (y : GK b c) : GK a c := ⟨y.bare, λ k g e => y.kept k g (x.kept k g e)⟩
theorem GK.again (x : GK a b) : GK b b := GK.refl x.bare
structure Inv (X : Cx) (pins : List (Addr × Obj)) (σ : List (Option V)) (H : Hp) (s : Shared) : Prop where
 ok : X.Ok
 os : s.os = X.s₀.os
 bare : GK X.s₀.gens s.gens
 base : Un X.fs X.ex X.H₀ H X.s₀.heap s.heap
 loc : ∃ m, s.heap.Ns X.env.locals m /\ ∀ (i : Nat) (x : Str) (v : V), X.N[i]? = some x -> σ[i]? = some (some v) -> Vis X.env.scope x -> ∃ u, RelV v u /\ Look X.env s.heap m x u
 cell : ∀ x c, X.env.cells.lookup x = some c -> ∃ v, s.heap.IsCell c v
 free : H X.env.locals = none
 freeC : ∀ x c, X.env.cells.lookup x = some c -> H c = none
 pin : ∀ p ∈ X.pn ++ pins, s.heap.get? p.1 = some p.2 /\ H p.1 = none /\ p.1 ≠ X.env.locals /\ p.1 ∉ X.fs /\ ∀ v, p.2.data ≠ .cell v
 hok : HOk X.prog X.w H s.heap
 len : σ.length = X.N.length
section
variable {X : Cx} {pins : List (Addr × Obj)} {σ : List (Option V)} {H H' : Hp} {s : Shared} {h' : Heap}
theorem Cx.Ok.nofr (ok : X.Ok) (e : X.base.get? b = some o) : b ∉ X.fs := λ hb => by
 have := (ok.funs.mem hb).1;rw [e] at this; cases this
theorem Inv.bs (I : Inv X pins σ H s) : ∀ b o, X.base.get? b = some o -> s.heap.get? b = some o /\ H b = none := λ b o e =>
 ⟨I.base.keep b o (I.ok.bs b o e).1 (I.ok.bs b o e).2 (I.ok.nofr e) (I.ok.noex b o e), I.base.free b o (I.ok.bs b o e).1 (I.ok.bs b o e).2 (I.ok.noex b o e)⟩
theorem Inv.bk (I : Inv X pins σ H s) : ∀ b o, X.base.get? b = some o -> s.heap.get? b = some o := λ b o e => (I.bs b o e).1
theorem Inv.mod (I : Inv X pins σ H s) : Mod X.K X.mg X.base := I.ok.mod
theorem Inv.kIn (I : Inv X pins σ H s) : X.K.In s.heap := I.ok.mod.kin.keeps I.bk
theorem Inv.nolimit (I : Inv X pins σ H s) : s.heap.NoLimit := I.ok.mod.nolimit.keeps I.bk
theorem Inv.fr (I : Inv X pins σ H s) : ∃ m, Fr X.base X.env.locals s.heap m :=
 let ⟨m, hn, _⟩ := I.loc
 ⟨m, hn, I.bk, Zl I.ok.bsz I.ok.above⟩
theorem Inv.lt (I : Inv X pins σ H s) : X.env.locals < s.heap.objs.size := let ⟨_, hn, _⟩ := I.loc; hn.lt
theorem Inv.sz (I : Inv X pins σ H s) : X.s₀.heap.objs.size <= s.heap.objs.size := Zl I.ok.above (Nat.le_of_lt I.lt)
theorem Inv.nofs (I : Inv X pins σ H s) (h : s.heap.objs.size <= a) : a ∉ X.fs := λ hb => by
 obtain ⟨_, o, ho, _⟩ := I.ok.funs.mem hb;exact absurd (Zc (Ze ho) (Zl I.sz h)) (Nat.lt_irrefl _)
theorem Inv.cne (I : Inv X pins σ H s) : ∀ x c, X.env.cells.lookup x = some c -> c ≠ X.env.locals := λ x c e z => by
 obtain ⟨v, o, ho, hd⟩ := I.cell x c e;obtain ⟨m, ⟨o', es, ep, ho', hd', _⟩, _⟩ := I.loc;rw [z, ho'] at ho; cases ho; rw [hd'] at hd; cases hd
theorem Inv.funs (I : Inv X pins σ H s) : s.heap.FunFrames X.base X.outer := by
 have all : ∀ (l : List Env), (∀ b ∈ frs l, b ∈ X.fs) -> X.s₀.heap.FunFrames X.base l -> s.heap.FunFrames X.base l := by
  intro l
  induction l with
  | nil => intro _ _; trivial
  | cons env r ih =>
   intro hs hl;obtain ⟨hk, ⟨L, o, hf, hn, ho, hd⟩, hr⟩ := hl;have hL : L ∈ X.fs := hs L (by unfold frs; rw [List.filterMap_cons, hf]; exact List.mem_cons_self)
   obtain ⟨sl, e⟩ := I.base.slot L o ho (I.ok.frf L hL) hL λ z => I.ok.exfs L z hL;exact ⟨hk, ⟨L, _, hf, hn, e, hd⟩, ih (λ b hb => hs b (by unfold frs; rw [List.filterMap_cons, hf]; exact List.mem_cons_of_mem _ hb)) hr⟩
 exact all X.outer (λ _ hb => hb) I.ok.funs
theorem Inv.stack (I : Inv X pins σ H s) : s.heap.FunFrames X.base X.stack := by
 rcases I.ok.stk with e | ⟨e, hf⟩
 .rw [e]; exact I.funs
 .rw [e];obtain ⟨m, hn, _⟩ := I.loc;refine .cons (by rw [I.ok.kind]; decide) hf hn ?_ I.funs
  exact Heap.get?_none_of_le (Zl I.ok.bsz I.ok.above)
theorem Inv.stkSub (I : Inv X pins σ H s) : ∀ b ∈ frs X.stack, b ∈ X.env.locals :: X.fs := λ b hb => by
 rcases I.ok.stk with e | ⟨e, hf⟩
 .rw [e] at hb; exact List.mem_cons_of_mem _ hb
 .rw [e] at hb;unfold frs at hb;rw [List.filterMap_cons, hf] at hb;exact hb
theorem Inv.stkFree (I : Inv X pins σ H s) : ∀ b ∈ frs X.stack, H b = none := λ b hb => by
 rcases Zi.mp (I.stkSub b hb) with e | hb
 .rw [e]; exact I.free
 .obtain ⟨_, o, ho, _⟩ := I.ok.funs.mem hb;exact I.base.free b o ho (I.ok.frf b hb) λ z => I.ok.exfs b z hb
theorem Inv.step {g' : Array GenState} {t' : Nat} {d' : Drawn} {ch : List Addr} (I : Inv X pins σ H s)
  (hch : ∀ b ∈ ch, (b ∈ X.ex ∨ X.s₀.heap.objs.size <= b) /\ b ≠ X.env.locals /\ (∀ x c, X.env.cells.lookup x = some c -> c ≠ b) /\ ∀ p ∈ X.pn ++ pins, p.1 ≠ b)
  (keep : ∀ b o, b ≠ X.env.locals -> b ∉ X.fs -> b ∉ ch -> s.heap.get? b = some o -> H b = none -> h'.get? b = some o)
  (slot : ∀ b o, b ≠ X.env.locals -> b ∈ X.fs -> b ∉ ch -> s.heap.get? b = some o -> H b = none -> ∃ sl, h'.get? b = some { o with slots := sl }) (free : ∀ b o, b ∉ ch -> s.heap.get? b = some o -> H b = none -> H' b = none)
  (there : ∀ b o, b ∉ ch -> s.heap.get? b = some o -> ∃ o', h'.get? b = some o')
  (tups : ∀ b xs, H b = some (.tup xs) -> H' b = some (.tup xs)) (frzs : ∀ b o u, H b = some (.frz o u) -> H' b = some (.frz o u)) (tbls : ∀ b ps, H b = some (.tbl ps) -> ∃ more, H' b = some (.tbl (ps ++ more)))
  (ns : ∀ m, s.heap.Ns X.env.locals m -> h'.Ns X.env.locals m) (hok : HOk X.prog X.w H' h') (hg : GK s.gens g') :
  Inv X pins σ H' { s with heap := h', gens := g', drawn := d', toks := t' } := by
 have neL : ∀ b o, X.s₀.heap.get? b = some o -> b ≠ X.env.locals := λ b o e => Zk (Zc (Ze e) I.ok.above);have neC : ∀ b o, X.s₀.heap.get? b = some o -> b ∉ X.ex -> b ∉ ch := λ b o e hx hb => by
  rcases (hch b hb).1 with z | z
  .exact hx z
  .exact absurd (Zc (Ze e) z) (Nat.lt_irrefl _)
 have cellK : ∀ x c, X.env.cells.lookup x = some c -> ∀ v, s.heap.IsCell c v -> h'.IsCell c v := λ x c e v zq1 => by
  obtain ⟨o, ho, hd⟩ := zq1;have nch : c ∉ ch := λ z => (hch c z).2.2.1 x c e rfl;by_cases hc : c ∈ X.fs
  .obtain ⟨sl, q⟩ := slot c o (I.cne x c e) hc nch ho (I.freeC x c e);exact ⟨_, q, hd⟩
  .exact ⟨o, keep c o (I.cne x c e) hc nch ho (I.freeC x c e), hd⟩
 refine ⟨I.ok, I.os, I.bare.trans hg, ⟨λ b o e n hb hx => ?_, λ b o e n hb hx => ?_, λ b o e n hx => ?_, λ b o e hx => ?_, λ b xs e => tups b xs (I.base.tups b xs e), λ b o xs e => frzs b o xs (I.base.frzs b o xs e), λ b ps e => ?_⟩, ?_, λ x c e => ?_, ?_, λ x c e => ?_, λ p hp => ?_, hok, I.len⟩
 .exact keep b o (neL b o e) hb (neC b o e hx) (I.base.keep b o e n hb hx) (I.base.free b o e n hx)
 .obtain ⟨sl, e1⟩ := I.base.slot b o e n hb hx;obtain ⟨sl', e2⟩ := slot b _ (neL b o e) hb (neC b o e hx) e1 (I.base.free b o e n hx);exact ⟨sl', e2⟩
 .obtain ⟨o', e1⟩ := I.base.there b o e hx;exact free b o' (neC b o e hx) e1 (I.base.free b o e n hx)
 .obtain ⟨o', e1⟩ := I.base.there b o e hx;exact there b o' (neC b o e hx) e1
 .obtain ⟨m1, e1⟩ := I.base.tbls b ps e;obtain ⟨m2, e2⟩ := tbls b _ e1;exact ⟨m1 ++ m2, by rw [e2, Array.append_assoc]⟩
 .obtain ⟨m, hn, hl⟩ := I.loc;refine ⟨m, ns m hn, λ i x v e1 e2 e3 => ?_⟩;obtain ⟨u, r, l⟩ := hl i x v e1 e2 e3;refine ⟨u, r, ?_⟩
  rcases l with l | ⟨k, c, e, z⟩
  .exact .inl l
  .exact .inr ⟨k, c, e, cellK x c e _ z⟩
 .obtain ⟨v, z⟩ := I.cell x c e;exact ⟨v, cellK x c e v z⟩
 .obtain ⟨m, ⟨o, _, _, ho, _⟩, _⟩ := I.loc;exact free _ o (λ z => (hch _ z).2.1 rfl) ho I.free
 .obtain ⟨v, o, ho, hd⟩ := I.cell x c e;exact free c o (λ z => (hch c z).2.2.1 x c e rfl) ho (I.freeC x c e)
 .obtain ⟨e, n, ne, nf, d⟩ := I.pin p hp;have nch : p.1 ∉ ch := λ z => (hch p.1 z).2.2.2 p hp rfl;exact ⟨keep p.1 p.2 ne nf nch e n, free p.1 p.2 nch e n, ne, nf, d⟩
theorem Inv.un {t' : Nat} (I : Inv X pins σ H s) (u : Un X.fs [] H H' s.heap h') (hok : HOk X.prog X.w H' h') : Inv X pins σ H' { s with heap := h', toks := t' } := by
 obtain ⟨m, ⟨o, es, ep, ho, r⟩, _⟩ := id I.loc;obtain ⟨sl, hL⟩ := u.any ho I.free (by simp)
 exact I.step (g' := s.gens) (d' := s.drawn) (ch := []) (λ _ z => nomatch z) (λ b o _ hb _ e n => u.keep b o e n hb (by simp)) (λ b o _ hb _ e n => u.slot b o e n hb (by simp)) (λ b o _ e n => u.free b o e n (by simp)) (λ b o _ e => u.there b o e (by simp)) u.tups u.frzs u.tbls (λ m' hm => by
  obtain ⟨o', es', ep', ho', r'⟩ := hm;rw [ho] at ho'; cases ho';exact ⟨_, es', ep', hL, r'⟩) hok I.bare.again
theorem Inv.call {g' : Array GenState} {t' : Nat} {d' : Drawn} {ch : List Addr} (I : Inv X pins σ H s) (u : Un (frs X.stack) ch H H' s.heap h') (hok : HOk X.prog X.w H' h') (hg : GK s.gens g')
  (hch : ∀ b ∈ ch, (b ∈ X.ex ∨ X.s₀.heap.objs.size <= b) /\ b ≠ X.env.locals /\ (∀ x c, X.env.cells.lookup x = some c -> c ≠ b) /\ ∀ p ∈ X.pn ++ pins, p.1 ≠ b) :
  Inv X pins σ H' { s with heap := h', gens := g', drawn := d', toks := t' } := by
 obtain ⟨m, ⟨o, es, ep, ho, r⟩, _⟩ := id I.loc;obtain ⟨sl, hL⟩ := u.any ho I.free λ z => (hch _ z).2.1 rfl;exact I.step (ch := ch) hch (λ b o hL hb hc e n => u.keep b o e n (λ z => (Zi.mp (I.stkSub b z)).elim hL hb) hc) (λ b o _ _ hc e n => u.any e n hc) (λ b o hc e n => u.free b o e n hc) (λ b o hc e => u.there b o e hc) u.tups u.frzs u.tbls (λ m' hm => by
  obtain ⟨o', es', ep', ho', r'⟩ := hm;rw [ho] at ho'; cases ho';exact ⟨_, es', ep', hL, r'⟩) hok hg
theorem Inv.turned {t' : Nat} {it : Addr} (I : Inv X pins σ H s) (k : ∀ b o, b ≠ it -> s.heap.get? b = some o -> h'.get? b = some o) (hn : H it = none) (hL : it ≠ X.env.locals)
  (h1 : it ∈ X.ex ∨ X.s₀.heap.objs.size <= it) (h2 : ∀ x c, X.env.cells.lookup x = some c -> c ≠ it) (h3 : ∀ p ∈ X.pn ++ pins, p.1 ≠ it) : Inv X pins σ H { s with heap := h', toks := t' } := by
 have nit : ∀ b u, H b = some u -> b ≠ it := λ b u e z => by rw [z, hn] at e; cases e
 refine I.step (g' := s.gens) (d' := s.drawn) (ch := [it]) (λ b hb => ?_) (λ b o _ _ hc e _ => k b o (λ z => hc (by simp [z])) e) (λ b o _ _ hc e _ => ⟨o.slots, k b o (λ z => hc (by simp [z])) e⟩) (λ _ _ _ _ n => n)
  (λ b o hc e => ⟨o, k b o (λ z => hc (by simp [z])) e⟩) (λ _ _ e => e) (λ _ _ _ e => e) (λ b ps e => ⟨#[], by rw [e]; simp⟩) (λ m hm => ?_) (λ b u e => ?_) I.bare.again
 .have e : b = it := by simpa using hb
  subst e;exact ⟨h1, hL, h2, h3⟩
 .obtain ⟨o, es, ep, ho, r⟩ := hm;exact ⟨o, es, ep, k _ o (Ne.symm hL) ho, r⟩
 .refine (I.hok b u e).stay (λ c v hc q => k c v ?_ q) (λ _ q => q) λ _ _ q => q
  rcases hc with z | z
  .rw [z]; exact nit b u e
  .exact nit c _ z
theorem Inv.tok (I : Inv X pins σ H s) (t : Nat) : Inv X pins σ H { s with toks := t } := I.un (h' := s.heap) (t' := t) Un.refl I.hok
theorem Inv.kept (I : Inv X pins σ H s) (k : ∀ b u, s.heap.get? b = some u -> h'.get? b = some u) : Inv X pins σ H { s with heap := h', toks := t' } := I.un (Un.kept k) (I.hok.kept k)
theorem Inv.laid (I : Inv X pins σ H s) (k : ∀ b u, s.heap.get? b = some u -> h'.get? b = some u) (hp : s.heap.objs.size <= a) (new : gM X.prog X.w (upd H a o) h' a o) :
  Inv X pins σ (upd H a o) { s with heap := h', toks := t' } := I.un (Un.laid k hp (I.hok.fresh hp)) (I.hok.laid k hp new)
theorem Inv.write (I : Inv X pins σ H s) (mu : Mut (H x)) (he : e = x ∨ H e = some (.own x)) (k : ∀ b u, b ≠ e -> s.heap.get? b = some u -> h'.get? b = some u) (heo : ∃ u, h'.get? e = some u)
  (new : gM X.prog X.w (upd H x o) h' x o) : Inv X pins σ (upd H x o) { s with heap := h', toks := t' } := I.un (Un.write mu he k heo) (I.hok.write mu he k heo new)
theorem Inv.weak (I : Inv X pins σ H s) (hl : σ'.length = σ.length) (w : ∀ (i : Nat) v, σ'[i]? = some (some v) -> σ[i]? = some (some v)) : Inv X pins σ' H s :=
 ⟨I.ok, I.os, I.bare, I.base, let ⟨m, hn, hl'⟩ := I.loc; ⟨m, hn, λ i x v e1 e2 e3 => hl' i x v e1 (w i v e2) e3⟩, I.cell, I.free, I.freeC, I.pin, I.hok, hl.trans I.len⟩
theorem Inv.pins_of (I : Inv X pins σ H s) (h : ∀ p ∈ pins', s.heap.get? p.1 = some p.2 /\ H p.1 = none /\ p.1 ≠ X.env.locals /\ p.1 ∉ X.fs /\ ∀ v, p.2.data ≠ .cell v) : Inv X pins' σ H s :=
 ⟨I.ok, I.os, I.bare, I.base, I.loc, I.cell, I.free, I.freeC, λ p hp => (Zm.mp hp).elim (λ z => I.pin p (List.mem_append_left _ z)) (h p), I.hok, I.len⟩
theorem zG {N : List Str} (hN : N.Nodup) {i j : Nat} {x : Str} (a : N[i]? = some x) (b : N[j]? = some x) : i = j := by
 obtain ⟨h1, e1⟩ := Zh.mp a;obtain ⟨h2, e2⟩ := Zh.mp b;exact (List.getElem_inj hN).mp (e1.trans e2.symm)
theorem xn {M : Model} {A : Around} {E : Value -> Shared -> Prop} {i : Nat} {x : Str} {v : V} {u : Value} {Q : Unit -> Shared -> Prop} (I : Inv X pins σ H s) (hN : X.N.Nodup) (hi : X.N[i]? = some x) (hx : Loc X.env.scope x) (r : RelV v u)
  (h : ∀ s', Inv X pins (σ.set i (some v)) H s' -> (∃ a, Heap.SameBut a s.heap s'.heap /\ (a = X.env.locals ∨ X.env.cells.lookup x = some a)) -> Q () s') (hf : X.fn x = true ∨ X.env.scope.names.lookup x = some .local := by first | exact .inl rfl | exact .inr rfl | assumption) : wpAny M A (storeName X.env x u) Q E s := by
 obtain ⟨m, hn, hl⟩ := id I.loc;have hcls : (X.env.scope.kind == .class || (X.env.scope.kind == .module && X.env.locals != X.env.globals)) = false := by rw [I.ok.kind]; rfl
 have hiσ : i < σ.length := by rw [I.len]; exact (Zh.mp hi).1
 have cne := I.cne;have tracked : ∀ {a : Addr} {h' : Heap}, (∃ o, s.heap.get? a = some o /\ H a = none) -> Heap.SameBut a s.heap h' -> HOk X.prog X.w H h' := λ {a h'} ha hs b ob e => by
  obtain ⟨_, _, hfree⟩ := ha;refine (I.hok b ob e).stay (λ c w' hc q => (hs.2 c ?_).trans q) (λ _ q => q) λ _ _ q => q;rintro rfl
  rcases hc with rfl | hc
  .rw [hfree] at e; cases e
  .rw [hfree] at hc; cases hc
 rcases hx with hk | hk
 .refine wpAny_storeName_local hk hn (λ h' hn' hs => ?_) hcls;obtain ⟨oL, _, _, hoL, _⟩ := id hn;refine h _ ⟨I.ok, I.os, I.bare, ⟨λ b o e n hb hx => ?_, λ b o e n hb hx => ?_, I.base.free, λ b o e hx => ?_, I.base.tups, I.base.frzs, I.base.tbls⟩, ⟨_, hn', λ j y v' e1 e2 e3 => ?_⟩, λ y c e => ?_, I.free, I.freeC, λ p hp => ?_, tracked ⟨oL, hoL, I.free⟩ hs, by simpa using I.len⟩ ⟨_, hs, .inl rfl⟩
  .exact (hs.2 b (Zk (Zc (Ze e) I.ok.above))).trans (I.base.keep b o e n hb hx)
  .obtain ⟨sl, e1⟩ := I.base.slot b o e n hb hx;exact ⟨sl, (hs.2 b (Zk (Zc (Ze e) I.ok.above))).trans e1⟩
  .obtain ⟨o', e1⟩ := I.base.there b o e hx;exact ⟨o', (hs.2 b (Zk (Zc (Ze e) I.ok.above))).trans e1⟩
  .by_cases hj : j = i
   .subst hj;rw [hi] at e1; cases e1;rw [List.getElem?_set_self hiσ] at e2;cases e2;exact ⟨u, r, .inl ⟨hk, by simp⟩⟩
   .rw [List.getElem?_set_ne (Ne.symm hj)] at e2;obtain ⟨u', r', q⟩ := hl j y v' e1 e2 e3;refine ⟨u', r', ?_⟩
    rcases q with ⟨k, e⟩ | ⟨k, c, e, z⟩
    .refine .inl ⟨k, ?_⟩;have : y ≠ x := λ e => hj (zG hN e1 (e ▸ hi));simp [this, e]
    .exact .inr ⟨k, c, e, z.sameBut hs (cne y c e)⟩
  .obtain ⟨w', z⟩ := I.cell y c e;exact ⟨w', z.sameBut hs (cne y c e)⟩
  .obtain ⟨e, n, ne, nf, d⟩ := I.pin p hp;exact ⟨(hs.2 p.1 ne).trans e, n, ne, nf, d⟩
 .have hfn : X.fn x = true := by
   rcases hf with z | z
   .exact z
   .rw [z] at hk; cases hk
  obtain ⟨c, hc⟩ := I.ok.has x (.inl hk);obtain ⟨w', z⟩ := I.cell x c hc;refine wpAny_storeName_cell I.ok.kind hk hc z (λ h' hc' hs => ?_);obtain ⟨oc, hoc, hocd⟩ := id z;refine h { s with heap := h' } ⟨I.ok, I.os, I.bare, ⟨λ b o e n hb hx => ?_, λ b o e n hb hx => ?_, I.base.free, λ b o e hx => ?_, I.base.tups, I.base.frzs, I.base.tbls⟩, ⟨m, hn.sameBut hs (Ne.symm (cne x c hc)), λ j y v' e1 e2 e3 => ?_⟩, λ y c' e => ?_, I.free, I.freeC, λ p hp => ?_, tracked ⟨oc, hoc, I.freeC x c hc⟩ hs, by simpa using I.len⟩ ⟨c, hs, .inr hc⟩
  .exact (hs.2 b (Zk (Zc (Ze e) (I.ok.cab x c hfn hc)))).trans (I.base.keep b o e n hb hx)
  .obtain ⟨sl, e1⟩ := I.base.slot b o e n hb hx;exact ⟨sl, (hs.2 b (Zk (Zc (Ze e) (I.ok.cab x c hfn hc)))).trans e1⟩
  .obtain ⟨o', e1⟩ := I.base.there b o e hx;exact ⟨o', (hs.2 b (Zk (Zc (Ze e) (I.ok.cab x c hfn hc)))).trans e1⟩
  .by_cases hj : j = i
   .subst hj;rw [hi] at e1; cases e1;rw [List.getElem?_set_self hiσ] at e2;cases e2;exact ⟨u, r, .inr ⟨.inl hk, c, hc, hc'⟩⟩
   .rw [List.getElem?_set_ne (Ne.symm hj)] at e2;obtain ⟨u', r', q⟩ := hl j y v' e1 e2 e3;refine ⟨u', r', ?_⟩
    rcases q with q | ⟨k, c', e, z'⟩
    .exact .inl q
    .refine .inr ⟨k, c', e, z'.sameBut hs ?_⟩;rintro rfl;exact hj (zG hN e1 (I.ok.inj _ _ _ e hc ▸ hi))
  .by_cases hcc : c' = c
   .subst hcc; exact ⟨_, hc'⟩
   .obtain ⟨w2, z2⟩ := I.cell y c' e;exact ⟨w2, z2.sameBut hs hcc⟩
  .obtain ⟨e, n, ne, nf, d⟩ := I.pin p hp;refine ⟨(hs.2 p.1 ?_).trans e, n, ne, nf, d⟩;intro q;rw [q, hoc] at e;have q' : oc = p.2 := Option.some.inj e;exact d w' (by rw [<- q']; exact hocd)
theorem nO {E : Value -> Shared -> Prop} {Q : Unit -> Shared -> Prop} (I : Inv X pins σ H s) (hN : X.N.Nodup) (hi : X.N[i]? = some x) (hx : Loc X.env.scope x) (r : RelV v u)
  (h : ∀ s', Inv X pins (σ.set i (some v)) H s' -> Q () s') (hf : X.fn x = true ∨ X.env.scope.names.lookup x = some .local := by first | exact .inl rfl | exact .inr rfl | assumption) : wpAny M A (storeName X.env x u) Q E s :=
 xn I hN hi hx r (λ s' I' _ => h s' I') hf
theorem Inv.call' (I : Inv X pins σ H s) (ho : s'.os = s.os) (u : Un (frs X.stack) ch H H' s.heap s'.heap) (hok : HOk X.prog X.w H' s'.heap) (hg : GK s.gens s'.gens)
  (hch : ∀ b ∈ ch, (b ∈ X.ex ∨ X.s₀.heap.objs.size <= b) /\ b ≠ X.env.locals /\ (∀ x c, X.env.cells.lookup x = some c -> c ≠ b) /\ ∀ p ∈ X.pn ++ pins, p.1 ≠ b) : Inv X pins σ H' s' := by
 obtain ⟨h', g', d', t', o'⟩ := s';have e : o' = s.os := ho;subst e;exact I.call (g' := g') (t' := t') (d' := d') u hok hg hch
end
abbrev XK := Value -> Option Addr -> Hp -> Prop
abbrev St := List (Option V)
abbrev VK := V -> Hp -> Prop
abbrev TE := St -> Hp -> VK -> Prop
abbrev TT := St -> Hp -> (Bool -> Hp -> Prop) -> Prop
abbrev TA := St -> Hp -> (List V -> Hp -> Prop) -> Prop
structure Ends where
 nx : St -> Hp -> Prop
 rt : VK
 bk : St -> Hp -> Prop := λ _ _ => False
 ct : St -> Hp -> Prop := λ _ _ => False
abbrev TS := Ends -> St -> Hp -> Prop
def EP (X : Cx) (pins : List (Addr × Obj)) (σ : St) (Q : VK) (u : Value) (s' : Shared) : Prop := ∃ v H', Inv X pins σ H' s' /\ RelV v u /\ Q v H'
def TP (X : Cx) (pins : List (Addr × Obj)) (σ : St) (Q : Bool -> Hp -> Prop) (b : Bool) (s' : Shared) : Prop := ∃ H', Inv X pins σ H' s' /\ Q b H'
def AP (X : Cx) (pins : List (Addr × Obj)) (σ : St) (Q : List V -> Hp -> Prop) (us : List Value) (s' : Shared) : Prop := ∃ vs H', Inv X pins σ H' s' /\ Vals vs us /\ Q vs H'
def SP (X : Cx) (pins : List (Addr × Obj)) (D : Ends) (f : Flow) (s' : Shared) : Prop :=
 match f with
 | .next => ∃ σ' H', Inv X pins σ' H' s' /\ D.nx σ' H'
 | .brk => ∃ σ' H', Inv X pins σ' H' s' /\ D.bk σ' H'
 | .cont => ∃ σ' H', Inv X pins σ' H' s' /\ D.ct σ' H'
 | .ret u => ∃ v σ' H', Inv X pins σ' H' s' /\ RelV v u /\ D.rt v H'
def PE (X : Cx) (e : Expr) (t : TE) : Prop :=
 ∀ (pins : List (Addr × Obj)) (s : Shared) (σ : St) (H : Hp) (Q : VK), Inv X pins σ H s -> t σ H Q -> wpAny (model X.prog X.w) X.A (eval e X.env) (EP X pins σ Q) X.xe s
def PT (X : Cx) (e : Expr) (t : TT) : Prop :=
 ∀ (pins : List (Addr × Obj)) (s : Shared) (σ : St) (H : Hp) (Q : Bool -> Hp -> Prop), Inv X pins σ H s -> t σ H Q -> wpAny (model X.prog X.w) X.A (isTrue e X.env (eval e X.env)) (TP X pins σ Q) X.xe s
def PW (X : Cx) (e : Expr) (t : TT) : Prop :=
 ∀ (whole : Sem Value) (pins : List (Addr × Obj)) (s : Shared) (σ : St) (H : Hp) (Q : Bool -> Hp -> Prop), Inv X pins σ H s -> t σ H Q -> wpAny (model X.prog X.w) X.A (isTrue e X.env whole) (TP X pins σ Q) X.xe s
theorem PW.pt (h : PW X e t) : PT X e t := h _
def PA (X : Cx) (es : List Expr) (t : TA) : Prop :=
 ∀ (pos : Pos) (pins : List (Addr × Obj)) (s : Shared) (σ : St) (H : Hp) (Q : List V -> Hp -> Prop), Inv X pins σ H s -> t σ H Q -> wpAny (model X.prog X.w) X.A (spliced (backTo pos (starEach es X.env))) (AP X pins σ Q) X.xe s
def PS (X : Cx) (st : Stmt) (t : TS) : Prop :=
 ∀ (pins : List (Addr × Obj)) (s : Shared) (σ : St) (H : Hp) (D : Ends), Inv X pins σ H s -> t D σ H -> wpAny (model X.prog X.w) X.A (exec st X.env) (SP X pins D) X.xe s
def PSs (X : Cx) (st : List Stmt) (t : TS) : Prop :=
 ∀ (pins : List (Addr × Obj)) (s : Shared) (σ : St) (H : Hp) (D : Ends), Inv X pins σ H s -> t D σ H -> wpAny (model X.prog X.w) X.A (execs st X.env) (SP X pins D) X.xe s
theorem thn {α : Type} {t : Sem α} {Q Q' : α -> Shared -> Prop} {M : Model} {A : Around} {E : Value -> Shared -> Prop} {s : Shared} (h : wpAny M A t Q E s) (hQ : ∀ a s, Q a s -> Q' a s) : wpAny M A t Q' E s := wpAny_mono h hQ λ _ _ x => x
section
variable {X : Cx}
def tVar (i : Nat) : TE := λ σ H Q => ∃ v, σ[i]? = some (some v) /\ Q v H
def tC (v : V) : TE := λ _ H Q => Q v H
theorem RW (hN : X.N[i]? = some x) (hv : Vis X.env.scope x) (hd : (x == ("__debug__" : Str)) = false := by decide) (hcd : (x == ("__classdict__" : Str)) = false := by decide) : PE X (.Name x pos) (tVar i) := by
 intro pins s σ H Q I h;obtain ⟨v, e, h⟩ := h;obtain ⟨m, hn, hl⟩ := I.loc;obtain ⟨u, r, l⟩ := hl i x v hN e hv;have fin : EP X pins σ Q u s := ⟨v, H, I, r, h⟩
 rcases l with ⟨hk, hm⟩ | ⟨hk, c, hc, hcell⟩
 .exact wpAny_Name (wpAny_loadName_local I.ok.kind hk hn hm fin) hd
 .rcases hk with hk | hk
  .exact wpAny_Name (wpAny_loadName_cell I.ok.kind hk hc hcell fin) hd
  .exact wpAny_Name (wpAny_loadName_free I.ok.kind hk hc hcell fin hcd) hd
theorem Jl {i j pos} : PE X (.Constant (.int i) j pos) (tC (.int i)) := λ _ _ _ H _ I h => wpAny_Constant_int ⟨.int i, H, I.tok _, ⟨_, rfl⟩, h⟩
theorem Wc {b j pos} : PE X (.Constant (.bool b) j pos) (tC (.bl b)) := λ _ _ _ H _ I h => Constant_bool ⟨.bl b, H, I, rfl, h⟩
theorem Qy {j pos} : PE X (.Constant .none j pos) (tC .non) := λ _ _ _ H _ I h => Constant_none ⟨.non, H, I, rfl, h⟩
theorem Qt {x j pos} : PE X (.Constant (.str x) j pos) (tC (.str x)) := λ _ _ _ H _ I h => Calls.Constant_str ⟨.str x, H, I.tok _, ⟨_, rfl⟩, h⟩
def Gl (X : Cx) (x : Str) : Prop := X.env.kindOf x = some .globalImplicit
theorem MF {E : Value -> Shared -> Prop} {Q : Value -> Shared -> Prop} (I : Inv X pins σ H s) (hg : Gl X x) (hm : X.mg x = some u) (h : Q u s)
  (hd : (x == ("__debug__" : Str)) = false := by decide) : wpAny (model X.prog X.w) X.A (eval (.Name x pos) X.env) Q E s :=
 Calls.Name_function_global I.ok.kind hg (Calls.loadGlobal_global (by rw [I.ok.glob]; exact I.mod.glob.keeps I.bk) hm h) hd
theorem lD {E : Value -> Shared -> Prop} {Q : Value -> Shared -> Prop} (I : Inv X pins σ H s) (hg : Gl X x) (hm : X.mg x = none) (hv : bootBuiltins x = some u) (h : Q u s)
  (hn : x ≠ "__name__" := by decide) (hd : (x == ("__debug__" : Str)) = false := by decide) : wpAny (model X.prog X.w) X.A (eval (.Name x pos) X.env) Q E s := by
 obtain ⟨mb, h1, h2⟩ := I.mod.blt;exact Calls.Name_function_global I.ok.kind hg (Calls.loadGlobal_builtin (by rw [I.ok.glob]; exact I.mod.glob.keeps I.bk) hm (by rw [I.ok.blt]; exact h1.keeps I.bk) ((h2 x hn).trans hv) h) hd
theorem Py (hg : Gl X x) (hm : X.mg x = none) (hv : bootBuiltins x = some u) (r : RelV v u) (hn : x ≠ "__name__" := by decide) (hd : (x == ("__debug__" : Str)) = false := by decide) : PE X (.Name x pos) (tC v) :=
 λ _ _ _ H _ I h => lD I hg hm hv ⟨v, H, I, r, h⟩ hn hd
variable {a b : Expr} {ta tb : TE} {pos : Pos}
theorem Ae (b : Expr) (h : op ≠ .In) (h2 : op ≠ .NotIn) : behindInMarks op b = false := by
 have e1 : (op == CmpOp.In) = false := by cases op <;> first | rfl | exact absurd rfl h
 have e2 : (op == CmpOp.NotIn) = false := by cases op <;> first | rfl | exact absurd rfl h2
 cases b <;> simp [behindInMarks, e1, e2]
variable {tA tB' : TT} {rest : List Expr}
def tAnd (t u : TT) : TT := λ σ H Q => t σ H λ c H1 => if c = true then u σ H1 Q else Q false H1
def tOr (t u : TT) : TT := λ σ H Q => t σ H λ c H1 => if c = true then Q true H1 else u σ H1 Q
def tNot (t : TT) : TT := λ σ H Q => t σ H λ c H1 => Q (!c) H1
theorem Pj (ha : PT X a tA) : PW X (.BoolOp .And [a] pos) tA := by
 intro wh pins s σ H Q I h;refine isTrue_and (thn (ha pins s σ H Q I h) λ c s1 e => ?_);cases c with
 | true => exact isTrue_and_nil e
 | false => exact e
theorem Tr (ha : PT X a tA) : PW X (.BoolOp .Or [a] pos) tA := by
 intro wh pins s σ H Q I h;refine isTrue_or (thn (ha pins s σ H Q I h) λ c s1 e => ?_);cases c with
 | false => exact isTrue_or_nil e
 | true => exact e
theorem RB (ha : PT X a tA) (hb : PW X (.BoolOp .And (b :: rest) pos) tB') : PW X (.BoolOp .And (a :: b :: rest) pos) (tAnd tA tB') := by
 intro wh pins s σ H Q I h;refine isTrue_and (thn (ha pins s σ H _ I h) λ c s1 zq7 => ?_);obtain ⟨H1, I1, q1⟩ := zq7;cases c with
 | true => exact hb wh pins s1 σ H1 Q I1 q1
 | false => exact ⟨H1, I1, q1⟩
theorem Vu (ha : PT X a tA) (hb : PW X (.BoolOp .Or (b :: rest) pos) tB') : PW X (.BoolOp .Or (a :: b :: rest) pos) (tOr tA tB') := by
 intro wh pins s σ H Q I h;refine isTrue_or (thn (ha pins s σ H _ I h) λ c s1 zq8 => ?_);obtain ⟨H1, I1, q1⟩ := zq8;cases c with
 | true => exact ⟨H1, I1, q1⟩
 | false => exact hb wh pins s1 σ H1 Q I1 q1
theorem Tt (ha : PT X a tA) : PT X (.UnaryOp .Not a pos) (tNot tA) := by
 intro pins s σ H Q I h;exact isTrue_not (ha pins s σ H (λ c H1 => Q (!c) H1) I h)
def Uz (ta tb : TE) : TE := λ σ H Q => ta σ H λ x H1 => ∃ c, x = .bl c /\ if c = true then tb σ H1 Q else Q (.bl false) H1
def Vx (ta : TE) : TE := λ σ H Q => ta σ H λ x H1 => ∃ c, x = .bl c /\ Q (.bl (!c)) H1
theorem Sy {op} (h : PE X a t) : PE X (.BoolOp op [a] pos) t := λ pins s σ H Q I hw => BoolOp_one (h pins s σ H Q I hw)
theorem RC (ha : PE X a ta) (hb : PE X (.BoolOp .And (b :: rest) pos) tb) : PE X (.BoolOp .And (a :: b :: rest) pos) (Uz ta tb) := by
 intro pins s σ H Q I h;refine BoolOp_and (thn (ha pins s σ H _ I h) λ v s1 zq9 => ?_);obtain ⟨x, H1, I1, r1, q1⟩ := zq9;obtain ⟨c, rfl, q1⟩ := q1;cases r1;refine wpAny_truthy_bool ?_;cases c with
 | true => exact hb pins s1 σ H1 Q I1 q1
 | false => exact ⟨.bl false, H1, I1, rfl, q1⟩
theorem QQ (ha : PE X a ta) : PE X (.UnaryOp .Not a pos) (Vx ta) := by
 intro pins s σ H Q I h;refine UnaryOp_ (thn (ha pins s σ H _ I h) λ v s1 zq11 => ?_);obtain ⟨x, H1, I1, r1, q1⟩ := zq11;obtain ⟨c, rfl, q1⟩ := q1;cases r1;exact not_of (wpAny_truthy_bool ⟨.bl (!c), H1, I1, rfl, q1⟩)
end
def SqL (K : PySem.W.Frag) (H : Hp) (a : Addr) (xs : List V) : Prop :=
 Rd H a (.lst xs) ∨
  ∃ (o : Obj) (its : Array Value) (n : Nat), K.lookup a = some o /\ o.cls = .type "list" /\ o.dict = none /\ o.data = .seq its n /\ its.size <= sizeLine /\ Vals xs its.toList
def SqT (K : PySem.W.Frag) (H : Hp) (a : Addr) (xs : List V) : Prop :=
 Rd H a (.tup xs) ∨
  ∃ (o : Obj) (its : Array Value) (n : Nat), K.lookup a = some o /\ o.cls = .type "tuple" /\ o.data = .seq its n /\ its.size <= sizeLine /\ Vals xs its.toList
def absV : Value -> Option V
 | .none => some .non
 | .bool b => some (.bl b)
 | .int i _ => some (.int i)
 | .str x _ => some (.str x)
 | .bytes b _ => some (.byt b)
 | .float b _ => some (.flt b)
 | .ref a => some (.ref a)
 | .type n => some (.ty n)
 | _ => none
theorem RelV.abs (r : RelV x u) : absV u = some x := by
 cases x with
 | non => cases r; rfl
 | bl _ => cases r; rfl
 | int _ => obtain ⟨t, rfl⟩ := r; rfl
 | str _ => obtain ⟨t, rfl⟩ := r; rfl
 | byt _ => obtain ⟨t, rfl⟩ := r; rfl
 | flt _ => obtain ⟨t, rfl⟩ := r; rfl
 | ref _ => cases r; rfl
 | ty _ => cases r; rfl
theorem RelV.inj (r : RelV x u) (q : RelV y u) : x = y := Option.some.inj (r.abs.symm.trans q.abs)
theorem Vals.inj : ∀ {xs ys : List V} {us : List Value}, Vals xs us -> Vals ys us -> xs = ys
 | _, _, _, .nil, .nil => rfl
 | _, _, _, .cons r t, .cons r' t' => by rw [r.inj r', Vals.inj t t']
section
variable {X : Cx} {pins : List (Addr × Obj)} {σ : St} {H : Hp} {s : Shared} {a : Addr} {xs ys : List V}
theorem SqL.of {K : PySem.W.Frag} (h : H a = some (.lst xs)) : SqL K H a xs := .inl (.inl h)
theorem Inv.list (I : Inv X pins σ H s) (h : SqL X.K H a xs) : ∃ its : List Value, Vals xs its /\ PlainL s.heap a its.toArray /\ xs.length <= sizeLine := by
 rcases h with h | ⟨o, its, n, hk, hc, hd, hs, hz, r⟩
 .obtain ⟨z, its, n, r, e⟩ := h.ok I.hok;exact ⟨its, r, ⟨_, n, e, rfl, rfl, rfl⟩, z⟩
 .refine ⟨its.toList, r, ⟨o, n, I.kIn a o hk, hc, hd, by simpa using hs⟩, ?_⟩
  have e := r.length;simp only [Array.length_toList] at e;omega
theorem Inv.tuple (I : Inv X pins σ H s) (h : SqT X.K H a xs) : ∃ its : List Value, Vals xs its /\ IsTup s.heap a its.toArray /\ xs.length <= sizeLine := by
 rcases h with h | ⟨o, its, n, hk, hc, hs, hz, r⟩
 .obtain ⟨z, its, r, p⟩ := h.ok I.hok;exact ⟨its, r, p, z⟩
 .refine ⟨its.toList, r, ⟨o, I.kIn a o hk, hc, n, by simpa using hs⟩, ?_⟩
  have e := r.length;simp only [Array.length_toList] at e;omega
theorem Inv.list_inj (I : Inv X pins σ H s) (h : SqL X.K H a xs) (h' : SqL X.K H a ys) : xs = ys := by
 obtain ⟨its, r, ⟨o, n, e, _, _, d⟩, _⟩ := I.list h;obtain ⟨its', r', ⟨o', n', e', _, _, d'⟩, _⟩ := I.list h';rw [e] at e'; cases e';rw [d] at d';injection d' with d1 _
 have : its = its' := by simpa using congrArg Array.toList d1
 subst this;exact r.inj r'
theorem Inv.tuple_inj (I : Inv X pins σ H s) (h : SqT X.K H a xs) (h' : SqT X.K H a ys) : xs = ys := by
 obtain ⟨its, r, ⟨o, e, _, n, d⟩, _⟩ := I.tuple h;obtain ⟨its', r', ⟨o', e', _, n', d'⟩, _⟩ := I.tuple h';rw [e] at e'; cases e';rw [d] at d';injection d' with d1 _
 have : its = its' := by simpa using congrArg Array.toList d1
 subst this;exact r.inj r'
end
abbrev Cx.wish (X : Cx) (E : Value -> Shared -> Prop) : Cx := { X with xe := E }
abbrev Cx.nox (X : Cx) : Cx := X.wish λ _ _ => False
theorem Cx.Ok.wish {X : Cx} (ok : X.Ok) (E : Value -> Shared -> Prop) : (X.wish E).Ok :=
 ⟨ok.mod, ok.kind, ok.glob, ok.blt, ok.above, ok.inj, ok.has, ok.cab, ok.hd, ok.frames, ok.stk, ok.exf, ok.bs, ok.bsz, ok.noex, ok.exfs, ok.funs, ok.frf⟩
theorem Cx.Ok.unwish {X : Cx} {E : Value -> Shared -> Prop} (ok : (X.wish E).Ok) : X.Ok :=
 ⟨ok.mod, ok.kind, ok.glob, ok.blt, ok.above, ok.inj, ok.has, ok.cab, ok.hd, ok.frames, ok.stk, ok.exf, ok.bs, ok.bsz, ok.noex, ok.exfs, ok.funs, ok.frf⟩
section
variable {X : Cx} {pins : List (Addr × Obj)} {σ : St} {H : Hp} {s : Shared} {E : Value -> Shared -> Prop}
theorem Inv.wish (I : Inv X pins σ H s) (E : Value -> Shared -> Prop) : Inv (X.wish E) pins σ H s := ⟨I.ok.wish E, I.os, I.bare, I.base, I.loc, I.cell, I.free, I.freeC, I.pin, I.hok, I.len⟩
theorem Inv.unwish (I : Inv (X.wish E) pins σ H s) : Inv X pins σ H s := ⟨I.ok.unwish, I.os, I.bare, I.base, I.loc, I.cell, I.free, I.freeC, I.pin, I.hok, I.len⟩
theorem SP.unwish (h : SP (X.wish E) pins D f s') : SP X pins D f s' := by
 cases f with
 | next => obtain ⟨σ', H', I, q⟩ := h; exact ⟨σ', H', I.unwish, q⟩
 | brk => obtain ⟨σ', H', I, q⟩ := h; exact ⟨σ', H', I.unwish, q⟩
 | cont => obtain ⟨σ', H', I, q⟩ := h; exact ⟨σ', H', I.unwish, q⟩
 | ret u => obtain ⟨v, σ', H', I, r, q⟩ := h; exact ⟨v, σ', H', I.unwish, r, q⟩
theorem PSs.nox {st : List Stmt} {t : TS} (h : PSs X.nox st t) : PSs X st t := λ pins s σ H D I hw =>
 wpAny_mono (h pins s σ H D (I.wish _) hw) (λ _ _ q => q.unwish) λ _ _ z => False.elim z
end
section
variable {X : Cx} {st : Stmt} {rest : List Stmt} {t u : TS} {e : Expr} {te : TE} {pos : Pos}
def Vc : TS := λ D σ H => D.nx σ H
def tSeq (t u : TS) : TS := λ D σ H => t { D with nx := u D } σ H
theorem Lx : PSs X [] Vc := λ _ _ σ H _ I h => wpAny_execs_nil ⟨σ, H, I, h⟩
theorem JF (h1 : PS X st t) (h2 : PSs X rest u) : PSs X (st :: rest) (tSeq t u) := by
 intro pins s σ H D I h;refine wpAny_execs_cons (thn (h1 pins s σ H { D with nx := u D } I h) λ f s1 q => ?_)
 cases f with
 | next =>
  obtain ⟨σ', H', I', q⟩ := q;exact h2 pins s1 σ' H' D I' q
 | ret v => exact q
 | brk => exact q
 | cont => exact q
theorem Pa (h1 : PS X st t) : PSs X [st] t := by
 intro pins s σ H D I h;refine wpAny_execs_cons (thn (h1 pins s σ H D I h) λ f s1 q => ?_);cases f with
 | next => exact wpAny_execs_nil q
 | ret v => exact q
 | brk => exact q
 | cont => exact q
def QG : TS := λ D σ H => D.bk σ H
theorem JL : PS X (.Break pos) QG := λ _ _ σ H _ I h => wpAny_Break ⟨σ, H, I, h⟩
theorem Inv.quiet (I : Inv X pins σ H s) : interactive X.env = false := by simp [interactive, I.ok.kind]
def UV (te : TE) : TS := λ D σ H => te σ H λ _ H1 => D.nx σ H1
theorem Ot (he : PE X e te) (hs : swapsWith e none pos.line X.env = pure false := by rfl) : PS X (.Expr e pos) (UV te) := by
 intro pins s σ H D I h;exact wpAny_Expr_any (thn (he pins s σ H _ I h) λ v s1 ⟨x, H1, I1, r1, q1⟩ => ⟨σ, H1, I1, q1⟩) I.quiet hs
def tRet (te : TE) : TS := λ D σ H => te σ H D.rt
theorem Tq (he : PE X e te) : PS X (.Return (some e) pos) (tRet te) := by
 intro pins s σ H D I h;exact wpAny_Return_some (thn (he pins s σ H _ I h) λ v s1 ⟨x, H1, I1, r1, q1⟩ => ⟨x, σ, H1, I1, r1, q1⟩)
def tIfS (c : TT) (t u : TS) : TS := λ D σ H => c σ H λ b H1 => if b = true then t D σ H1 else u D σ H1
theorem Vo {c : Expr} {a b : List Stmt} {tc : TT} (hc : PT X c tc) (ha : PSs X a t) (hb : PSs X b u) : PS X (.If c a b pos) (tIfS tc t u) := by
 intro pins s σ H D I h;refine wpAny_If (thn (hc pins s σ H _ I h) λ d s1 zq13 => ?_);obtain ⟨H1, I1, q1⟩ := zq13;cases d with
 | true => exact ha pins s1 σ H1 D I1 q1
 | false => exact hb pins s1 σ H1 D I1 q1
end
abbrev TG := V -> St -> Hp -> (St -> Hp -> Prop) -> Prop
abbrev TGs := List V -> St -> Hp -> (St -> Hp -> Prop) -> Prop
def PG (X : Cx) (target : Expr) (t : TG) : Prop :=
 ∀ (pins : List (Addr × Obj)) (s : Shared) (σ : St) (H : Hp) (v : V) (u : Value) (Q : St -> Hp -> Prop), Inv X pins σ H s -> RelV v u -> t v σ H Q ->
  wpAny (model X.prog X.w) X.A (assign target X.env u) (λ _ s' => ∃ σ' H', Inv X pins σ' H' s' /\ Q σ' H') X.xe s
def PGs (X : Cx) (ts : List Expr) (t : TGs) : Prop :=
 ∀ (pins : List (Addr × Obj)) (s : Shared) (σ : St) (H : Hp) (vs : List V) (us : List Value) (Q : St -> Hp -> Prop), Inv X pins σ H s -> Vals vs us -> t vs σ H Q ->
  wpAny (model X.prog X.w) X.A (assignInOrder ((assignEach ts X.env).map (·.2)) us) (λ _ s' => ∃ σ' H', Inv X pins σ' H' s' /\ Q σ' H') X.xe s
abbrev QF := V -> V -> V -> Hp -> (Hp -> Prop) -> Prop
def Vg (X : Cx) (t : QF) : Prop :=
 ∀ (pins : List (Addr × Obj)) (s : Shared) (σ : St) (H : Hp) (o i v : V) (ov iv u : Value) (Q : Hp -> Prop), Inv X pins σ H s -> RelV o ov -> RelV i iv -> RelV v u -> t o i v H Q ->
  wpAny (model X.prog X.w) X.A (setItem ov iv u) (λ _ s' => ∃ H', Inv X pins σ H' s' /\ Q H') X.xe s
abbrev TIp := V -> V -> Hp -> VK -> Prop
def PIp (X : Cx) (op : Operator) (t : TIp) : Prop :=
 ∀ (pins : List (Addr × Obj)) (s : Shared) (σ : St) (H : Hp) (x y : V) (v u : Value) (Q : VK), Inv X pins σ H s -> RelV x v -> RelV y u -> t x y H Q ->
  wpAny (model X.prog X.w) X.A (inplaceOp op v u) (EP X pins σ Q) X.xe s
section
variable {X : Cx} {pos : Pos}
def Ju (i : Nat) : TG := λ v σ H Q => Q (σ.set i (some v)) H
theorem Np (hN : X.N.Nodup) (hi : X.N[i]? = some x) (hx : Loc X.env.scope x) (hf : X.fn x = true ∨ X.env.scope.names.lookup x = some .local := by first | exact .inl rfl | exact .inr rfl | assumption) : PG X (.Name x pos) (Ju i) := by
 intro pins s σ H v u Q I r h;exact wpAny_assign_Name (nO I hN hi hx r (λ s' I' => ⟨_, H, I', h⟩) hf)
def gNil : TGs := λ vs σ H Q => vs = [] /\ Q σ H
def Ui (t : TG) (u : TGs) : TGs := λ vs σ H Q => ∃ v r, vs = v :: r /\ t v σ H λ σ' H' => u r σ' H' Q
theorem Mr : PGs X [] gNil := by
 intro pins s σ H vs us Q I r h;obtain ⟨e, h⟩ := h;subst e;cases r;exact assignInOrder_nil ⟨σ, H, I, h⟩
theorem Lh {e : Expr} {es : List Expr} {t : TG} {u : TGs} (h1 : PG X e t) (h2 : PGs X es u)
  (hs : (assignEach (e :: es) X.env).map (·.2) = assign e X.env :: (assignEach es X.env).map (·.2) := by rfl) : PGs X (e :: es) (Ui t u) := by
 intro pins s σ H vs us Q I r h;obtain ⟨v, vr, e1, h⟩ := h;subst e1;cases r with
 | cons r rr =>
  rw [hs];refine assignInOrder_cons (thn (h1 pins s σ H _ _ _ I r h) λ _ s1 zq14 => ?_);obtain ⟨σ1, H1, I1, q1⟩ := zq14;exact h2 pins s1 σ1 H1 _ _ Q I1 rr q1
def gTup (K : PySem.W.Frag) (n : Nat) (t : TGs) : TG := λ v σ H Q => ∃ a xs, v = .ref a /\ SqT K H a xs /\ xs.length = n /\ t xs σ H Q
theorem Qu (hc : X.calm = true) (h : PGs X es t)
  (hn : (assignEach es X.env).length = n := by rfl) (hst : (assignEach es X.env).findIdx? (·.1) = none := by rfl) : PG X (.Tuple es k pos) (gTup X.K n t) := by
 intro pins s σ H v u Q I r hw;obtain ⟨a, xs, e1, hq, hl, hw⟩ := hw;subst e1;cases r;obtain ⟨its, rv, ht, hz⟩ := I.tuple hq;refine assign_Tuple_tuple (I.ok.hd hc) ht (by simp [hn, <- hl, rv.length]) hst λ h' hx => ?_
 have I1 : Inv X pins σ H { s with heap := h' } := I.kept (t' := s.toks) λ b o e => hx b o (Zk (Ze e)) e
 exact h pins _ σ H xs _ Q I1 (by simpa using rv) hw
def gSub (to ti : TE) (t : QF) : TG := λ v σ H Q => to σ H λ o H1 => ti σ H1 λ i H2 => t o i v H2 λ H3 => Q σ H3
theorem Ry {o i : Expr} {to ti : TE} {t : QF} (ho : PE X o to) (hi : PE X i ti) (hs : Vg X t)
  (ha : ∀ v, assign (.Subscript o i pos) X.env v = (do
   let ov <- holding [v] (eval o X.env)
   let iv <- holding [v, ov] (eval i X.env)
   standAt pos
   holding [v, ov, iv] (setItem ov iv v)
   release [v, ov, iv] []) := by intro _; rfl) : PG X (.Subscript o i pos) (gSub to ti t) := by
 intro pins s σ H v u Q I r h;rw [ha];refine wpAny_bind (wpAny_holding (thn (ho pins s σ H _ I h) λ ov s1 zq15 => ?_));obtain ⟨x, H1, I1, r1, q1⟩ := zq15;refine wpAny_bind (wpAny_holding (thn (hi pins s1 σ H1 _ I1 q1) λ iv s2 zq16 => ?_));obtain ⟨y, H2, I2, r2, q2⟩ := zq16;refine wpAny_bind (wpAny_standAt (wpAny_bind (wpAny_holding (thn (hs pins s2 σ H2 x y v ov iv u _ I2 r1 r2 r q2) λ _ s3 zq17 => ?_))));obtain ⟨H3, I3, q3⟩ := zq17;exact wpAny_release ⟨σ, H3, I3, q3⟩
def RQ (te : TE) (g : TG) : TS := λ D σ H => te σ H λ x H1 => g x σ H1 D.nx
theorem Ja {tg e : Expr} {te : TE} {g : TG} (he : PE X e te) (hg : PG X tg g) (hs : swapsWithSole [tg] e pos.line X.env = pure false := by rfl) (hw : swappedStores [tg] e X.env = pure none := by rfl)
  (h1 : (assignEach [tg] X.env).map (·.2) = [assign tg X.env] := by rfl) : PS X (.Assign [tg] e pos) (RQ te g) := by
 intro pins s σ H D I h;refine wpAny_Assign_stores (thn (he pins s σ H _ I h) λ v s1 ⟨x, H1, I1, r1, q1⟩ => ?_) hs hw;rw [h1];exact thn (hg pins s1 σ H1 x v _ I1 r1 q1) λ _ s2 q => q
theorem Rv {i : Nat} {x : Str} {e : Expr} {te : TE} {pos' : Pos} (hN : X.N.Nodup) (hi : X.N[i]? = some x) (hx : Loc X.env.scope x) (he : PE X e te) (hs : swapsWith e (some (.Name x pos')) pos.line X.env = pure false := by rfl) (hf : X.fn x = true ∨ X.env.scope.names.lookup x = some .local := by first | exact .inl rfl | exact .inr rfl | assumption) :
  PS X (.Assign [.Name x pos'] e pos) (RQ te (Ju i)) := by
 intro pins s σ H D I h;refine wpAny_Assign_Name (thn (he pins s σ H _ I h) λ v s1 zq18 => ?_) hs;obtain ⟨y, H1, I1, r1, q1⟩ := zq18;exact nO I1 hN hi hx r1 (λ s2 I2 => ⟨_, H1, I2, q1⟩) hf
def tPar (i j : Nat) (ta : TA) : TS := λ D σ H => ta σ H λ vs H1 => ∃ v w, vs = [v, w] /\ D.nx ((σ.set i (some v)).set j (some w)) H1
theorem SQ {i j : Nat} {x y : Str} {a b : Expr} {ta : TA} {px py pt : Pos} {kt k2 pt2} (hc : X.calm = true) (hN : X.N.Nodup) (hi : X.N[i]? = some x) (hj : X.N[j]? = some y) (hij : i ≠ j)
  (hx : X.env.scope.names.lookup x = some .local) (hy : X.env.scope.names.lookup y = some .local) (ha : PA X [a, b] ta)
  (hw : swappedStores [.Tuple [.Name x px, .Name y py] kt pt] (.Tuple [a, b] k2 pt2) X.env = pure (some [x, y]))
  (hs : swapsWithSole [.Tuple [.Name x px, .Name y py] kt pt] (.Tuple [a, b] k2 pt2) pos.line X.env = pure false := by rfl) :
  PS X (.Assign [.Tuple [.Name x px, .Name y py] kt pt] (.Tuple [a, b] k2 pt2) pos) (tPar i j ta) := by
 intro pins s σ H D I h;rw [exec_Assign_arm];refine wpAny_bind (wpAny_standAt ?_);rw [hs];refine wpAny_bind (wpAny_pure ?_);rw [if_neg (by decide)]
 refine wpAny_bind (Tuple_ (thn (ha _ pins s σ H _ I h) λ us s1 zq19 => ?_));obtain ⟨vs, H1, I1, r1, q1⟩ := zq19;obtain ⟨v, w, e1, q1⟩ := q1;subst e1;obtain ⟨u1, u2, rfl, rv, rw'⟩ : ∃ u1 u2, us = [u1, u2] /\ RelV v u1 /\ RelV w u2 := by
  cases r1 with
  | cons p q =>
   cases q with
   | cons p' q' =>
    cases q';exact ⟨_, _, rfl, p, p'⟩
 refine wpAny_newObj_type ?_ (by show 2 <= sizeLine; decide)
 have I2 : Inv X pins σ H1 { s1 with heap := s1.heap.push { cls := .type "tuple", data := .seq [u1, u2].toArray } } := I1.kept (t' := s1.toks) λ b o e => Zb _ e
 rw [hw];refine wpAny_bind (wpAny_pure ?_);show wpAny (model X.prog X.w) X.A (do rule "assign.swapped-stores"; let items <- unpackItems (.ref s1.heap.objs.size) 2 none; assignInOrder [λ v => bindName X.env y v, λ v => bindName X.env x v] items.reverse; pure Flow.next) _ _ _
 refine wpAny_bind (wpAny_rule (wpAny_bind (unpackItems_tuple (items := #[u1, u2]) (I.ok.hd hc) (IsTup.new s1.heap _) λ h' hx' => ?_)));have I3 := I2.kept (h' := h') (t' := s1.toks) λ b o e => hx' b o (Zk (Ze e)) e;show wpAny _ _ (assignInOrder [λ v => bindName X.env y v, λ v => bindName X.env x v] [u2, u1] >>= λ _ => pure Flow.next) _ _ _;refine wpAny_bind (assignInOrder_cons (wpAny_bindName (nO I3 hN hj (.inl hy) rw' (λ s2 I4 => ?_) (.inr hy))));refine assignInOrder_cons (wpAny_bindName (nO I4 hN hi (.inl hx) rv (λ s3 I5 => assignInOrder_nil (wpAny_pure ?_)) (.inr hx)));rw [List.set_comm _ _ (Ne.symm hij)] at I5;exact ⟨_, H1, I5, q1⟩
def tAug (i : Nat) (te : TE) (ti : TIp) : TS := λ D σ H => ∃ x, σ[i]? = some (some x) /\ te σ H λ y H1 => ti x y H1 λ z H2 => D.nx (σ.set i (some z)) H2
theorem RN {i : Nat} {x : Str} {e : Expr} {te : TE} {op : Operator} {ti : TIp} {pos' : Pos} (hN : X.N.Nodup) (hi : X.N[i]? = some x) (hx : Loc X.env.scope x) (he : PE X e te) (ho : PIp X op ti) (hf : X.fn x = true ∨ X.env.scope.names.lookup x = some .local := by first | exact .inl rfl | exact .inr rfl | assumption) :
  PS X (.AugAssign (.Name x pos') op e pos) (tAug i te ti) := by
 intro pins s σ H D I h;obtain ⟨v, e1, h⟩ := h;obtain ⟨m, hn, hl⟩ := I.loc;have vis : Vis X.env.scope x := by rcases hx with k | k; exact .inl k; exact .inr (.inl k)
 obtain ⟨u, r, l⟩ := hl i x v hi e1 vis;refine wpAny_AugAssign_Name ?_;have go : wpAny (model X.prog X.w) X.A (eval e X.env) (λ w s₂ => wpAny (model X.prog X.w) X.A (inplaceOp op u w) (λ r s₃ => wpAny (model X.prog X.w) X.A (storeName X.env x r) (λ _ => SP X pins D .next) X.xe s₃) X.xe s₂) X.xe s := by
  refine thn (he pins s σ H _ I h) λ w s1 zq20 => ?_;obtain ⟨y, H1, I1, r1, q1⟩ := zq20;refine thn (ho pins s1 σ H1 v y u w _ I1 r r1 q1) λ z s2 zq21 => ?_;obtain ⟨zv, H2, I2, r2, q2⟩ := zq21;exact nO I2 hN hi hx r2 (λ s3 I3 => ⟨_, H2, I3, q2⟩) hf
 rcases l with ⟨hk, hm⟩ | ⟨hk, c, hc, hcell⟩
 .exact wpAny_loadName_local I.ok.kind hk hn hm go
 .rcases hk with hk | hk
  .exact wpAny_loadName_cell I.ok.kind hk hc hcell go
  .rcases hx with k | k
   .have : X.env.scope.names.lookup x = some .free := hk;rw [k] at this; cases this
   .have : X.env.scope.names.lookup x = some .free := hk;rw [k] at this; cases this
end
section
variable {X : Cx} {pos : Pos}
def RZ (c : TT) (tb : TS) : TS := λ D σ H => ∃ W : Nat -> St -> Hp -> Prop, (∃ m, W m σ H) /\ ∀ m σ H, W m σ H ->
 c σ H λ b H1 => if b = true then ∃ N : St -> Hp -> Prop, (∀ σ' H', N σ' H' -> ∃ m', m' < m /\ W m' σ' H') /\ tb { D with nx := N, ct := N, bk := D.nx } σ H1 else D.nx σ H1
theorem Kz {c : Expr} {body : List Stmt} {tc : TT} {tb : TS} (hp : PassesOwn (model X.prog X.w) X.A X.env X.xe) (hc : PT X c tc) (hb : PSs X body tb) : PS X (.While c body [] pos) (RZ tc tb) := by
 intro pins s σ H D I h;obtain ⟨W, ⟨m0, w0⟩, turn⟩ := h;refine wpAny_While (codeAny_whileLoop (λ n s' => ∃ σ' H', Inv X pins σ' H' s' /\ W n σ' H') ?_ m0 ⟨σ, H, I, w0⟩);rintro n s1 ⟨σ1, H1, I1, w1⟩;refine wpAny_passesOwn hp (thn (hc pins s1 σ1 H1 _ I1 (turn n σ1 H1 w1)) λ b s2 zq27 => ?_);obtain ⟨H2, I2, q2⟩ := zq27;cases b with
 | true =>
  obtain ⟨N, hN, q2⟩ := q2;rw [if_pos rfl];refine wpAny_passesOwn hp (thn (hb pins s2 σ1 H2 _ I2 q2) λ f s3 q3 => ?_);cases f with
  | next =>
   obtain ⟨σ3, H3, I3, n3⟩ := q3;obtain ⟨m', hm, w3⟩ := hN σ3 H3 n3;exact ⟨m', hm, σ3, H3, I3, w3⟩
  | cont =>
   obtain ⟨σ3, H3, I3, n3⟩ := q3;obtain ⟨m', hm, w3⟩ := hN σ3 H3 n3;exact ⟨m', hm, σ3, H3, I3, w3⟩
  | brk => exact q3
  | ret v => exact q3
 | false =>
  rw [if_neg Zr];exact wpAny_execs_nil ⟨σ1, H2, I2, q2⟩
end
structure It where
 go : Nat -> Hp -> Prop
 yld : Nat -> Hp -> V -> Hp -> Prop
 stop : Nat -> Hp -> Prop
def mQ (X : Cx) (pins : List (Addr × Obj)) (H : Hp) (b : Addr) : Prop :=
 H b = none /\ b ≠ X.env.locals /\ b ∉ X.fs /\ (b ∈ X.ex ∨ X.s₀.heap.objs.size <= b) /\ (∀ x c, X.env.cells.lookup x = some c -> c ≠ b) /\ ∀ p ∈ X.pn ++ pins, p.1 ≠ b
theorem Inv.fpOk (I : Inv X pins σ H s) (hb : s.heap.objs.size <= b) (hn : H' b = none) : mQ X pins H' b := by
 refine ⟨hn, Nat.ne_of_gt (Zc I.lt hb), I.nofs hb, .inr (Zl I.sz hb), λ x c e z => ?_, λ p hp z => ?_⟩
 .obtain ⟨v, q⟩ := I.cell x c e;exact absurd (Zc q.lt (by rw [z]; exact hb)) (Nat.lt_irrefl _)
 .exact absurd (Zc (Ze (I.pin p hp).1) (by rw [z]; exact hb)) (Nat.lt_irrefl _)
structure Turn (P : Program) (w : World) (K : PySem.W.Frag) (tg : Expr) (J : It) (fp : List Addr) (it : Addr) (tn : Nat -> Heap -> Prop) : Prop where
 mem : it ∈ fp
 obj : ∀ i h, tn i h -> ∀ b ∈ fp, ∃ o, h.get? b = some o /\ ∀ v, o.data ≠ .cell v
 keep : ∀ i h h', tn i h -> (∀ b ∈ fp, ∀ o, h.get? b = some o -> h'.get? b = some o) -> tn i h'
 item : ∀ (X : Cx), X.prog = P -> X.w = w -> X.K = K -> X.calm = true -> ∀ (i : Nat) (pins : List (Addr × Obj)) (s : Shared) (σ : St) (H : Hp) (E : Value -> Shared -> Prop), Inv X pins σ H s -> (∀ b ∈ fp, mQ X pins H b) -> tn i s.heap -> J.go i H ->
  wpAny (model P w) X.A (pyNext (.ref it)) (λ r s1 => ∃ u, r = some u /\
   wpAny (model P w) X.A (letOwnedTupleGo tg (.ref it) u) (λ _ s2 => ∃ x H', Inv X pins σ H' s2 /\ RelV x u /\ J.yld i H x H' /\ tn (i + 1) s2.heap /\ ∀ b ∈ fp, H' b = none) E s1) E s
 done : ∀ (X : Cx), X.prog = P -> X.w = w -> X.K = K -> X.calm = true -> ∀ (i : Nat) (pins : List (Addr × Obj)) (s : Shared) (σ : St) (H : Hp) (E : Value -> Shared -> Prop), Inv X pins σ H s -> (∀ b ∈ fp, mQ X pins H b) -> tn i s.heap -> J.stop i H ->
  wpAny (model P w) X.A (pyNext (.ref it)) (λ r s1 => r = none /\ Inv X pins σ H s1) E s
 self : ∀ (A : Around) (i : Nat) (s : Shared) (Q : Value -> Shared -> Prop) (E : Value -> Shared -> Prop), tn i s.heap -> Q (.ref it) s -> wpAny (model P w) A (pyIter (.ref it)) Q E s
abbrev TI := St -> Hp -> (It -> Hp -> Prop) -> Prop
def PIE (X : Cx) (pins : List (Addr × Obj)) (σ : St) (tg : Expr) (R : It -> Hp -> Prop) (itv : Value) (s2 : Shared) : Prop :=
 ∃ (it : Addr) (fp : List Addr) (tn : Nat -> Heap -> Prop) (J : It) (H' : Hp), itv = .ref it /\ Inv X pins σ H' s2 /\ Turn X.prog X.w X.K tg J fp it tn /\ tn 0 s2.heap /\ (∀ b ∈ fp, mQ X pins H' b) /\ R J H'
def PI (X : Cx) (tg iter : Expr) (wi : TI) : Prop :=
 ∀ (pins : List (Addr × Obj)) (s : Shared) (σ : St) (H : Hp) (R : It -> Hp -> Prop), Inv X pins σ H s -> wi σ H R ->
  wpAny (model X.prog X.w) X.A (eval iter X.env) (λ v s1 => wpAny (model X.prog X.w) X.A (pyIter v) (PIE X pins σ tg R) X.xe s1) X.xe s
theorem IW {E : Value -> Shared -> Prop} {Q : Unit -> Shared -> Prop} (ho : s.heap.get? it = some o) (hc : o.cls = .type n) (hd : o.data = .fields vs)
  (hn : ["enumerate", "zip", "dict_itemiterator", "dict_reverseitemiterator", "odict_iterator", "itertools.zip_longest", "itertools.pairwise"].contains n = false) (hQ : Q () s) : wpAny M A (letOwnedTupleGo tg (.ref it) u) Q E s := by
 unfold letOwnedTupleGo;cases tg <;> first
  | exact wpAny_pure hQ
  | (cases u <;> first
    | exact wpAny_pure hQ
    | (refine wpAny_bind (wpAny_load ho ?_)
       rw [hc, hd];show wpAny M A (if (["enumerate", "zip", "dict_itemiterator", "dict_reverseitemiterator", "odict_iterator", "itertools.zip_longest", "itertools.pairwise"].contains n && vs[0]? == some (rawInt _)) = true then _ else _) Q E s;rw [if_neg (by intro h; rw [hn, Bool.false_and] at h; cases h)]
       exact wpAny_pure hQ))
def Itl (K : PySem.W.Frag) (a : Addr) : It :=
 ⟨λ i H => ∃ xs x, SqL K H a xs /\ xs[i]? = some x, λ i H x H' => H' = H /\ ∀ xs, SqL K H a xs -> xs[i]? = some x, λ i H => ∃ xs, SqL K H a xs /\ xs.length <= i⟩
def Itt (K : PySem.W.Frag) (a : Addr) : It :=
 ⟨λ i H => ∃ xs x, SqT K H a xs /\ xs[i]? = some x, λ i H x H' => H' = H /\ ∀ xs, SqT K H a xs -> xs[i]? = some x, λ i H => ∃ xs, SqT K H a xs /\ xs.length <= i⟩
def Itr (lo : Int) (n : Nat) : It := ⟨λ i _ => i < n, λ i H x H' => H' = H /\ x = .int (lo + i), λ i _ => n <= i⟩
theorem wN {P : Program} {w : World} {K : PySem.W.Frag} {tg : Expr} (a it : Addr) : Turn P w K tg (Itl K a) [it] it (λ i h => h.IsListIter it a i) where
 mem := by simp
 obj := λ i h st b hb => by
  have e : b = it := by simpa using hb
  subst e;obtain ⟨o, e, c, d⟩ := st;exact ⟨o, e, λ v z => by rw [d] at z; cases z⟩
 keep := λ i h h' st k => st.at λ o e => k it (by simp) o e
 item := by
  intro X hP hw hK hc i pins s σ H E I hf st hg;subst hP hw hK;obtain ⟨xs, x, hq, hx⟩ := hg;obtain ⟨its, rv, p, hz⟩ := I.list hq;obtain ⟨u, hu, ru⟩ := rv.get hx;obtain ⟨f0, f1, f2, f3, f4, f5⟩ := hf it (by simp)
  refine wpAny_pyNext_list_item st p.isList (x := u) (by simpa using hu) λ h' st' sb => ?_
  have I1 : Inv X pins σ H { s with heap := h' } := I.turned (t' := s.toks) (λ b o hb e => (sb.2 b hb).trans e) f0 f1 f3 f4 f5
  obtain ⟨o, e, c, d⟩ := id st';exact ⟨u, rfl, IW (s := { s with heap := h' }) e c d (by decide) ⟨x, H, I1, ru, ⟨rfl, λ ys hy => by rw [I.list_inj hy hq]; exact hx⟩, st', λ b hb => (hf b hb).1⟩⟩
 done := by
  intro X hP hw hK hc i pins s σ H E I hf st hg;subst hP hw hK;obtain ⟨xs, hq, hx⟩ := hg;obtain ⟨its, rv, p, hz⟩ := I.list hq;obtain ⟨f0, f1, f2, f3, f4, f5⟩ := hf it (by simp)
  have hl := rv.length;exact wpAny_pyNext_list_end (I.ok.hd hc) st p.isList (by simp; omega) λ h' eb => ⟨rfl, I.turned (t' := s.toks) (λ b o hb e => eb b o hb e) f0 f1 f3 f4 f5⟩
 self := λ _ _ _ _ _ st h => wpAny_pyIter_listiter st h
theorem vV {P : Program} {w : World} {K : PySem.W.Frag} {tg : Expr} (a it : Addr) : Turn P w K tg (Itt K a) [it] it (λ i h => h.IsTupleIter it a i) where
 mem := by simp
 obj := λ i h st b hb => by
  have e : b = it := by simpa using hb
  subst e;obtain ⟨o, e, c, d⟩ := st;exact ⟨o, e, λ v z => by rw [d] at z; cases z⟩
 keep := λ i h h' st k => st.at λ o e => k it (by simp) o e
 item := by
  intro X hP hw hK hc i pins s σ H E I hf st hg;subst hP hw hK;obtain ⟨xs, x, hq, hx⟩ := hg;obtain ⟨its, rv, p, hz⟩ := I.tuple hq;obtain ⟨u, hu, ru⟩ := rv.get hx;obtain ⟨f0, f1, f2, f3, f4, f5⟩ := hf it (by simp)
  refine wpAny_pyNext_tuple_item st (show s.heap.IsTuple a its.toArray from p) (x := u) (by simpa using hu) λ h' st' sb => ?_
  have I1 : Inv X pins σ H { s with heap := h' } := I.turned (t' := s.toks) (λ b o hb e => (sb.2 b hb).trans e) f0 f1 f3 f4 f5
  obtain ⟨o, e, c, d⟩ := id st';exact ⟨u, rfl, IW (s := { s with heap := h' }) e c d (by decide) ⟨x, H, I1, ru, ⟨rfl, λ ys hy => by rw [I.tuple_inj hy hq]; exact hx⟩, st', λ b hb => (hf b hb).1⟩⟩
 done := by
  intro X hP hw hK hc i pins s σ H E I hf st hg;subst hP hw hK;obtain ⟨xs, hq, hx⟩ := hg;obtain ⟨its, rv, p, hz⟩ := I.tuple hq;obtain ⟨f0, f1, f2, f3, f4, f5⟩ := hf it (by simp)
  have hl := rv.length;exact wpAny_pyNext_tuple_end (I.ok.hd hc) st (show s.heap.IsTuple a its.toArray from p) (by simp; omega) λ h' eb => ⟨rfl, I.turned (t' := s.toks) (λ b o hb e => eb b o hb e) f0 f1 f3 f4 f5⟩
 self := λ _ _ _ _ _ st h => wpAny_pyIter_tupleiter st h
theorem De {P : Program} {w : World} {K : PySem.W.Frag} {tg : Expr} (it : Addr) (lo : Int) (n : Nat) : Turn P w K tg (Itr lo n) [it] it (λ i h => IsRangeIter h it (lo + (i : Nat) * 1) ((n : Int) - (i : Nat)) 1) where
 mem := by simp
 obj := λ i h st b hb => by
  have e : b = it := by simpa using hb
  subst e;exact ⟨_, st, λ v z => by
   have z' : Data.fields _ = Data.cell v := z;cases z'⟩
 keep := λ i h h' st k => k it (by simp) _ st
 item := by
  intro X hP hw hK hc i pins s σ H E I hf st hg;subst hP hw hK;obtain ⟨f0, f1, f2, f3, f4, f5⟩ := hf it (by simp)
  have W := Walks.range (prog := X.prog) (w := X.w) (I.ok.hd hc) it lo 1 n;refine W.item i s _ _ hg st λ v h' tk hv st' kk => ?_;obtain ⟨t, rfl⟩ := hv;have I1 : Inv X pins σ H { s with heap := h', toks := tk } := I.turned (λ b o hb e => kk b o (by simpa using hb) e) f0 f1 f3 f4 f5
  refine ⟨_, rfl, IW (s := { s with heap := h', toks := tk }) (n := "range_iterator") st' rfl rfl (by decide) ⟨.int (lo + i), H, I1, ⟨t, ?_⟩, ⟨rfl, rfl⟩, st', λ b hb => (hf b hb).1⟩⟩
  rw [Int.mul_one]
 done := by
  intro X hP hw hK hc i pins s σ H E I hf st hg;subst hP hw hK;obtain ⟨f0, f1, f2, f3, f4, f5⟩ := hf it (by simp)
  exact wpAny_pyNext_range_end (I.ok.hd hc) st (by have : n <= i := hg; omega) λ h' eb => ⟨rfl, I.turned (t' := s.toks) (λ b o hb e => eb b o hb e) f0 f1 f3 f4 f5⟩
 self := λ _ _ _ _ _ st h => wpAny_pyIter_rangeiter st h
section
variable {X : Cx} {tg : Expr}
theorem JB {pins : List (Addr × Obj)} {σ : St} {H : Hp} {s : Shared} {R : It -> Hp -> Prop} {E : Value -> Shared -> Prop} {lo hi : Int} {t u v : Tok} {tk : Nat} (I : Inv X pins σ H s) (h1 : -(2 ^ 62) <= lo) (h2 : lo < 2 ^ 62) (h3 : -(2 ^ 62) <= hi) (h4 : hi < 2 ^ 62)
  (q : R (Itr lo (hi - lo).toNat) H) : wpAny (model X.prog X.w) X.A (pyIter (.ref s.heap.objs.size)) (PIE X pins σ tg R) E { s with heap := s.heap.push { cls := .type "range", data := .fields #[.int lo t, .int hi u, .int 1 v] }, toks := tk } := by
 refine wpAny_pyIter_range (IsRange.new ..) (small_one h1 h2 h3 h4) ?_;have I1 : Inv X pins σ H { s with heap := s.heap.push { cls := .type "range", data := .fields #[.int lo t, .int hi u, .int 1 v] }, toks := tk } := I.kept λ b o e => Zb _ e
 refine ⟨(s.heap.push { cls := .type "range", data := .fields #[.int lo t, .int hi u, .int 1 v] }).objs.size, [(s.heap.push { cls := .type "range", data := .fields #[.int lo t, .int hi u, .int 1 v] }).objs.size], _, _, H, rfl,
  I1.kept (t' := tk) λ b o e => Zb _ e, De _ lo (hi - lo).toNat, ?_, λ b hb => ?_, q⟩
 .have e1 : lo + ((0 : Nat) : Int) * 1 = lo := by simp
  have e2 : (((hi - lo).toNat : Nat) : Int) - ((0 : Nat) : Int) = Builtin.Range.rangeSize lo hi 1 := by rw [rangeSize_one]; split <;> omega
  show IsRangeIter _ _ (lo + ((0 : Nat) : Int) * 1) ((((hi - lo).toNat : Nat) : Int) - ((0 : Nat) : Int)) 1;rw [e1, e2];exact Zf _ rfl
 .have e : b = (s.heap.push { cls := .type "range", data := .fields #[.int lo t, .int hi u, .int 1 v] }).objs.size := by simpa using hb
  subst e;exact I1.fpOk (Zg _) (I1.hok.fresh (Zg _))
def We (ta : TA) : TI := λ σ H R => ta σ H λ vs H1 => ∃ j : Int, vs = [.int j] /\ -(2 ^ 62) <= j /\ j < 2 ^ 62 /\ R (Itr 0 j.toNat) H1
theorem Hq {a : Expr} {ta : TA} {p pos : Pos} (hg : Gl X "range") (hm : X.mg "range" = none) (ha : PA X [a] ta) (hs : starEach [a] X.env = [(false, eval a X.env)] := by rfl) : PI X tg (.Call (.Name "range" p) [a] [] pos) (We ta) := by
 intro pins s σ H R I h;refine Call_ (lD I hg hm boot_range (PyProof.Rows.callWith_type1 (thn (ha pos pins s σ H _ I h) λ us s1 ⟨vs, H1, I1, r1, q1⟩ => ?_) hs rfl));obtain ⟨j, e, q1, q2, q⟩ := q1;subst e;cases r1 with
 | cons r rr =>
  cases rr;obtain ⟨t, rfl⟩ := r;exact call_range_1 (JB I1 (by omega) (by omega) q1 q2 (by simpa using q))
def tFor (wi : TI) (g : TG) (tb : TS) : TS := λ D σ H => wi σ H λ J H1 => ∃ W : Nat -> Nat -> St -> Hp -> Prop, (∃ m, W 0 m σ H1) /\ ∀ i m σ H, W i m σ H ->
 (J.stop i H /\ D.nx σ H) ∨ (J.go i H /\ ∃ N : St -> Hp -> Prop, (∀ σ' H', N σ' H' -> ∃ m', m' < m /\ W (i + 1) m' σ' H') /\ ∀ x H', J.yld i H x H' -> g x σ H' λ σ2 H2 => tb { D with nx := N, ct := N, bk := D.nx } σ2 H2)
def rM (fp : List Addr) (h : Heap) : List (Addr × Obj) := fp.filterMap λ b => (h.get? b).map λ o => (b, o)
theorem fY (hb : b ∈ fp) (e : h.get? b = some o) : (b, o) ∈ rM fp h := List.mem_filterMap.mpr ⟨b, hb, by rw [e]; rfl⟩
theorem Hm (hp : p ∈ rM fp h) : p.1 ∈ fp /\ h.get? p.1 = some p.2 := by
 obtain ⟨b, hb, e⟩ := List.mem_filterMap.mp hp;cases q : h.get? b with
 | none => rw [q] at e; cases e
 | some o =>
  rw [q] at e;have e' : (b, o) = p := Option.some.inj e;subst e';exact ⟨hb, q⟩
theorem Inv.pinned (I : Inv X pins σ H s) (hf : ∀ b ∈ fp, mQ X pins H b) (ho : ∀ b ∈ fp, ∃ o, s.heap.get? b = some o /\ ∀ v, o.data ≠ .cell v) : Inv X (pins ++ rM fp s.heap) σ H s :=
 I.pins_of λ p hp => (Zm.mp hp).elim (λ z => I.pin p (Zn _ z)) λ z => by
  obtain ⟨hb, e⟩ := Hm z;obtain ⟨f0, f1, f2, _⟩ := hf p.1 hb;obtain ⟨o, e', d⟩ := ho p.1 hb;rw [e] at e'; cases e';exact ⟨e, f0, f1, f2, d⟩
theorem Inv.unpinned (I : Inv X (pins ++ pl) σ H s) : Inv X pins σ H s := I.pins_of λ p hp => I.pin p (Zn _ (List.mem_append_left _ hp))
theorem Qx {iter : Expr} {body : List Stmt} {wi : TI} {g : TG} {tb : TS} {pos : Pos} (hp : PassesOwn (model X.prog X.w) X.A X.env X.xe) (hc : X.calm = true) (hi : PI X tg iter wi) (hg : PG X tg g) (hb : PSs X body tb)
  (hs : ∀ x, foldedSetIterable iter X.env x = pure x := by intro _; rfl) : PS X (.For tg iter body [] pos) (tFor wi g tb) := by
 intro pins s σ H D I h;refine wpAny_For (thn (hi pins s σ H _ I h) λ v s1 h1 => thn h1 λ itv s2 h2 => ?_) hs;obtain ⟨it, fp, tn, J, H2, e, I2, T, st2, f2, W, ⟨m0, w0⟩, turn⟩ := h2;subst e;have stat : ∀ {H' : Hp}, (∀ b ∈ fp, H' b = none) -> ∀ b ∈ fp, mQ X pins H' b := λ hn b hb => ⟨hn b hb, (f2 b hb).2⟩;refine codeAny_forLoop_any (λ n s' => ∃ i σ' H', Inv X pins σ' H' s' /\ tn i s'.heap /\ (∀ b ∈ fp, H' b = none) /\ W i n σ' H') ?_ m0 ⟨0, σ, H2, I2, st2, λ b hb => (f2 b hb).1, w0⟩;rintro n s3 ⟨i, σ3, H3, I3, st3, fr3, w3⟩
 rcases turn i n σ3 H3 w3 with ⟨stop, qn⟩ | ⟨go, N, hN, step⟩
 .refine wpAny_passesOwn hp (thn (T.done X rfl rfl rfl hc i pins s3 σ3 H3 X.xe I3 (stat fr3) st3 stop) λ r s4 zq30 => ?_);obtain ⟨hr, I4⟩ := zq30;subst hr;exact wpAny_execs_nil ⟨σ3, H3, I4, qn⟩
 .refine wpAny_passesOwn hp (thn (T.item X rfl rfl rfl hc i pins s3 σ3 H3 X.xe I3 (stat fr3) st3 go) λ r s4 zq31 => ?_);obtain ⟨u, hr, h4⟩ := zq31;subst hr;refine wpAny_passesOwn hp (thn h4 λ _ s5 zq32 => ?_);obtain ⟨x, H5, I5, r5, y5, st5, fr5⟩ := zq32;have I5' := I5.pinned (stat fr5) (T.obj _ _ st5);refine wpAny_passesOwn hp (thn (hg _ s5 σ3 H5 x u _ I5' r5 (step x H5 y5)) λ _ s6 zq33 => ?_);obtain ⟨σ6, H6, I6, q6⟩ := zq33;refine wpAny_passesOwn hp (thn (hb _ s6 σ6 H6 _ I6 q6) λ f s7 q7 => ?_);have again : ∀ {σ7 : St} {H7 : Hp}, Inv X (pins ++ rM fp s5.heap) σ7 H7 s7 -> N σ7 H7 -> ∃ m, m < n /\ ∃ i σ' H', Inv X pins σ' H' s7 /\ tn i s7.heap /\ (∀ b ∈ fp, H' b = none) /\ W i m σ' H' := λ {σ7 H7} I7 n7 => by
   obtain ⟨m', hm, w7⟩ := hN σ7 H7 n7;refine ⟨m', hm, i + 1, σ7, H7, I7.unpinned, T.keep _ _ _ st5 λ b hb o e => (I7.pin (b, o) (Zn _ (Zn _ (fY hb e)))).1, λ b hb => ?_, w7⟩;obtain ⟨o, e, d⟩ := T.obj _ _ st5 b hb;exact (I7.pin (b, o) (Zn _ (Zn _ (fY hb e)))).2.1
  cases f with
  | next => obtain ⟨σ7, H7, I7, n7⟩ := q7; exact again I7 n7
  | cont => obtain ⟨σ7, H7, I7, n7⟩ := q7; exact again I7 n7
  | brk => obtain ⟨σ7, H7, I7, q7⟩ := q7; exact ⟨σ7, H7, I7.unpinned, q7⟩
  | ret v => obtain ⟨x7, σ7, H7, I7, r7, q7⟩ := q7; exact ⟨x7, σ7, H7, I7.unpinned, r7, q7⟩
end
abbrev R2 := V -> V -> Hp -> VK -> Prop
def OpR (X : Cx) (f : Value -> Value -> Sem Value) (r : R2) : Prop :=
 ∀ (pins : List (Addr × Obj)) (s : Shared) (σ : St) (H : Hp) (x y : V) (v u : Value) (Q : VK), Inv X pins σ H s -> RelV x v -> RelV y u -> r x y H Q ->
  wpAny (model X.prog X.w) X.A (f v u) (EP X pins σ Q) X.xe s
def UnR (X : Cx) (f : Value -> Sem Value) (r : V -> Hp -> VK -> Prop) : Prop :=
 ∀ (pins : List (Addr × Obj)) (s : Shared) (σ : St) (H : Hp) (x : V) (v : Value) (Q : VK), Inv X pins σ H s -> RelV x v -> r x H Q ->
  wpAny (model X.prog X.w) X.A (f v) (EP X pins σ Q) X.xe s
def jF (X : Cx) (f : Value) (r : List V -> Hp -> VK -> Prop) : Prop :=
 ∀ (pins : List (Addr × Obj)) (s : Shared) (σ : St) (H : Hp) (xs : List V) (us : List Value) (Q : VK), Inv X pins σ H s -> Vals xs us -> r xs H Q ->
  wpAny (model X.prog X.w) X.A (call f us) (EP X pins σ Q) X.xe s
def TruR (X : Cx) (r : V -> Hp -> (Bool -> Hp -> Prop) -> Prop) : Prop :=
 ∀ (pins : List (Addr × Obj)) (s : Shared) (σ : St) (H : Hp) (x : V) (v : Value) (Q : Bool -> Hp -> Prop), Inv X pins σ H s -> RelV x v -> r x H Q ->
  wpAny (model X.prog X.w) X.A (truthy v) (TP X pins σ Q) X.xe s
def tOp (r : R2) (ta tb : TE) : TE := λ σ H Q => ta σ H λ x H1 => tb σ H1 λ y H2 => r x y H2 Q
def tUn (r : V -> Hp -> VK -> Prop) (ta : TE) : TE := λ σ H Q => ta σ H λ x H1 => r x H1 Q
def rI (C : Int -> Int -> Prop) (g : Int -> Int -> V) : R2 := λ x y H Q => ∃ i j, x = .int i /\ y = .int j /\ C i j /\ Q (g i j) H
def rI0 (g : Int -> Int -> V) : R2 := λ x y H Q => ∃ i j, x = .int i /\ y = .int j /\ Q (g i j) H
def rU (g : Int -> V) : V -> Hp -> VK -> Prop := λ x H Q => ∃ i, x = .int i /\ Q (g i) H
section
variable {X : Cx} {a b c : Expr} {ta tb tc : TE} {pos : Pos}
theorem Tn (ha : PE X a ta) (hb : PE X b tb) {pins : List (Addr × Obj)} {s : Shared} {σ : St} {H : Hp} {R : V -> V -> Hp -> Prop} (I : Inv X pins σ H s)
  (h : ta σ H λ x H1 => tb σ H1 λ y H2 => R x y H2) {Q : Value -> Shared -> Prop} {f : Value -> Value -> Sem Value}
  (hf : ∀ v u s2 x y H2, Inv X pins σ H2 s2 -> RelV x v -> RelV y u -> R x y H2 -> wpAny (model X.prog X.w) X.A (f v u) Q X.xe s2) :
  wpAny (model X.prog X.w) X.A (eval a X.env) (λ v s₁ => wpAny (model X.prog X.w) X.A (eval b X.env) (λ u s₂ => wpAny (model X.prog X.w) X.A (f v u) Q X.xe s₂) X.xe s₁) X.xe s := by
 refine thn (ha pins s σ H _ I h) λ v s1 zq34 => ?_;obtain ⟨x, H1, I1, r1, q1⟩ := zq34;refine thn (hb pins s1 σ H1 _ I1 q1) λ u s2 zq35 => ?_;obtain ⟨y, H2, I2, r2, q2⟩ := zq35;exact hf v u s2 x y H2 I2 r1 r2 q2
theorem Qg (ho : OpR X (binaryOp op) r) (ha : PE X a ta) (hb : PE X b tb) : PE X (.BinOp a op b pos) (tOp r ta tb) := by
 intro pins s σ H Q I h;exact wpAny_BinOp (Tn ha hb I h λ v u s2 x y H2 I2 rx ry q => ho pins s2 σ H2 x y v u Q I2 rx ry q)
theorem UJ {r : V -> Hp -> VK -> Prop} (ho : UnR X (unaryOp op) r) (ha : PE X a ta) : PE X (.UnaryOp op a pos) (tUn r ta) := by
 intro pins s σ H Q I h;exact UnaryOp_ (thn (ha pins s σ H _ I h) λ v s1 ⟨x, H1, I1, r1, q1⟩ => ho pins s1 σ H1 x v Q I1 r1 q1)
theorem opI {f : Value -> Value -> Sem Value} {C : Int -> Int -> Prop} {g : Int -> Int -> Int}
  (rule : ∀ (i j : Int) (t u : Tok) (s : Shared) (Q : Value -> Shared -> Prop) (E : Value -> Shared -> Prop), C i j -> Q (.int (g i j) s.toks) { s with toks := s.toks + 1 } -> wpAny (model X.prog X.w) X.A (f (.int i t) (.int j u)) Q E s) :
  OpR X f (rI C λ i j => .int (g i j)) := by
 intro pins s σ H x y v u Q I rx ry h;obtain ⟨i, j, rfl, rfl, hc, q⟩ := h;obtain ⟨t, rfl⟩ := rx;obtain ⟨t', rfl⟩ := ry;exact rule i j t t' s _ _ hc ⟨.int (g i j), H, I.tok _, ⟨_, rfl⟩, q⟩
theorem Wa {f : Value -> Value -> Sem Value} {g : Int -> Int -> Int}
  (rule : ∀ (i j : Int) (t u : Tok) (s : Shared) (Q : Value -> Shared -> Prop) (E : Value -> Shared -> Prop), Q (.int (g i j) s.toks) { s with toks := s.toks + 1 } -> wpAny (model X.prog X.w) X.A (f (.int i t) (.int j u)) Q E s) :
  OpR X f (rI0 λ i j => .int (g i j)) := by
 intro pins s σ H x y v u Q I rx ry h;obtain ⟨i, j, rfl, rfl, q⟩ := h;obtain ⟨t, rfl⟩ := rx;obtain ⟨t', rfl⟩ := ry;exact rule i j t t' s _ _ ⟨.int (g i j), H, I.tok _, ⟨_, rfl⟩, q⟩
theorem Ni {f : Value -> Value -> Sem Value} {g : Int -> Int -> Bool}
  (rule : ∀ (i j : Int) (t u : Tok) (s : Shared) (Q : Value -> Shared -> Prop) (E : Value -> Shared -> Prop), Q (.bool (g i j)) s -> wpAny (model X.prog X.w) X.A (f (.int i t) (.int j u)) Q E s) :
  OpR X f (rI0 λ i j => .bl (g i j)) := by
 intro pins s σ H x y v u Q I rx ry h;obtain ⟨i, j, rfl, rfl, q⟩ := h;obtain ⟨t, rfl⟩ := rx;obtain ⟨t', rfl⟩ := ry;exact rule i j t t' s _ _ ⟨.bl (g i j), H, I, rfl, q⟩
theorem Tj : OpR X (binaryOp .Add) (rI0 λ i j => .int (i + j)) := Wa λ _ _ _ _ _ _ _ q => add_int q
theorem Qs : OpR X (binaryOp .Sub) (rI0 λ i j => .int (i - j)) := Wa λ _ _ _ _ _ _ _ q => sub_int q
theorem Nk : OpR X (binaryOp .Mod) (rI (λ _ j => j ≠ 0) λ i j => .int (i.fmod j)) := opI λ _ _ _ _ _ _ _ hc q => mod_int' hc q
theorem unI {f : Value -> Sem Value} {g : Int -> Int}
  (rule : ∀ (i : Int) (t : Tok) (s : Shared) (Q : Value -> Shared -> Prop) (E : Value -> Shared -> Prop), Q (.int (g i) s.toks) { s with toks := s.toks + 1 } -> wpAny (model X.prog X.w) X.A (f (.int i t)) Q E s) :
  UnR X f (rU λ i => .int (g i)) := by
 intro pins s σ H x v Q I rx h;obtain ⟨i, rfl, q⟩ := h;obtain ⟨t, rfl⟩ := rx;exact rule i t s _ _ ⟨.int (g i), H, I.tok _, ⟨_, rfl⟩, q⟩
theorem Ru : UnR X (unaryOp .USub) (rU λ i => .int (-i)) := unI λ _ _ _ _ _ q => neg_int q
end
section
variable {X : Cx} {a b c : Expr} {ta tb tc : TE} {pos : Pos}
theorem Vb : OpR X (compareOp .Lt) (rI0 λ i j => .bl (decide (i < j))) := Ni λ _ _ _ _ _ _ _ q => lt_int q
theorem Uy : OpR X (compareOp .LtE) (rI0 λ i j => .bl (decide (i <= j))) := Ni λ _ _ _ _ _ _ _ q => le_int q
theorem VL : OpR X (compareOp .Gt) (rI0 λ i j => .bl (decide (j < i))) := Ni λ _ _ _ _ _ _ _ q => gt_int q
theorem Vj : OpR X (compareOp .GtE) (rI0 λ i j => .bl (decide (j <= i))) := Ni λ _ _ _ _ _ _ _ q => ge_int q
theorem OpR.or (h : OpR X f r) (h' : OpR X f r') : OpR X f (λ x y H Q => r x y H Q ∨ r' x y H Q) := by
 intro pins s σ H x y v u Q I rx ry q
 rcases q with q | q
 .exact h pins s σ H x y v u Q I rx ry q
 .exact h' pins s σ H x y v u Q I rx ry q
theorem LK (ho : OpR X (compareOp op) r) (ha : PE X a ta) (hb : PE X b tb) (hm : behindInMarks op b = false) : PE X (.Compare a [op] [b] pos) (tOp r ta tb) := by
 intro pins s σ H Q I h;exact wpAny_Compare1 (Tn ha hb I h λ v u s2 x y H2 I2 rx ry q => ho pins s2 σ H2 x y v u Q I2 rx ry q) hm
def VR (t : TE) : TT := λ σ H Q => t σ H λ x H' => ∃ k, x = .bl k /\ Q k H'
theorem Ma (ho : OpR X (compareOp op) r) (ha : PE X a ta) (hb : PE X b tb) (hm : behindInMarks op b = false) : PT X (.Compare a [op] [b] pos) (VR (tOp r ta tb)) := by
 intro pins s σ H Q I h;refine wpAny_isTrue_Compare1 (thn (ha pins s σ H _ I h) λ v s1 ⟨x, H1, I1, r1, q1⟩ => thn (hb pins s1 σ H1 _ I1 q1) λ u s2 ⟨y, H2, I2, r2, q2⟩ =>
  thn (ho pins s2 σ H2 x y v u _ I2 r1 r2 q2) λ c s3 ⟨z, H3, I3, r3, k, e, q3⟩ => ?_) hm
 subst e;cases r3;exact wpAny_truthy_bool ⟨H3, I3, q3⟩
def HS (r r' : R2) (ta tb tc : TE) : TE := λ σ H Q => ta σ H λ x H1 => tb σ H1 λ y H2 => r x y H2 λ z H3 => ∃ k, z = .bl k /\
 (if k = true then tc σ H3 λ w' H4 => r' y w' H4 Q else Q (.bl false) H3)
theorem Jq (ho : OpR X (compareOp op) r) (ho' : OpR X (compareOp op') r') (ha : PE X a ta) (hb : PE X b tb) (hc : PE X c tc)
  (hm : lastMarks [op, op'] [b, c] = false := by with_unfolding_all rfl) : PE X (.Compare a [op, op'] [b, c] pos) (HS r r' ta tb tc) := by
 intro pins s σ H Q I h;refine Compare_chain (thn (ha pins s σ H _ I h) λ v s1 ⟨x, H1, I1, r1, q1⟩ => chain_link (thn (hb pins s1 σ H1 _ I1 q1) λ u s2 ⟨y, H2, I2, r2, q2⟩ =>
  thn (ho pins s2 σ H2 x y v u _ I2 r1 r2 q2) λ d s3 ⟨z, H3, I3, r3, k, e, q3⟩ => ?_)) hm
 subst e;cases r3;refine wpAny_truthy_bool ?_;cases k with
 | false => exact ite_ff ⟨.bl false, H3, I3, rfl, q3⟩
 | true => exact ite_tt (chain_last (thn (hc pins s3 σ H3 _ I3 q3) λ w' s4 ⟨z', H4, I4, r4, q4⟩ => ho' pins s4 σ H4 y z' u w' Q I4 r2 r4 q4))
def Tw (K : PySem.W.Frag) (x : V) (H : Hp) (k : Bool) : Prop :=
 match x with
 | .non => k = false
 | .bl b => k = b
 | .int i => k = (i != 0)
 | .str y => y.length <= sizeLine /\ k = ((y.length : Int) != 0)
 | .byt y => y.size <= sizeLine /\ k = ((y.size : Int) != 0)
 | .ref p => (∃ xs, SqL K H p xs /\ k = !xs.isEmpty) ∨ (∃ xs, SqT K H p xs /\ k = !xs.isEmpty) ∨ ∃ kvs, H p = some (.dK kvs) /\ k = !kvs.isEmpty
 | _ => False
theorem Ec {κ : Type} {kvs : List (κ × V)} {vs : List (κ × Value)} (r : KV kvs vs) : (!vs.isEmpty) = !kvs.isEmpty := by
 cases r <;> rfl
theorem uO {xs : List V} {its : List Value} (r : Vals xs its) : (!its.toArray.isEmpty) = !xs.isEmpty := by
 cases r <;> simp
theorem pO : (sizeLine : Nat) < 2 ^ 63 := by rw [sizeLine_eq]; decide
theorem Qv : TruR X (λ x H Q => ∃ k, Tw X.K x H k /\ Q k H) := by
 intro pins s σ H x v Q I rx h;obtain ⟨k, e, q⟩ := h;have hl := pO;have hs : sizeLine = 16777216 := sizeLine_eq;cases x with
 | non =>
  cases rx;have e' : k = false := e;subst e';exact truthy_none ⟨H, I, q⟩
 | bl b =>
  cases rx;have e' : k = b := e;subst e';exact wpAny_truthy_bool ⟨H, I, q⟩
 | int i =>
  obtain ⟨t, rfl⟩ := rx;have e' : k = (i != 0) := e;subst e';exact PySem.P.truthy_int ⟨H, I, q⟩
 | str y =>
  obtain ⟨t, rfl⟩ := rx;obtain ⟨hy, e'⟩ : y.length <= sizeLine /\ k = ((y.length : Int) != 0) := e;subst e';exact PySem.P.truthy_str (by omega) ⟨H, I.tok _, q⟩
 | byt y =>
  obtain ⟨t, rfl⟩ := rx;obtain ⟨hy, e'⟩ : y.size <= sizeLine /\ k = ((y.size : Int) != 0) := e;subst e';exact PySem.W.truthy_bytes (by omega) ⟨H, I.tok _, q⟩
 | ref p =>
  cases rx;have e' : (∃ xs, SqL X.K H p xs /\ k = !xs.isEmpty) ∨ (∃ xs, SqT X.K H p xs /\ k = !xs.isEmpty) ∨ ∃ kvs, H p = some (.dK kvs) /\ k = !kvs.isEmpty := e
  rcases e' with ⟨xs, hx, e'⟩ | ⟨xs, hx, e'⟩ | ⟨kvs, hx, e'⟩
  .subst e';obtain ⟨its, r, pl, hz⟩ := I.list hx;have hlen := r.length;exact wpAny_truthy_list pl.isList (by simp only [Zd]; omega) ⟨H, I.tok _, by rw [uO r]; exact q⟩
  .subst e';obtain ⟨its, r, pl, hz⟩ := I.tuple hx;have hlen := r.length;exact truthy_tuple pl (by simp only [Zd]; omega) ⟨H, I.tok _, by rw [uO r]; exact q⟩
  .subst e';obtain ⟨hz, hS, vs, r, m⟩ : kvs.length <= sizeLine /\ (p == sysModules) = false /\ ∃ vs, KV kvs vs /\ s.heap.DictOf (jo X.prog X.w) p vs := I.hok p _ hx;have hlen : kvs.length = vs.length := Paired.length r;exact wpAny_truthy_dict hS m (by omega) ⟨H, I.tok _, by rw [Ec r]; exact q⟩
 | _ => exact (show False from e).elim
theorem Ir (ha : PE X a ta) (he : ∀ whole, isTrue a X.env whole = (do let v <- whole; standAt a.pos; holding [v] (truthy v))) :
  PT X a (λ σ H Q => ta σ H λ x H' => ∃ k, Tw X.K x H' k /\ Q k H') := by
 intro pins s σ H Q I h;exact isTrue_plain (thn (ha pins s σ H _ I h) λ v s1 ⟨x, H1, I1, r1, q1⟩ => Qv pins s1 σ H1 x v Q I1 r1 q1) (he _)
theorem Di : OpR X (binaryOp .Add) (λ x y H Q => ∃ i j, x = .str i /\ y = .str j /\ i.length + j.length <= sizeLine /\ Q (.str (i ++ j)) H) := by
 intro pins s σ H x y v u Q I rx ry h;obtain ⟨i, j, rfl, rfl, hz, q⟩ := h;obtain ⟨t, rfl⟩ := rx;obtain ⟨t', rfl⟩ := ry;exact add_str (λ t' tk => ⟨.str (i ++ j), H, I.tok _, ⟨_, rfl⟩, q⟩) hz
theorem vals1 (r : Vals [x] us) : ∃ u, us = [u] /\ RelV x u := by
 cases r with
 | cons r1 r2 => cases r2; exact ⟨_, rfl, r1⟩
theorem vals2 (r : Vals [x, y] us) : ∃ u w', us = [u, w'] /\ RelV x u /\ RelV y w' := by
 cases r with
 | cons r1 r2 =>
  cases r2 with
  | cons r3 r4 => cases r4; exact ⟨_, _, rfl, r1, r3⟩
theorem Kf : jF X (.builtin "abs") (λ xs H Q => ∃ i, xs = [.int i] /\ Q (.int (if i < 0 then -i else i)) H) := by
 intro pins s σ H xs us Q I r h;obtain ⟨i, rfl, q⟩ := h;obtain ⟨u, rfl, t, rfl⟩ := vals1 r;exact call_abs_int λ u tk => ⟨.int (if i < 0 then -i else i), H, I.tok _, ⟨_, rfl⟩, q⟩
theorem GJ (hc : X.calm = true) : jF X (.builtin "min") (λ xs H Q => ∃ i j, xs = [.int i, .int j] /\ Q (.int (if j < i then j else i)) H) := by
 intro pins s σ H xs us Q I r h;obtain ⟨i, j, rfl, q⟩ := h;obtain ⟨u, w', rfl, ⟨t, rfl⟩, ⟨t', rfl⟩⟩ := vals2 r;refine min_two_ints (I.ok.hd hc) λ h' tk k => ⟨_, H, I.kept k, ?_, q⟩;by_cases hj : j < i
 .rw [if_pos hj, if_pos hj]; exact ⟨_, rfl⟩
 .rw [if_neg hj, if_neg hj]; exact ⟨_, rfl⟩
end
def Ay (f : Str) (v : V) : List (Str × V) -> List (Str × V)
 | [] => [(f, v)]
 | (g, x) :: r => if g = f then (g, v) :: r else (g, x) :: Ay f v r
structure eG (k : Nat) (A : Around) : Prop where
 hd : A.handled = none
 dp : A.depth + 3 * k + 5 < recursionLimit
 un : A.units + 16 * k + 200 < cLine
theorem eG.mono (r : eG k A) (h : j <= k) : eG j A := ⟨r.hd, by have := r.dp; omega, by have := r.un; omega⟩
theorem eG.deeper (r : eG (k + 1) A) (env : Env) : eG k (A.deeper env) :=
 ⟨r.hd, by have := r.dp; show A.depth + 1 + 3 * k + 5 < _; omega, by have := r.un; show A.units + 3 + 16 * k + 200 < _; omega⟩
theorem eG.depth (r : eG k A) : A.depth < recursionLimit := by have := r.dp; omega
def tNil : TA := λ _ H Q => Q [] H
def Vt (ta : TE) (tr : TA) : TA := λ σ H Q => ta σ H λ x H1 => tr σ H1 λ xs H2 => Q (x :: xs) H2
section
variable {X : Cx} {e : Expr} {es : List Expr} {te : TE} {t : TA} {pos : Pos}
theorem yG : PA X [] tNil := λ _ _ _ _ H Q I h => Calls.spliced_nil ⟨[], H, I, .nil, h⟩
theorem qm (ha : PE X e te) (hr : PA X es t) (hs : starEach (e :: es) X.env = (false, eval e X.env) :: starEach es X.env := by rfl) : PA X (e :: es) (Vt te t) := by
 intro pos pins s σ H Q I h;rw [hs];show wpAny _ _ (spliced ((false, eval e X.env) :: backTo pos (starEach es X.env))) _ _ s;refine Calls.spliced_cons (thn (ha pins s σ H _ I h) λ u s1 zq46 => ?_);obtain ⟨x, H1, I1, r1, q1⟩ := zq46;exact thn (hr pos pins s1 σ H1 _ I1 q1) λ us s2 ⟨xs, H2, I2, r2, q2⟩ => ⟨x :: xs, H2, I2, .cons r1 r2, q2⟩
def tTup (t : TA) : TE := λ σ H Q => t σ H λ xs H1 => xs.length <= sizeLine /\ ∀ p, H1 p = none -> Q (.ref p) (upd H1 p (.tup xs))
def tLst (t : TA) : TE := λ σ H Q => t σ H λ xs H1 => xs.length <= sizeLine /\ ∀ p, H1 p = none -> Q (.ref p) (upd H1 p (.lst xs))
theorem Rn {x1} (h : PA X es t) : PE X (.Tuple es x1 pos) (tTup t) := by
 intro pins s σ H Q I hq;refine wpAny_Tuple_spliced (thn (h pos pins s σ H _ I hq) λ us s1 ⟨xs, H1, I1, r, z, q⟩ => ⟨by rw [<- r.length]; exact z, ?_⟩)
 have hf : H1 s1.heap.objs.size = none := I1.hok.fresh (Zg _);refine ⟨.ref s1.heap.objs.size, upd H1 s1.heap.objs.size (.tup xs), I1.laid (t' := s1.toks) (λ b u e => Zb _ e) (Zg _) ?_, rfl, q _ hf⟩;exact ⟨z, us, r, ⟨_, Zf _ rfl, rfl, _, rfl⟩⟩
theorem Im (h : PA X es t) : PE X (.List es pos) (tLst t) := by
 intro pins s σ H Q I hq;refine wpAny_List_spliced (thn (h pos pins s σ H _ I hq) λ us s1 ⟨xs, H1, I1, r, z, q⟩ => ⟨by rw [<- r.length]; exact z, ?_⟩)
 have hf : H1 s1.heap.objs.size = none := I1.hok.fresh (Zg _);refine ⟨.ref s1.heap.objs.size, upd H1 s1.heap.objs.size (.lst xs), I1.laid (t' := s1.toks) (λ b u e => Zb _ e) (Zg _) ?_, rfl, q _ hf⟩;exact ⟨z, us, 0, r, Zf _ rfl⟩
end
abbrev Sp := List V -> Hp -> VK -> XK -> Prop
abbrev CXT := List Env -> Hp -> Shared -> XK -> Value -> Shared -> Prop
structure Ls (P : Program) (w : World) (K : PySem.W.Frag) (mg : Str -> Option Value) (base : Heap) (A : Around) (outer : List Env) (s : Shared) (H : Hp) : Prop where
 frames : A.frames = some outer
 mod : Mod K mg base
 bs : ∀ b o, base.get? b = some o -> s.heap.get? b = some o /\ H b = none
 bsz : base.objs.size <= s.heap.objs.size
 funs : s.heap.FunFrames base outer
 frf : ∀ b ∈ frs outer, H b = none
 hok : HOk P w H s.heap
 bare : AllBare s.gens
def CE (outer : List Env) (P : Program) (w : World) (H : Hp) (s : Shared) (Q : VK) (u : Value) (s' : Shared) : Prop :=
 ∃ v H', s'.os = s.os /\ GK s.gens s'.gens /\ Un (frs outer) [] H H' s.heap s'.heap /\ HOk P w H' s'.heap /\ RelV v u /\ Q v H'
def CR (CX : CXT) (outer : List Env) (P : Program) (w : World) (H : Hp) (s : Shared) (Q : VK) (E : XK) (r : Result) (s' : Shared) : Prop :=
 match r with
 | .ok (.ret u) => CE outer P w H s Q u s'
 | .ok _ => False
 | .error e => CX outer H s E e s'
structure tU (P : Program) (w : World) (K : PySem.W.Frag) (mg : Str -> Option Value) (base : Heap) (CX : CXT) (k : Nat) (f : Addr) (fd : FuncData) (ps : List Str) (sp : Sp) : Prop where
 len : ∀ vs H Q E, sp vs H Q E -> vs.length = ps.length
 run : ∀ (A : Around) (outer : List Env) (s : Shared) (H : Hp) (args : Args) (us : List Value) (vs : List V) (Q : VK) (E : XK), eG k A -> Ls P w K mg base A outer s H -> BindsTo s fd args (ps.zip us) -> Vals vs us -> sp vs H Q E ->
  codeAny (model P w) A (.call (.ref f) args) (CR CX outer P w H s Q E) s
theorem tU.imp {P : Program} {w : World} {K : PySem.W.Frag} {mg : Str -> Option Value} {base : Heap} {CX : CXT} {k : Nat} {f : Addr} {fd : FuncData} {ps : List Str} {sp sp' : Sp} (F : tU P w K mg base CX k f fd ps sp)
  (h : ∀ vs H Q E, sp' vs H Q E -> sp vs H Q E) : tU P w K mg base CX k f fd ps sp' :=
 ⟨λ vs H Q E q => F.len vs H Q E (h _ _ _ _ q), λ A outer s H args us vs Q E hr he hb hv hs => F.run A outer s H args us vs Q E hr he hb hv (h _ _ _ _ hs)⟩
section
variable {X : Cx} {pins : List (Addr × Obj)} {σ : St} {H : Hp} {s s' : Shared}
theorem Inv.env0 (I : Inv X pins σ H s) : Ls X.prog X.w X.K X.mg X.base X.A X.stack s H :=
 ⟨I.ok.frames, I.ok.mod, I.bs, Zl I.ok.bsz I.sz, I.stack, I.stkFree, I.hok, I.bare.bare⟩
theorem Inv.after (I : Inv X pins σ H s) (h : CE X.stack X.prog X.w H s Q u s') : EP X pins σ Q u s' := by
 obtain ⟨v, H', os, bare, un, hok, r, q⟩ := h;obtain ⟨hh, g, d, t, os'⟩ := s';obtain rfl : os' = s.os := os;exact ⟨v, H', I.call (h' := hh) (g' := g) (d' := d) (t' := t) (ch := []) un hok bare (λ b z => absurd z (by simp)), r, q⟩
end
def UT (sp : Sp) (dvs : List V) (E : XK) (t : TA) : TE := λ σ H Q => t σ H λ vs H1 => sp (vs ++ dvs) H1 Q E
def Binds (K : PySem.W.Frag) (fd : FuncData) (ps : List Str) (ds : List Value) : Prop :=
 ∀ (s : Shared) (us : List Value), K.In s.heap -> (us ++ ds).length = ps.length -> BindsTo s fd ⟨us, []⟩ (ps.zip (us ++ ds))
theorem Binds.all {K : PySem.W.Frag} {fd : FuncData} {ps : List Str} (h : ∀ us : List Value, us.length = ps.length -> bindArgs fd ⟨us, []⟩ = pure (ps.zip us)) : Binds K fd ps [] := λ s us _ hl => by
 rw [List.append_nil] at hl ⊢;exact .of_eq (h us hl)
def BV (CX : CXT) (X : Cx) (E : XK) : Prop := ∀ (pins : List (Addr × Obj)) (σ : St) (H : Hp) (s : Shared) (e : Value) (s' : Shared), Inv X pins σ H s -> CX X.stack H s E e s' -> X.xe e s'
section
variable {X : Cx} {CX : CXT} {k : Nat} {f C : Addr} {fd : FuncData} {ps : List Str} {sp : Sp} {dvs : List V} {ds : List Value} {E : XK} {x m : Str} {p pos apos : Pos} {e o : Expr} {es : List Expr} {ta : TE} {t : TA}
theorem QB (F : tU X.prog X.w X.K X.mg X.base CX k f fd ps sp) (hr : eG k X.A) (hb : Binds X.K fd ps ds) (hd : Vals dvs ds) (hx : BV CX X E)
  (I : Inv X pins σ H s) (r : Vals vs us) (h : sp (vs ++ dvs) H Q E) : wpAny (model X.prog X.w) X.A (call (.ref f) us) (EP X pins σ Q) X.xe s := by
 have r2 : Vals (vs ++ dvs) (us ++ ds) := r.append hd;have hl : (us ++ ds).length = ps.length := by rw [<- r2.length]; exact F.len _ _ _ _ h
 refine wpAny_call (codeAny_mono (F.run X.A X.stack s H ⟨us, []⟩ (us ++ ds) (vs ++ dvs) Q E hr I.env0 (hb s us I.kIn hl) r2 h) λ r s' hq => ?_);cases r with
 | error e => exact hx pins σ H s e s' I hq
 | ok fl =>
  cases fl with
  | ret u => exact I.after hq
  | next => exact False.elim hq
  | brk => exact False.elim hq
  | cont => exact False.elim hq
theorem Mg (F : tU X.prog X.w X.K X.mg X.base CX k f fd ps sp) (hr : eG k X.A) (hg : Gl X x) (hm : X.mg x = some (.ref f)) (hk : PySem.W.keepIn X.K (.ref f) = true) (hb : Binds X.K fd ps ds) (hd : Vals dvs ds) (hx : BV CX X E)
  (ha : PA X (e :: es) t) (hdb : (x == ("__debug__" : Str)) = false := by decide) (he : starEach (e :: es) X.env = (false, eval e X.env) :: starEach es X.env := by rfl) (hpl : (backTo pos (starEach es X.env)).any (·.1) = false := by rfl) :
  PE X (.Call (.Name x p) (e :: es) [] pos) (UT sp dvs E t) := by
 intro pins s σ H Q I h;refine wpAny_Call_Name_kw (MF I hg hm ?_ hdb);refine PySem.W.callWith_K (h₀ := X.base) I.ok.mod.kin hk (thn (ha pos pins s σ H _ I h) λ us s1 ⟨vs, H1, I1, r, q⟩ => ⟨I1.kIn, ?_⟩) he hpl;exact QB F hr hb hd hx I1 r q
end
structure aW (N P : List Str) (sc : Scope) : Prop where
 kind : sc.kind = .function
 co : sc.isCoroutine = false
 gen : sc.isGenerator = false
 nd : N.Nodup
 pre : N.take P.length = P
 par : ∀ x ∈ P, sc.names.lookup x = some .local ∨ sc.names.lookup x = some .cell
 nofree : ∀ y ∈ sc.names, y.2 ≠ .free
theorem wJ {kindOf : Str -> Option NameKind} {x : Str} : ∀ {binds : List (Str × Value)} {m : Str -> Option Value}, (∀ v, (x, v) ∉ binds) -> bindL kindOf binds m x = m x
 | [], _, _ => rfl
 | (n, v) :: r, m, h => by
  unfold bindL;rw [wJ λ w hw => h w (List.mem_cons_of_mem _ hw)];split
  .have : x ≠ n := by rintro rfl; exact h v List.mem_cons_self
   simp [this]
  .rfl
theorem xm {kindOf : Str -> Option NameKind} {x : Str} : ∀ {binds : List (Str × Value)} {m : Str -> Option Value}, (∀ v, (x, v) ∉ binds) -> bindC kindOf binds m x = m x
 | [], _, _ => rfl
 | (n, v) :: r, m, h => by
  unfold bindC;rw [xm λ w hw => h w (List.mem_cons_of_mem _ hw)];split
  .rfl
  .have : x ≠ n := by rintro rfl; exact h v List.mem_cons_self
   simp [this]
theorem wF {kindOf : Str -> Option NameKind} {x : Str} {v : Value} : ∀ {P : List Str} {vs : List Value} {i : Nat} {m : Str -> Option Value}, P.Nodup -> P[i]? = some x -> vs[i]? = some v -> kindOf x = some .local ->
  bindL kindOf (P.zip vs) m x = some v
 | [], _, _, _, _, h, _, _ => by simp at h
 | _ :: _, [], _, _, _, _, h, _ => by simp at h
 | p :: P, w :: vs, 0, m, nd, h1, h2, hk => by
  simp at h1 h2; subst h1; subst h2;show bindL kindOf ((p, w) :: P.zip vs) m p = _;unfold bindL;rw [wJ λ v hv => (List.nodup_cons.mp nd).1 (List.of_mem_zip hv).1, if_pos hk];simp
 | p :: P, w :: vs, i + 1, m, nd, h1, h2, hk => by
  show bindL kindOf ((p, w) :: P.zip vs) m x = _;unfold bindL;exact wF (i := i) (List.nodup_cons.mp nd).2 (by simpa using h1) (by simpa using h2) hk
theorem wU {kindOf : Str -> Option NameKind} {x : Str} {v : Value} : ∀ {P : List Str} {vs : List Value} {i : Nat} {m : Str -> Option Value}, P.Nodup -> P[i]? = some x -> vs[i]? = some v -> kindOf x ≠ some .local ->
  bindC kindOf (P.zip vs) m x = some v
 | [], _, _, _, _, h, _, _ => by simp at h
 | _ :: _, [], _, _, _, _, h, _ => by simp at h
 | p :: P, w :: vs, 0, m, nd, h1, h2, hk => by
  simp at h1 h2; subst h1; subst h2;show bindC kindOf ((p, w) :: P.zip vs) m p = _;unfold bindC;rw [xm λ v hv => (List.nodup_cons.mp nd).1 (List.of_mem_zip hv).1, if_neg hk];simp
 | p :: P, w :: vs, i + 1, m, nd, h1, h2, hk => by
  show bindC kindOf ((p, w) :: P.zip vs) m x = _;unfold bindC;exact wU (i := i) (List.nodup_cons.mp nd).2 (by simpa using h1) (by simpa using h2) hk
def start (N : List Str) (vs : List V) : St := vs.map some ++ List.replicate (N.length - vs.length) none
def Ck (CX : CXT) (P : Program) (w : World) (K : PySem.W.Frag) (mg : Str -> Option Value) (base : Heap) (N : List Str) (qual : Str) (scope : Scope) (f : Addr) (cd : Value) (A : Around) (outer : List Env) (s : Shared) (H : Hp) (E : XK) : Cx where
 prog := P
 w := w
 K := K
 mg := mg
 base := base
 A := A.deeper (envOfC qual scope s.heap.objs.size f cd)
 N := N
 s₀ := s
 H₀ := H
 env := envOfC qual scope s.heap.objs.size f cd
 outer := outer
 stack := envOfC qual scope s.heap.objs.size f cd :: outer
 ex := []
 calm := true
 fn := λ _ => true
 pn := []
 xe := λ e s' => wpAny (model P w) (A.deeper (envOfC qual scope s.heap.objs.size f cd)) (leaving (envOfC qual scope s.heap.objs.size f cd) e) (λ _ s'' => CX outer H s E e s'') (λ e' s'' => CX outer H s E e' s'') s'
theorem Bp {sc : Scope} {n : Nat} {x : Str} (h : sc.names.lookup x = some .cell) : ∃ c, (cellsFrom n sc.names []).lookup x = some c := by
 have q := PySem.W.cellsFrom_some sc.names n [] (.inl h);exact Option.isSome_iff_exists.mp q
theorem Gs {CX : CXT} {P : Program} {w : World} {K : PySem.W.Frag} {mg : Str -> Option Value} {base : Heap} {N ps : List Str} {qual : Str} {scope : Scope} {f : Addr} {cd : Value} {A : Around} {outer : List Env} {s s1 : Shared} {H : Hp} {E : XK} {us : List Value} {vs : List V}
  (S : aW N ps scope) (hd : A.handled = none) (e0 : Ls P w K mg base A outer s H) (hl : vs.length = ps.length) (r : Vals vs us)
  (x : InCallC s s.heap.objs.size (bindL (envOfC qual scope s.heap.objs.size f cd).kindOf (ps.zip us) λ _ => none) (cellsFrom (s.heap.objs.size + 1) scope.names []) (bindC (envOfC qual scope s.heap.objs.size f cd).kindOf (ps.zip us) λ _ => none) s1) :
  Inv (Ck CX P w K mg base N qual scope f cd A outer s H E) [] (start N vs) H s1 := by
 have hpl : ps.length <= N.length := by have := congrArg List.length S.pre; rw [List.length_take] at this; omega
 obtain ⟨h1, tk, rfl, hk⟩ := x.done;have noA : ∀ b : Addr, b ∉ (Ck CX P w K mg base N qual scope f cd A outer s H E).ex := λ b z => absurd (show b ∈ ([] : List Addr) from z) (by simp)
 refine ⟨⟨e0.mod, S.kind, rfl, rfl, Zg _, λ y z c h1 h2 => ?_, λ y hy => ?_, λ y c _ h => ?_, λ _ => hd, Around.frames_deeper e0.frames, .inr ⟨rfl, rfl⟩, λ b z => absurd z (noA b), e0.bs, e0.bsz, λ b _ _ => noA b, λ b z => absurd z (noA b), e0.funs, e0.frf⟩,
  rfl, GK.refl e0.bare, Un.kept hk, ⟨_, x.toInCall.ns, λ i y v h1 h2 h3 => ?_⟩, λ y c h => ⟨_, x.cell y c h⟩, e0.hok.fresh (Zg _), λ y c h => ?_, λ p hp => absurd (show p ∈ ([] : List (Addr × Obj)) from hp) (by simp), e0.hok.kept hk, ?_⟩
 .exact name_of_addr x.apart (Zt h1) (Zt h2)
 .have hy : scope.names.lookup y = some .cell ∨ scope.names.lookup y = some .free := hy
  rcases hy with hy | hy
  .exact Bp hy
  .exact absurd rfl (S.nofree _ (Zt hy))
 .exact Nat.le_of_lt (x.above y c (Zt h))
 .have hi : i < vs.length := by
   unfold start at h2;by_cases hi : i < vs.length
   .exact hi
   .rw [List.getElem?_append_right (by simpa using hi)] at h2
    rw [List.getElem?_replicate] at h2;split at h2 <;> cases h2
  have ha : vs[i]? = some v := by
   unfold start at h2;rw [Zs (by simpa using hi), List.getElem?_map] at h2
   cases e : vs[i]? with
   | none => rw [e] at h2; cases h2
   | some a => rw [e] at h2; cases h2; rfl
  obtain ⟨u, hu, rv⟩ := r.get ha;have hp : ps[i]? = some y := by
   rw [<- S.pre, List.getElem?_take_of_lt (by omega)]; exact h1
  have ndP : ps.Nodup := by rw [<- S.pre]; exact S.nd.sublist (List.take_sublist _ _)
  refine ⟨u, rv, ?_⟩
  rcases S.par y (List.mem_of_getElem? hp) with k | k
  .exact .inl ⟨k, wF ndP hp hu k⟩
  .obtain ⟨c, e⟩ := Bp (n := s.heap.objs.size + 1) k;refine .inr ⟨.inl k, c, e, ?_⟩;have q := x.cell y c e;rw [wU ndP hp hu (by show scope.names.lookup y ≠ _; rw [k]; decide)] at q
   exact q
 .exact e0.hok.fresh (Nat.le_of_lt (x.above y c (Zt h)))
 .unfold start;show _ = N.length;rw [List.length_append, Zu, List.length_replicate];omega
theorem Qf {CX : CXT} {P : Program} {w : World} {K : PySem.W.Frag} {mg : Str -> Option Value} {base : Heap} {k : Nat} {f : Addr} {name qual : Str} {params : Arguments} {body : List Stmt} {scope : Scope} {dV kV doc pm cdv ct oc : Value} {an od : Option Addr}
  {osl : Array (Option Value)} {N ps : List Str} {sp : Sp} (lk : K.lookup f = some ⟨oc, od, .func (PySem.W.fnOf name qual params body scope dV kV doc pm an cdv ct), osl⟩) (hcd : PySem.W.codeIn K cdv qual = true) (S : aW N ps scope)
  (len : ∀ vs H Q E, sp vs H Q E -> vs.length = ps.length)
  (hbody : ∀ (A : Around) (outer : List Env) (s : Shared) (H : Hp) (vs : List V) (Q : VK) (E : XK), eG k (A.deeper (envOfC qual scope s.heap.objs.size f cdv)) -> sp vs H Q E ->
   ∃ t, PSs (Ck CX P w K mg base N qual scope f cdv A outer s H E) body t /\ t { nx := λ _ H' => Q .non H', rt := Q } (start N vs) H) :
  tU P w K mg base CX (k + 1) f (PySem.W.fnOf name qual params body scope dV kV doc pm an cdv ct) ps sp := by
 refine ⟨len, λ A outer s H args us vs Q E hr e0 hb r hsp => ?_⟩;have hl := len _ _ _ _ hsp;have KX : K.In s.heap := e0.mod.kin.keeps λ b o e => (e0.bs b o e).1;have lim : s.heap.NoLimit := e0.mod.nolimit.keeps λ b o e => (e0.bs b o e).1;have hkind : ∀ y ∈ ps.zip us, scope.names.lookup y.1 = some .local ∨ (scope.names.lookup y.1 = some .cell /\ ((cellsFrom (s.heap.objs.size + 1) scope.names []).lookup y.1).isSome = true) := λ zq49 hy => by
  obtain ⟨n, v⟩ := zq49
  rcases S.par n (List.of_mem_zip hy).1 with q | q
  .exact .inl q
  .exact .inr ⟨q, PySem.W.cellsFrom_some _ _ _ (.inl q)⟩
 refine codeAny_call_function hr.depth (KX _ _ lk) rfl S.co S.gen rfl (PySem.W.codeRec_of KX hcd) (hb _ _ _ _ ?_);refine wpAny_newFunctionEnv_cells S.kind hkind λ env he s1 x => ?_;subst he;refine ⟨lim.keeps x.toInCall.keep, codeAny_func ?_⟩;obtain ⟨t, ht, hq⟩ := hbody A outer s H vs Q E (hr.deeper _) hsp;have I : Inv (Ck CX P w K mg base N qual scope f cdv A outer s H E) [] (start N vs) H s1 := Gs S hr.hd e0 hl r x;refine wpAny_mono (ht [] s1 (start N vs) H _ I hq) (λ fl s' hs => ?_) λ e s' hs => hs;have fin : ∀ {σ' : St} {H' : Hp} {v : V} {u : Value}, Inv (Ck CX P w K mg base N qual scope f cdv A outer s H E) [] σ' H' s' -> RelV v u -> Q v H' -> CE outer P w H s Q u s' :=
  λ {σ' H' v u} J rv q => ⟨v, H', J.os, J.bare, J.base, J.hok, rv, q⟩
 cases fl with
 | ret u =>
  obtain ⟨v, σ', H', J, rv, q⟩ := hs;exact fin J rv q
 | next =>
  obtain ⟨σ', H', J, q⟩ := hs;exact fin (v := V.non) (u := Value.none) J rfl q
 | brk =>
  obtain ⟨_, _, _, q⟩ := hs;exact False.elim q
 | cont =>
  obtain ⟨_, _, _, q⟩ := hs;exact False.elim q
section
variable {X : Cx} {x : Str} {p pos : Pos} {e : Expr} {es : List Expr} {t : TA} {id T : String} {r : List V -> Hp -> VK -> Prop}
def tCB (r : List V -> Hp -> VK -> Prop) (t : TA) : TE := λ σ H Q => t σ H λ vs H1 => r vs H1 Q
theorem nj (hc : jF X (.builtin id) r) (hg : Gl X x) (hm : X.mg x = none) (hv : bootBuiltins x = some (.builtin id)) (ha : PA X (e :: es) t) (hn : x ≠ "__name__" := by decide) (hdb : (x == ("__debug__" : Str)) = false := by decide)
  (he : starEach (e :: es) X.env = (false, eval e X.env) :: starEach es X.env := by rfl) (hpl : (backTo pos (starEach es X.env)).any (·.1) = false := by rfl) : PE X (.Call (.Name x p) (e :: es) [] pos) (tCB r t) := by
 intro pins s σ H Q I h;refine wpAny_Call_Name_kw (lD I hg hm hv ?_ hn hdb);exact PyProof.Rows.callWith_builtin1 (thn (ha pos pins s σ H _ I h) λ us s1 ⟨vs, H1, I1, r1, q1⟩ => hc pins s1 σ H1 vs us Q I1 r1 q1) he hpl
theorem rE (hc : jF X (.type T) r) (hg : Gl X x) (hm : X.mg x = none) (hv : bootBuiltins x = some (.type T)) (ha : PA X (e :: es) t) (hn : x ≠ "__name__" := by decide) (hdb : (x == ("__debug__" : Str)) = false := by decide)
  (he : starEach (e :: es) X.env = (false, eval e X.env) :: starEach es X.env := by rfl) (hpl : (backTo pos (starEach es X.env)).any (·.1) = false := by rfl) : PE X (.Call (.Name x p) (e :: es) [] pos) (tCB r t) := by
 intro pins s σ H Q I h;refine wpAny_Call_Name_kw (lD I hg hm hv ?_ hn hdb);exact PyProof.Rows.callWith_type1 (thn (ha pos pins s σ H _ I h) λ us s1 ⟨vs, H1, I1, r1, q1⟩ => hc pins s1 σ H1 vs us Q I1 r1 q1) he hpl
end
end L2
namespace HT
open PySem PyProof.Rows
def lexLt : List Int -> List Int -> Bool
 | [], [] => false
 | [], _ :: _ => true
 | _ :: _, [] => false
 | x :: xs, y :: ys => if x = y then lexLt xs ys else decide (x < y)
theorem lexLt_cons (x y : Int) (xs ys : List Int) : lexLt (x :: xs) (y :: ys) = if x = y then lexLt xs ys else decide (x < y) := rfl
section
variable {prog : Program} {w : World} {A : Around} {E : Value -> Shared -> Prop} {s : Shared}
theorem cat_tup {Q : Value -> Shared -> Prop} (ht : IsTup s.heap t vs.toArray) (hb : IsTup s.heap b ws.toArray) (hv : vs ≠ [])
  (h1 : ws = [] -> Q (.ref t) s) (h2 : ws ≠ [] -> Q (.ref s.heap.objs.size) { s with heap := s.heap.push { cls := .type "tuple", data := .seq (vs ++ ws).toArray } })
  (hsz : vs.length + ws.length <= sizeLine) : wpAny (model prog w) A (binaryOp .Add (.ref t) (.ref b)) Q E s := by
 obtain ⟨⟨cls, dd, data, sl⟩, ho, hc, n, hd⟩ := id ht;obtain ⟨⟨cls2, dd2, data2, sl2⟩, ho2, hc2, n2, hd2⟩ := id hb;simp only at hc hd hc2 hd2;subst hc hd hc2 hd2;have e : vs.toArray ++ ws.toArray = (vs ++ ws).toArray := by simp
 by_cases hw : ws = []
 .exact concat_meets ⟨_, ho, rfl⟩ ⟨_, ho2, rfl⟩ noFill_tuple_add seq_tuple_add PySem.F.slot_tuple_add PySem.F.entry_tuple_add (PySem.F.args_tuple_add_2 _ _)
   (tuple_addW1 t b vs.toArray ws.toArray n n2 dd dd2 sl sl2 (by simpa using hv) (by simp [hw])) ⟨ho, ho2, h1 hw⟩
 .refine concat_meets ⟨_, ho, rfl⟩ ⟨_, ho2, rfl⟩ noFill_tuple_add seq_tuple_add PySem.F.slot_tuple_add PySem.F.entry_tuple_add (PySem.F.args_tuple_add_2 _ _)
   (tuple_addW2 t b vs.toArray ws.toArray n n2 dd dd2 sl sl2 (by simpa using hv) (by simpa using hw) (by rw [Zd, Zd]; exact hsz)) ⟨ho, ho2, ?_⟩
  rw [e];exact h2 hw
def sIx (n d : Nat) : Option Int -> Nat
 | none => d
 | some v => if v < 0 then (v + (n : Int)).toNat else min v.toNat n
theorem Tu (n d : Nat) (hd : d <= n) (o : Option Int) : sIx n d o <= n := by
 cases o with
 | none => exact hd
 | some v =>
  show (if v < 0 then (v + (n : Int)).toNat else min v.toNat n) <= n;by_cases hv : v < 0
  .rw [if_pos hv]; omega
  .rw [if_neg hv]; exact Nat.min_le_right _ _
theorem FJ (v : Int) (n d : Nat) : (if v < 0 then max (v + (n : Int)) 0 else min v (n : Int)) = ((sIx n d (some v) : Nat) : Int) := by
 show (if v < 0 then max (v + (n : Int)) 0 else min v (n : Int)) = (((if v < 0 then (v + (n : Int)).toNat else min v.toNat n) : Nat) : Int);by_cases hv : v < 0
 .simp only [if_pos hv]; omega
 .simp only [if_neg hv]; omega
theorem CJ (lo hi : Option Int) (n : Nat) : Builtin.Slice.sliceAdjust lo hi 1 (n : Int) = (((sIx n 0 lo : Nat) : Int), ((sIx n n hi : Nat) : Int)) := by
 have h1 : ¬ ((1 : Int) < 0) := by omega
 unfold Builtin.Slice.sliceAdjust;simp only [h1, if_false];refine Prod.ext ?_ ?_
 .cases lo with
  | none => rfl
  | some v => exact FJ v n 0
 .cases hi with
  | none => rfl
  | some v => exact FJ v n n
theorem Dk (i j : Nat) : Builtin.Slice.slicePlaces (i : Int) (j : Int) 1 = j - i := by
 unfold Builtin.Slice.slicePlaces;have h1 : (1 : Int) > 0 := by omega
 simp only [h1, if_true, Int.ediv_one];split <;> omega
theorem vf {Q : Option Int -> Shared -> Prop} (p : IsPart v o) (h : Q o s) : wpAny (model prog w) A (Builtin.Slice.slicePartIndex v) Q E s := by
 cases p with
 | none => exact slicePart_none h
 | int i t => exact slicePart_int h
theorem lF {sl : Addr} {vl vu : Value} {lo hi : Option Int} {n : Nat} {Q : Int × Int × Nat -> Shared -> Prop} (hs : s.heap.IsSliceOf sl vl vu .none) (pl : IsPart vl lo) (pu : IsPart vu hi)
  (h : Q (((sIx n 0 lo : Nat) : Int), 1, sIx n n hi - sIx n 0 lo) s) : wpAny (model prog w) A (Builtin.Slice.sliceApplied (.ref sl) (pure (n : Int))) Q E s := by
 obtain ⟨os, hos, hcs, hds⟩ := id hs;unfold Builtin.Slice.sliceApplied Builtin.Slice.sliceFields;refine wpAny_bind (wpAny_bind (wpAny_field hos hds (x := vl) rfl (wpAny_bind (wpAny_field hos hds (x := vu) rfl (wpAny_bind (wpAny_field hos hds (x := .none) rfl (wpAny_pure ?_)))))));refine wpAny_bind (slicePart_none ?_);show wpAny _ _ (if ((1 : Int) == 0) = true then _ else _) _ _ s;rw [if_neg (by decide)]
 refine wpAny_bind (vf pl (wpAny_bind (vf pu (wpAny_bind (wpAny_pure ?_)))));show wpAny _ _ (match Builtin.Slice.sliceAdjust lo hi 1 (n : Int) with | (lo, hi) => pure (lo, (1 : Int), Builtin.Slice.slicePlaces lo hi 1)) _ _ s
 rw [CJ lo hi n];show wpAny _ _ (pure (((sIx n 0 lo : Nat) : Int), (1 : Int), Builtin.Slice.slicePlaces ((sIx n 0 lo : Nat) : Int) ((sIx n n hi : Nat) : Int) 1)) _ _ s;rw [Dk];exact wpAny_pure h
theorem Ig (xs : Array Value) (i k : Nat) : ((List.range k).filterMap λ (m : Nat) => xs[((i : Int) + (m : Int) * 1).toNat]?).toArray = ((xs.toList.drop i).take k).toArray := by
 have e : (λ (m : Nat) => xs[((i : Int) + (m : Int) * 1).toNat]?) = λ m => xs[i + m]? := by
  funext m
  have : ((i : Int) + (m : Int) * 1).toNat = i + m := by omega
  rw [this]
 rw [e];have := pick_run xs i k;rw [List.filterMap_map] at this;have e2 : ((λ x => xs[x]?) ∘ λ x => i + x) = λ m => xs[i + m]? := rfl;rw [e2] at this;rw [this]
theorem getItem_tuple_cut {t sl : Addr} {items : Array Value} {vl vu : Value} {lo hi : Option Int} {Q : Value -> Shared -> Prop} (ht : IsTup s.heap t items) (hs : s.heap.IsSliceOf sl vl vu .none) (pl : IsPart vl lo) (pu : IsPart vu hi)
  (hw : ¬ (sIx items.size 0 lo = 0 /\ sIx items.size items.size hi = items.size))
  (h : Q (.ref s.heap.objs.size) { s with heap := s.heap.push { cls := .type "tuple", data := .seq ((items.toList.drop (sIx items.size 0 lo)).take (sIx items.size items.size hi - sIx items.size 0 lo)).toArray } })
  (hsz : items.size <= sizeLine) : wpAny (model prog w) A (getItem (.ref t) (.ref sl)) Q E s := by
 have htake : sizeOk (.seq ((items.toList.drop (sIx items.size 0 lo)).take (sIx items.size items.size hi - sIx items.size 0 lo)).toArray) := by
  show ((items.toList.drop (sIx items.size 0 lo)).take (sIx items.size items.size hi - sIx items.size 0 lo)).toArray.size <= sizeLine;rw [Zd, List.length_take, List.length_drop, Array.length_toList];omega
 have hj : sIx items.size items.size hi <= items.size := Tu _ _ (Zg _) hi;obtain ⟨os, hos, hcs, hds⟩ := id hs;have hTs : s.TypeIs (.ref sl) "slice" := ⟨os, hos, hcs⟩;unfold getItem
 try with_reducible refine wpAny_holding ?_
 first | refine wpAny_bind (wpAny_pure ?_) | skip
 refine wpAny_bind (wpAny_sequenceKey ht.typeIs (by decide) ?_)
 refine wpAny_bind (wpAny_callSpecial?_slot (name := Str.ofString "__getitem__") ht.typeIs PyProof.Rows.slot_tuple_getitem
  (wpAny_call_entry PyProof.Rows.slot_tuple_getitem ht.typeIs entry_tuple_getitem ?_ (args_tuple_getitem _ _)))
 show wpAny _ _ (Builtin.Tuple.tupleItemsOf (.ref t) >>= _) _ _ s;refine wpAny_bind (tupleItemsOf_ ht ?_);refine wpAny_bind (wpAny_typeOf hTs ?_);rw [if_pos (by decide)]
 refine wpAny_bind (lF hs pl pu ?_);have hno : ¬ ((((sIx items.size 0 lo : Nat) : Int) == 0 && (1 : Int) == 1 && (sIx items.size items.size hi - sIx items.size 0 lo) == items.size) = true) := by
  intro q;rw [Zo, Zo] at q;have q1 : ((sIx items.size 0 lo : Nat) : Int) = 0 := eq_of_beq q.1.1;have q2 : sIx items.size items.size hi - sIx items.size 0 lo = items.size := eq_of_beq q.2;exact hw ⟨by omega, by omega⟩
 show wpAny _ _ (if (((sIx items.size 0 lo : Nat) : Int) == 0 && (1 : Int) == 1 && (sIx items.size items.size hi - sIx items.size 0 lo) == items.size) = true then _ else _) _ _ s;rw [if_neg hno, Ig]
 first
  | exact wpAny_bind (m := Builtin.Tuple.tupleExact _) (wpAny_newObj_type (wpAny_pure ⟨_, rfl, wpAny_pure h⟩) htake)
  | exact wpAny_bind (m := Builtin.Tuple.tupleExact _) (wpAny_newObj_type (wpAny_bind (wpAny_pure (wpAny_pure ⟨_, rfl, wpAny_pure h⟩))) htake)
  | exact wpAny_bind (wpAny_bind (m := Builtin.Tuple.tupleExact _) (wpAny_newObj_type (wpAny_pure (wpAny_pure ⟨_, rfl, wpAny_pure h⟩)) htake))
  | exact wpAny_bind (wpAny_bind (m := Builtin.Tuple.tupleExact _) (wpAny_newObj_type (wpAny_pure ⟨_, rfl, wpAny_pure h⟩) htake))
end
end HT
namespace L2
open PySem PySem.Spec PyProof.Rows
abbrev TO := St -> Hp -> (Option Int -> Hp -> Prop) -> Prop
def PO (X : Cx) (e : Option Expr) (t : TO) : Prop :=
 ∀ (pins : List (Addr × Obj)) (s : Shared) (σ : St) (H : Hp) (Q : Option Int -> Hp -> Prop), Inv X pins σ H s -> t σ H Q ->
  wpAny (model X.prog X.w) X.A (evalPart e X.env) (λ u s' => ∃ o H', Inv X pins σ H' s' /\ IsPart u o /\ Q o H') X.xe s
def Oa : TO := λ _ H Q => Q none H
def Ul (t : TE) : TO := λ σ H Q => t σ H λ x H1 => ∃ i, x = .int i /\ Q (some i) H1
section
variable {X : Cx} {e : Expr} {te : TE} {lo hi : Option Expr} {tl th : TO} {pos p2 : Pos}
theorem Pz : PO X none Oa := by
 intro pins s σ H Q I h;rw [evalPart_none];exact wpAny_pure ⟨none, H, I, .none, h⟩
theorem Nt (h : PE X e te) : PO X (some e) (Ul te) := by
 intro pins s σ H Q I hw;rw [evalPart_some];refine thn (h pins s σ H _ I hw) λ u s1 zq50 => ?_;obtain ⟨x, H1, I1, r1, q1⟩ := zq50;obtain ⟨i, rfl, q⟩ := q1;obtain ⟨t, rfl⟩ := r1;exact ⟨some i, H1, I1, .int i t, q⟩
def SlR (X : Cx) (r : V -> Option Int -> Option Int -> Hp -> VK -> Prop) : Prop :=
 ∀ (pins : List (Addr × Obj)) (s : Shared) (σ : St) (H : Hp) (x : V) (v vl vu : Value) (lo hi : Option Int) (sl : Addr) (Q : VK), Inv X pins σ H s -> RelV x v -> s.heap.IsSliceOf sl vl vu .none -> IsPart vl lo -> IsPart vu hi -> r x lo hi H Q ->
  ∃ T id, typeLookup (.type T) "__getitem__" = pure (some (.builtin id)) /\ s.TypeIs v T /\ wpAny (model X.prog X.w) X.A (getItem v (.ref sl)) (EP X pins σ Q) X.xe s
theorem SlR.or {r r' : V -> Option Int -> Option Int -> Hp -> VK -> Prop} (h : SlR X r) (h' : SlR X r') : SlR X (λ x lo hi H Q => r x lo hi H Q ∨ r' x lo hi H Q) := by
 intro pins s σ H x v vl vu lo hi sl Q I rx hs pl pu q
 rcases q with q | q
 .exact h pins s σ H x v vl vu lo hi sl Q I rx hs pl pu q
 .exact h' pins s σ H x v vl vu lo hi sl Q I rx hs pl pu q
def tSl (r : V -> Option Int -> Option Int -> Hp -> VK -> Prop) (te : TE) (tl th : TO) : TE := λ σ H Q => te σ H λ x H1 => tl σ H1 λ l H2 => th σ H2 λ u H3 => r x l u H3 Q
theorem Aj {r : V -> Option Int -> Option Int -> Hp -> VK -> Prop} (hr : SlR X r) (he : PE X e te) (hl : PO X lo tl) (hu : PO X hi th) : PE X (.Subscript e (.Slice lo hi none p2) pos) (tSl r te tl th) := by
 intro pins s σ H Q I h;refine Subscript_ (thn (he pins s σ H _ I h) λ v s1 zq51 => ?_);obtain ⟨x, H1, I1, r1, q1⟩ := zq51;refine wpAny_Slice (thn (hl pins s1 σ H1 _ I1 q1) λ vl s2 ⟨l, H2, I2, pl, q2⟩ => thn (hu pins s2 σ H2 _ I2 q2) λ vu s3 zq52 => ?_);obtain ⟨u, H3, I3, pu, q3⟩ := zq52;rw [evalPart_none];refine wpAny_pure ?_;have I4 : Inv X pins σ H3 { s3 with heap := s3.heap.push { cls := .type "slice", data := .fields #[vl, vu, .none] } } := I3.kept (t' := s3.toks) λ b ob q => Zb _ q
 obtain ⟨T, id, hT, ht, hg⟩ := hr pins { s3 with heap := s3.heap.push { cls := .type "slice", data := .fields #[vl, vu, .none] } } σ H3 x v vl vu l u s3.heap.objs.size Q I4 r1 (Heap.IsSliceOf.new ..) pl pu q3
 show wpAny (model X.prog X.w) X.A (subscriptTail e (.Slice lo hi none p2) v (.ref s3.heap.objs.size)) (EP X pins σ Q) X.xe { s3 with heap := s3.heap.push { cls := .type "slice", data := .fields #[vl, vu, .none] } }
 exact tail_any (ops := [.ref s3.heap.objs.size, v]) ht hT hg (by with_unfolding_all rfl)
def Bj (xs : List V) (lo hi : Option Int) : List V := (xs.drop (HT.sIx xs.length 0 lo)).take (HT.sIx xs.length xs.length hi - HT.sIx xs.length 0 lo)
theorem tO (xs : List V) (lo hi : Option Int) : (Bj xs lo hi).length <= xs.length := by
 unfold Bj;rw [List.length_take, List.length_drop];omega
def rSlT (K : PySem.W.Frag) : V -> Option Int -> Option Int -> Hp -> VK -> Prop := λ x lo hi H Q => ∃ a xs, x = .ref a /\ SqT K H a xs /\
 ¬ (HT.sIx xs.length 0 lo = 0 /\ HT.sIx xs.length xs.length hi = xs.length) /\ ∀ p, H p = none -> Q (.ref p) (upd H p (.tup (Bj xs lo hi)))
theorem Rx : SlR X (rSlT X.K) := by
 intro pins s σ H x v vl vu lo hi sl Q I rx hs pl pu h;obtain ⟨a, xs, rfl, hx, hw, q⟩ := h;cases rx;obtain ⟨its, r, ht, hz⟩ := I.tuple hx;have hlen : its.toArray.size = xs.length := by rw [Zd]; exact r.length.symm
 refine ⟨"tuple", _, PyProof.Rows.slot_tuple_getitem.lookup, ht.typeIs, ?_⟩;refine HT.getItem_tuple_cut ht hs pl pu (by rw [hlen]; exact hw) ?_ (by rw [hlen]; exact hz)
 rw [hlen];refine ⟨.ref s.heap.objs.size, _, I.laid (t' := s.toks) (o := .tup (Bj xs lo hi)) (λ b ob q => Zb _ q) (Zg _) ?_, rfl, q _ (I.hok.fresh (Zg _))⟩;exact ⟨Zl (tO xs lo hi) hz, _, (r.drop (HT.sIx xs.length 0 lo)).take (HT.sIx xs.length xs.length hi - HT.sIx xs.length 0 lo), IsTup.new _ _⟩
def Wf (K : PySem.W.Frag) : R2 := λ x y H Q => ∃ a b xs ys, x = .ref a /\ y = .ref b /\ SqT K H a xs /\ SqT K H b ys /\ xs ≠ [] /\ xs.length + ys.length <= sizeLine /\
 (ys = [] -> Q (.ref a) H) /\ (ys ≠ [] -> ∀ p, H p = none -> Q (.ref p) (upd H p (.tup (xs ++ ys))))
theorem Vals.mL (r : Vals xs us) : us = [] ↔ xs = [] := by
 cases r with
 | nil => simp
 | cons _ _ => simp
theorem MP : OpR X (binaryOp .Add) (Wf X.K) := by
 intro pins s σ H x y v u Q I rx ry h;obtain ⟨a, b, xs, ys, rfl, rfl, ha, hb, hx, hz, q1, q2⟩ := h;cases rx;cases ry;obtain ⟨its, r1, p1, _⟩ := I.tuple ha;obtain ⟨its2, r2, p2, _⟩ := I.tuple hb;refine HT.cat_tup p1 p2 (λ z => hx (r1.mL.mp z)) (λ z => ⟨.ref a, H, I, rfl, q1 (r2.mL.mp z)⟩) (λ z => ?_) (by rw [<- r1.length, <- r2.length]; exact hz)
 refine ⟨.ref s.heap.objs.size, _, I.laid (t' := s.toks) (o := .tup (xs ++ ys)) (λ b ob q => Zb _ q) (Zg _) ?_, rfl, q2 (λ w => z (r2.mL.mpr w)) _ (I.hok.fresh (Zg _))⟩;exact ⟨by rw [List.length_append]; exact hz, _, r1.append r2, IsTup.new _ _⟩
end
def ixN (n : Nat) (i : Int) : Option Nat := if 0 <= i then (if i < n then some i.toNat else none) else if -(n : Int) <= i then some (i + n).toNat else none
def atI {α : Type} (xs : List α) (i : Int) : Option α := (ixN xs.length i).bind λ j => xs[j]?
theorem Fo (h : ixN n i = some j) : seqIndex? i n = some j /\ j < n /\ -(n : Int) <= i /\ i < n := by
 unfold ixN at h;by_cases h0 : 0 <= i
 .rw [if_pos h0] at h;by_cases h1 : i < n
  .rw [if_pos h1] at h;have e : i.toNat = j := Option.some.inj h;exact ⟨by rw [seqIndex_of h0 h1, e], by omega, by omega, h1⟩
  .rw [if_neg h1] at h; cases h
 .rw [if_neg h0] at h;by_cases h1 : -(n : Int) <= i
  .rw [if_pos h1] at h;have e : (i + n).toNat = j := Option.some.inj h;exact ⟨by rw [seqIndex_neg (by omega) h1, e], by omega, h1, by omega⟩
  .rw [if_neg h1] at h; cases h
theorem yP {α : Type} {xs : List α} {i : Int} {v : α} (h : atI xs i = some v) : ∃ j, seqIndex? i xs.length = some j /\ xs[j]? = some v /\ j < xs.length /\ -(xs.length : Int) <= i /\ i < xs.length := by
 unfold atI at h;cases e : ixN xs.length i with
 | none => rw [e] at h; cases h
 | some j =>
  rw [e] at h;obtain ⟨h1, h2, h3, h4⟩ := Fo e;exact ⟨j, h1, h, h2, h3, h4⟩
theorem MJ {α : Type} {xs : List α} {j : Nat} {v : α} (h : xs[j]? = some v) : atI xs (j : Int) = some v := by
 have hj : j < xs.length := (Zh.mp h).1;have e : ixN xs.length (j : Int) = some j := by
  unfold ixN;rw [if_pos (by omega), if_pos (by omega)]; simp
 unfold atI; rw [e]; exact h
theorem Aw {α : Type} (xs : List α) (v : α) : atI (xs ++ [v]) (-1) = some v := by
 have hl : (xs ++ [v]).length = xs.length + 1 := by simp
 have e : ixN (xs ++ [v]).length (-1) = some xs.length := by
  unfold ixN;rw [hl, if_neg (by decide), if_pos (by omega)]
  congr 1
  omega
 unfold atI;rw [e];show (xs ++ [v])[xs.length]? = some v;simp
def Er (b : Expr) : Prop := ∀ o i, subscripted b false o i = operate [o, i] (getItem o i)
def IxR (X : Cx) (r : R2) : Prop :=
 ∀ (value slice : Expr) (pins : List (Addr × Obj)) (s : Shared) (σ : St) (H : Hp) (x y : V) (v u : Value) (Q : VK), Inv X pins σ H s -> RelV x v -> RelV y u -> r x y H Q ->
  subscripted slice false v u = operate [v, u] (getItem v u) -> wpAny (model X.prog X.w) X.A (subscriptTail value slice v u) (EP X pins σ Q) X.xe s
def MtR (X : Cx) (id : String) (r : V -> List V -> Hp -> VK -> Prop) : Prop :=
 ∀ (pins : List (Addr × Obj)) (s : Shared) (σ : St) (H : Hp) (x : V) (xs : List V) (v : Value) (us : List Value) (Q : VK), Inv X pins σ H s -> RelV x v -> Vals xs us -> r x xs H Q ->
  wpAny (model X.prog X.w) X.A (call (.builtin id) (v :: us)) (EP X pins σ Q) X.xe s
section
variable {X : Cx} {a b : Expr} {ta tb : TE} {pos : Pos}
theorem IxR.or (h : IxR X r) (h' : IxR X r') : IxR X (λ x y H Q => r x y H Q ∨ r' x y H Q) := by
 intro value slice pins s σ H x y v u Q I rx ry q hs
 rcases q with q | q
 .exact h value slice pins s σ H x y v u Q I rx ry q hs
 .exact h' value slice pins s σ H x y v u Q I rx ry q hs
theorem Vk (hr : IxR X r) (ha : PE X a ta) (hb : PE X b tb) (hs : Er b) : PE X (.Subscript a b pos) (tOp r ta tb) := by
 intro pins s σ H Q I h;exact Subscript_ (Tn ha hb I h λ v u s2 x y H2 I2 rx ry q => hr a b pins s2 σ H2 x y v u Q I2 rx ry q (hs _ _))
def UG (K : PySem.W.Frag) : R2 := λ x y H Q => ∃ p xs i v, x = .ref p /\ y = .int i /\ SqL K H p xs /\ atI xs i = some v /\ Q v H
def Vh (K : PySem.W.Frag) : R2 := λ x y H Q => ∃ p xs i v, x = .ref p /\ y = .int i /\ SqT K H p xs /\ atI xs i = some v /\ Q v H
def VB : R2 := λ x y H Q => ∃ z i c, x = .str z /\ y = .int i /\ z.length <= sizeLine /\ atI z.cps.toList i = some c /\ Q (.str ⟨#[c]⟩) H
theorem Lp : IxR X (UG X.K) := by
 intro value slice pins s σ H x y v u Q I rx ry h hs;obtain ⟨p, xs, i, z, rfl, rfl, hq, he, q⟩ := h;cases rx;obtain ⟨t, rfl⟩ := ry;obtain ⟨its, r, pl, hz⟩ := I.list hq;obtain ⟨j, h1, h2, h3, h4, h5⟩ := yP he;obtain ⟨w, ew, rw'⟩ := r.get h2;have hl := r.length;have hn := pO;have fin : EP X pins σ Q w s := ⟨z, H, I, rw', q⟩;by_cases h0 : 0 <= i
 .have hj : i.toNat = j := by
   rw [seqIndex_of h0 h5] at h1;exact Option.some.inj h1
  exact item_listR pl.isList h0 (by omega) (by rw [hj]; simpa using ew) fin hs
 .have hj : (i + (its.toArray.size : Int)).toNat = j := by
   rw [seqIndex_neg (by omega) h4] at h1
   rw [Zd, <- hl];exact Option.some.inj h1
  exact subscriptTail_builtinR (x := w) pl.isList.typeIs slot_list_getitem.lookup
   (wpAny_getItem_list_neg (Q := λ r s' => r = w /\ EP X pins σ Q r s') pl.isList (by omega) (by rw [Zd] <;> omega) (by omega) (by rw [hj]; simpa using ew) ⟨rfl, fin⟩) hs
theorem Th : IxR X (Vh X.K) := by
 intro value slice pins s σ H x y v u Q I rx ry h hs;obtain ⟨p, xs, i, z, rfl, rfl, hq, he, q⟩ := h;cases rx;obtain ⟨t, rfl⟩ := ry;obtain ⟨its, r, pl, hz⟩ := I.tuple hq;obtain ⟨j, h1, h2, h3, h4, h5⟩ := yP he;obtain ⟨w, ew, rw'⟩ := r.get h2;have hl := r.length;have hn := pO;have fin : EP X pins σ Q w s := ⟨z, H, I, rw', q⟩;exact subscriptTail_builtinR (x := w) pl.typeIs slot_tuple_getitem.lookup
  (getItem_tuple (j := j) (Q := λ r s' => r = w /\ EP X pins σ Q r s') pl (by omega) (by omega) (by rw [Zd, <- hl]; exact h1) (by simpa using ew) ⟨rfl, fin⟩) hs
theorem Ro : IxR X VB := by
 intro value slice pins s σ H x y v u Q I rx ry h hs;obtain ⟨z, i, c, rfl, rfl, hz, he, q⟩ := h;obtain ⟨t, rfl⟩ := rx;obtain ⟨t', rfl⟩ := ry;obtain ⟨j, h1, h2, h3, h4, h5⟩ := yP he;have hl : z.cps.toList.length = z.length := by simp [Str.length]
 rw [hl] at h1 h4 h5;have hn := pO;exact tail_any (typeIs_str s z t) slot_str_getitem.lookup (getItem_str (c := c) (by
  have e1 : decide (i < -(2 ^ 63 : Int)) = false := decide_eq_false (by omega)
  have e2 : decide (i >= 2 ^ 63) = false := decide_eq_false (by omega)
  rw [e1, e2, Bool.or_false]) (by rw [h1]; simpa using h2) ⟨.str ⟨#[c]⟩, H, I.tok _, ⟨_, rfl⟩, q⟩) hs
def rIx (K : PySem.W.Frag) : R2 := λ x y H Q => UG K x y H Q ∨ Vh K x y H Q ∨ VB x y H Q
theorem Sd : IxR X (rIx X.K) := Lp.or (Th.or Ro)
theorem DN (its : List Value) (n j : Nat) (u : Value) : Obj.mapSeq (·.setIfInBounds j u) { cls := .type "list", data := .seq its.toArray n } = { cls := .type "list", data := .seq (its.set j u).toArray n } := by
 simp [Obj.mapSeq]
theorem Inv.lst (I : Inv X pins σ H s) (h : H p = some (.lst xs)) :
  ∃ (its : List Value) (n : Nat), Vals xs its /\ s.heap.get? p = some { cls := .type "list", data := .seq its.toArray n } /\ xs.length <= sizeLine := by
 obtain ⟨z, its, n, r, e⟩ := I.hok p _ h;exact ⟨its, n, r, e, z⟩
theorem Inv.lstUpd {pins : List (Addr × Obj)} {σ : St} {H : Hp} {s : Shared} {p : Addr} {xs ys : List V} {its its' : List Value} {n n' : Nat} {f : Obj -> Obj} (I : Inv X pins σ H s) (h : H p = some (.lst xs))
  (ho : s.heap.get? p = some { cls := .type "list", data := .seq its.toArray n }) (hf : f { cls := .type "list", data := .seq its.toArray n } = { cls := .type "list", data := .seq its'.toArray n' }) (r : Vals ys its') (hz : ys.length <= sizeLine) (t : Nat) :
  Inv X pins σ (upd H p (.lst ys)) { s with heap := s.heap.update p f, toks := t } := by
 have e : (s.heap.update p f).get? p = some { cls := .type "list", data := .seq its'.toArray n' } := by
  rw [Heap.get?_update_self f ho (by rw [hf] <;> rfl), hf]
 refine I.write (x := p) (e := p) (by rw [h]; trivial) (.inl rfl) (λ b u hb q => (Heap.get?_update_other _ _ (Ne.symm hb)).trans q) ⟨_, e⟩ ?_
 exact ⟨hz, its', n', r, e⟩
def Uk : V -> V -> V -> Hp -> (Hp -> Prop) -> Prop := λ o i v H Q => ∃ p xs k j, o = .ref p /\ i = .int k /\ H p = some (.lst xs) /\ ixN xs.length k = some j /\ Q (upd H p (.lst (xs.set j v)))
theorem set_list : Vg X Uk := by
 intro pins s σ H o i v ov iv u Q I ro ri rv h;obtain ⟨p, xs, k, j, rfl, rfl, hp, hj, q⟩ := h;cases ro;obtain ⟨t, rfl⟩ := ri;obtain ⟨its, n, r, ho, hz⟩ := I.lst hp;obtain ⟨h1, h2, h3, h4⟩ := Fo hj;have hl := r.length;have hn := pO;have I' : Inv X pins σ (upd H p (.lst (xs.set j v))) { s with heap := s.heap.update p (Obj.mapSeq (·.setIfInBounds j u)) } :=
  I.lstUpd hp ho (DN its n j u) (r.set rv j) (by rw [List.length_set]; exact hz) s.toks
 by_cases h0 : 0 <= k
 .have hk : k.toNat = j := by
   rw [seqIndex_of h0 h4] at h1;exact Option.some.inj h1
  exact PySem.W.ki_setAt ho h0 (by omega) (by rw [Zd, <- hl]; exact h4) (by rw [hk]; exact ⟨_, I', q⟩)
 .have hk : (k + (its.toArray.size : Int)).toNat = j := by
   rw [seqIndex_neg (by omega) h3] at h1
   rw [Zd, <- hl];exact Option.some.inj h1
  exact PySem.W.ki_setBack ho (by omega) (by rw [Zd, <- hl]; exact h3) (by omega) (by rw [hk]; exact ⟨_, I', q⟩)
theorem xZ (lo hi : Option Int) (n : Nat) : (sliceBounds lo hi none n).1 = ((HT.sIx n 0 lo : Nat) : Int) /\ (sliceBounds lo hi none n).2.1 = ((HT.sIx n n hi : Nat) : Int) /\ (sliceBounds lo hi none n).2.2 = 1 := by
 refine ⟨?_, ?_, rfl⟩
 .cases lo with
  | none => simp [sliceBounds, HT.sIx]
  | some i =>
   simp only [sliceBounds, HT.sIx, Option.getD_none, show (1 : Int) > 0 by decide, if_true]
   by_cases h : i < 0
   .simp only [h, if_true] <;> omega
   .simp only [h, if_false] <;> omega
 .cases hi with
  | none => simp [sliceBounds, HT.sIx]
  | some i =>
   simp only [sliceBounds, HT.sIx, Option.getD_none, show (1 : Int) > 0 by decide, if_true]
   by_cases h : i < 0
   .simp only [h, if_true] <;> omega
   .simp only [h, if_false] <;> omega
theorem wy (its : List Value) (lo hi : Option Int) : slicePick its.toArray lo hi none = ((its.drop (HT.sIx its.length 0 lo)).take (HT.sIx its.length its.length hi - HT.sIx its.length 0 lo)).toArray := by
 obtain ⟨h1, h2, h3⟩ := xZ lo hi its.toArray.size;unfold slicePick;rw [h1, h2, h3];simp only [sliceRange_one, pick_run, Zd] <;> rfl
def rSlL (K : PySem.W.Frag) : V -> Option Int -> Option Int -> Hp -> VK -> Prop := λ x lo hi H Q => ∃ a xs, x = .ref a /\ SqL K H a xs /\ ∀ p, H p = none -> Q (.ref p) (upd H p (.lst (Bj xs lo hi)))
theorem Ft : SlR X (rSlL X.K) := by
 intro pins s σ H x v vl vu lo hi sl Q I rx hs pl pu h;obtain ⟨a, xs, rfl, hx, q⟩ := h;cases rx;obtain ⟨its, r, ht, hz⟩ := I.list hx;have hlen := r.length;refine ⟨"list", _, slot_list_getitem.lookup, ht.isList.typeIs, ?_⟩;refine wpAny_getItem_list_slice ht.isList hs pl pu .none (by simp) ?_ (by rw [Zd] <;> omega)
 rw [wy, <- hlen];refine ⟨.ref s.heap.objs.size, _, I.laid (t' := s.toks) (o := .lst (Bj xs lo hi)) (λ b ob q => Zb _ q) (Zg _) ?_, rfl, q _ (I.hok.fresh (Zg _))⟩;exact ⟨Zl (tO xs lo hi) hz, _, 0, (r.drop (HT.sIx xs.length 0 lo)).take (HT.sIx xs.length xs.length hi - HT.sIx xs.length 0 lo), Zf _ rfl⟩
theorem ye : jF X (.builtin "len") (λ xs H Q => ∃ p ys, xs = [.ref p] /\ (SqL X.K H p ys ∨ SqT X.K H p ys) /\ Q (.int ys.length) H) := by
 intro pins s σ H xs us Q I r h;obtain ⟨p, ys, rfl, hq, q⟩ := h;obtain ⟨u, rfl, rx⟩ := vals1 r;cases rx;have hn := pO
 rcases hq with hq | hq
 .obtain ⟨its, r', pl, hz⟩ := I.list hq;have hlen := r'.length;exact Calls.call_len_list pl.isList (by simp only [Zd] <;> omega) ⟨.int ys.length, H, I.tok _, ⟨s.toks + 1, by rw [Zd, hlen]⟩, q⟩
 .obtain ⟨its, r', pl, hz⟩ := I.tuple hq;have hlen := r'.length;exact len_tuple pl (by simp only [Zd] <;> omega) ⟨.int ys.length, H, I.tok _, ⟨s.toks + 1, by rw [Zd, hlen]⟩, q⟩
theorem zj : jF X (.builtin "len") (λ xs H Q => ∃ z, xs = [.str z] /\ z.length <= sizeLine /\ Q (.int z.length) H) := by
 intro pins s σ H xs us Q I r h;obtain ⟨z, rfl, hz, q⟩ := h;obtain ⟨u, rfl, t, rfl⟩ := vals1 r;have hn := pO;exact len_str (by omega) ⟨.int z.length, H, I.tok _, ⟨_, rfl⟩, q⟩
theorem jF.or {r r' : List V -> Hp -> VK -> Prop} (h : jF X f r) (h' : jF X f r') : jF X f (λ xs H Q => r xs H Q ∨ r' xs H Q) := by
 intro pins s σ H xs us Q I rs q
 rcases q with q | q
 .exact h pins s σ H xs us Q I rs q
 .exact h' pins s σ H xs us Q I rs q
theorem vY : jF X (.type "tuple") (λ xs H Q => ∃ p ys, xs = [.ref p] /\ ((SqL X.K H p ys /\ ∀ l, H l = none -> Q (.ref l) (upd H l (.tup ys))) ∨ (SqT X.K H p ys /\ Q (.ref p) H))) := by
 intro pins s σ H xs us Q I r h;obtain ⟨p, ys, rfl, h⟩ := h;obtain ⟨u, rfl, rx⟩ := vals1 r;cases rx
 rcases h with ⟨hq, q⟩ | ⟨hq, q⟩
 .obtain ⟨its, r', pl, hz⟩ := I.list hq;have hlen := r'.length;refine call_tuple_list pl.isList (λ h' kp => ?_) (by simp only [Zd] <;> omega)
  have I1 : Inv X pins σ H { s with heap := h' } := I.kept (t' := s.toks) kp
  have I2 : Inv X pins σ (upd H h'.objs.size (.tup ys)) { s with heap := h'.push { cls := .type "tuple", data := .seq its.toArray } } :=
   I1.laid (t' := s.toks) (λ b o e => Zb _ e) (Zg _) (show gM X.prog X.w _ _ _ (.tup ys) from ⟨hz, its, r', IsTup.new _ _⟩)
  exact ⟨.ref h'.objs.size, _, I2, rfl, q _ (I1.hok.fresh (Zg _))⟩
 .obtain ⟨its, r', pl, hz⟩ := I.tuple hq;exact call_tuple_same pl ⟨.ref p, H, I, rfl, q⟩
def tyV (K : PySem.W.Frag) (T : String) (x : V) (H : Hp) : Prop := match x with
 | .str _ => T = "str"
 | .int _ => T = "int"
 | .ref p => (T = "list" /\ ∃ xs, SqL K H p xs) ∨ (T = "tuple" /\ ∃ o, K.lookup p = some o /\ o.cls = .type "tuple" /\ o.dict = none) ∨
   (T = "dict" /\ ((∃ kvs, H p = some (.dK kvs)) ∨ ∃ kvs, H p = some (.dT kvs))) ∨ (T = "set" /\ ∃ S n, H p = some (.set S n))
 | _ => False
theorem Rb (I : Inv X pins σ H s) (r : RelV x v) (ty : tyV X.K T x H) :
  s.TypeIs v T /\ ∀ a, v = .ref a -> ∃ ob, s.heap.get? a = some ob /\ ob.dict = none := by
 cases x with
 | str z =>
  obtain ⟨t, rfl⟩ := r;cases (show T = "str" from ty);exact ⟨typeIs_str s z t, λ _ e => nomatch e⟩
 | int i =>
  obtain ⟨t, rfl⟩ := r;cases (show T = "int" from ty);exact ⟨typeIs_int s i t, λ _ e => nomatch e⟩
 | ref p =>
  cases r
  rcases ty with ⟨rfl, xs, hq⟩ | ⟨rfl, o, hk, hc, hd⟩ | ⟨rfl, hk⟩ | ⟨rfl, S, n, hk⟩
  .obtain ⟨its, _, pl, _⟩ := I.list hq;refine ⟨pl.isList.typeIs, λ a e => ?_⟩;cases e;obtain ⟨o, n, e, c, hd, _⟩ := pl;exact ⟨o, e, hd⟩
  .refine ⟨⟨o, I.kIn p o hk, hc⟩, λ a e => ?_⟩;cases e;exact ⟨o, I.kIn _ o hk, hd⟩
  .have z : ∃ o, s.heap.get? p = some o /\ o.ExactDict := by
    rcases hk with ⟨kvs, hk⟩ | ⟨kvs, hk⟩
    .obtain ⟨_, _, _, _, o, _, _, e, ex, _⟩ := I.hok p _ hk;exact ⟨o, e, ex⟩
    .obtain ⟨_, _, _, _, o, _, _, e, ex, _⟩ := I.hok p _ hk;exact ⟨o, e, ex⟩
   obtain ⟨o, e, ex⟩ := z;refine ⟨⟨o, e, ex.1⟩, λ a e2 => ?_⟩;cases e2;exact ⟨o, e, ex.2.1⟩
  .obtain ⟨o, _, _, _, e, ex, _⟩ := I.hok p _ hk;refine ⟨⟨o, e, ex.1⟩, λ a e2 => ?_⟩;cases e2;exact ⟨o, e, ex.2.1⟩
 | _ => exact False.elim ty
def tBM (K : PySem.W.Frag) (T : String) (r : V -> List V -> Hp -> VK -> Prop) (to : TE) (t : TA) : TE := λ σ H Q => to σ H λ x H1 => tyV K T x H1 /\ t σ H1 λ xs H2 => r x xs H2 Q
variable {o e : Expr} {es : List Expr} {to : TE} {t : TA} {name : Str} {apos cpos : Pos} {T id : String} {r : V -> List V -> Hp -> VK -> Prop}
theorem Qc (pa : PlainAttrs T) (slot : Slot T name id) (hty : typeOf (.builtin id) = pure (.type "method_descriptor")) (hm : MtR X id r) (ho : PE X o to) (ha : PA X (e :: es) t)
  (hbase : attributeBase o name X.env (eval o X.env) = eval o X.env := by rfl)
  (hfew : ((backTo cpos (starEach (e :: es) X.env)).all (λ x => !x.1) && (backToKw cpos (keywordEach [] X.env)).all (λ x => x.1.isSome)
   && decide ((e :: es).length + ([] : List Keyword).length + (if ([] : List Keyword).isEmpty then 0 else 1) < 30)) = true := by rfl)
  (hline : (apos.endLine == cpos.line) = true := by rfl) (hs : starEach (e :: es) X.env = (false, eval e X.env) :: starEach es X.env := by rfl) (hplain : (backTo cpos (starEach es X.env)).any (·.1) = false := by rfl) :
  PE X (.Call (.Attribute o name apos) (e :: es) [] cpos) (tBM X.K T r to t) := by
 intro pins s σ H Q I h;refine wpAny_Call_method_late hbase hfew hline rfl (thn (ho pins s σ H _ I h) λ v s1 zq54 => ?_);obtain ⟨x, H1, I1, r1, ty, q1⟩ := zq54;obtain ⟨h1, h2⟩ := Rb I1 r1 ty;refine ⟨T, id, pa, slot, hty, h1, h2, ?_⟩;have hA := ha cpos pins s1 σ H1 _ I1 q1;rw [hs] at hA ⊢;refine Calls.callWith_builtin (by show (false || (backTo cpos (starEach es X.env)).any (·.1)) = false; rw [hplain] <;> rfl) (Calls.evalArgs_plain ?_)
 exact thn hA λ us s2 ⟨vs, H2, I2, r2, q2⟩ => hm pins s2 σ H2 x vs v us Q I2 r1 r2 q2
end
def MtM (X : Cx) (id : String) (r : V -> List V -> Hp -> VK -> Prop) : Prop :=
 ∀ (pins : List (Addr × Obj)) (s : Shared) (σ : St) (H : Hp) (x : V) (xs : List V) (v : Value) (us : List Value) (Q : VK), Inv X pins σ H s -> RelV x v -> Vals xs us -> r x xs H Q ->
  wpAny (model X.prog X.w) X.A (call (.builtin id) (v :: us)) (EP X pins σ Q) X.xe s
theorem Vals.one : ∀ {x : V} {us : List Value}, Vals [x] us -> ∃ u, us = [u] /\ RelV x u
 | _, _, .cons r .nil => ⟨_, rfl, r⟩
theorem Vals.eraseIdx : ∀ {xs : List V} {us : List Value} (i : Nat), Vals xs us -> Vals (xs.eraseIdx i) (us.eraseIdx i)
 | _, _, _, .nil => .nil
 | _, _, 0, .cons _ t => t
 | _, _, i + 1, .cons r t => .cons r (Vals.eraseIdx i t)
theorem Vals.rep (h : Vals xs us) : ∀ k : Nat, Vals (List.replicate k xs).flatten (List.replicate k us).flatten
 | 0 => .nil
 | k + 1 => by
  rw [List.replicate_succ, List.replicate_succ, List.flatten_cons, List.flatten_cons];exact Vals.append h (Vals.rep h k)
theorem xR {α : Type} : ∀ (l : List α) (i : Nat), (l.eraseIdx i).length <= l.length
 | [], _ => Zg _
 | _ :: _, 0 => Nat.le_succ _
 | _ :: r, i + 1 => Nat.succ_le_succ (xR r i)
theorem foldl_rep (its : List Value) : ∀ (k : Nat) (acc : List Value),
  List.foldl (λ x1 x2 => x1 ++ x2) acc.toArray (List.replicate k its.toArray) = (acc ++ (List.replicate k its).flatten).toArray
 | 0, acc => by simp
 | k + 1, acc => by
  have e : acc.toArray ++ its.toArray = (acc ++ its).toArray := by simp
  have e2 : (acc ++ its) ++ (List.replicate k its).flatten = acc ++ (List.replicate (k + 1) its).flatten := by
   rw [List.replicate_succ, List.flatten_cons, List.append_assoc]
  rw [<- e2, <- foldl_rep its k (acc ++ its), <- e, List.replicate_succ, List.foldl_cons]
section
variable {X : Cx} {pins : List (Addr × Obj)} {σ : St} {H : Hp} {s : Shared} {l b : Addr} {xs ys zs : List V}
theorem Inv.lset {its its' : List Value} {n : Nat} {f : Array Value -> Array Value} {t' : Nat} (I : Inv X pins σ H s) (hH : H l = some (.lst xs))
  (e : s.heap.get? l = some { cls := .type "list", data := .seq its.toArray n }) (hf : f its.toArray = its'.toArray) (hv : Vals ys its') (hz : ys.length <= sizeLine) :
  Inv X pins σ (upd H l (.lst ys)) { s with heap := s.heap.update l (Obj.mapSeq f), toks := t' } := by
 have q := PySem.IsL.update e f;rw [hf] at q;refine I.write (x := l) (e := l) (by rw [hH]; exact trivial) (.inl rfl) (λ b' u hb hu => (Heap.get?_update_other s.heap (Obj.mapSeq f) (Ne.symm hb)).trans hu) ⟨_, q⟩ ?_
 exact ⟨hz, its', _, hv, q⟩
theorem Inv.lnew (I : Inv X pins σ H s) (hv : Vals ys its) (hz : ys.length <= sizeLine) :
  Inv X pins σ (upd H s.heap.objs.size (.lst ys)) { s with heap := s.heap.push { cls := .type "list", data := .seq its.toArray }, toks := t' } :=
 I.laid (λ _ _ q => Zb _ q) (Zg _) ⟨hz, its, 0, hv, Zf _ rfl⟩
theorem Inv.fresh (I : Inv X pins σ H s) : H s.heap.objs.size = none := I.hok.fresh (Zg _)
theorem Inv.lstM (I : Inv X pins σ H s) (hH : H l = some (.lst xs)) : xs.length <= sizeLine /\ ∃ (its : List Value) (n : Nat), Vals xs its /\ xs.length = its.length /\ s.heap.get? l = some { cls := .type "list", data := .seq its.toArray n } := by
 obtain ⟨z, its, n, r, e⟩ := I.hok l _ hH;exact ⟨z, its, n, r, r.length, e⟩
theorem Bf (h : n <= sizeLine) : Builtin.List.listTooLong n = false := by
 unfold Builtin.List.listTooLong;exact decide_eq_false (by omega)
end
section
variable {X : Cx}
def Oi : V -> List V -> Hp -> VK -> Prop := λ x vs H Q => ∃ l xs y, x = .ref l /\ vs = [y] /\ H l = some (.lst xs) /\ xs.length < sizeLine /\ Q .non (upd H l (.lst (xs ++ [y])))
theorem Hc : MtM X "list.append" Oi := by
 intro pins s σ H x vs v us Q I rx rv h;obtain ⟨l, xs, y, rfl, rfl, hH, hz, q⟩ := h;cases rx;obtain ⟨u, rfl, ru⟩ := rv.one;obtain ⟨z, its, n, r, hl, e⟩ := I.lstM hH;refine call_meets F.slot_list_append ⟨_, e, rfl⟩ F.entry_list_append (F.args_list_append_2 _ _) (PySem.list_append l its.toArray n u (by rw [Zd]; omega)) ⟨e, ?_⟩
 refine ⟨.non, _, I.lset (its' := its ++ [u]) hH e (by simp) (r.append (.cons ru .nil)) ?_, rfl, q⟩
 rw [List.length_append, List.length_singleton];omega
def Mq : V -> List V -> Hp -> VK -> Prop := λ x vs H Q => ∃ l b xs zs, x = .ref l /\ vs = [.ref b] /\ H l = some (.lst xs) /\ H b = some (.lst zs) /\ xs.length + zs.length <= sizeLine /\ Q .non (upd H l (.lst (xs ++ zs)))
theorem Ud : MtM X "list.extend" Mq := by
 intro pins s σ H x vs v us Q I rx rv h;obtain ⟨l, b, xs, zs, rfl, rfl, hH, hB, hz, q⟩ := h;cases rx;obtain ⟨u, rfl, ru⟩ := rv.one;cases ru;obtain ⟨z, its, n, r, hl, e⟩ := I.lstM hH;obtain ⟨z2, its2, n2, r2, hl2, e2⟩ := I.lstM hB;have hsz : its.toArray.size + its2.toArray.size <= sizeLine := by rw [Zd, Zd]; omega
 have hlong : ¬ (!its.toArray.isEmpty && Builtin.List.listTooLong (its.toArray.size + its2.toArray.size)) = true := by
  rw [Bf hsz, Bool.and_false];exact Zr
 refine call_meets F.slot_list_extend ⟨_, e, rfl⟩ F.entry_list_extend (F.args_list_extend_2 _ _)
  (AutoSeq1.list_extend_list_list_0 l its.toArray n b its2.toArray n2 hlong (by rw [Zd]; omega) (by omega)) ⟨e, e2, ?_⟩
 refine ⟨.non, _, I.lset (its' := its ++ its2) hH e (by simp) (r.append r2) ?_, rfl, q⟩
 rw [List.length_append];omega
def Rf : V -> List V -> Hp -> VK -> Prop := λ x vs H Q => ∃ l xs i k y, x = .ref l /\ vs = [.int i] /\ H l = some (.lst xs) /\ -(2 ^ 63) <= i /\ i < 2 ^ 63 /\ seqIndex? i xs.length = some k /\ xs[k]? = some y /\ Q y (upd H l (.lst (xs.eraseIdx k)))
theorem Kw : MtM X "list.pop" Rf := by
 intro pins s σ H x vs v us Q I rx rv h;obtain ⟨l, xs, i, k, y, rfl, rfl, hH, h1, h2, hk, hy, q⟩ := h;cases rx;obtain ⟨u, rfl, ru⟩ := rv.one;obtain ⟨t, rfl⟩ := ru;obtain ⟨z, its, n, r, hl, e⟩ := I.lstM hH;obtain ⟨w, hw, rw'⟩ := r.get hy;refine call_meets F.slot_list_pop ⟨_, e, rfl⟩ F.entry_list_pop (F.args_list_pop_2 _ _)
  (MeetsSeq.list_pop_at l its.toArray n i t k w (fitsIndex_both h1 h2) (by rw [Zd, <- hl]; exact hk) (by rw [<- Array.getElem?_toList]; exact hw) (by rw [Zd]; omega)) ⟨e, ?_⟩
 refine ⟨y, _, I.lset (its' := its.eraseIdx k) hH e ?_ (r.eraseIdx k) ?_, rw', q⟩
 .show its.toArray.eraseIdxIfInBounds k = (its.eraseIdx k).toArray;rw [List.eraseIdxIfInBounds_toArray]
 .have := xR xs k;omega
def rCat : R2 := λ x y H Q => ∃ l b xs zs, x = .ref l /\ y = .ref b /\ H l = some (.lst xs) /\ H b = some (.lst zs) /\ xs.length + zs.length <= sizeLine /\ ∀ p, H p = none -> Q (.ref p) (upd H p (.lst (xs ++ zs)))
theorem RJ : OpR X (binaryOp .Add) rCat := by
 intro pins s σ H x y v u Q I rx ry h;obtain ⟨l, b, xs, zs, rfl, rfl, hH, hB, hz, q⟩ := h;cases rx;cases ry;obtain ⟨z, its, n, r, hl, e⟩ := I.lstM hH;obtain ⟨z2, its2, n2, r2, hl2, e2⟩ := I.lstM hB;refine PySem.P.add_list e e2 ?_ (by rw [Zd, Zd]; omega)
 have ea : its.toArray ++ its2.toArray = (its ++ its2).toArray := by simp
 rw [ea];exact ⟨.ref _, _, I.lnew (t' := s.toks) (r.append r2) (by rw [List.length_append]; omega), rfl, q _ I.fresh⟩
def rRep : R2 := λ x y H Q => ∃ l k xs, x = .ref l /\ y = .int k /\ H l = some (.lst xs) /\ -(2 ^ 63) <= k /\ k < 2 ^ 63 /\ xs.length * k.toNat <= sizeLine /\
 ∀ p, H p = none -> Q (.ref p) (upd H p (.lst (List.replicate k.toNat xs).flatten))
theorem len_rep {α : Type} (xs : List α) (k : Nat) : (List.replicate k xs).flatten.length = k * xs.length := by
 induction k with
 | zero => simp
 | succ k ih => rw [List.replicate_succ, List.flatten_cons, List.length_append, ih, Nat.succ_mul, Nat.add_comm]
theorem KC : OpR X (binaryOp .Mult) rRep := by
 intro pins s σ H x y v u Q I rx ry h;obtain ⟨l, k, xs, rfl, rfl, hH, h1, h2, hz, q⟩ := h;cases rx;obtain ⟨t, rfl⟩ := ry;obtain ⟨z, its, n, r, hl, e⟩ := I.lstM hH;have hlen : its.toArray.size * k.toNat <= sizeLine := by rw [Zd, <- hl]; exact hz
 have hcap : ¬ its.toArray.size * k.toNat > (2 ^ 63 - 1) / 8 := by
  have : (sizeLine : Nat) <= (2 ^ 63 - 1) / 8 := by decide
  omega
 have hfit : ¬ (!Builtin.List.listFitsIndex k) = true := by
  rw [fitsIndex_both h1 h2];exact Zr
 have hlong : ¬ Builtin.List.listTooLong (its.toArray.size * k.toNat) = true := by
  rw [Bf hlen];exact Zr
 have hnew : List.foldl (λ x1 x2 => x1 ++ x2) #[] (List.replicate (if its.toArray.isEmpty = true then 0 else k.toNat) its.toArray) = (List.replicate k.toNat its).flatten.toArray := by
  have f0 : ∀ m : Nat, List.foldl (λ x1 x2 => x1 ++ x2) #[] (List.replicate m its.toArray) = (List.replicate m its).flatten.toArray := λ m => by
   have := foldl_rep its m [];rw [List.nil_append] at this;exact this
  rw [f0];cases its with
  | nil => simp
  | cons a r' => rw [if_neg (by simp)]
 refine wpAny_binaryOp_repeat_ref (T := "list") (U := "int") (by decide) ⟨_, e, rfl⟩ (λ s' => typeIs_int s' k t) noFill_list_mul F.fills_int_mul F.slot_int_rmul repeat_list F.slot_int_index.lookup
  (call_meets F.slot_int_rmul (typeIs_int s k t) F.entry_int_rmul (F.args_int_rmul_2 _ _) (int___rmul___int_list k t l its.toArray n)
   ⟨e, rfl, ⟨_, e, rfl⟩, call_meets F.slot_list_mul ⟨_, e, rfl⟩ F.entry_list_mul (F.args_list_mul_2 _ _) (AutoListH.list___mul___list_int_3 l its.toArray n k t hfit hcap hlong) ⟨e, ?_⟩⟩)
 rw [hnew];exact ⟨.ref _, _, I.lnew (t' := s.toks) (r.rep k.toNat) (by rw [len_rep, Nat.mul_comm]; exact hz), rfl, q _ I.fresh⟩
end
end L2
namespace Att
open PySem PySem.W PySem.Calls PyProof.Rows
theorem tW : ∀ (ns : List Int) (vs : List Value), WellAll P h vs (ns.map WData.int) -> IntsAre vs ns := by
 intro ns
 induction ns with
 | nil =>
  intro vs w;rw [List.map_nil] at w;cases w;exact .nil
 | cons n ns ih =>
  intro vs w;rw [Zj] at w;cases w with
  | cons a b =>
   cases a;exact .cons _ _ (ih _ b)
theorem GX {l : OpenLaw} {n : Nat} (hn : l.most = some n) {P : Params} {h : Heap} {args : List WData} {vals : List Value}
  (hpre : l.row.toRowW.claim.pre args = true) (hwl : WellAll P h vals args) :
  ∃ a vs ns, vals = [Value.ref a] /\ args = [WData.list (ns.map WData.int)] /\ h.get? a = some { cls := .type "list", data := .seq vs.toArray } /\ IntsAre vs ns /\ ns.length <= n := by
 have hsh : WShape.hasAll [] args [.list .int] = true := (pre_splitW hpre).1;have hc : l.pre.holds [] { args := args } = true := (pre_splitW hpre).2;obtain ⟨d, r, rfl, h1, h2⟩ := hasAllW_cons hsh;obtain rfl := hasAllW_nil h2;obtain ⟨xs, rfl, h3⟩ := hasW_list h1;obtain ⟨ns, rfl⟩ := items_int h3;have hlen : ns.length <= n := by
  unfold OpenLaw.pre at hc;have h4 : (WTm.not (.lt (.lit (.int (n : Int))) (.len (.arg 0)))).holds [] { args := [.list (ns.map .int)] } = true := by
   have h4 := (holds_andW hc).1;rw [hn] at h4;exact h4
  have h5 := condW_of h4 (w_not (w_lt w_lit (w_len_list (w_arg rfl))));rw [Zu] at h5;refine Nat.le_of_not_lt λ q => ?_;have q' : (n : Int) < ((ns.length : Nat) : Int) := by omega
  first
   | (rw [decide_eq_true q'] at h5; exact absurd h5 (by decide))
   | (simp at h5; omega)
 cases hwl with
 | cons w1 w2 =>
  cases w2;cases w1 with
  | list ho hall => exact ⟨_, _, ns, rfl, rfl, ho, tW ns _ hall, hlen⟩
theorem GR (l : OpenLaw) (args : List WData) : l.row.toRowW.claim.post args (.bool true) args = true :=
 postW_of (r := l.row.toRowW) (X := (true == true))
  (show WShape.has [] (.bool true) .bool = true by first | rfl | decide | simp [WShape.has, WShape.arms, WShape.armsAll])
  (show (WTm.eq .res (.lit (.bool true))).value [] { args := args, res := some (.bool true), after := args } = some (.bool (true == true)) from w_eq_bool (w_res rfl) w_lit) rfl
theorem attach_call {l : OpenLaw} {n : Nat} {q : Program} {loose : List Str} {XP : (Str -> Option Value) -> Heap -> Prop} {YP : World -> Heap -> Prop} {d : DefRec}
  (hn : l.most = some n) (hdf : d.params.defaults = [])
  (call : ∀ (w : World) (s₀ s₁ : Shared) (mg mb : Str -> Option Value) (fa : Addr) (o : Obj) (pm cd doc : Value) (a : Addr) (vs : List Value) (ns : List Int),
   Ground q loose [] XP w s₀ mg mb s₁.heap -> YP w s₁.heap ->
   s₁.heap.get? fa = some o -> o.data = .func (docDef d.name d.params d.body d.scope pm cd doc) -> s₁.heap.CodeRec cd d.name -> mg d.name = some (.ref fa) ->
   s₁.heap.get? a = some { cls := .type "list", data := .seq vs.toArray } -> IntsAre vs ns -> ns.length <= n -> s₁.gens = #[] ->
   codeAny (model l.prog w) callerA (.call (.ref fa) ⟨[.ref a], []⟩) (λ r s' => r = .ok (.ret (.bool true)) /\ OldK s₁.heap s'.heap /\ s'.os = s₁.os /\ AllBare s'.gens) s₁) :
  WalkO q loose XP YP l.row.toRowW d [] (λ f vs => PySem.call f vs) := by
 intro w s₀ s₁ mg mb G Y fa o pm cd doc dV kV ho hd hcd hD hmg hg args vals as hpre hlay hrd hwl hlo;obtain rfl : dV = .none := Dflts.none hD hdf;obtain rfl : kV = .none := Dflts.noKw hD;obtain ⟨a, vs, ns, rfl, rfl, hobj, hints, hlen⟩ := GX hn hpre hwl;refine enter_call (codeAny_mono (call w s₀ s₁ mg mb fa o pm cd doc a vs ns G Y ho (fd_plain hd) hcd hmg hobj hints hlen hg) λ r s' hq => ?_);obtain ⟨rfl, h2, h3, h4⟩ := hq;exact ⟨.inl ⟨.bool true, .bool true, [], rfl, λ _ => rfl, .bool true, GR l _, λ _ => ⟨List.Pairwise.nil, λ _ hm => (nomatch hm)⟩⟩, h2, h3, h4⟩
end Att
namespace L2
open PySem PySem.Spec PyProof.Rows
theorem sH : ∀ {vs : List Value} {ns : List Int}, IntsAre vs ns -> Vals (ns.map V.int) vs
 | _, _, .nil => .nil
 | _, _, .cons n t h => .cons ⟨t, rfl⟩ (sH h)
def lW (s : Stmt) : Arguments := match s with
 | .FunctionDef _ a _ _ _ _ _ _ _ _ => a
 | _ => { posonlyargs := [], args := [], vararg := none, kwonlyargs := [], kw_defaults := [], kwarg := none, defaults := [] }
def jK (s : Stmt) : List Stmt := match s with
 | .FunctionDef _ _ b _ _ _ _ _ _ _ => b
 | _ => []
def aN (s : Stmt) : Scope := match s with
 | .FunctionDef _ _ _ _ _ _ sc _ _ _ => sc
 | _ => { kind := .function, names := [], isGenerator := false, isCoroutine := false }
abbrev CX0 : CXT := λ _ _ _ _ _ _ => False
abbrev E0 : XK := λ _ _ _ => False
theorem Uv : BV CX0 X E0 := λ _ _ _ _ _ _ _ h => h.elim
def mY (H H' : Hp) : Prop := ∀ b o, H b = some o -> H' b = some o
theorem mY.refl (H : Hp) : mY H H := λ _ _ h => h
theorem mY.trans (a : mY H H1) (b : mY H1 H2) : mY H H2 := λ c o h => b c o (a c o h)
def Bu (X : Cx) : List Nat -> List Str -> Prop
 | [], [] => True
 | i :: is, x :: xs => (X.N[i]? = some x /\ (X.env.kindOf x = some .cell ∨ X.env.kindOf x = some .free)) /\ Bu X is xs
 | _, _ => False
theorem Bu.length : ∀ {is : List Nat} {xs : List Str}, Bu X is xs -> is.length = xs.length
 | [], [], _ => rfl
 | _ :: _, _ :: _, h => by rw [List.length_cons, List.length_cons, Bu.length h.2]
theorem Bu.get : ∀ {is : List Nat} {xs : List Str} {j i : Nat}, Bu X is xs -> is[j]? = some i -> ∃ x, xs[j]? = some x /\ X.N[i]? = some x /\ (X.env.kindOf x = some .cell ∨ X.env.kindOf x = some .free)
 | [], [], _, _, _, e => by simp at e
 | i :: is, x :: xs, 0, k, h, e => by
  simp at e; subst e;exact ⟨x, rfl, h.1⟩
 | i :: is, x :: xs, j + 1, k, h, e => by
  obtain ⟨y, e1, e2⟩ := Bu.get (j := j) (i := k) h.2 (by simpa using e)
  exact ⟨y, by simpa using e1, e2⟩
def lN (σ : St) (is : List Nat) : St := is.map λ i => (σ[i]?).join
theorem su {σ : St} {is : List Nat} {j : Nat} {v : V} (e : (lN σ is)[j]? = some (some v)) : ∃ i, is[j]? = some i /\ σ[i]? = some (some v) := by
 unfold lN at e;rw [List.getElem?_map] at e;cases q : is[j]? with
 | none => rw [q] at e; cases e
 | some i =>
  rw [q] at e;have e1 : (σ[i]?).join = some v := by simpa using e
  cases q2 : σ[i]? with
  | none => rw [q2] at e1; cases e1
  | some o =>
   rw [q2] at e1;have e2 : o = some v := e1;subst e2;exact ⟨i, rfl, q2⟩
def cA (env : Env) : List (Str × NameKind) -> List (Str × Addr) -> List (Str × Addr)
 | [], acc => acc
 | (n, k) :: r, acc => cA env r (if k == .free then (match env.cells.lookup n with | some c => (n, c) :: acc | none => acc) else acc)
theorem Bg : ∀ (names : List (Str × NameKind)) (acc : List (Str × Addr)), (∀ y ∈ names, y.2 = .free -> ∃ c, env.cells.lookup y.1 = some c) ->
  (forIn names acc λ (p : Str × NameKind) (r : List (Str × Addr)) => if p.2 == .free then (do let c <- cellOf env p.1; pure (ForInStep.yield ((p.1, c) :: r))) else pure (ForInStep.yield r) : Sem (List (Str × Addr))) = pure (cA env names acc)
 | [], acc, _ => rfl
 | (n, k) :: r, acc, h => by
  have hr := Bg (env := env) r;rw [List.forIn_cons];unfold cA;by_cases hk : (k == NameKind.free) = true
  .obtain ⟨c, hc⟩ := h (n, k) List.mem_cons_self (by simpa using hk)
   simp only [hk, if_true];unfold cellOf;simp only at hc;rw [hc];simp only [pure_bind];exact hr _ λ y hy => h y (List.mem_cons_of_mem _ hy)
  .simp only [hk];simp only [pure_bind, Bool.false_eq_true, if_false];exact hr _ λ y hy => h y (List.mem_cons_of_mem _ hy)
theorem jq (h : ∀ y ∈ scope.names, y.2 = .free -> ∃ c, env.cells.lookup y.1 = some c) : closureFor scope env = pure (cA env scope.names []) := by
 have e := Bg (env := env) scope.names [] h;rw [<- e];unfold closureFor;simp only [bind_pure]
theorem lR : ∀ {names : List (Str × NameKind)} {acc : List (Str × Addr)} {p : Str × Addr}, p ∈ cA env names acc -> p ∈ acc ∨ env.cells.lookup p.1 = some p.2
 | [], acc, p, h => .inl h
 | (n, k) :: r, acc, p, h => by
  unfold cA at h
  rcases lR h with h | h
  .split at h
   .split at h
    .rename_i c hc
     rcases Zi.mp h with e | h
     .subst e; exact .inr hc
     .exact .inl h
    .exact .inl h
   .exact .inl h
  .exact .inr h
theorem oH : ∀ {names : List (Str × NameKind)} {acc : List (Str × Addr)}, (∀ k, (x, k) ∈ names -> k ≠ .free) -> (cA env names acc).lookup x = acc.lookup x
 | [], acc, _ => rfl
 | (n, k) :: r, acc, h => by
  unfold cA;rw [oH λ k hk => h k (List.mem_cons_of_mem _ hk)];by_cases hk : (k == NameKind.free) = true
  .rw [if_pos hk];have hne : x ≠ n := by
    rintro rfl;exact h k List.mem_cons_self (by simpa using hk)
   split
   .rw [List.lookup_cons];have : (x == n) = false := by simpa using hne
    rw [this]
   .rfl
  .rw [if_neg hk]
theorem jZ (hc : env.cells.lookup x = some c) : ∀ {names : List (Str × NameKind)} {acc : List (Str × Addr)}, (x, NameKind.free) ∈ names ∨ acc.lookup x = some c -> (cA env names acc).lookup x = some c
 | [], acc, h => by
  rcases h with h | h
  .simp at h
  .exact h
 | (n, k) :: r, acc, h => by
  unfold cA;apply jZ hc;by_cases hr : (x, NameKind.free) ∈ r
  .exact .inl hr
  .right
   by_cases hx : x = n
   .subst hx;by_cases hk : (k == NameKind.free) = true
    .rw [if_pos hk, hc];simp
    .rw [if_neg hk]
     rcases h with h | h
     .rcases Zi.mp h with e | h
      .exfalso; apply hk
       cases e; rfl
      .exact absurd h hr
     .exact h
   .have h' : acc.lookup x = some c := by
     rcases h with h | h
     .rcases Zi.mp h with e | h
      .cases e; exact absurd rfl hx
      .exact absurd h hr
     .exact h
    have hxn : (x == n) = false := by simpa using hx
    split
    .split
     .rw [List.lookup_cons, hxn]; exact h'
     .exact h'
    .exact h'
structure CO (lo : Nat) (h : Heap) (acc : List (Str × Addr)) : Prop where
 lt : ∀ p ∈ acc, p.2 < h.objs.size
 em : ∀ p ∈ acc, lo <= p.2 -> h.IsCell p.2 none
 ap : ∀ p ∈ acc, ∀ q ∈ acc, p.2 = q.2 -> lo <= p.2 -> p.1 = q.1
theorem CO.go {lo : Nat} : ∀ (names : List (Str × NameKind)) (h : Heap) (acc : List (Str × Addr)), CO lo h acc -> lo <= h.objs.size -> CO lo (pushCells h names) (cellsFrom h.objs.size names acc)
 | [], h, acc, x, _ => x
 | (n, k) :: r, h, acc, x, hl => by
  unfold pushCells cellsFrom;by_cases hk : (k == NameKind.cell) = true
  .rw [if_pos hk, if_pos hk];have := CO.go (lo := lo) r (h.push { cls := .type "cell", data := .cell none }) ((n, h.objs.size) :: acc) ⟨λ p hp => ?_, λ p hp hlo => ?_, λ p hp q hq e hlo => ?_⟩ (by rw [Heap.size_push]; omega)
   .rwa [Heap.size_push] at this
   .rw [Heap.size_push]
    rcases Zi.mp hp with e | hp
    .subst e; exact Nat.lt_succ_self _
    .exact Nat.lt_succ_of_lt (x.lt p hp)
   .rcases Zi.mp hp with e | hp
    .subst e; exact ⟨_, Zf _ rfl, rfl⟩
    .exact (x.em p hp hlo).keeps λ b o e => Zb _ e
   .rcases Zi.mp hp with e1 | hp <;> rcases Zi.mp hq with e2 | hq
    .subst e1; subst e2; rfl
    .subst e1;have e' : h.objs.size = q.2 := e;exact absurd (x.lt q hq) (by rw [<- e']; exact Nat.lt_irrefl _)
    .subst e2;have e' : p.2 = h.objs.size := e;exact absurd (x.lt p hp) (by rw [e']; exact Nat.lt_irrefl _)
    .exact x.ap p hp q hq e hlo
  .rw [if_neg hk, if_neg hk];exact CO.go r h acc x hl
theorem yZ : ∀ {names : List (Str × NameKind)} {m : Nat} {acc : List (Str × Addr)} {p : Str × Addr}, p ∈ cellsFrom m names acc -> p ∈ acc ∨ m <= p.2
 | [], m, acc, p, h => .inl h
 | (n, k) :: r, m, acc, p, h => by
  unfold cellsFrom at h;by_cases hk : (k == NameKind.cell) = true
  .rw [if_pos hk] at h
   rcases yZ h with h | h
   .rcases Zi.mp h with e | h
    .subst e; exact .inr (Zg _)
    .exact .inl h
   .exact .inr (by omega)
  .rw [if_neg hk] at h;exact yZ h
theorem Dg : ∀ {names : List (Str × NameKind)} {m : Nat} {acc : List (Str × Addr)}, (∀ k, (x, k) ∈ names -> k ≠ .cell) -> (cellsFrom m names acc).lookup x = acc.lookup x
 | [], m, acc, _ => rfl
 | (n, k) :: r, m, acc, h => by
  unfold cellsFrom;by_cases hk : (k == NameKind.cell) = true
  .rw [if_pos hk, Dg λ k hk => h k (List.mem_cons_of_mem _ hk), List.lookup_cons];have hne : x ≠ n := by
    rintro rfl;exact h k List.mem_cons_self (by simpa using hk)
   have : (x == n) = false := by simpa using hne
   rw [this]
  .rw [if_neg hk];exact Dg λ k hk => h k (List.mem_cons_of_mem _ hk)
section
variable {M : Model} {A : Around} {E : Value -> Shared -> Prop} {s : Shared}
theorem pA {scope : Scope} {globals : Addr} {closure : List (Str × Addr)} {qual : Str} {func : Option Addr} {code : Value} {around : Option Env} {builtins : Addr} {Q : Env -> Shared -> Prop}
  (h : Q (newEnv scope s.heap.objs.size globals (cellsFrom (s.heap.objs.size + 1) scope.names closure) qual func code around builtins)
   { s with heap := pushCells (s.heap.push { cls := .type (if around.isSome then "dict" else "frame"), data := .dict #[] }) scope.names }) :
  wpAny M A (newFunctionEnv scope globals closure [] qual func code around builtins) Q E s := by
 simp only [newFunctionEnv];refine wpAny_bind (wpAny_alloc ?_);refine wpAny_bind (wpAny_layCells _ (λ name kind cells => by cases hkc : kind == NameKind.cell <;> simp [hkc]) _ _ _ _ ?_)
 rw [List.forIn_nil];refine wpAny_bind (wpAny_pure (wpAny_pure ?_));have e : (s.heap.push ({ cls := .type (if around.isSome then "dict" else "frame"), data := .dict #[] } : Obj)).objs.size = s.heap.objs.size + 1 := Heap.size_push ..;rw [<- e] at h;cases around <;> exact h
end
structure eQ (X : Cx) (own cap : List Str) (capI : List Nat) (scope : Scope) : Prop where
 kind : scope.kind = .function
 nd : (scope.names.map (·.1)).Nodup
 caps : Bu X capI cap
 fre : ∀ y ∈ scope.names, y.2 = .free -> y.1 ∈ cap
 cfr : ∀ x ∈ cap, (x, NameKind.free) ∈ scope.names
theorem uH : ∀ {names : List (Str × NameKind)}, (names.map (·.1)).Nodup -> (x, k) ∈ names -> (x, k') ∈ names -> k = k'
 | [], _, h, _ => by simp at h
 | p :: r, nd, h1, h2 => by
  rw [Zj, List.nodup_cons] at nd
  rcases Zi.mp h1 with e1 | h1 <;> rcases Zi.mp h2 with e2 | h2
  .rw [<- e2] at e1; exact (Prod.mk.inj e1).2
  .exact absurd (by rw [<- e1]; exact Zq.mpr ⟨_, h2, rfl⟩) nd.1
  .exact absurd (by rw [<- e2]; exact Zq.mpr ⟨_, h1, rfl⟩) nd.1
  .exact uH nd.2 h1 h2
theorem dB {α : Type} {x : Str} {k : α} : ∀ {names : List (Str × α)}, (names.map (·.1)).Nodup -> (x, k) ∈ names -> names.lookup x = some k
 | [], _, h => by simp at h
 | (n, k') :: r, nd, h => by
  rw [Zj, List.nodup_cons] at nd;rw [List.lookup_cons]
  rcases Zi.mp h with e | hr
  .cases e; simp
  .have hne : x ≠ n := by
    intro e;subst e;exact nd.1 (Zq.mpr ⟨_, hr, rfl⟩)
   have : (x == n) = false := by simpa using hne
   rw [this];exact dB nd.2 hr
theorem tL (h : (x, k) ∈ (relabel scope env).names) : (x, k) ∈ scope.names ∨ (k = .cell /\ (x, NameKind.free) ∈ scope.names) := by
 unfold relabel at h;obtain ⟨⟨n, k'⟩, hm, e⟩ := Zq.mp h;dsimp only at e;split at e
 .rename_i hc;cases e;have hk : k' = NameKind.free := by
   simp only [Zo, beq_iff_eq] at hc;exact hc.1.1
  subst hk;exact .inr ⟨rfl, hm⟩
 .cases e; exact .inl hm
theorem zq : (relabel scope env).names.map (·.1) = scope.names.map (·.1) := by
 unfold relabel;rw [List.map_map];apply List.map_congr_left;rintro ⟨n, k⟩ _;show (if _ then (n, NameKind.cell) else (n, k)).1 = n;split <;> rfl
theorem yN (nd : (scope.names.map (·.1)).Nodup) (h : (x, NameKind.free) ∈ scope.names) : (relabel scope env).names.lookup x = some .cell ∨ (relabel scope env).names.lookup x = some .free := by
 have nd' : ((relabel scope env).names.map (·.1)).Nodup := by rw [zq]; exact nd
 by_cases hc : (NameKind.free == NameKind.free && env.scope.kind == .function && env.kindOf x == some .cell) = true
 .left
  refine dB nd' ?_;unfold relabel;refine Zq.mpr ⟨(x, NameKind.free), h, ?_⟩;dsimp only;rw [if_pos hc]
 .right
  refine dB nd' ?_;unfold relabel;refine Zq.mpr ⟨(x, NameKind.free), h, ?_⟩;dsimp only;rw [if_neg hc]
def dj (X : Cx) (own cap : List Str) (scope : Scope) (cs : List (Str × Addr)) (C : Addr) (fp : List Addr) (s2 : Shared) (H2 : Hp) : Cx where
 prog := X.prog
 w := X.w
 K := X.K
 mg := X.mg
 base := X.base
 A := X.A
 N := own ++ cap
 s₀ := s2
 H₀ := H2
 env := compEnvC scope cs C X.env
 outer := X.stack
 stack := X.stack
 ex := fp
 fn := λ x => own.contains x
 calm := X.calm
 pn := []
 xe := λ _ _ => False
def cX (own : List Str) (σ : St) (capI : List Nat) : St := List.replicate own.length none ++ lN σ capI
section
variable {X : Cx} {pins : List (Addr × Obj)} {σ : St} {H : Hp} {s : Shared} {own cap : List Str} {capI : List Nat} {scope : Scope}
theorem eQ.cells (B : eQ X own cap capI scope) (I : Inv X pins σ H s) : ∀ y ∈ scope.names, y.2 = .free -> ∃ c, X.env.cells.lookup y.1 = some c := λ y hy e => by
 have hm := B.fre y hy e;obtain ⟨j, hj⟩ := List.getElem?_of_mem hm;have hlt : j < capI.length := by rw [B.caps.length]; exact (Zh.mp hj).1
 obtain ⟨x, e1, _, k⟩ := B.caps.get (j := j) (i := capI[j]) (by simp [hlt])
 rw [hj] at e1;cases e1;exact I.ok.has _ k
theorem Inv.comp {fp : List Addr} {h0 h1 : Heap} {C : Addr} {tk : Nat} (I : Inv X pins σ H s) (B : eQ X own cap capI scope) (hown : ∀ x ∈ own, (x, NameKind.free) ∉ scope.names) (hf : ∀ b ∈ fp, mQ X pins H b) (ho : ∀ b ∈ fp, ∃ o, s.heap.get? b = some o)
  (hk0 : ∀ b o, s.heap.get? b = some o -> h0.get? b = some o) (hsz : s.heap.objs.size <= h0.objs.size) (hC : C = h0.objs.size) (h1e : h1 = pushCells (h0.push { cls := .type "dict", data := .dict #[] }) scope.names) :
  Inv (dj X own cap scope (cellsFrom (C + 1) scope.names (cA X.env scope.names [])) C fp s H) [] (cX own σ capI) H { s with heap := h1, toks := tk } := by
 have hCs : s.heap.objs.size <= C := by rw [hC]; exact hsz
 have hpush : (h0.push ({ cls := .type "dict", data := .dict #[] } : Obj)).objs.size = C + 1 := by rw [hC]; exact Heap.size_push ..
 have keep1 : ∀ b o, h0.get? b = some o -> h1.get? b = some o := λ b o e => by rw [h1e]; exact pushCells_keeps _ _ _ _ (Zb _ e)
 have keep : ∀ b o, s.heap.get? b = some o -> h1.get? b = some o := λ b o e => keep1 b o (hk0 b o e);have hCo : h1.get? C = some { cls := .type "dict", data := .dict #[] } := by
  rw [h1e];refine pushCells_keeps _ _ _ _ ?_;rw [hC]; exact Zf _ rfl
 have clo_old : ∀ p ∈ cA X.env scope.names [], X.env.cells.lookup p.1 = some p.2 := λ p hp => (lR hp).elim (λ z => by simp at z) id
 have old_lt : ∀ x c, X.env.cells.lookup x = some c -> c < s.heap.objs.size := λ x c e => let ⟨v, q⟩ := I.cell x c e; q.lt;have co0 : CO (C + 1) (h0.push { cls := .type "dict", data := .dict #[] }) (cA X.env scope.names []) := by
  refine ⟨λ p hp => ?_, λ p hp hlo => ?_, λ p hp q hq e hlo => ?_⟩
  .rw [hpush]; exact Nat.lt_succ_of_lt (Zc (old_lt _ _ (clo_old p hp)) hCs)
  .exact absurd (Zc (old_lt _ _ (clo_old p hp)) (Zl hCs (Zl (Nat.le_succ _) hlo))) (Nat.lt_irrefl _)
  .exact absurd (Zc (old_lt _ _ (clo_old p hp)) (Zl hCs (Zl (Nat.le_succ _) hlo))) (Nat.lt_irrefl _)
 have co := CO.go scope.names _ _ co0 (by rw [hpush]; exact Zg _)
 rw [hpush, <- h1e] at co;have csm : ∀ x c, (cellsFrom (C + 1) scope.names (cA X.env scope.names [])).lookup x = some c -> (X.env.cells.lookup x = some c /\ c < s.heap.objs.size) ∨ (C + 1 <= c /\ h1.IsCell c none) := λ x c e => by
  have hm := Zt e
  rcases yZ hm with z | z
  .have q := clo_old _ z;exact .inl ⟨q, old_lt _ _ q⟩
  .exact .inr ⟨z, co.em _ hm z⟩
 have fresh : ∀ b, s.heap.objs.size <= b -> H b = none := λ b hb => I.hok.fresh hb;have eout : (dj X own cap scope (cellsFrom (C + 1) scope.names (cA X.env scope.names [])) C fp s H).fs = frs X.stack := rfl;refine ⟨⟨I.ok.mod, ?_, I.ok.glob, I.ok.blt, hCs, ?_, ?_, ?_, I.ok.hd, I.ok.frames, .inl rfl, ?_, I.bs, Zl I.ok.bsz I.sz, ?_, ?_, I.stack, I.stkFree⟩, rfl, I.bare.again, Un.kept keep, ?_, ?_, fresh C hCs, ?_, ?_, I.hok.kept keep, ?_⟩
 .exact B.kind
 .
  intro x y c e1 e2;have e1' : (cellsFrom (C + 1) scope.names (cA X.env scope.names [])).lookup x = some c := e1;have e2' : (cellsFrom (C + 1) scope.names (cA X.env scope.names [])).lookup y = some c := e2
  rcases csm x c e1' with ⟨z1, l1⟩ | ⟨z1, _⟩
  .rcases csm y c e2' with ⟨z2, _⟩ | ⟨z2, _⟩
   .exact I.ok.inj x y c z1 z2
   .exact absurd (Zc l1 (Zl hCs (Zl (Nat.le_succ _) z2))) (Nat.lt_irrefl _)
  .exact co.ap _ (Zt e1') _ (Zt e2') rfl z1
 .
  intro x hx;have hx' : (relabel scope X.env).names.lookup x = some .cell ∨ (relabel scope X.env).names.lookup x = some .free := hx;have hm : (x, NameKind.cell) ∈ scope.names ∨ (x, NameKind.free) ∈ scope.names := by
   rcases hx' with e | e
   .rcases tL (Zt e) with q | q
    .exact .inl q
    .exact .inr q.2
   .rcases tL (Zt e) with q | q
    .exact .inr q
    .cases q.1
  rcases hm with q | q
  .exact Option.isSome_iff_exists.mp (PySem.W.cellsFrom_some scope.names (C + 1) _ (.inl (dB B.nd q)))
  .obtain ⟨c, hc⟩ := B.cells I _ q rfl;exact Option.isSome_iff_exists.mp (PySem.W.cellsFrom_some scope.names (C + 1) _ (.inr (by rw [jZ hc (.inl q)]; rfl)))
 .
  intro x c hx e;have e' : (cellsFrom (C + 1) scope.names (cA X.env scope.names [])).lookup x = some c := e;have hxo : x ∈ own := by simpa [dj] using hx
  rcases yZ (Zt e') with z | z
  .exfalso
   have nf := hown x hxo;have : (cA X.env scope.names []).lookup x = none := by
    rw [oH λ k hk => by rintro rfl; exact nf hk]; rfl
   have hl : (cellsFrom (C + 1) scope.names (cA X.env scope.names [])).lookup x = some c := e';have q : ∀ (l : List (Str × Addr)), (x, c) ∈ l -> l.lookup x ≠ none := by
    intro l
    induction l with
    | nil => intro h; simp at h
    | cons p r ih =>
     intro h;obtain ⟨n, d⟩ := p;rw [List.lookup_cons];by_cases hn : (x == n) = true
     .rw [hn]; simp
     .have hn' : (x == n) = false := by simpa using hn
      rw [hn']
      rcases Zi.mp h with e | h
      .cases e; simp at hn'
      .exact ih h
   exact q _ z this
  .exact Zl hCs (Zl (Nat.le_succ _) z)
 .
  intro b hb;obtain ⟨o, hbo⟩ := ho b hb;have hlt := Ze hbo;refine ⟨Zk (Zc hlt hCs), λ x c e => ?_⟩
  rcases csm x c e with ⟨z, _⟩ | ⟨z, _⟩
  .exact (hf b hb).2.2.2.2.1 x c z
  .exact Nat.ne_of_gt (Zc hlt (Zl hCs (Zl (Nat.le_succ _) z)))
 .
  intro b o e hb
  rcases (hf b hb).2.2.2.1 with z | z
  .exact I.ok.noex b o e z
  .exact absurd (Zc (Ze e) (Zl I.ok.bsz z)) (Nat.lt_irrefl _)
 .
  intro b hb hz
  rcases Zi.mp (I.stkSub b hz) with z | z
  .exact (hf b hb).2.1 z
  .exact (hf b hb).2.2.1 z
 .
  obtain ⟨m, hn, hl⟩ := I.loc;refine ⟨λ _ => none, ⟨_, #[], 0, hCo, rfl, by intro e he; simp at he, λ _ => rfl⟩, λ i x v e1 e2 hv => ?_⟩
  have e2' : (cX own σ capI)[i]? = some (some v) := e2;have e1' : (own ++ cap)[i]? = some x := e1;unfold cX at e2';by_cases hi : i < own.length
  .rw [Zs (by simpa using hi), List.getElem?_replicate] at e2'
   split at e2' <;> cases e2'
  .rw [List.getElem?_append_right (by simpa using hi)] at e2'
   rw [List.getElem?_append_right (by simpa using hi)] at e1'
   rw [List.length_replicate] at e2';obtain ⟨i0, q1, q2⟩ := su e2';obtain ⟨y, q3, q4, q5⟩ := B.caps.get q1;rw [e1'] at q3;cases q3;have hxf : (x, NameKind.free) ∈ scope.names := B.cfr x (List.mem_of_getElem? e1');have vis : Vis X.env.scope x := by
    rcases q5 with q5 | q5
    .exact .inr (.inl q5)
    .exact .inr (.inr q5)
   obtain ⟨u, ru, lk⟩ := hl i0 x v q4 q2 vis;refine ⟨u, ru, .inr ⟨yN B.nd hxf, ?_⟩⟩
   rcases lk with ⟨k, _⟩ | ⟨_, c, ec, hc⟩
   .rcases q5 with q5 | q5 <;> rw [k] at q5 <;> cases q5
   .refine ⟨c, ?_, hc.keeps keep⟩;show (cellsFrom (C + 1) scope.names (cA X.env scope.names [])).lookup x = some c;rw [Dg λ k hk => ?_]
    .exact jZ ec (.inl hxf)
    .rintro rfl;cases uH B.nd hk hxf
 .
  intro x c e
  rcases csm x c e with ⟨z, _⟩ | ⟨_, z⟩
  .obtain ⟨v, q⟩ := I.cell x c z;exact ⟨v, q.keeps keep⟩
  .exact ⟨none, z⟩
 .
  intro x c e
  rcases csm x c e with ⟨z, _⟩ | ⟨z, _⟩
  .exact I.freeC x c z
  .exact fresh c (Zl hCs (Zl (Nat.le_succ _) z))
 .intro p hp;exact absurd (show p ∈ ([] : List (Addr × Obj)) from hp) (by simp)
 .show (cX own σ capI).length = (own ++ cap).length;unfold cX lN;rw [List.length_append, List.length_append, List.length_replicate, Zu, B.caps.length]
end
section
variable {prog : Program} {w : World} {A : Around} {R : Result -> Shared -> Prop} {s : Shared}
theorem xf {E' : Value -> Shared -> Prop} (I : Nat -> Shared -> Prop)
  (hE : ∀ e s', E' e s' -> notedBy (model prog w) A env (λ e s' => R (.error e) s') e s')
  (turn : ∀ n s, I n s -> wpAny (model prog w) A (pyNext it) (λ r s₁ => match r with
   | none => R (.ok .next) s₁
   | some v => wpAny (model prog w) A (letOwnedTupleGo target it v) (λ _ s₂ => wpAny (model prog w) A (assign target env v) (λ _ s₃ =>
     wpAny (model prog w) A (forIn ifs true λ c r => if r = true then do let ok <- isTrue c env (eval c env); pure (ForInStep.yield ok) else pure (ForInStep.yield r)) (λ ok s₄ =>
      if ok = true then wpAny (model prog w) A (eval elt env) (λ x s₅ =>
       wpAny (model prog w) A (call (.builtin "list.append") [acc, x]) (λ _ s₆ => ∃ m, m < n /\ I m s₆) E' s₅) E' s₄
      else ∃ m, m < n /\ I m s₄) E' s₃) E' s₂) E' s₁) E' s)
  (n : Nat) (h : I n s) :
  codeAny (model prog w) A (.compLoop (.ListComp elt [⟨target, iter, ifs, 0⟩] scope pos) 0 it acc env) R s := by
 refine codeAny_loop rfl I (λ n s hI => ?_) n h;show wpAny _ A ((compTurn (.ListComp elt [⟨target, iter, ifs, 0⟩] scope pos) 0 it acc env).onRaise (λ x => do noteFrame x env; theTreesLotGoes x)) _ _ s
 refine wpAny_noted ?_;rw [compTurn_list];refine wpAny_bind (wpAny_standAt (wpAny_bind (wpAny_mono (turn n s hI) (λ r s₁ h₁ => ?_) hE)));cases r with
 | none => exact wpAny_pure h₁
 | some v =>
  refine wpAny_bind (wpAny_mono h₁ (λ _ s₂ h₂ => ?_) hE);refine wpAny_bind (wpAny_mono h₂ (λ _ s₂ h₂ => wpAny_bind (wpAny_mono h₂ (λ ok s₃ h₃ => ?_) hE)) hE);cases ok with
  | false => exact wpAny_pure ⟨rfl, h₃⟩
  | true =>
   exact wpAny_bind (wpAny_bind (wpAny_mono h₃ (λ x s₄ h₄ => wpAny_bind (wpAny_mono h₄ (λ _ s₅ h₅ => wpAny_pure (wpAny_pure ⟨rfl, h₅⟩)) hE)) hE))
end
def PIf (X : Cx) (ifs : List Expr) (t : TT) : Prop :=
 ∀ (pins : List (Addr × Obj)) (s : Shared) (σ : St) (H : Hp) (Q : Bool -> Hp -> Prop), Inv X pins σ H s -> t σ H Q ->
  wpAny (model X.prog X.w) X.A (forIn ifs true λ c r => if r = true then do let ok <- isTrue c X.env (eval c X.env); pure (ForInStep.yield ok) else pure (ForInStep.yield r)) (TP X pins σ Q) X.xe s
def tYes : TT := λ _ H Q => Q true H
section
variable {X : Cx} {c : Expr} {t : TT}
theorem Ol : PIf X [] tYes := λ _ _ _ H _ I h => wpAny_tests_nil ⟨H, I, h⟩
end
def Fits (a b : St) : Prop := b.length = a.length /\ ∀ (i : Nat) v, a[i]? = some (some v) -> b[i]? = some (some v)
def tLC (own : List Str) (capI : List Nat) (wi : TI) (g : TG) (tt : TT) (te : TE) : TE := λ σ H Q => wi σ H λ J H1 => ∃ W : Nat -> Nat -> List V -> Hp -> Prop, (∃ m, W 0 m [] H1) /\ ∀ i m ys H, W i m ys H ->
 (J.stop i H /\ ∀ l, H l = none -> Q (.ref l) (upd H l (.lst ys))) ∨
 (J.go i H /\ ys.length < sizeLine /\ ∀ x H', J.yld i H x H' -> g x (cX own σ capI) H' λ σ2 H2 => Fits (cX own σ capI) σ2 /\ tt σ2 H2 λ b H3 =>
  if b = true then te σ2 H3 (λ y H4 => ∃ m', m' < m /\ W (i + 1) m' (ys ++ [y]) H4) else ∃ m', m' < m /\ W (i + 1) m' ys H3)
abbrev bR (us : List Value) (k : Nat) : Obj := { cls := .type "list", data := .seq us.toArray k }
section
variable {X : Cx} {tg iter elt : Expr} {ifs : List Expr} {wi : TI} {g : TG} {tt : TT} {te : TE} {own cap : List Str} {capI : List Nat} {scope : Scope} {pos : Pos}
theorem Inv.compEnd
  (I2 : Inv X pins σ H2 s2) (f2 : ∀ b ∈ fp, mQ X pins H2 b) (hP : X'.prog = X.prog) (hw : X'.w = X.w) (hfs : X'.fs = frs X.stack) (hex : X'.ex = fp) (hs : X'.s₀ = s2) (hH : X'.H₀ = H2) (hC : X'.env.locals = C)
  (I : Inv X' pins' σ' H s1) (hl : s2.heap.objs.size <= l) (hlC : l ≠ C) (hCs : s2.heap.objs.size <= C) (ho : s1.heap.get? l = some (bR us k)) (hn : H l = none) (hv : Vals ys us) (hz : ys.length <= sizeLine)
  (sb : Heap.SameBut C s1.heap h') : Inv X pins σ (upd H l (.lst ys)) { s1 with heap := h' } := by
 subst hs hH hC;have ne2 : ∀ b o, X'.s₀.heap.get? b = some o -> b ≠ X'.env.locals /\ b ≠ l := λ b o e => ⟨Zk (Zc (Ze e) hCs), Zk (Zc (Ze e) hl)⟩;have ub := I.base;rw [hfs, hex] at ub;have nl : ∀ b u, H b = some u -> b ≠ l := λ b u e z => by rw [z, hn] at e; cases e
 have nC : ∀ b u, H b = some u -> b ≠ X'.env.locals := λ b u e z => by rw [z, I.free] at e; cases e
 refine I2.call' (ch := fp) (s' := { s1 with heap := h' }) I.os ⟨λ b o e n hb hx => ?_, λ b o e n hb hx => ?_, λ b o e n hx => ?_, λ b o e hx => ?_, λ b xs e => ?_, λ b o u e => ?_, λ b ps e => ?_⟩ ?_ I.bare λ b hb => ?_
 .exact (sb.2 b (ne2 b o e).1).trans (ub.keep b o e n hb hx)
 .obtain ⟨sl, q⟩ := ub.slot b o e n hb hx;exact ⟨sl, (sb.2 b (ne2 b o e).1).trans q⟩
 .rw [aR (ne2 b o e).2];exact ub.free b o e n hx
 .obtain ⟨o', q⟩ := ub.there b o e hx;exact ⟨o', (sb.2 b (ne2 b o e).1).trans q⟩
 .have q := ub.tups b xs e;rw [aR (nl b _ q)]; exact q
 .have q := ub.frzs b o u e;rw [aR (nl b _ q)]; exact q
 .obtain ⟨more, q⟩ := ub.tbls b ps e;exact ⟨more, by rw [aR (nl b _ q)]; exact q⟩
 .intro a o e;have hok := I.hok;rw [hP, hw] at hok;by_cases ha : a = l
  .subst ha;rw [dG] at e;cases e;exact ⟨hz, us, k, hv, (sb.2 a hlC).trans ho⟩
  .rw [aR ha] at e;refine (hok a o e).stay (λ b u hb q => (sb.2 b ?_).trans q) (λ b q => by rw [aR (nl b _ q)]; exact q) λ b xs q => by rw [aR (nl b _ q)]; exact q
   rcases hb with z | z
   .rw [z]; exact nC a o e
   .exact nC b _ z
 .obtain ⟨q0, q1, q2, q3, q4, q5⟩ := f2 b hb;exact ⟨q3.imp id λ z => z, q1, q4, q5⟩
theorem Vq (hc : X.calm = true) (B : eQ X own cap capI scope) (hown : ∀ x ∈ own, (x, NameKind.free) ∉ scope.names) (hi : PI X tg iter wi)
  (hg : ∀ cs C fp s2 H2, PG (dj X own cap scope cs C fp s2 H2) tg g) (ht : ∀ cs C fp s2 H2, PIf (dj X own cap scope cs C fp s2 H2) ifs tt) (he : ∀ cs C fp s2 H2, PE (dj X own cap scope cs C fp s2 H2) elt te)
  (hs : ∀ x, foldedSetIterable iter X.env x = pure x := by intro _; rfl) : PE X (.ListComp elt [⟨tg, iter, ifs, 0⟩] scope pos) (tLC own capI wi g tt te) := by
 intro pins s σ H Q I h;rw [eval_ListComp];refine wpAny_comprehension_free (use := none) (cl := cA X.env scope.names []) rfl hs (jq (B.cells I)) B.kind (λ y hy e => dB B.nd (by rw [<- e]; exact hy)) ?_
 refine thn (hi pins s σ H _ I h) λ v s1 h1 => thn h1 λ itv s2 h2 => ?_;obtain ⟨it, fp, tn, J, H2, e, I2, T, st2, f2, W, ⟨m0, w0⟩, turn⟩ := h2;subst e;refine wpAny_newObj_type (pA ?_);dsimp only;generalize hl : s2.heap.objs.size = l;generalize hh0 : s2.heap.push { cls := .type "list", dict := none, data := .seq ([] : List Value).toArray } = h0;have hsz0 : h0.objs.size = l + 1 := by rw [<- hh0, Heap.size_push, hl]
 generalize hC : h0.objs.size = C;generalize hh1 : pushCells (h0.push { cls := .type (if (some X.env).isSome = true then "dict" else "frame"), data := .dict #[] }) scope.names = h1;have hl0 : h0.get? l = some (bR [] 0) := by rw [<- hh0, <- hl]; exact Zf _ rfl
 have hk0 : ∀ b o, s2.heap.get? b = some o -> h0.get? b = some o := λ b o e => by rw [<- hh0]; exact Zb _ e
 have hlC : l ≠ C := by rw [<- hC, hsz0]; exact Zk (Nat.lt_succ_self _)
 have hls : s2.heap.objs.size <= l := Nat.le_of_eq hl;have hCs : s2.heap.objs.size <= C := by rw [<- hC, hsz0, hl]; exact Nat.le_succ _
 have ho2 : ∀ b ∈ fp, ∃ o, s2.heap.get? b = some o := λ b hb => let ⟨o, e, _⟩ := T.obj 0 _ st2 b hb; ⟨o, e⟩;have hfl : ∀ b ∈ fp, b ≠ l /\ b ≠ C := λ b hb => let ⟨o, e⟩ := ho2 b hb; ⟨Zk (Zc (Ze e) hls), Zk (Zc (Ze e) hCs)⟩;have hl1 : h1.get? l = some (bR [] 0) := by rw [<- hh1]; exact pushCells_keeps _ _ _ _ (Zb _ hl0)
 have keep1 : ∀ b o, s2.heap.get? b = some o -> h1.get? b = some o := λ b o e => by rw [<- hh1]; exact pushCells_keeps _ _ _ _ (Zb _ (hk0 b o e))
 generalize hcs : cellsFrom (C + 1) scope.names (cA X.env scope.names []) = cs;have I0 : Inv (dj X own cap scope cs C fp s2 H2) [] (cX own σ capI) H2 { s2 with heap := h1 } := by
  have q := I2.comp (tk := s2.toks) B hown f2 ho2 hk0 (by rw [hsz0, hl]; exact Nat.le_succ _) hC.symm hh1.symm
  rw [hcs] at q;exact q
 have henv : (newEnv scope C X.env.globals cs X.env.qual none .none (some X.env) builtinsNs) = { compEnvC scope cs C X.env with scope := scope } := rfl
 have henv2 : ({ newEnv scope C X.env.globals cs X.env.qual none .none (some X.env) builtinsNs with scope := relabel scope X.env } : Env) = (dj X own cap scope cs C fp s2 H2).env := rfl
 generalize hX' : dj X own cap scope cs C fp s2 H2 = X' at I0 henv2;have eP : X'.prog = X.prog := by rw [<- hX']; rfl
 have eW : X'.w = X.w := by rw [<- hX']; rfl
 have eK : X'.K = X.K := by rw [<- hX']; rfl
 have eA : X'.A = X.A := by rw [<- hX']; rfl
 have eFs : X'.fs = frs X.stack := by rw [<- hX']; rfl
 have eEx : X'.ex = fp := by rw [<- hX']; rfl
 have eS : X'.s₀ = s2 := by rw [<- hX']; rfl
 have eH : X'.H₀ = H2 := by rw [<- hX']; rfl
 have eL : X'.env.locals = C := by rw [<- hX']; rfl
 have eC : X'.calm = true := by rw [<- hX']; exact hc
 have eX : X'.xe = λ _ _ => False := by rw [<- hX']; rfl
 have ePn : X'.pn = [] := by rw [<- hX']; rfl
 have hg' : PG X' tg g := by rw [<- hX']; exact hg cs C fp s2 H2
 have ht' : PIf X' ifs tt := by rw [<- hX']; exact ht cs C fp s2 H2
 have he' : PE X' elt te := by rw [<- hX']; exact he cs C fp s2 H2
 have stat : ∀ {H' : Hp} {P : List (Addr × Obj)}, X'.Ok -> (∀ b ∈ fp, H' b = none) -> (∀ p ∈ P, p.1 = l) -> ∀ b ∈ fp, mQ X' P H' b := λ {H' P} ok hn hP b hb => by
  refine ⟨hn b hb, ?_, ?_, .inl (by rw [eEx]; exact hb), ?_, λ p hp => ?_⟩
  .exact (ok.exf b (by rw [eEx]; exact hb)).1
  .exact ok.exfs b (by rw [eEx]; exact hb)
  .exact (ok.exf b (by rw [eEx]; exact hb)).2
  .rw [ePn, List.nil_append] at hp;rw [hP p hp];exact Ne.symm (hfl b hb).1
 have lfs : X'.Ok -> l ∉ X'.fs := λ ok hz => by
  rw [eFs] at hz;exact (Inv.nofs (X := X) I2 hls) ((Zi.mp (I2.stkSub l hz)).elim (λ z => absurd I2.lt (by rw [<- z, hl]; exact Nat.lt_irrefl _)) id)
 have pinL : ∀ {σ' : St} {H' : Hp} {s' : Shared} {us : List Value} {k : Nat}, Inv X' [] σ' H' s' -> s'.heap.get? l = some (bR us k) -> H' l = none -> Inv X' [(l, bR us k)] σ' H' s' := λ {σ' H' s' us k} I' e n =>
  I'.pins_of λ p hp => by
   obtain rfl : p = (l, bR us k) := by simpa using hp
   exact ⟨e, n, by rw [eL]; exact hlC, lfs I'.ok, λ v z => by cases z⟩
 have loop : ∀ s3 : Shared, s3 = { s2 with heap := h1 } -> codeAny (model X.prog X.w) X.A (.compLoop (.ListComp elt [⟨tg, iter, ifs, 0⟩] scope pos) 0 (.ref it) (.ref l) X'.env) (compPost (model X.prog X.w) X.A X.xe none (EP X pins σ Q) (.ref l) C) s3 := by
  rintro s3 rfl;refine xf (E' := λ _ _ => False) (λ n s' => ∃ i ys us k H', Inv X' [] (cX own σ capI) H' s' /\ tn i s'.heap /\ (∀ b ∈ fp, H' b = none) /\ W i n ys H' /\ Vals ys us /\ s'.heap.get? l = some (bR us k) /\ H' l = none /\ ys.length <= sizeLine) (λ _ _ z => z.elim) ?_ m0
   ⟨0, [], [], 0, H2, I0, T.keep _ _ _ st2 λ b _ o e => keep1 b o e, λ b hb => (f2 b hb).1, w0, .nil, hl1, I2.hok.fresh hls, Nat.zero_le _⟩
  rintro n s3 ⟨i, ys, us, k, H3, I3, st3, fr3, w3, v3, o3, n3, z3⟩;have I3p := pinL I3 o3 n3;have P1 : ∀ p ∈ [(l, bR us k)], p.1 = l := λ p hp => by
   obtain rfl : p = (l, bR us k) := by simpa using hp
   rfl
  rcases turn i n ys H3 w3 with ⟨stop, qn⟩ | ⟨go, hlt, step⟩
  .have q := T.done X' eP eW eK eC i _ s3 _ H3 (λ _ _ => False) I3p (stat I3.ok fr3 P1) st3 stop;rw [eA] at q;refine wpAny_mono q (λ r s4 ⟨hr, I4⟩ => ?_) λ _ _ z => z;subst hr;have pl := I4.pin (l, bR us k) (by simp)
   obtain ⟨m4, hn4, _⟩ := I4.loc;rw [eL] at hn4;refine ⟨m4, hn4, λ h' sb => ⟨.ref l, upd H3 l (.lst ys), ?_, rfl, qn l n3⟩⟩;exact I2.compEnd f2 eP eW eFs eEx eS eH eL I4 hls hlC hCs pl.1 n3 v3 z3 sb
  .have q := T.item X' eP eW eK eC i _ s3 _ H3 (λ _ _ => False) I3p (stat I3.ok fr3 P1) st3 go;rw [eA] at q;refine wpAny_mono q (λ r s4 ⟨u, hr, h4⟩ => ?_) λ _ _ z => z;subst hr;refine wpAny_mono h4 (λ _ s5 ⟨x, H5, I5, r5, y5, st5, fr5⟩ => ?_) λ _ _ z => z;have I5' := I5.pinned (stat I5.ok fr5 P1) (T.obj _ _ st5);have a1 := hg' _ s5 _ H5 x u _ I5' r5 (step x H5 y5);rw [eP, eW, eA, eX] at a1;refine wpAny_mono a1 (λ _ s6 ⟨σ6, H6, I6, ft6, q6⟩ => ?_) λ _ _ z => z;have a2 := ht' _ s6 σ6 H6 _ I6 q6;rw [eP, eW, eA, eX] at a2;refine wpAny_mono a2 (λ ok s7 ⟨H7, I7, q7⟩ => ?_) λ _ _ z => z;have back : ∀ {H8 : Hp} {s8 : Shared}, Inv X' ([(l, bR us k)] ++ rM fp s5.heap) σ6 H8 s8 -> Inv X' [] (cX own σ capI) H8 s8 /\ tn (i + 1) s8.heap /\ (∀ b ∈ fp, H8 b = none) /\ s8.heap.get? l = some (bR us k) /\ H8 l = none := λ {H8 s8} I8 => by
    have pl := I8.pin (l, bR us k) (by simp)
    refine ⟨(I8.weak ft6.1.symm ft6.2).pins_of λ p hp => absurd hp (by simp), T.keep _ _ _ st5 λ b hb o e => ?_, λ b hb => ?_, pl.1, pl.2.1⟩
    .exact (I8.pin (b, o) (Zn _ (Zn _ (fY hb e)))).1
    .obtain ⟨o, e, d⟩ := T.obj _ _ st5 b hb;exact (I8.pin (b, o) (Zn _ (Zn _ (fY hb e)))).2.1
   cases ok with
   | false =>
    rw [if_neg Zr];rw [if_neg Zr] at q7;obtain ⟨m', hm, w7⟩ := q7;obtain ⟨I8, st8, fr8, o8, n8⟩ := back I7;exact ⟨m', hm, i + 1, ys, us, k, H7, I8, st8, fr8, w7, v3, o8, n8, z3⟩
   | true =>
    rw [if_pos rfl];rw [if_pos rfl] at q7;have a3 := he' _ s7 σ6 H7 _ I7 q7;rw [eP, eW, eA, eX] at a3;refine wpAny_mono a3 (λ yv s8 ⟨y, H8, I8', r8, m', hm, w8⟩ => ?_) λ _ _ z => z;obtain ⟨I8, st8, fr8, o8, n8⟩ := back I8';refine append_at (hsz := by show us.toArray.size <= sizeLine; rw [Zd, <- v3.length]; exact z3) o8 λ h9 sb9 o9 => ?_
    have I9 : Inv X' [] (cX own σ capI) H8 { s8 with heap := h9 } := I8.turned (t' := s8.toks) (λ b o hb e => (sb9.2 b hb).trans e) n8 (by rw [eL]; exact hlC) (.inr (by rw [eS]; exact hls)) (λ x c e => by
     rintro rfl;obtain ⟨v', ho', hd', hd''⟩ := I8.cell x c e;rw [o8] at hd';cases hd';cases hd'') (λ p hp => by rw [ePn] at hp; exact absurd hp (by simp))
    refine ⟨m', hm, i + 1, ys ++ [y], us ++ [yv], k + 1, H8, I9, T.keep _ _ _ st8 λ b hb o e => (sb9.2 b (hfl b hb).1).trans e, fr8, w8, v3.append (.cons r8 .nil), ?_, n8, ?_⟩
    .rw [o9];simp [bR]
    .rw [List.length_append];exact hlt
 have T0 := T.keep 0 s2.heap h1 st2 λ b _ o e => keep1 b o e;rw [henv2];exact codeAny_compStart_list (loop _ rfl) (T.self X.A 0 _ _ _ T0 (loop _ rfl))
end
def cF (M : Model) (A : Around) (c : Code) (t : Sem Fin) (fs : List Frame) (s : Shared) (Φ : End -> Shared -> Prop) : Prop :=
 ∀ Γ p, Γ.code = c -> Γ.Woken A -> ∃ e s', Runs M Γ p t fs s e s' /\ Φ e s'
section
variable {M : Model} {A : Around} {c : Code} {fs : List Frame} {s : Shared} {Φ : End -> Shared -> Prop}
theorem cF.wrap {α : Type} {m : Sem α} {K : α -> Sem Fin} {H : Value -> Sem Fin} {gd : Bool -> Bool} {lv : List Value -> List Value}
  (h : wpAny M (A.over c fs) m (λ a s' => cF M A c (K a) fs s' Φ) (λ x s' => cF M A c (H x) fs s' Φ) s) : cF M A c (m.wrap K H gd lv) fs s Φ := by
 rintro Γ p rfl hΓ;exact runs_wrap_of_wp K H gd lv m (h (Γ.over fs) p (hΓ.over fs)) (λ a p' s' h' => h' Γ p' rfl hΓ) (λ x p' s' h' => h' Γ p' rfl hΓ)
theorem cF.bindWrap {α β : Type} {m : Sem α} {K : α -> Sem β} {K' : β -> Sem Fin} {H' : Value -> Sem Fin} {gd : Bool -> Bool} {lv : List Value -> List Value}
  (h : wpAny M (A.over c fs) m (λ a s' => cF M A c ((K a).wrap K' H' gd lv) fs s' Φ) (λ x s' => cF M A c (H' x) fs s' Φ) s) : cF M A c ((m >>= K).wrap K' H' gd lv) fs s Φ := by
 rw [Sem.bind_eq_wrap', Sem.wrap_wrap]; exact cF.wrap h
theorem cF.at {p' : Pos} {k : Unit -> Sem Fin} (h : cF M A c (k ()) fs s Φ) : cF M A c (.at p' k) fs s Φ :=
 cF.wrap (m := standAt p') (K := k) (H := .raise) (gd := id) (lv := id) (wpAny_standAt h)
theorem cF.again (hq : c'.quiet = true) (hc : cF M A c' (M.den c') fs s Φ) : cF M A c (.pure (.again c')) fs s Φ := by
 rintro Γ p rfl hΓ;obtain ⟨e, s', hr, he⟩ := hc (Γ.goto c') p rfl (hΓ.goto c');exact ⟨e, s', Runs.head (c₁ := c') (λ _ _ x => .again hq x) hr, he⟩
theorem cF.end (r : Result) (h : Φ (.ret r) s) : cF M A c (leafOf r) [] s Φ := by
 rintro Γ p rfl _;exact ⟨.ret r, s, Runs.leaf r, h⟩
theorem cF.yield (hfs : splitAtGen fs = none) (h : ∀ p, Φ (.susp v g l k c p fs) s) : cF M A c (.yield v g l k) fs s Φ := by
 rintro Γ p rfl _;exact ⟨_, s, Runs.yield' fs hfs, h p⟩
def Ql (M : Model) (A : Around) (gs : GenState) (s : Shared) (Φ : End -> Shared -> Prop) : Prop :=
 match gs with
 | .fresh c => cF M A c (M.den c) [] s Φ
 | .suspended k _ c _ fs _ => cF M A c (k (.send .none)) fs s Φ
 | _ => False
theorem Ou {E : Value -> Shared -> Prop} {g : Nat} {gs : GenState} {l : List Value} {α : Type} {k : GenResult -> Sem α} {Q : α -> Shared -> Prop} (hg : s.gens[g]? = some gs)
  (hgo : Ql M A gs (s.setGen g .running) Φ) (hq : ∀ e s₁, Φ e s₁ -> e.quiet = true) (hΦ : ∀ e s₁, Φ e s₁ -> wpAny M A (k e.result) Q E (s₁.setGen g e.genState)) :
  wpAny M A (.resume g (.send .none) l k) Q E s := by
 intro Γ p hΓ;rw [Sem.wp_resume];have hB : ∀ c, (Γ.wake c p).Woken A := λ c => hΓ.wake c p;cases gs with
 | fresh c =>
  obtain ⟨e₁, s₁, hr, he⟩ := hgo (Γ.wake c p) p rfl (hB c);exact ⟨_, _, by unfold Wakes; rw [hg]; exact ⟨e₁, s₁, hr, hq e₁ s₁ he, rfl, rfl⟩, hΦ e₁ s₁ he Γ p hΓ⟩
 | suspended k₀ l₀ c₀ p₀ fs₀ cl =>
  obtain ⟨e₁, s₁, hr, he⟩ := hgo (Γ.wake c₀ p) p₀ rfl (hB c₀);exact ⟨_, _, by unfold Wakes; rw [hg]; exact ⟨e₁, s₁, hr, hq e₁ s₁ he, rfl, rfl⟩, hΦ e₁ s₁ he Γ p hΓ⟩
 | running => exact hgo.elim
 | finished => exact hgo.elim
end
section
variable {prog : Program} {w : World} {A : Around} {E : Value -> Shared -> Prop} {s : Shared} {Φ : End -> Shared -> Prop}
theorem tK {a : Addr} {g : Nat} {gs : GenState} {Q : Option Value -> Shared -> Prop} (hh : A.handled = none) (hl : s.heap.NoLimit) (hroom : A.depth < recursionLimit)
  (hg : s.heap.IsGen a g) (hgs : s.gens[g]? = some gs) (hgo : Ql (model prog w) A.in1 gs (s.setGen g .running) Φ) (hq : ∀ e s₁, Φ e s₁ -> e.quiet = true)
  (hΦ : ∀ e s₁, Φ e s₁ -> (∃ v gd l k c p fs, e = .susp v gd l k c p fs /\ Q (some v) (s₁.setGen g e.genState)) ∨
   (e = .ret (.ok .next) /\ ∀ h', (∀ b o, s₁.heap.get? b = some o -> h'.get? b = some o) -> Q none { s₁.setGen g .finished with heap := h' })) :
  wpAny (model prog w) A (pyNext (.ref a)) Q E s := by
 unfold pyNext;refine wpAny_bind (wpAny_attempt (wpAny_callSpecial?_slot (name := Str.ofString "__next__") hg.typeIs slot_gen_next
  (wpAny_call_entry slot_gen_next hg.typeIs entry_gen_next ?_ (args_gen_next _))))
 show wpAny _ A.in1 (Builtin.Generator.genWake (.ref a) (.send .none)) _ _ s;unfold Builtin.Generator.genWake;refine wpAny_bind (wpAny_holding (wpAny_genNumber hg (wpAny_bind (wpAny_genState hgs ?_))));cases gs with
 | running => exact hgo.elim
 | finished => exact hgo.elim
 | _ =>
  refine wpAny_bind (wpAny_roomToWake hl hroom ?_);show wpAny _ A.in1 (.resume g (.send .none) [] _) _ _ s;refine Ou hgs hgo hq λ e s₁ he => ?_
  rcases hΦ e s₁ he with ⟨v, gd, l, k, c, p, fs, rfl, hQ⟩ | ⟨rfl, hP⟩
  .exact wpAny_pure ⟨v, rfl, wpAny_pure hQ⟩
  .show wpAny _ A.in1 (newExc (.type "StopIteration") [] >>= _) _ _ _;refine wpAny_bind ?_;simp only [newExc, newTuple];refine wpAny_bind (wpAny_newObj_type ?_ (by size_fits))
   refine wpAny_bind (m := firstArgMember _ _) (wpAny_of_eq (a := Value.none) (by first | rfl | (simp only [firstArgMember]; rfl)) ?_)
   refine wpAny_newObj_type ?_ (by size_fits)
   simp only [raiseNew];refine wpAny_bind (wpAny_bind (wpAny_handled ?_))
   first | rw [show A.in1.handled = none from hh] | rw [hh]
   refine wpAny_throw ?_;refine wpAny_bind (wpAny_isInstance (T := "StopIteration") (b := true) ⟨_, Zf _ rfl, rfl⟩ isSubtype_stop ?_);exact wpAny_pure (hP _ λ b o hb => Zb _ (Zb _ hb))
end
def uG (X : Cx) (AG : Around) (own cap : List Str) (scope : Scope) (cs : List (Str × Addr)) (C : Addr) (code : Value) (fp : List Addr) (s2 : Shared) (H2 : Hp) : Cx where
 prog := X.prog
 w := X.w
 K := X.K
 mg := X.mg
 base := X.base
 A := AG
 N := own ++ cap
 s₀ := { s2 with gens := s2.gens.push .running }
 H₀ := H2
 env := genEnv scope cs C code builtinsNs X.env
 outer := X.stack
 stack := genEnv scope cs C code builtinsNs X.env :: X.stack
 ex := fp
 fn := λ x => own.contains x
 calm := true
 pn := []
 xe := λ _ _ => False
section
variable {X : Cx} {pins : List (Addr × Obj)} {σ : St} {H : Hp} {s : Shared} {own cap : List Str} {capI : List Nat} {scope : Scope}
theorem Inv.gen {AG : Around} {fp : List Addr} {h1 : Heap} {C : Addr} {tk : Nat} {code : Value} {m : Str -> Option Value} (I : Inv X pins σ H s) (B : eQ X own cap capI scope) (hown : ∀ x ∈ own, (x, NameKind.free) ∉ scope.names) (hnc : ∀ y ∈ scope.names, y.2 ≠ .cell)
  (hf : ∀ b ∈ fp, mQ X pins H b) (ho : ∀ b ∈ fp, ∃ o, s.heap.get? b = some o)
  (keep : ∀ b o, s.heap.get? b = some o -> h1.get? b = some o) (hCs : s.heap.objs.size <= C) (hm : h1.Ns C m) (hAf : AG.frames = some (genEnv scope (cA X.env scope.names []) C code builtinsNs X.env :: X.stack)) (hAh : AG.handled = none) :
  Inv (uG X AG own cap scope (cA X.env scope.names []) C code fp s H) [] (cX own σ capI) H { s with heap := h1, toks := tk, gens := s.gens.push .running } := by
 have clo_old : ∀ p ∈ cA X.env scope.names [], X.env.cells.lookup p.1 = some p.2 := λ p hp => (lR hp).elim (λ z => by simp at z) id
 have old_lt : ∀ x c, X.env.cells.lookup x = some c -> c < s.heap.objs.size := λ x c e => let ⟨v, q⟩ := I.cell x c e; q.lt;have csm : ∀ x c, (cA X.env scope.names []).lookup x = some c -> X.env.cells.lookup x = some c /\ c < s.heap.objs.size := λ x c e => by
  have q := clo_old _ (Zt e);exact ⟨q, old_lt _ _ q⟩
 have fresh : ∀ b, s.heap.objs.size <= b -> H b = none := λ b hb => I.hok.fresh hb;have brun : AllBare (s.gens.push .running) := AllBare.push I.bare.bare rfl;refine ⟨⟨I.ok.mod, ?_, I.ok.glob, rfl, hCs, ?_, ?_, ?_, λ _ => hAh, hAf, .inr ⟨rfl, rfl⟩, ?_, I.bs, Zl I.ok.bsz I.sz, ?_, ?_, I.stack, I.stkFree⟩, rfl, GK.refl brun, Un.kept keep, ?_, ?_, fresh C hCs, ?_, ?_, I.hok.kept keep, ?_⟩
 .exact B.kind
 .intro x y c e1 e2;exact I.ok.inj x y c (csm x c e1).1 (csm y c e2).1
 .intro x hx;have hx' : scope.names.lookup x = some .cell ∨ scope.names.lookup x = some .free := hx
  rcases hx' with e | e
  .exact absurd rfl (hnc _ (Zt e))
  .have q := Zt e;obtain ⟨c, hc⟩ := B.cells I _ q rfl;exact ⟨c, jZ hc (.inl q)⟩
 .intro x c hx e
  exfalso
  have hxo : x ∈ own := by simpa [uG] using hx
  have nf := hown x hxo;have q : (cA X.env scope.names []).lookup x = none := by
   rw [oH λ k hk => by rintro rfl; exact nf hk]; rfl
  have e' : (cA X.env scope.names []).lookup x = some c := e;rw [q] at e'; cases e'
 .intro b hb;obtain ⟨o, hbo⟩ := ho b hb;have hlt := Ze hbo;exact ⟨Zk (Zc hlt hCs), λ x c e => (hf b hb).2.2.2.2.1 x c (csm x c e).1⟩
 .intro b o e hb
  rcases (hf b hb).2.2.2.1 with z | z
  .exact I.ok.noex b o e z
  .exact absurd (Zc (Ze e) (Zl I.ok.bsz z)) (Nat.lt_irrefl _)
 .intro b hb hz
  rcases Zi.mp (I.stkSub b hz) with z | z
  .exact (hf b hb).2.1 z
  .exact (hf b hb).2.2.1 z
 .obtain ⟨m', hn, hl⟩ := I.loc;refine ⟨m, hm, λ i x v e1 e2 hv => ?_⟩;have e2' : (cX own σ capI)[i]? = some (some v) := e2;have e1' : (own ++ cap)[i]? = some x := e1;unfold cX at e2';by_cases hi : i < own.length
  .rw [Zs (by simpa using hi), List.getElem?_replicate] at e2'
   split at e2' <;> cases e2'
  .rw [List.getElem?_append_right (by simpa using hi)] at e2'
   rw [List.getElem?_append_right (by simpa using hi)] at e1'
   rw [List.length_replicate] at e2';obtain ⟨i0, q1, q2⟩ := su e2';obtain ⟨y, q3, q4, q5⟩ := B.caps.get q1;rw [e1'] at q3;cases q3;have hxf : (x, NameKind.free) ∈ scope.names := B.cfr x (List.mem_of_getElem? e1');have vis : Vis X.env.scope x := by
    rcases q5 with q5 | q5
    .exact .inr (.inl q5)
    .exact .inr (.inr q5)
   obtain ⟨u, ru, lk⟩ := hl i0 x v q4 q2 vis;refine ⟨u, ru, .inr ⟨.inr (dB B.nd hxf), ?_⟩⟩
   rcases lk with ⟨k, _⟩ | ⟨_, c, ec, hc⟩
   .rcases q5 with q5 | q5 <;> rw [k] at q5 <;> cases q5
   .exact ⟨c, jZ ec (.inl hxf), hc.keeps keep⟩
 .intro x c e;obtain ⟨v, q⟩ := I.cell x c (csm x c e).1;exact ⟨v, q.keeps keep⟩
 .intro x c e;exact I.freeC x c (csm x c e).1
 .intro p hp;exact absurd (show p ∈ ([] : List (Addr × Obj)) from hp) (by simp)
 .show (cX own σ capI).length = (own ++ cap).length;unfold cX lN;rw [List.length_append, List.length_append, List.length_replicate, Zu, B.caps.length]
end
abbrev GD (elt tg iter : Expr) (scope : Scope) (pos : Pos) : Expr := .GeneratorExp elt [⟨tg, iter, [], 0⟩] scope pos
abbrev jX (elt tg iter : Expr) (scope : Scope) (pos : Pos) (it : Addr) (cenv : Env) : Code := .compLoop (GD elt tg iter scope pos) 0 (.ref it) .none cenv
abbrev genS (elt tg iter : Expr) (scope : Scope) (pos : Pos) (it : Addr) (cenv : Env) : Code := .compStart (GD elt tg iter scope pos) 0 (.ref it) .none cenv
section
variable {X' : Cx} {A1 : Around} {elt tg iter : Expr} {scope : Scope} {pos : Pos} {it : Addr} {fp : List Addr} {tn : Nat -> Heap -> Prop} {J : It} {σb : St} {g : TG} {te : TE}
theorem Jx (T : Turn X'.prog X'.w X'.K tg J fp it tn) (hA : X'.A = A1.over (jX elt tg iter scope pos it X'.env) []) (hc : X'.calm = true) (hex : X'.ex = fp) (hpn : X'.pn = []) (hco : X'.env.scope.isCoroutine = false)
  (hxe : X'.xe = λ _ _ => False) (hg : PG X' tg g) (he : PE X' elt te) (hP : ∀ p ∈ P, p.1 ∉ fp) (I : Inv X' P σb H s) (st : tn i s.heap) (fr : ∀ b ∈ fp, H b = none)
  (go : J.go i H) (step : ∀ x H', J.yld i H x H' -> g x σb H' λ σ2 H2 => Fits σb σ2 /\ te σ2 H2 Q) :
  cF (model X'.prog X'.w) A1 (jX elt tg iter scope pos it X'.env) ((model X'.prog X'.w).den (jX elt tg iter scope pos it X'.env)) [] s λ e s' =>
   ∃ v k p y H', e = .susp v false [] k (jX elt tg iter scope pos it X'.env) p [] /\ k (.send .none) = .pure (.again (jX elt tg iter scope pos it X'.env)) /\ RelV y v /\ Q y H' /\ Inv X' P σb H' s' /\ tn (i + 1) s'.heap /\ ∀ b ∈ fp, H' b = none := by
 have stat : ∀ {H' : Hp}, X'.Ok -> (∀ b ∈ fp, H' b = none) -> ∀ b ∈ fp, mQ X' P H' b := λ {H'} ok hn b hb =>
  ⟨hn b hb, (ok.exf b (by rw [hex]; exact hb)).1, ok.exfs b (by rw [hex]; exact hb), .inl (by rw [hex]; exact hb), (ok.exf b (by rw [hex]; exact hb)).2, λ p hp e => by rw [hpn] at hp; exact hP p hp (e ▸ hb)⟩
 show cF _ A1 _ ((compTurn (GD elt tg iter scope pos) 0 (.ref it) .none X'.env).onRaise (leaving X'.env)) [] s _;rw [compTurn_gen, Sem.onRaise_eq_wrap];refine cF.bindWrap (wpAny_standAt ?_);have q := T.item X' rfl rfl rfl hc i P s σb H (λ _ _ => False) I (stat I.ok fr) st go;rw [hA] at q;refine cF.bindWrap (wpAny_mono q (λ r s1 ⟨u, hr, h1⟩ => ?_) λ _ _ z => z.elim);subst hr;refine cF.bindWrap (wpAny_mono h1 (λ _ s2 ⟨x, H2, I2, r2, y2, st2, fr2⟩ => ?_) λ _ _ z => z.elim);have I2' := I2.pinned (stat I2.ok fr2) (T.obj _ _ st2);have a1 := hg _ s2 σb H2 x u _ I2' r2 (step x H2 y2);rw [hA, hxe] at a1;refine cF.bindWrap (wpAny_mono a1 (λ _ s3 ⟨σ3, H3, I3, ft3, q3⟩ => ?_) λ _ _ z => z.elim);refine cF.bindWrap (wpAny_tests_nil ?_);simp only [if_true];have hy : ∀ v, yieldOut X'.env v = yieldValue v := λ v => by simp only [yieldOut, hco, Bool.false_eq_true, if_false]
 simp only [hy];rw [Sem.bind_eq_wrap', Sem.bind_eq_wrap', Sem.wrap_wrap, Sem.wrap_wrap];have a2 := he _ s3 σ3 H3 _ I3 q3;rw [hA, hxe] at a2;refine cF.wrap (wpAny_mono a2 (λ v s4 ⟨y, H4, I4, r4, q4⟩ => ?_) λ _ _ z => z.elim);refine cF.at (cF.yield rfl λ p => ⟨v, _, p, y, H4, rfl, rfl, r4, q4, (I4.weak ft3.1.symm ft3.2).unpinned, T.keep _ _ _ st2 λ b hb o e => ?_, λ b hb => ?_⟩)
 .exact (I4.pin (b, o) (Zn _ (Zn _ (fY hb e)))).1
 .obtain ⟨o, e, d⟩ := T.obj _ _ st2 b hb;exact (I4.pin (b, o) (Zn _ (Zn _ (fY hb e)))).2.1
theorem Je (T : Turn X'.prog X'.w X'.K tg J fp it tn) (hA : X'.A = A1.over (jX elt tg iter scope pos it X'.env) []) (hc : X'.calm = true) (hex : X'.ex = fp) (hpn : X'.pn = []) (hP : ∀ p ∈ P, p.1 ∉ fp) (I : Inv X' P σb H s) (st : tn i s.heap) (fr : ∀ b ∈ fp, H b = none) (stop : J.stop i H) :
  cF (model X'.prog X'.w) A1 (jX elt tg iter scope pos it X'.env) ((model X'.prog X'.w).den (jX elt tg iter scope pos it X'.env)) [] s λ e s' => e = .ret (.ok .next) /\ Inv X' P σb H s' := by
 have stat : ∀ b ∈ fp, mQ X' P H b := λ b hb =>
  ⟨fr b hb, (I.ok.exf b (by rw [hex]; exact hb)).1, I.ok.exfs b (by rw [hex]; exact hb), .inl (by rw [hex]; exact hb), (I.ok.exf b (by rw [hex]; exact hb)).2, λ p hp e => by rw [hpn] at hp; exact hP p hp (e ▸ hb)⟩
 show cF _ A1 _ ((compTurn (GD elt tg iter scope pos) 0 (.ref it) .none X'.env).onRaise (leaving X'.env)) [] s _;rw [compTurn_gen, Sem.onRaise_eq_wrap];refine cF.bindWrap (wpAny_standAt ?_);have q := T.done X' rfl rfl rfl hc i P s σb H (λ _ _ => False) I stat st stop;rw [hA] at q;refine cF.bindWrap (wpAny_mono q (λ r s1 ⟨hr, I1⟩ => ?_) λ _ _ z => z.elim);subst hr;exact cF.end (.ok .next) ⟨rfl, I1⟩
theorem xM {A0 : Around} {P : Program} {w : World} {K : PySem.W.Frag} {cenv : Env} {Φ : End -> Shared -> Prop} {s : Shared} {i : Nat} (T : Turn P w K tg J fp it tn) (st : tn i s.heap)
  (h : cF (model P w) A0 (jX elt tg iter scope pos it cenv) ((model P w).den (jX elt tg iter scope pos it cenv)) [] s Φ) :
  cF (model P w) A0 (genS elt tg iter scope pos it cenv) ((model P w).den (genS elt tg iter scope pos it cenv)) [] s Φ := by
 show cF _ A0 _ ((compStart (GD elt tg iter scope pos) 0 (.ref it) .none cenv).onRaise (leaving cenv)) [] s _;unfold compStart;rw [Sem.onRaise_eq_wrap];show cF _ A0 _ ((ask >>= _).wrap _ _ _ _) [] s _;refine cF.bindWrap (wpAny_askSetting ?_);split
 .exact cF.again rfl h
 .first
   | exact cF.bindWrap (wpAny_rule (cF.bindWrap (wpAny_standAt (cF.bindWrap (T.self _ i s _ _ st (cF.again rfl h))))))
   | (refine cF.bindWrap (wpAny_rule ?_); show cF _ A0 _ ((standAt iter.pos >>= _).wrap _ _ _ _) [] s _; exact cF.bindWrap (wpAny_standAt (cF.bindWrap (T.self _ i s _ _ st (cF.again rfl h)))))
end
structure pg where
 nxt : Nat -> Hp -> (V -> Hp -> Prop) -> Prop
 fin : Nat -> Hp -> Prop
structure zm (X : Cx) (pins : List (Addr × Obj)) (σ : St) (A' : Around) (it : Addr) (lo : Nat) (S : pg) (SS : List (Addr × Obj) -> Nat -> Hp -> Shared -> Prop) : Prop where
 inv : ∀ {P i H s}, SS P i H s -> Inv X (pins ++ P) σ H s
 next : ∀ {P i H s Q} (E : Value -> Shared -> Prop), SS P i H s -> S.nxt i H Q -> wpAny (model X.prog X.w) A' (pyNext (.ref it)) (λ r s1 => ∃ u y H', r = some u /\ RelV y u /\ Q y H' /\ SS P (i + 1) H' s1) E s
 stop : ∀ {P i H s} (E : Value -> Shared -> Prop), SS P i H s -> S.fin i H -> wpAny (model X.prog X.w) A' (pyNext (.ref it)) (λ r s1 => r = none /\ Inv X (pins ++ P) σ H s1) E s
 keep : ∀ {P i H s h' tk}, SS P i H s -> (∀ b o, s.heap.get? b = some o -> h'.get? b = some o) -> SS P i H { s with heap := h', toks := tk }
 pin : ∀ {P i H s D o}, SS P i H s -> lo <= D -> s.heap.get? D = some o -> H D = none -> (∀ v, o.data ≠ .cell v) -> SS ((D, o) :: P) i H s
 unpin : ∀ {p P i H s}, SS (p :: P) i H s -> SS P i H s
 acc : ∀ {P i H s h' tk D}, SS P i H s -> lo <= D -> H D = none -> (∀ p ∈ P, p.1 ≠ D) -> (∀ b o, b ≠ D -> s.heap.get? b = some o -> h'.get? b = some o) -> SS P i H { s with heap := h', toks := tk }
def Ready (X : Cx) (pins : List (Addr × Obj)) (σ : St) (S : pg) (v : Value) (H : Hp) (s : Shared) : Prop :=
 ∀ (A' : Around) (E : Value -> Shared -> Prop), A'.handled = none -> A'.frames = some X.stack -> A'.depth <= X.A.depth + 1 -> A'.units <= X.A.units + 8 ->
  wpAny (model X.prog X.w) A' (pyIter v) (λ itv s2 => ∃ it lo SS, itv = .ref it /\ zm X pins σ A' it lo S SS /\ SS [] 0 H s2 /\ lo <= s2.heap.objs.size) E s
abbrev vG := St -> Hp -> (pg -> Hp -> Prop) -> Prop
def Ah (X : Cx) (e : Expr) (ts : vG) : Prop :=
 ∀ (pins : List (Addr × Obj)) (s : Shared) (σ : St) (H : Hp) (R : pg -> Hp -> Prop), Inv X pins σ H s -> ts σ H R ->
  wpAny (model X.prog X.w) X.A (eval e X.env) (λ v s1 => ∃ S H1, Inv X pins σ H1 s1 /\ Ready X pins σ S v H1 s1 /\ R S H1) X.xe s
def RP (X : Cx) (pins : List (Addr × Obj)) (σ : St) (S : pg) (a : Addr) (H : Hp) (s : Shared) : Prop :=
 ∀ (A' : Around), A'.handled = none -> A'.frames = some X.stack -> A'.depth <= X.A.depth + 1 -> A'.units <= X.A.units + 8 ->
  ∃ lo SS, zm X pins σ A' a lo S SS /\ SS [] 0 H s /\ a < lo /\ lo <= s.heap.objs.size /\ ∀ P i H s, SS P i H s -> ∃ g, s.heap.IsGen a g
def xr (X : Cx) (e : Expr) (ts : vG) : Prop :=
 ∀ (pins : List (Addr × Obj)) (s : Shared) (σ : St) (H : Hp) (R : pg -> Hp -> Prop), Inv X pins σ H s -> ts σ H R ->
  wpAny (model X.prog X.w) X.A (eval e X.env) (λ v s1 => ∃ a S H1, v = .ref a /\ Inv X pins σ H1 s1 /\ RP X pins σ S a H1 s1 /\ R S H1) X.xe s
theorem Bt (h : xr X e ts) : Ah X e ts := by
 intro pins s σ H R I hq;refine thn (h pins s σ H R I hq) λ v s1 ⟨a, S, H1, e, I1, rdy, r⟩ => ⟨S, H1, I1, ?_, r⟩;subst e;intro A' E h1 h2 h3 h4;obtain ⟨lo, SS, sm, s0, _, hl, hg⟩ := rdy A' h1 h2 h3 h4;obtain ⟨g, ig⟩ := hg _ _ _ _ s0;exact wpAny_pyIter_gen ig ⟨a, lo, SS, rfl, sm, s0, hl⟩
section
variable {X : Cx} {pins : List (Addr × Obj)} {σ : St} {H : Hp} {s : Shared}
theorem Inv.grown (I : Inv X pins σ H s) (k : ∀ b o, s.heap.get? b = some o -> h'.get? b = some o) (hg : GK s.gens g') : Inv X pins σ H { s with heap := h', gens := g', toks := tk } :=
 I.call (ch := []) (g' := g') (t' := tk) (d' := s.drawn) (Un.kept k) (I.hok.kept k) hg λ b hb => absurd hb (by simp)
theorem Inv.more (I : Inv X pins σ H s) (h : ∀ p ∈ Q, s.heap.get? p.1 = some p.2 /\ H p.1 = none /\ p.1 ≠ X.env.locals /\ p.1 ∉ X.fs /\ ∀ v, p.2.data ≠ .cell v) : Inv X (pins ++ Q) σ H s :=
 I.pins_of λ p hp => (Zm.mp hp).elim (λ z => I.pin p (Zn _ z)) (h p)
theorem Inv.tbl (I : Inv X pins σ H s) (hP : H P = some (.tbl ps)) (hm : ∃ more, ps' = ps ++ more) (k : ∀ b o, b ≠ P -> s.heap.get? b = some o -> h'.get? b = some o)
  (ho : h'.get? P = some { cls := .none, data := .fields ps' }) : Inv X pins σ (upd H P (.tbl ps')) { s with heap := h', toks := tk } := by
 have nP : ∀ b, H b = none -> b ≠ P := λ b e z => by rw [z, hP] at e; cases e
 refine I.un ⟨λ b o e n _ _ => k b o (nP b n) e, λ b o e n _ _ => ⟨o.slots, k b o (nP b n) e⟩, λ b o e n _ => by rw [aR (nP b n)]; exact n, λ b o e _ => ?_, λ b xs e => ?_, λ b o u e => ?_, λ b qs e => ?_⟩ λ a o e => ?_
 .by_cases z : b = P
  .subst z; exact ⟨_, ho⟩
  .exact ⟨o, k b o z e⟩
 .have z : b ≠ P := λ z => by rw [z, hP] at e; cases e
  rw [aR z]; exact e
 .have z : b ≠ P := λ z => by rw [z, hP] at e; cases e
  rw [aR z]; exact e
 .by_cases z : b = P
  .subst z;rw [hP] at e; cases e;obtain ⟨more, e⟩ := hm;exact ⟨more, by rw [dG, e]⟩
  .exact ⟨#[], by rw [aR z, e]; simp⟩
 .by_cases z : a = P
  .subst z;rw [dG] at e; cases e;exact ho
  .rw [aR z] at e;refine (I.hok a o e).stay (λ b u hb q => k b u ?_ q) (λ b q => ?_) λ b xs q => ?_
   .rcases hb with r | r
    .rw [r]; exact z
    .exact λ y => by rw [y, hP] at r; cases r
   .have y : b ≠ P := λ y => by rw [y, hP] at q; cases q
    rw [aR y]; exact q
   .have y : b ≠ P := λ y => by rw [y, hP] at q; cases q
    rw [aR y]; exact q
def yo (H : Hp) (v : Value) : Prop := ∃ c o vs u, v = .ref c /\ H c = some (.frz o (.own 0)) /\ o.data = .fields vs /\ vs[1]? = some u
def TOk (H : Hp) (ps : Array Value) : Prop := TriplesOk ps.toList /\ ∀ pos v, codeAmong pos ps.toList = some v -> yo H v
theorem TOk.mono (h : TOk H ps) (k : ∀ c o, H c = some (.frz o (.own 0)) -> H' c = some (.frz o (.own 0))) : TOk H' ps :=
 ⟨h.1, λ pos v e => let ⟨c, o, vs, u, e1, e2, e3⟩ := h.2 pos v e; ⟨c, o, vs, u, e1, k c o e2, e3⟩⟩
theorem TOk.nil : TOk H #[] := ⟨by unfold TriplesOk; trivial, λ pos v e => by simp [codeAmong] at e⟩
theorem Cp : ∀ (l : List Value), TriplesOk l -> codeAmong pos (l ++ [rawInt a, rawInt b, c]) = some v -> codeAmong pos l = some v ∨ v = c := λ l h => by
 fun_induction TriplesOk l with
 | case1 =>
  intro e
  right
  simp only [List.nil_append, rawInt, codeAmong] at e;split at e
  .cases e; rfl
  .cases e
 | case2 line t col u x rest ih =>
  intro e;simp only [List.cons_append, codeAmong] at e ⊢;split at e
  .rename_i hc
   left; rw [if_pos hc]; exact e
  .rename_i hc;rw [if_neg hc];exact ih h e
 | case3 => exact h.elim
structure Cd (lo : Nat) (P : Addr) (ps ps' : Array Value) (H H' : Hp) : Prop where
 tab : H' P = some (.tbl ps')
 more : ∃ more, ps' = ps ++ more
 ok : TOk H' ps'
 keep : ∀ b o, b ≠ P -> H b = some o -> H' b = some o
 none : ∀ b, b < lo -> H b = none -> H' b = none
theorem Inv.reg (I : Inv X pins σ H s) (ho : s.heap.get? c = some o) (hn : H c = none) (hnew : X.s₀.heap.objs.size <= c) (hL : c ≠ X.env.locals) (hc : ∀ x d, X.env.cells.lookup x = some d -> d ≠ c) (hp : ∀ p ∈ X.pn ++ pins, p.1 ≠ c) :
  Inv X pins σ (upd H c (.frz o (.own 0))) s := by
 have ne : ∀ b u, H b = some u -> b ≠ c := λ b u e z => by rw [z, hn] at e; cases e
 refine ⟨I.ok, I.os, I.bare, ⟨I.base.keep, I.base.slot, λ b ob e n hx => ?_, I.base.there, λ b xs e => ?_, λ b ob u e => ?_, λ b ps e => ?_⟩, I.loc, I.cell, ?_, λ x d e => ?_, λ p hp' => ?_, λ a u e => ?_, I.len⟩
 .rw [aR (Zk (Zc (Ze e) hnew))]; exact I.base.free b ob e n hx
 .have q := I.base.tups b xs e;rw [aR (ne _ _ q)]; exact q
 .have q := I.base.frzs b ob u e;rw [aR (ne _ _ q)]; exact q
 .obtain ⟨more, q⟩ := I.base.tbls b ps e;exact ⟨more, by rw [aR (ne _ _ q)]; exact q⟩
 .rw [aR (Ne.symm hL)]; exact I.free
 .rw [aR (hc x d e)]; exact I.freeC x d e
 .obtain ⟨a, b, r⟩ := I.pin p hp';exact ⟨a, by rw [aR (hp p hp')]; exact b, r⟩
 .by_cases z : a = c
  .subst z;rw [dG] at e; cases e;exact ⟨ho, o, ho⟩
  .rw [aR z] at e;exact (I.hok a u e).stay (λ b v _ q => q) (λ b q => by rw [aR (ne _ _ q)]; exact q) λ b xs q => by rw [aR (ne _ _ q)]; exact q
theorem xq {P c' : Addr} {ps vs : Array Value} {u : Value} {oc : Obj} {h' : Heap} {tk : Nat} {pos : Pos} {G : Prop} (I : Inv X pins σ H s) (hP : H P = some (.tbl ps)) (ht : TOk H ps) (hge : s.heap.objs.size <= c') (hoc : h'.get? c' = some oc) (hdd : oc.data = .fields vs) (hv : vs[1]? = some u)
  (k : ∀ b o, b ≠ P -> s.heap.get? b = some o -> h'.get? b = some o) (ho : h'.get? P = some { cls := .none, data := .fields (ps ++ #[rawInt pos.line, rawInt pos.col, .ref c']) })
  (h : Cd s.heap.objs.size P ps (ps ++ #[rawInt pos.line, rawInt pos.col, .ref c']) H (upd (upd H P (.tbl (ps ++ #[rawInt pos.line, rawInt pos.col, .ref c']))) c' (.frz oc (.own 0))) -> Inv X pins σ (upd (upd H P (.tbl (ps ++ #[rawInt pos.line, rawInt pos.col, .ref c']))) c' (.frz oc (.own 0))) { s with heap := h', toks := tk } -> G) : G := by
 have lt := λ {b : Addr} {o : Obj} (e : s.heap.get? b = some o) => Zc (Ze e) hge;have cP : P ≠ c' := Zk (lt (I.hok P _ hP));have hn : H c' = none := I.hok.fresh hge;generalize hps : ps ++ #[rawInt pos.line, rawInt pos.col, .ref c'] = ps' at *
 have I1 : Inv X pins σ (upd H P (.tbl ps')) { s with heap := h', toks := tk } := I.tbl hP ⟨_, hps.symm⟩ k ho
 have I2 : Inv X pins σ (upd (upd H P (.tbl ps')) c' (.frz oc (.own 0))) { s with heap := h', toks := tk } := I1.reg hoc (by rw [aR (Ne.symm cP)]; exact hn) (Zl I.sz hge) (Nat.ne_of_gt (Zc I.lt hge))
  (λ x d e => by
   obtain ⟨v, o, e2, _⟩ := I.cell x d e;exact Zk (lt e2)) λ p hp => Zk (lt (I.pin p hp).1)
 have kp : ∀ b o, b ≠ P -> H b = some o -> upd (upd H P (.tbl ps')) c' (.frz oc (.own 0)) b = some o := λ b o hb e => by
  have hbc : b ≠ c' := λ z => by rw [z, hn] at e; cases e
  rw [aR hbc, aR hb]; exact e
 refine h ⟨by rw [aR cP, dG], ⟨_, hps.symm⟩, ⟨?_, λ p v e => ?_⟩, kp, λ b hb e => ?_⟩ I2
 .rw [<- hps];have hl : (ps ++ #[rawInt pos.line, rawInt pos.col, Value.ref c']).toList = ps.toList ++ [rawInt pos.line, rawInt pos.col, .ref c'] := by simp
  rw [hl]; exact TriplesOk_snoc _ _ _ _ ht.1
 .rw [<- hps] at e;have hl : (ps ++ #[rawInt pos.line, rawInt pos.col, Value.ref c']).toList = ps.toList ++ [rawInt pos.line, rawInt pos.col, .ref c'] := by simp
  rw [hl] at e
  rcases Cp _ ht.1 e with e | e
  .obtain ⟨c, o, ws, w, q1, q2, q3⟩ := ht.2 p v e;exact ⟨c, o, ws, w, q1, kp c _ (λ z => by rw [z, hP] at q2; cases q2) q2, q3⟩
  .exact ⟨c', oc, vs, u, e, dG, hdd, hv⟩
 .have hbc : b ≠ c' := Zk (Zc hb hge);have hbP : b ≠ P := λ z => by rw [z, hP] at e; cases e
  rw [aR hbc, aR hbP]; exact e
theorem Vr {Q : Value -> Shared -> Prop} {E : Value -> Shared -> Prop} (I : Inv X pins σ H s) (hc : X.env.code = .ref c) (hd : PySem.W.CodeHd X.base c P) (hP : H P = some (.tbl ps)) (ht : TOk H ps)
  (h : ∀ code s' H' ps', Cd s.heap.objs.size P ps ps' H H' -> Inv X pins σ H' s' -> s'.gens = s.gens -> (∀ b o, b ≠ P -> s.heap.get? b = some o -> s'.heap.get? b = some o) -> Q code s') :
  wpAny (model X.prog X.w) A (genexprCode X.env pos q scope) Q E s := by
 have hd' : PySem.W.CodeHd s.heap c P := hd.keeps I.bk;have oP : s.heap.get? P = some (PySem.W.tabObj ps) := I.hok P _ hP;have hok : s.heap.IsCode c P ps := hd'.code oP ht.1;have htab : s.heap.TableAt c P ps := hd'.tab oP;cases hnf : codeAmong pos ps.toList with
 | some cv =>
  obtain ⟨o, vs, file, tf, flags, tg, inF, text, tt, op, ho, hdd, h11, h2, h7, h9, h10, hop, hpd, htr, hne⟩ := id hok;unfold genexprCode codeAt;rw [hc, if_neg (show ¬ ((Value.ref c == Value.none) = true) from Zr)];refine wpAny_bind (wpAny_fieldsOf ho hdd ?_);rw [h11];refine wpAny_bind (wpAny_fieldsOf hop hpd ?_);rw [hnf];exact wpAny_pure (h cv s H ps ⟨hP, ⟨#[], by simp⟩, ht, λ _ _ _ e => e, λ _ _ e => e⟩ I rfl λ b o _ e => e)
 | none =>
  refine wpAny_genexprCodeX hc hok htab hnf λ c' h' tk hx hge hlt hcode hrec htab' _ => ?_;obtain ⟨c2, oc, vs, t, e2, hoc, hdd, hv⟩ := hrec;cases e2;exact xq I hP ht hge hoc hdd hv (λ b o hb e => hx b o hb e) htab'.2 λ hG I' => h (.ref c') _ _ _ hG I' rfl λ b o hb e => hx b o hb e
end
def KN (J : It) (g : TG) (te : TE) (σb : St) : pg where
 nxt := λ i H Q => J.go i H /\ ∀ x H', J.yld i H x H' -> g x σb H' λ σ2 H2 => Fits σb σ2 /\ te σ2 H2 Q
 fin := λ i H => J.stop i H
def tGen (own : List Str) (capI : List Nat) (P : Addr) (wi : TI) (g : TG) (te : TE) : vG := λ σ H R => wi σ H λ J H1 => ∃ ps, H1 P = some (.tbl ps) /\ TOk H1 ps /\
 ∀ lo H2 ps', Cd lo P ps ps' H1 H2 -> R (KN J g te (cX own σ capI)) H2
theorem Aq {A : Around} {elt tg iter : Expr} {scope : Scope} {pos : Pos} {it : Addr} {cenv : Env} {l : List Env} (h : A.frames = some l) : (A.over (jX elt tg iter scope pos it cenv) []).frames = some (cenv :: l) := by
 unfold Around.over;show pushEnvs (Code.envs (jX elt tg iter scope pos it cenv)) (pushEnvs (envsOf []) A.frames) = _;rw [h]; rfl
theorem Hs {X : Cx} {A' : Around} {elt tg iter : Expr} {scope : Scope} {pos : Pos} {it : Addr} {cenv : Env} (hh : A'.handled = none) (hd : A'.depth <= X.A.depth + 1) (hu : A'.units <= X.A.units + 8) :
  ∀ k, eG (k + 1) X.A -> eG k (A'.in1.over (jX elt tg iter scope pos it cenv) []) := λ k r => by
 have e1 : (A'.in1.over (jX elt tg iter scope pos it cenv) []).depth = A'.depth + 1 := rfl;have e2 : (A'.in1.over (jX elt tg iter scope pos it cenv) []).units = A'.units + 1 + 3 := rfl;have e3 : (A'.in1.over (jX elt tg iter scope pos it cenv) []).handled = A'.handled := rfl;have := r.dp;have := r.un;exact ⟨e3.trans hh, by rw [e1]; omega, by rw [e2]; omega⟩
section
variable {X : Cx} {tg iter elt : Expr} {wi : TI} {g : TG} {te : TE} {own cap : List Str} {capI : List Nat} {scope : Scope} {pos : Pos} {P : Addr} {kr : Nat}
theorem JQ (hc : X.calm = true) (hr : eG kr X.A) (B : eQ X own cap capI scope) (hown : ∀ x ∈ own, (x, NameKind.free) ∉ scope.names) (hnc : ∀ y ∈ scope.names, y.2 ≠ .cell) (h0 : scope.names.lookup (".0" : Str) = some NameKind.local)
  (hco : scope.isCoroutine = false) (htb : ∃ c, X.env.code = .ref c /\ PySem.W.CodeHd X.base c P) (hi : PI X tg iter wi) (hg : ∀ AG cs C code fp s2 H2, PG (uG X AG own cap scope cs C code fp s2 H2) tg g)
  (he : ∀ AG cs C code fp s2 H2, (∀ k, eG (k + 1) X.A -> eG k AG) -> PE (uG X AG own cap scope cs C code fp s2 H2) elt te) (hs : ∀ x, genFold iter X.env x = pure x := by intro _; rfl) :
  xr X (GD elt tg iter scope pos) (tGen own capI P wi g te) := by
 intro pins s σ H R I h;obtain ⟨c, hcode, hhd⟩ := htb;refine wpAny_GeneratorExp_make hco (jq (B.cells I)) hnc h0 B.kind hr.depth ?_ hs;refine thn (hi pins s σ H _ I h) λ v s1 h1 => thn h1 λ itv s2 h2 => ?_;obtain ⟨it, fp, tn, J, H2, e, I2, T, st2, f2, ps, hP, htr, hR⟩ := h2;subst e;refine ⟨I2.nolimit, Vr I2 hcode hhd hP htr λ code s4 H4 ps' hG I4 hgens hk4 => ?_⟩;obtain ⟨bm, ob, b1, b2, b3, b4, b5, b6⟩ := I4.mod.bmain;refine wpAny_builtinsFor (bm := bm) (by rw [I4.ok.glob]; exact I4.mod.glob.keeps I4.bk) b1 b2 (I4.bk _ _ b3) b4 b5 b6 ?_
 intro h5 hn5 hs5;generalize hC : s4.heap.objs.size = C at hn5 hs5 ⊢;have hCs : s4.heap.objs.size <= C := Nat.le_of_eq hC;have hR' := hR _ H4 ps' hG;have k5 : ∀ b o, s4.heap.get? b = some o -> h5.get? b = some o := λ b o e => hs5.extBut b o (Zk (Zc (Ze e) hCs)) (Zb _ e);have sz5 : h5.objs.size = C + 1 := by rw [hs5.1, Heap.size_push, hC]
 generalize ha : h5.objs.size = a;have hCa : C < a := by rw [<- ha, sz5]; exact Nat.lt_succ_self _
 generalize hgi : s4.gens.size = gi;generalize hgo : ({ cls := .type "generator", data := .fields #[.int (gi : Int) 0, .str "<genexpr>" (s4.toks + 1), .str (X.env.qual ++ "<genexpr>") (s4.toks + 1 + 1)] } : Obj) = gob;generalize hh6 : h5.push gob = h6;have k6 : ∀ b o, h5.get? b = some o -> h6.get? b = some o := λ b o e => by rw [<- hh6]; exact Zb _ e
 have k46 : ∀ b o, s4.heap.get? b = some o -> h6.get? b = some o := λ b o e => k6 b o (k5 b o e);have oa6 : h6.get? a = some gob := by rw [<- hh6, <- ha]; refine Zf _ ?_; rw [<- hgo]; rfl
 have isg : ∀ {h : Heap}, h.get? a = some gob -> h.IsGen a gi := λ {h} e => ⟨gob, .str "<genexpr>" (s4.toks + 1), .str (X.env.qual ++ "<genexpr>") (s4.toks + 1 + 1), e, by rw [<- hgo], by rw [<- hgo], by rw [<- hgo]⟩
 have hfr4 : ∀ b ∈ fp, H4 b = none := λ b hb => let ⟨o, e, _⟩ := T.obj 0 _ st2 b hb; hG.none b (Ze e) (f2 b hb).1;have f4 : ∀ b ∈ fp, mQ X pins H4 b := λ b hb => ⟨hfr4 b hb, (f2 b hb).2⟩;have hbP : ∀ b ∈ fp, b ≠ P := λ b hb z => by have n2 := (f2 b hb).1; rw [z, hP] at n2; cases n2
 have o4 : ∀ b ∈ fp, ∃ o, s4.heap.get? b = some o := λ b hb => let ⟨o, e, _⟩ := T.obj 0 _ st2 b hb; ⟨o, hk4 b o (hbP b hb) e⟩;have st4 : tn 0 s4.heap := T.keep _ _ _ st2 λ b hb o e => hk4 b o (hbP b hb) e;have hfa : ∀ b ∈ fp, b ≠ a /\ b ≠ C := λ b hb => let ⟨o, e⟩ := o4 b hb
  have l := Zc (Ze e) hCs
  ⟨Zk (Nat.lt_trans l hCa), Zk l⟩
 generalize hcenv : genEnv scope (cA X.env scope.names []) C code builtinsNs X.env = cenv;have gk6 : GK s4.gens (s4.gens.push (.fresh (genS elt tg iter scope pos it cenv))) := by
  refine ⟨AllBare.push I4.bare.bare rfl, λ k x e => ?_⟩;have hlt : k < s4.gens.size := by
   rcases Nat.lt_or_ge k s4.gens.size with z | z
   .exact z
   .rw [Array.getElem?_eq_none z] at e; cases e
  rw [Array.getElem?_push_lt hlt, <- Array.getElem?_eq_getElem hlt]; exact e
 refine ⟨a, KN J g te (cX own σ capI), H4, rfl, I4.grown k46 gk6, ?_, hR'⟩;intro A' hAh hAf hAd hAu;have gi6 : (s4.gens.push (.fresh (genS elt tg iter scope pos it cenv)))[gi]? = some (.fresh (genS elt tg iter scope pos it cenv)) := by rw [<- hgi]; simp
 generalize hX' : uG X (A'.in1.over (jX elt tg iter scope pos it cenv) []) own cap scope (cA X.env scope.names []) C code fp s4 H4 = X';have eP : X'.prog = X.prog := by rw [<- hX']; rfl
 have eW : X'.w = X.w := by rw [<- hX']; rfl
 have eK : X'.K = X.K := by rw [<- hX']; rfl
 have eFs : X'.fs = frs X.stack := by rw [<- hX']; rfl
 have eEx : X'.ex = fp := by rw [<- hX']; rfl
 have eS : X'.s₀ = { s4 with gens := s4.gens.push .running } := by rw [<- hX']; rfl
 have eH : X'.H₀ = H4 := by rw [<- hX']; rfl
 have eL : X'.env.locals = C := by rw [<- hX']; rfl
 have eC : X'.calm = true := by rw [<- hX']; rfl
 have eX : X'.xe = λ _ _ => False := by rw [<- hX']; rfl
 have ePn : X'.pn = [] := by rw [<- hX']; rfl
 have eE : X'.env = cenv := by rw [<- hX', <- hcenv]; rfl
 have eA : X'.A = A'.in1.over (jX elt tg iter scope pos it X'.env) [] := by rw [eE, <- hX']; rfl
 have eCo : X'.env.scope.isCoroutine = false := by rw [<- hX']; exact hco
 have hg' : PG X' tg g := by rw [<- hX']; exact hg _ _ _ _ _ _ _
 have he' : PE X' elt te := by rw [<- hX']; exact he _ _ _ _ _ _ _ (Hs hAh hAd hAu)
 have T' : Turn X'.prog X'.w X'.K tg J fp it tn := by rw [eP, eW, eK]; exact T
 have pfp : ∀ {Q : List (Addr × Obj)}, (∀ p ∈ Q, a < p.1) -> ∀ p ∈ (a, gob) :: Q, p.1 ∉ fp := λ {Q} hQ p hp hb => by
  obtain ⟨o, e⟩ := o4 _ hb;have l := Zc (Ze e) hCs
  rcases Zi.mp hp with z | z
  .subst z; exact absurd (Nat.lt_trans l hCa) (Nat.lt_irrefl _)
  .exact absurd (Nat.lt_trans (Nat.lt_trans l hCa) (hQ p z)) (Nat.lt_irrefl _)
 have afs : a ∉ X'.fs := λ hz => by
  rw [eFs] at hz;have l4 : s4.heap.objs.size <= a := Zl hCs (Nat.le_of_lt hCa)
  rcases Zi.mp (I4.stkSub a hz) with z | z
  .exact absurd I4.lt (by rw [<- z]; exact Nat.not_lt.mpr l4)
  .exact I4.nofs l4 z
 have setg : ∀ (s : Shared) (x : GenState), (s.setGen gi x).gens = s.gens.setIfInBounds gi x := λ s x => rfl;have hSS : ∀ {Q : List (Addr × Obj)} {i : Nat} {H : Hp} {s : Shared}, (∀ p ∈ Q, a < p.1) -> Inv X' ((a, gob) :: Q) (cX own σ capI) H s -> s.heap.get? a = some gob /\ s.gens[gi]? = some .running /\
   ∀ (x : GenState) (h' : Heap) (tk : Nat), x.bare = true -> (∀ b o, s.heap.get? b = some o -> h'.get? b = some o) -> Inv X (pins ++ Q) σ H { s.setGen gi x with heap := h', toks := tk } := λ {Q i H s} hQ I' => by
  have pa := (I'.pin (a, gob) (by simp)).1
  have gr : s.gens[gi]? = some .running := I'.bare.kept gi .running (by rw [eS, <- hgi]; simp)
  refine ⟨pa, gr, λ x h' tk hx hk => ?_⟩;have ub := I'.base;rw [eFs, eEx, eS, eH] at ub;have hok := I'.hok;rw [eP, eW] at hok;refine Inv.more ?_ λ p hp => by
   have q := I'.pin p (by simp [hp])
   have l4 : s4.heap.objs.size <= p.1 := Zl hCs (Nat.le_of_lt (Nat.lt_trans hCa (hQ p hp)));exact ⟨hk _ _ q.1, q.2.1, λ z => absurd I4.lt (by rw [<- z]; exact Nat.not_lt.mpr l4), I4.nofs l4, q.2.2.2.2⟩
  refine I4.call' (ch := fp) (s' := { s.setGen gi x with heap := h', toks := tk }) (by have := I'.os; rw [eS] at this; exact this)
   ⟨λ b o e n hb hx' => hk b o (ub.keep b o e n hb hx'), λ b o e n hb hx' => let ⟨sl, q⟩ := ub.slot b o e n hb hx'; ⟨sl, hk b _ q⟩, ub.free, λ b o e hx' => let ⟨o', q⟩ := ub.there b o e hx'; ⟨o', hk b o' q⟩, ub.tups, ub.frzs, ub.tbls⟩
   (hok.kept hk) ⟨λ y hy => ?_, λ k y e => ?_⟩ λ b hb => ?_
  .have hy' : y ∈ s.gens.setIfInBounds gi x := hy
   rcases Array.mem_or_eq_of_mem_setIfInBounds hy' with z | z
   .exact I'.bare.bare y z
   .rw [z]; exact hx
  .have hlt : k < gi := by
    rw [<- hgi]
    rcases Nat.lt_or_ge k s4.gens.size with z | z
    .exact z
    .rw [Array.getElem?_eq_none z] at e; cases e
   have q := I'.bare.kept k y (by rw [eS]; show (s4.gens.push .running)[k]? = some y; rw [Array.getElem?_push_lt (by rw [hgi]; exact hlt), <- Array.getElem?_eq_getElem (by rw [hgi]; exact hlt)]; exact e)
   show (s.gens.setIfInBounds gi x)[k]? = some y;rw [Array.getElem?_setIfInBounds_ne (Nat.ne_of_gt hlt)];exact q
  .obtain ⟨q0, q1, q2, q3, q4, q5⟩ := f4 b hb;exact ⟨q3, q1, q4, q5⟩
 refine ⟨a + 1, λ Q i H s => (∀ p ∈ Q, a < p.1) /\ Inv X (pins ++ Q) σ H s /\ (∃ gs, s.gens[gi]? = some gs /\ gs.bare = true /\ (gs = .fresh (genS elt tg iter scope pos it X'.env) ∨ ∃ k l p cl, gs = .suspended k l (jX elt tg iter scope pos it X'.env) p [] cl /\ k (.send .none) = .pure (.again (jX elt tg iter scope pos it X'.env)))) /\
   Inv X' ((a, gob) :: Q) (cX own σ capI) H (s.setGen gi .running) /\ tn i s.heap /\ ∀ b ∈ fp, H b = none, ⟨λ st => st.2.1, ?_, ?_, ?_, ?_, ?_, ?_⟩, ?_, Nat.lt_succ_self _, ?_, λ Q i H s st => ⟨gi, isg (hSS (i := i) st.1 st.2.2.2.1).1⟩⟩
 .
  rintro PP i H s Q E ⟨hQ, I1, ⟨gs, hgs, hb, hgs'⟩, Ib, st, fr⟩ ⟨go, step⟩;have tr := Jx (A1 := A'.in1) (elt := elt) (tg := tg) (iter := iter) (scope := scope) (pos := pos) T' eA eC eEx ePn eCo eX hg' he' (pfp hQ) Ib st fr go step;have oa := (hSS (i := i) hQ Ib).1;rw [eP, eW] at tr;refine tK hAh I1.nolimit (by have := hr.dp; omega) (isg oa) hgs (Φ := λ e s' => ∃ v k p y H', e = .susp v false [] k (jX elt tg iter scope pos it X'.env) p [] /\ k (.send .none) = .pure (.again (jX elt tg iter scope pos it X'.env)) /\ RelV y v /\ Q y H' /\ Inv X' ((a, gob) :: PP) (cX own σ capI) H' s' /\ tn (i + 1) s'.heap /\ ∀ b ∈ fp, H' b = none) ?_ ?_ ?_
  .rcases hgs' with e | ⟨k, l, p, cl, e, ek⟩
   .subst e;exact xM (i := i) T st tr
   .subst e;show cF _ _ _ (k (.send .none)) [] _ _;rw [ek];exact cF.again rfl tr
  .rintro e s' ⟨v, k, p, y, H', rfl, _⟩;rfl
  .rintro e s' ⟨v, k, p, y, H', rfl, ek, ry, qy, I', st', fr'⟩
   left
   refine ⟨v, false, [], k, _, p, [], rfl, v, y, H', rfl, ry, qy, ?_⟩;obtain ⟨oa', gr', mk⟩ := hSS (i := i) hQ I';have e1 : ((s'.setGen gi (End.susp v false [] k (jX elt tg iter scope pos it X'.env) p []).genState).setGen gi .running) = s' := by
    have hl : gi < s'.gens.size := by
     rcases Nat.lt_or_ge gi s'.gens.size with z | z
     .exact z
     .rw [Array.getElem?_eq_none z] at gr'; cases gr'
    obtain ⟨hh, gg, dd, tt, oo⟩ := s';show (Shared.mk hh ((gg.setIfInBounds gi _).setIfInBounds gi .running) dd tt oo) = _;congr 1
    apply Array.ext_getElem?;intro j;by_cases hj : gi = j
    .subst hj;have gr'' : gg[gi]? = some .running := gr';have hl' : gi < gg.size := hl;rw [gr''];simp [hl']
    .simp [hj]
   refine ⟨hQ, mk _ s'.heap s'.toks rfl λ b o e => e, ⟨_, setGen_self gr', rfl, .inr ⟨k, [], p, _, rfl, ek⟩⟩, by rw [e1]; exact I', st', fr'⟩
 .
  rintro PP i H s E ⟨hQ, I1, ⟨gs, hgs, hb, hgs'⟩, Ib, st, fr⟩ hfin;have tr := Je (A1 := A'.in1) (elt := elt) (tg := tg) (iter := iter) (scope := scope) (pos := pos) T' eA eC eEx ePn (pfp hQ) Ib st fr hfin;have oa := (hSS (i := i) hQ Ib).1;rw [eP, eW] at tr;refine tK hAh I1.nolimit (by have := hr.dp; omega) (isg oa) hgs (Φ := λ e s' => e = .ret (.ok .next) /\ Inv X' ((a, gob) :: PP) (cX own σ capI) H s') ?_ ?_ ?_
  .rcases hgs' with e | ⟨k, l, p, cl, e, ek⟩
   .subst e;exact xM (i := i) T st tr
   .subst e;show cF _ _ _ (k (.send .none)) [] _ _;rw [ek];exact cF.again rfl tr
  .rintro e s' ⟨rfl, _⟩;rfl
  .rintro e s' ⟨rfl, I'⟩
   right
   obtain ⟨oa', gr', mk⟩ := hSS (i := i) hQ I';exact ⟨rfl, λ h' hk => ⟨rfl, mk .finished h' s'.toks rfl hk⟩⟩
 .
  rintro PP i H s h' tk ⟨hQ, I1, hgs, Ib, st, fr⟩ hk;exact ⟨hQ, I1.kept hk, hgs, Ib.kept (s := s.setGen gi .running) hk, T.keep _ _ _ st λ b _ o e => hk b o e, fr⟩
 .
  rintro PP i H s D o ⟨hQ, I1, hgs, Ib, st, fr⟩ hD ho hn hcell;have hDa : a < D := hD;have hD4 : s4.heap.objs.size <= D := Nat.le_of_lt (Nat.lt_of_le_of_lt hCs (Nat.lt_trans hCa hDa));refine ⟨λ p hp => ?_, ?_, hgs, ?_, st, fr⟩
  .rcases Zi.mp hp with z | z
   .subst z; exact hDa
   .exact hQ p z
  .refine I1.pins_of λ p hp => ?_
   rcases Zm.mp hp with z | z
   .exact I1.pin p (by simp [z])
   .rcases Zi.mp z with z | z
    .subst z;exact ⟨ho, hn, λ z => absurd I4.lt (by rw [<- z]; exact Nat.not_lt.mpr hD4), I4.nofs hD4, hcell⟩
    .exact I1.pin p (by simp [z])
  .refine Ib.pins_of λ p hp => ?_
   rcases Zi.mp hp with z | z
   .exact Ib.pin p (by simp [z])
   .rcases Zi.mp z with z | z
    .subst z;refine ⟨ho, hn, by rw [eL]; exact Nat.ne_of_gt (Nat.lt_trans hCa hDa), λ hz => ?_, hcell⟩
     rw [eFs] at hz
     rcases Zi.mp (I4.stkSub D hz) with z | z
     .exact absurd I4.lt (by rw [<- z]; exact Nat.not_lt.mpr hD4)
     .exact I4.nofs hD4 z
    .exact Ib.pin p (by simp [z])
 .
  rintro p PP i H s ⟨hQ, I1, hgs, Ib, st, fr⟩;exact ⟨λ q hq => hQ q (List.mem_cons_of_mem _ hq), I1.pins_of λ q hq => I1.pin q (by rcases Zm.mp hq with z | z <;> simp [z]), hgs, Ib.pins_of λ q hq => Ib.pin q (by rcases Zi.mp hq with z | z <;> simp [z]), st, fr⟩
 .
  rintro PP i H s h' tk D ⟨hQ, I1, hgs, Ib, st, fr⟩ hD hn hPD hk;have hDa : a < D := hD;have hDC : C < D := Nat.lt_trans hCa hDa;have hD4 : s4.heap.objs.size <= D := Nat.le_of_lt (Nat.lt_of_le_of_lt hCs hDC);have l4 : ∀ b, b < s4.heap.objs.size -> b ≠ D := λ b hb => Zk (Zc hb hD4);have cl4 : ∀ x c, X.env.cells.lookup x = some c -> c ≠ D := λ x c e => let ⟨v, q⟩ := I4.cell x c e; l4 c q.lt;refine ⟨hQ, I1.turned hk hn (Ne.symm (l4 _ I4.lt)) (.inr (Zl I4.sz hD4)) cl4 (λ p hp => ?_), hgs, Ib.turned (s := s.setGen gi .running) hk hn (by rw [eL]; exact Nat.ne_of_gt hDC) (.inr (by rw [eS]; exact hD4)) (λ x c e => ?_) (λ p hp => ?_), T.keep _ _ _ st λ b hb o e => hk b o ?_ e, fr⟩
  .rcases Zm.mp hp with z | z
   .exact l4 _ (Ze (I4.pin p (by simp [z])).1)
   .rcases Zm.mp z with z | z
    .exact l4 _ (Ze (I4.pin p (by simp [z])).1)
    .exact hPD p z
  .obtain ⟨v, q⟩ := Ib.cell x c e;have e' : (cA X.env scope.names []).lookup x = some c := by rw [<- hX'] at e; exact e
   exact cl4 x c ((lR (Zt e')).elim (λ z => by simp at z) id)
  .rw [ePn, List.nil_append] at hp
   rcases Zi.mp hp with z | z
   .subst z; exact Zk hDa
   .exact hPD p z
  .obtain ⟨o', e'⟩ := o4 b hb;exact l4 b (Ze e')
 .
  have Ib0 : Inv X' [] (cX own σ capI) H4 { s4 with heap := h6, toks := s4.toks + 1 + 1 + 1, gens := s4.gens.push .running } := by
   rw [<- hX'];refine I4.gen B hown hnc f4 o4 k46 hCs (hn5.at' λ o e => k6 _ o e) ?_ hAh;rw [hcenv];exact Aq hAf
  refine ⟨λ p hp => absurd hp (by simp), by rw [List.append_nil]; exact (I4.grown k46 gk6 : Inv X pins σ H4 _), ⟨_, gi6, rfl, .inl (by rw [eE])⟩, ?_, T.keep _ _ _ st4 λ b _ o e => k46 b o e, hfr4⟩
  have e1 : (Shared.setGen { s4 with gens := s4.gens.push (.fresh (genS elt tg iter scope pos it cenv)), toks := s4.toks + 1 + 1 + 1, heap := h6 } gi .running) = { s4 with heap := h6, toks := s4.toks + 1 + 1 + 1, gens := s4.gens.push .running } := by
   show Shared.mk _ ((s4.gens.push _).setIfInBounds gi .running) _ _ _ = _;congr 1
   rw [<- hgi];apply Array.ext_getElem?;intro j;by_cases hj : s4.gens.size = j
   .subst hj; simp
   .simp [hj, Array.getElem?_push, Ne.symm hj]
  rw [e1];exact Ib0.pins_of λ p hp => by
   obtain rfl : p = (a, gob) := by simpa using hp
   refine ⟨oa6, ?_, by rw [eL]; exact Nat.ne_of_gt hCa, afs, λ v z => ?_⟩
   .exact I4.hok.fresh (Zl hCs (Nat.le_of_lt hCa))
   .rw [<- hgo] at z; cases z
 .show a + 1 <= h6.objs.size;rw [<- hh6, Heap.size_push, ha];exact Zg _
end
end L2
namespace L3
open PySem PySem.Spec PyProof.Rows L2
inductive D where
 | non | bl (b : Bool) | int (i : Int) | str (x : Str) | tup (ds : List D) | lst (ds : List D) | ro (ds : List D) | dic (kvs : List (Key × D)) | cell (n : Nat)
abbrev Mu := List (Option (List D))
abbrev En := List (Option D)
mutual
def bx (K : PySem.W.Frag) (F : Hp) (ad : List Addr) : D -> V -> Prop
 | .non, v => v = .non
 | .bl b, v => v = .bl b
 | .int i, v => v = .int i
 | .str x, v => v = .str x
 | .tup ds, v => ∃ a xs, v = .ref a /\ SqT K F a xs /\ aD K F ad ds xs
 | .lst ds, v => ∃ a xs, v = .ref a /\ F a = some (.lst xs) /\ aD K F ad ds xs
 | .ro ds, v => ∃ a xs, v = .ref a /\ SqL K F a xs /\ aD K F ad ds xs
 | .dic kvs, v => ∃ a ps, v = .ref a /\ F a = some (.dK ps) /\ gC K F ad kvs ps
 | .cell n, v => ∃ a, v = .ref a /\ ad[n]? = some a
def aD (K : PySem.W.Frag) (F : Hp) (ad : List Addr) : List D -> List V -> Prop
 | [], vs => vs = []
 | d :: ds, vs => ∃ u us, vs = u :: us /\ bx K F ad d u /\ aD K F ad ds us
def gC (K : PySem.W.Frag) (F : Hp) (ad : List Addr) : List (Key × D) -> List (Key × V) -> Prop
 | [], vs => vs = []
 | p :: ds, vs => ∃ u us, vs = u :: us /\ (u.1 = p.1 /\ bx K F ad p.2 u.2) /\ gC K F ad ds us
end
def oZ (a b : List Addr) : Prop := ∀ (i : Nat) x, a[i]? = some x -> b[i]? = some x
theorem oZ.refl (a : List Addr) : oZ a a := λ _ _ e => e
theorem oZ.trans (x : oZ a b) (y : oZ b c) : oZ a c := λ i z e => y i z (x i z e)
theorem SqT.mono {K : PySem.W.Frag} {F F' : Hp} {a : Addr} {xs : List V} (s : mY F F') (h : SqT K F a xs) : SqT K F' a xs := by
 rcases h with (h | ⟨o, h⟩) | h
 .exact .inl (.inl (s _ _ h))
 .exact .inl (.inr ⟨o, s _ _ h⟩)
 .exact .inr h
theorem SqL.mono {K : PySem.W.Frag} {F F' : Hp} {a : Addr} {xs : List V} (s : mY F F') (h : SqL K F a xs) : SqL K F' a xs := by
 rcases h with (h | ⟨o, h⟩) | h
 .exact .inl (.inl (s _ _ h))
 .exact .inl (.inr ⟨o, s _ _ h⟩)
 .exact .inr h
section
variable {K : PySem.W.Frag} {F F' : Hp} {ad ad' : List Addr}
mutual
theorem bx.mono (s : mY F F') (l : oZ ad ad') : ∀ (d : D) (v : V), bx K F ad d v -> bx K F' ad' d v
 | .non, v, h => by unfold bx at h ⊢; exact h
 | .bl _, v, h => by unfold bx at h ⊢; exact h
 | .int _, v, h => by unfold bx at h ⊢; exact h
 | .str _, v, h => by unfold bx at h ⊢; exact h
 | .tup ds, v, h => by
  unfold bx at h ⊢;obtain ⟨a, xs, e, q, r⟩ := h;exact ⟨a, xs, e, SqT.mono s q, aD.mono s l ds xs r⟩
 | .lst ds, v, h => by
  unfold bx at h ⊢;obtain ⟨a, xs, e, q, r⟩ := h;exact ⟨a, xs, e, s _ _ q, aD.mono s l ds xs r⟩
 | .ro ds, v, h => by
  unfold bx at h ⊢;obtain ⟨a, xs, e, q, r⟩ := h;exact ⟨a, xs, e, SqL.mono s q, aD.mono s l ds xs r⟩
 | .dic kvs, v, h => by
  unfold bx at h ⊢;obtain ⟨a, ps, e, q, r⟩ := h;exact ⟨a, ps, e, s _ _ q, gC.mono s l kvs ps r⟩
 | .cell n, v, h => by
  unfold bx at h ⊢;obtain ⟨a, e, q⟩ := h;exact ⟨a, e, l _ _ q⟩
theorem aD.mono (s : mY F F') (l : oZ ad ad') : ∀ (ds : List D) (vs : List V), aD K F ad ds vs -> aD K F' ad' ds vs
 | [], vs, h => by unfold aD at h ⊢; exact h
 | d :: ds, vs, h => by
  unfold aD at h ⊢;obtain ⟨u, us, e, p, r⟩ := h;exact ⟨u, us, e, bx.mono s l d u p, aD.mono s l ds us r⟩
theorem gC.mono (s : mY F F') (l : oZ ad ad') : ∀ (ds : List (Key × D)) (vs : List (Key × V)), gC K F ad ds vs -> gC K F' ad' ds vs
 | [], vs, h => by unfold gC at h ⊢; exact h
 | p :: ds, vs, h => by
  unfold gC at h ⊢;obtain ⟨u, us, e, ⟨p1, p2⟩, r⟩ := h;exact ⟨u, us, e, ⟨p1, bx.mono s l p.2 u.2 p2⟩, gC.mono s l ds us r⟩
end
theorem aD.nil : aD K F ad [] [] := by unfold aD; rfl
theorem aD.cons (h : bx K F ad d v) (r : aD K F ad ds vs) : aD K F ad (d :: ds) (v :: vs) := by unfold aD; exact ⟨v, vs, rfl, h, r⟩
theorem aD.length : ∀ {ds : List D} {vs : List V}, aD K F ad ds vs -> ds.length = vs.length
 | [], vs, h => by unfold aD at h; subst h; rfl
 | d :: ds, vs, h => by
  unfold aD at h;obtain ⟨u, us, rfl, _, r⟩ := h;rw [List.length_cons, List.length_cons, aD.length r]
theorem aD.get : ∀ {ds : List D} {vs : List V} {i : Nat} {d : D}, aD K F ad ds vs -> ds[i]? = some d -> ∃ v, vs[i]? = some v /\ bx K F ad d v
 | [], _, _, _, _, e => by simp at e
 | d :: ds, vs, 0, x, h, e => by
  unfold aD at h;obtain ⟨u, us, rfl, p, r⟩ := h;simp at e; subst e;exact ⟨u, rfl, p⟩
 | d :: ds, vs, i + 1, x, h, e => by
  unfold aD at h;obtain ⟨u, us, rfl, p, r⟩ := h;obtain ⟨v, e1, e2⟩ := aD.get (i := i) r (by simpa using e)
  exact ⟨v, by simpa using e1, e2⟩
theorem aD.get' : ∀ {ds : List D} {vs : List V} {i : Nat} {v : V}, aD K F ad ds vs -> vs[i]? = some v -> ∃ d, ds[i]? = some d /\ bx K F ad d v
 | [], vs, i, v, h, e => by unfold aD at h; subst h; simp at e
 | d :: ds, vs, 0, x, h, e => by
  unfold aD at h;obtain ⟨u, us, rfl, p, r⟩ := h;simp at e; subst e;exact ⟨d, rfl, p⟩
 | d :: ds, vs, i + 1, x, h, e => by
  unfold aD at h;obtain ⟨u, us, rfl, p, r⟩ := h;obtain ⟨y, e1, e2⟩ := aD.get' (i := i) r (by simpa using e)
  exact ⟨y, by simpa using e1, e2⟩
theorem aD.append : ∀ {ds es : List D} {vs us : List V}, aD K F ad ds vs -> aD K F ad es us -> aD K F ad (ds ++ es) (vs ++ us)
 | [], es, vs, us, h, r => by unfold aD at h; subst h; exact r
 | d :: ds, es, vs, us, h, r => by
  unfold aD at h;obtain ⟨u, ws, rfl, p, q⟩ := h;exact aD.cons p (aD.append q r)
theorem aD.drop : ∀ {ds : List D} {vs : List V} (n : Nat), aD K F ad ds vs -> aD K F ad (ds.drop n) (vs.drop n)
 | ds, vs, 0, h => h
 | [], vs, n + 1, h => by unfold aD at h; subst h; exact aD.nil
 | d :: ds, vs, n + 1, h => by
  unfold aD at h;obtain ⟨u, ws, rfl, p, q⟩ := h;exact aD.drop n q
theorem aD.take : ∀ {ds : List D} {vs : List V} (n : Nat), aD K F ad ds vs -> aD K F ad (ds.take n) (vs.take n)
 | ds, vs, 0, h => aD.nil
 | [], vs, n + 1, h => by unfold aD at h; subst h; exact aD.nil
 | d :: ds, vs, n + 1, h => by
  unfold aD at h;obtain ⟨u, ws, rfl, p, q⟩ := h;exact aD.cons p (aD.take n q)
theorem aD.two (h : aD K F ad [d, e] vs) : ∃ u v, vs = [u, v] /\ bx K F ad d u /\ bx K F ad e v := by
 unfold aD at h;obtain ⟨u, us, rfl, p, h⟩ := h;unfold aD at h;obtain ⟨v, ws, rfl, q, h⟩ := h;unfold aD at h;subst h;exact ⟨u, v, rfl, p, q⟩
theorem aD.one (h : aD K F ad [d] vs) : ∃ u, vs = [u] /\ bx K F ad d u := by
 unfold aD at h;obtain ⟨u, us, rfl, p, h⟩ := h;unfold aD at h;subst h;exact ⟨u, rfl, p⟩
theorem aD.zero (h : aD K F ad [] vs) : vs = [] := by unfold aD at h; exact h
end
structure Wd where
 H : Hp
 ad : List Addr
 mu : Mu
def ni (ad : List Addr) (mu : Mu) (b : Addr) : Prop := ∃ (i : Nat) (ds : List D), ad[i]? = some b /\ mu[i]? = some (some ds)
open Classical in
noncomputable def Wd.fz (tb : List Addr) (W : Wd) : Hp := λ b => if ni W.ad W.mu b ∨ b ∈ tb then none else W.H b
abbrev Den (K : PySem.W.Frag) (tb : List Addr) (W : Wd) : D -> V -> Prop := bx K (W.fz tb) W.ad
abbrev cM (K : PySem.W.Frag) (tb : List Addr) (W : Wd) : List D -> List V -> Prop := aD K (W.fz tb) W.ad
structure WOk (K : PySem.W.Frag) (tb : List Addr) (W : Wd) : Prop where
 len : W.ad.length = W.mu.length
 cont : ∀ (i : Nat) a ds, W.ad[i]? = some a -> W.mu[i]? = some (some ds) -> ∃ xs, W.H a = some (.lst xs) /\ cM K tb W ds xs
 inj : ∀ (i j : Nat) a ds es, W.ad[i]? = some a -> W.ad[j]? = some a -> W.mu[i]? = some (some ds) -> W.mu[j]? = some (some es) -> i = j
 tab : ∀ P ∈ tb, ∃ ps, W.H P = some (.tbl ps) /\ TOk W.H ps
structure Le (tb : List Addr) (W W' : Wd) : Prop where
 same : mY (W.fz tb) (W'.fz tb)
 ad : oZ W.ad W'.ad
theorem Le.refl (W : Wd) : Le tb W W := ⟨mY.refl _, oZ.refl _⟩
theorem Le.trans (a : Le tb W W1) (b : Le tb W1 W2) : Le tb W W2 := ⟨a.same.trans b.same, a.ad.trans b.ad⟩
section
variable {K : PySem.W.Frag} {tb : List Addr} {W W' : Wd} {d : D} {v : V} {ds : List D} {vs : List V}
theorem Den.mono' (h : Den K tb W d v) (l : Le tb W W') : Den K tb W' d v := bx.mono l.same l.ad d v h
theorem cM.mono' (h : cM K tb W ds vs) (l : Le tb W W') : cM K tb W' ds vs := aD.mono l.same l.ad ds vs h
theorem dM (h : W.fz tb b = some o) : W.H b = some o /\ ¬ ni W.ad W.mu b /\ b ∉ tb := by
 unfold Wd.fz at h;split at h
 .cases h
 .rename_i q;exact ⟨h, λ z => q (.inl z), λ z => q (.inr z)⟩
theorem pH (h1 : ¬ ni W.ad W.mu b) (h2 : b ∉ tb) : W.fz tb b = W.H b := by
 unfold Wd.fz;rw [if_neg];rintro (z | z)
 .exact h1 z
 .exact h2 z
theorem SqT.fz (h : SqT K (W.fz tb) a xs) : SqT K W.H a xs := by
 rcases h with (h | ⟨o, h⟩) | h
 .exact .inl (.inl (dM h).1)
 .exact .inl (.inr ⟨o, (dM h).1⟩)
 .exact .inr h
theorem SqL.fz (h : SqL K (W.fz tb) a xs) : SqL K W.H a xs := by
 rcases h with (h | ⟨o, h⟩) | h
 .exact .inl (.inl (dM h).1)
 .exact .inl (.inr ⟨o, (dM h).1⟩)
 .exact .inr h
theorem WOk.live (ok : WOk K tb W) (h : ni W.ad W.mu b) : ∃ xs, W.H b = some (.lst xs) := by
 obtain ⟨i, ds, e1, e2⟩ := h;obtain ⟨xs, e, _⟩ := ok.cont i b ds e1 e2;exact ⟨xs, e⟩
theorem WOk.alloc (ok : WOk K tb W) (hp : W.H p = none) : WOk K tb ⟨upd W.H p o, W.ad, W.mu⟩ /\ Le tb W ⟨upd W.H p o, W.ad, W.mu⟩ /\ (Wd.fz tb ⟨upd W.H p o, W.ad, W.mu⟩) p = some o := by
 have nl : ¬ ni W.ad W.mu p := λ z => by obtain ⟨xs, e⟩ := ok.live z; rw [hp] at e; cases e
 have nt : p ∉ tb := λ z => by obtain ⟨ps, e, _⟩ := ok.tab p z; rw [hp] at e; cases e
 have le : Le tb W ⟨upd W.H p o, W.ad, W.mu⟩ := ⟨λ b u e => by
  obtain ⟨e1, e2, e3⟩ := dM e;have hb : b ≠ p := cG e1 hp;have q := pH (tb := tb) (W := ⟨upd W.H p o, W.ad, W.mu⟩) e2 e3;rw [q];show upd W.H p o b = some u;rw [aR hb]; exact e1, oZ.refl _⟩
 refine ⟨⟨ok.len, λ i a ds e1 e2 => ?_, ok.inj, λ P hP => ?_⟩, le, ?_⟩
 .obtain ⟨xs, e, r⟩ := ok.cont i a ds e1 e2;refine ⟨xs, ?_, cM.mono' r le⟩;show upd W.H p o a = _;rw [aR (cG e hp)]; exact e
 .obtain ⟨ps, e, r⟩ := ok.tab P hP;refine ⟨ps, ?_, r.mono λ c u q => (aR (cG q hp)).trans q⟩;show upd W.H p o P = _;rw [aR (cG e hp)]; exact e
 .have q := pH (tb := tb) (W := ⟨upd W.H p o, W.ad, W.mu⟩) nl nt;rw [q]; exact dG
theorem WOk.new (ok : WOk K tb W) (hp : W.H p = none) (r : cM K tb W ds vs) :
  WOk K tb ⟨upd W.H p (.lst vs), W.ad ++ [p], W.mu ++ [some ds]⟩ /\ Le tb W ⟨upd W.H p (.lst vs), W.ad ++ [p], W.mu ++ [some ds]⟩ /\ Den K tb ⟨upd W.H p (.lst vs), W.ad ++ [p], W.mu ++ [some ds]⟩ (.cell W.mu.length) (.ref p) := by
 have adl : oZ W.ad (W.ad ++ [p]) := λ i x e => by
  rw [Zs (Zh.mp e).1]; exact e
 have lv : ∀ b, ni (W.ad ++ [p]) (W.mu ++ [some ds]) b -> ni W.ad W.mu b ∨ b = p := λ b zq1 => by
  obtain ⟨i, es, e1, e2⟩ := zq1;by_cases hi : i < W.ad.length
  .rw [Zs hi] at e1;rw [Zs (by rw [<- ok.len]; exact hi)] at e2
   exact .inl ⟨i, es, e1, e2⟩
  .rw [List.getElem?_append_right (Nat.le_of_not_lt hi)] at e1
   right
   have : (i - W.ad.length) = 0 := by
    have := (Zh.mp e1).1;simp at this;omega
   rw [this] at e1;simpa using e1.symm
 have le : Le tb W ⟨upd W.H p (.lst vs), W.ad ++ [p], W.mu ++ [some ds]⟩ := ⟨λ b u e => by
  obtain ⟨e1, e2, e3⟩ := dM e;have hb : b ≠ p := cG e1 hp;have q := pH (tb := tb) (W := ⟨upd W.H p (.lst vs), W.ad ++ [p], W.mu ++ [some ds]⟩) (b := b) (λ z => (lv b z).elim e2 hb) e3;rw [q];show upd W.H p (.lst vs) b = some u;rw [aR hb]; exact e1, adl⟩
 refine ⟨⟨by simp [ok.len], λ i a es e1 e2 => ?_, λ i j a es fs e1 e2 e3 e4 => ?_, λ P hP => ?_⟩, le, ?_⟩
 .by_cases hi : i < W.ad.length
  .have e1' : W.ad[i]? = some a := by rw [<- Zs (l₂ := [p]) hi]; exact e1
   have e2' : W.mu[i]? = some (some es) := by rw [<- Zs (l₂ := [some ds]) (by rw [<- ok.len]; exact hi)]; exact e2
   obtain ⟨xs, e, q⟩ := ok.cont i a es e1' e2';refine ⟨xs, ?_, cM.mono' q le⟩;show upd W.H p (.lst vs) a = _;rw [aR (cG e hp)]; exact e
  .have h0 : i = W.ad.length := by
    have h1 : i < (W.ad ++ [p]).length := (Zh.mp e1).1;simp at h1;omega
   have e1' : (W.ad ++ [p])[i]? = some a := e1;have e2' : (W.mu ++ [some ds])[i]? = some (some es) := e2;rw [h0] at e1' e2';rw [ok.len] at e2';simp at e1' e2';subst e1' e2';exact ⟨vs, dG, cM.mono' r le⟩
 .have old : ∀ (k : Nat) es, (W.ad ++ [p])[k]? = some a -> (W.mu ++ [some ds])[k]? = some (some es) -> (k < W.ad.length /\ W.ad[k]? = some a /\ W.mu[k]? = some (some es)) ∨ (k = W.ad.length /\ a = p) := λ k es q1 q2 => by
   by_cases hk : k < W.ad.length
   .left
    refine ⟨hk, ?_, ?_⟩
    .rw [<- Zs (l₂ := [p]) hk]; exact q1
    .rw [<- Zs (l₂ := [some ds]) (by rw [<- ok.len]; exact hk)]; exact q2
   .right
    have h1 : k < (W.ad ++ [p]).length := (Zh.mp q1).1;simp at h1;have h0 : k = W.ad.length := by omega
    subst h0;simp at q1;exact ⟨rfl, q1.symm⟩
  rcases old i es e1 e3 with ⟨_, a1, a2⟩ | ⟨a1, a2⟩ <;> rcases old j fs e2 e4 with ⟨_, b1, b2⟩ | ⟨b1, b2⟩
  .exact ok.inj i j a es fs a1 b1 a2 b2
  .obtain ⟨xs, e, _⟩ := ok.cont i a es a1 a2;rw [b2, hp] at e; cases e
  .obtain ⟨xs, e, _⟩ := ok.cont j a fs b1 b2;rw [a2, hp] at e; cases e
  .rw [a1, b1]
 .obtain ⟨ps, e, q⟩ := ok.tab P hP;refine ⟨ps, ?_, q.mono λ c u q => (aR (cG q hp)).trans q⟩;show upd W.H p (.lst vs) P = _;rw [aR (cG e hp)]; exact e
 .show bx K _ _ (.cell W.mu.length) (.ref p);unfold bx;refine ⟨p, rfl, ?_⟩;rw [<- ok.len];simp
theorem WOk.write (ok : WOk K tb W) (e1 : W.ad[i]? = some a) (e2 : W.mu[i]? = some (some es)) (r : cM K tb W ds vs) :
  WOk K tb ⟨upd W.H a (.lst vs), W.ad, W.mu.set i (some ds)⟩ /\ Le tb W ⟨upd W.H a (.lst vs), W.ad, W.mu.set i (some ds)⟩ := by
 have hi : i < W.mu.length := (Zh.mp e2).1;have lv : ∀ b, ni W.ad (W.mu.set i (some ds)) b -> ni W.ad W.mu b := λ b zq2 => by
  obtain ⟨j, fs, q1, q2⟩ := zq2;by_cases hj : i = j
  .subst hj; exact ⟨i, es, q1, e2⟩
  .rw [List.getElem?_set_ne hj] at q2; exact ⟨j, fs, q1, q2⟩
 have la : ni W.ad W.mu a := ⟨i, es, e1, e2⟩;have le : Le tb W ⟨upd W.H a (.lst vs), W.ad, W.mu.set i (some ds)⟩ := ⟨λ b u e => by
  obtain ⟨p1, p2, p3⟩ := dM e;have hb : b ≠ a := λ z => p2 (z ▸ la);have q := pH (tb := tb) (W := ⟨upd W.H a (.lst vs), W.ad, W.mu.set i (some ds)⟩) (b := b) (λ z => p2 (lv b z)) p3;rw [q];show upd W.H a (.lst vs) b = some u;rw [aR hb]; exact p1, oZ.refl _⟩
 refine ⟨⟨by show W.ad.length = (W.mu.set i (some ds)).length; rw [List.length_set]; exact ok.len, λ j b fs q1 q2 => ?_, λ j k b fs gs q1 q2 q3 q4 => ?_, λ P hP => ?_⟩, le⟩
 .have q2' : (W.mu.set i (some ds))[j]? = some (some fs) := q2;by_cases hj : i = j
  .subst hj;have q1' : W.ad[i]? = some b := q1;rw [e1] at q1'; cases q1';rw [List.getElem?_set_self hi] at q2';cases q2';exact ⟨vs, dG, cM.mono' r le⟩
  .rw [List.getElem?_set_ne hj] at q2';obtain ⟨xs, e, q⟩ := ok.cont j b fs q1 q2';refine ⟨xs, ?_, cM.mono' q le⟩;show upd W.H a (.lst vs) b = _;have hba : b ≠ a := by
    intro z;subst z;exact hj (ok.inj i j b es fs e1 q1 e2 q2')
   rw [aR hba]; exact e
 .have up : ∀ (j : Nat) fs, (W.mu.set i (some ds))[j]? = some (some fs) -> ∃ gs, W.mu[j]? = some (some gs) := λ j fs q => by
   by_cases hj : i = j
   .subst hj; exact ⟨es, e2⟩
   .rw [List.getElem?_set_ne hj] at q; exact ⟨fs, q⟩
  obtain ⟨fs', q3'⟩ := up j fs q3;obtain ⟨gs', q4'⟩ := up k gs q4;exact ok.inj j k b fs' gs' q1 q2 q3' q4'
 .obtain ⟨ps, e, q⟩ := ok.tab P hP;obtain ⟨xs, ea, _⟩ := ok.cont i a es e1 e2;refine ⟨ps, ?_, q.mono λ c u q => (aR (Ao q ea (by intro z; cases z))).trans q⟩
  show upd W.H a (.lst vs) P = _;rw [aR (Ao e ea (by intro z; cases z))]; exact e
theorem WOk.freeze (ok : WOk K tb W) (e1 : W.ad[i]? = some a) (e2 : W.mu[i]? = some (some es)) :
  WOk K tb ⟨W.H, W.ad, W.mu.set i none⟩ /\ Le tb W ⟨W.H, W.ad, W.mu.set i none⟩ /\ Den K tb ⟨W.H, W.ad, W.mu.set i none⟩ (.lst es) (.ref a) := by
 have hi : i < W.mu.length := (Zh.mp e2).1;have up : ∀ (j : Nat) fs, (W.mu.set i none)[j]? = some (some fs) -> i ≠ j /\ W.mu[j]? = some (some fs) := λ j fs q => by
  by_cases hj : i = j
  .subst hj; rw [List.getElem?_set_self hi] at q; cases q
  .rw [List.getElem?_set_ne hj] at q; exact ⟨hj, q⟩
 have lv : ∀ b, ni W.ad (W.mu.set i none) b -> ni W.ad W.mu b := λ b ⟨j, fs, q1, q2⟩ => ⟨j, fs, q1, (up j fs q2).2⟩;have le : Le tb W ⟨W.H, W.ad, W.mu.set i none⟩ := ⟨λ b u e => by
  obtain ⟨p1, p2, p3⟩ := dM e;have q := pH (tb := tb) (W := ⟨W.H, W.ad, W.mu.set i none⟩) (b := b) (λ z => p2 (lv b z)) p3;rw [q]; exact p1, oZ.refl _⟩
 obtain ⟨xs, ea, ra⟩ := ok.cont i a es e1 e2;refine ⟨⟨by show W.ad.length = (W.mu.set i none).length; rw [List.length_set]; exact ok.len, λ j b fs q1 q2 => ?_, λ j k b fs gs q1 q2 q3 q4 => ?_, ok.tab⟩, le, ?_⟩
 .obtain ⟨xs, e, q⟩ := ok.cont j b fs q1 (up j fs q2).2;exact ⟨xs, e, cM.mono' q le⟩
 .exact ok.inj j k b fs gs q1 q2 (up j fs q3).2 (up k gs q4).2
 .show bx K _ _ (.lst es) (.ref a);unfold bx;refine ⟨a, xs, rfl, ?_, cM.mono' ra le⟩;have nl : ¬ ni W.ad (W.mu.set i none) a := λ zq3 => by
   obtain ⟨j, fs, q1, q2⟩ := zq3;obtain ⟨hj, q⟩ := up j fs q2;exact hj (ok.inj i j a es fs e1 q1 e2 q)
  have nt : a ∉ tb := λ z => by
   obtain ⟨ps, e, _⟩ := ok.tab a z;rw [ea] at e; cases e
  have q := pH (tb := tb) (W := ⟨W.H, W.ad, W.mu.set i none⟩) nl nt;rw [q]; exact ea
theorem WOk.tbl (ok : WOk K tb W) {P : Addr} {lo : Nat} {ps ps' : Array Value} {H' : Hp} (hP : P ∈ tb) (e : W.H P = some (.tbl ps)) (hG : Cd lo P ps ps' W.H H') :
  WOk K tb ⟨H', W.ad, W.mu⟩ /\ Le tb W ⟨H', W.ad, W.mu⟩ := by
 have le : Le tb W ⟨H', W.ad, W.mu⟩ := ⟨λ b u q => by
  obtain ⟨p1, p2, p3⟩ := dM q;have q := pH (tb := tb) (W := ⟨H', W.ad, W.mu⟩) (b := b) p2 p3;rw [q];exact hG.keep b u (λ z => p3 (z ▸ hP)) p1, oZ.refl _⟩
 refine ⟨⟨ok.len, λ i a ds e1 e2 => ?_, ok.inj, λ Q hQ => ?_⟩, le⟩
 .obtain ⟨xs, ea, r⟩ := ok.cont i a ds e1 e2;exact ⟨xs, hG.keep a _ (Ao ea e (by intro z; cases z)) ea, cM.mono' r le⟩
 .by_cases hq : Q = P
  .subst hq; exact ⟨ps', hG.tab, hG.ok⟩
  .obtain ⟨qs, e', r⟩ := ok.tab Q hQ;exact ⟨qs, hG.keep Q _ hq e', r.mono λ c u q => hG.keep c _ (Ao q e (by intro z; cases z)) q⟩
end
abbrev SV := L2.St
abbrev EF := En -> Mu -> Option (D × Mu)
abbrev AF := En -> Mu -> Option (List D × Mu)
abbrev TF := En -> Mu -> Option (Bool × Mu)
inductive Fl where
 | nx | bk | ct | rt (d : D)
abbrev SF := En -> Mu -> Option (Fl × En × Mu)
def jC (K : PySem.W.Frag) (tb : List Addr) (W : Wd) (δ : En) (σ : SV) : Prop := δ.length = σ.length /\ ∀ (i : Nat) d, δ[i]? = some (some d) -> ∃ v, σ[i]? = some (some v) /\ Den K tb W d v
section
variable {K : PySem.W.Frag} {tb : List Addr} {W W' : Wd} {δ : En} {σ : SV}
theorem jC.mono' (h : jC K tb W δ σ) (l : Le tb W W') : jC K tb W' δ σ := ⟨h.1, λ i d e => let ⟨v, e1, e2⟩ := h.2 i d e; ⟨v, e1, Den.mono' e2 l⟩⟩
theorem jC.set (h : jC K tb W δ σ) (r : Den K tb W d v) : jC K tb W (δ.set i (some d)) (σ.set i (some v)) := by
 refine ⟨by rw [List.length_set, List.length_set]; exact h.1, λ j e q => ?_⟩
 by_cases hj : i = j
 .subst hj;have hi : i < δ.length := by
   have := (Zh.mp q).1
   rwa [List.length_set] at this
  rw [List.getElem?_set_self hi] at q;cases q;exact ⟨v, by rw [List.getElem?_set_self (by rw [<- h.1]; exact hi)], r⟩
 .rw [List.getElem?_set_ne hj] at q ⊢;exact h.2 j e q
end
def tD (K : PySem.W.Frag) (tb : List Addr) (f : EF) : TE := λ σ H Q => ∃ W δ d μ', W.H = H /\ WOk K tb W /\ jC K tb W δ σ /\ f δ W.mu = some (d, μ') /\
 ∀ v W', WOk K tb W' -> Le tb W W' -> W'.mu = μ' -> Den K tb W' d v -> Q v W'.H
def tDA (K : PySem.W.Frag) (tb : List Addr) (f : AF) : TA := λ σ H Q => ∃ W δ ds μ', W.H = H /\ WOk K tb W /\ jC K tb W δ σ /\ f δ W.mu = some (ds, μ') /\
 ∀ vs W', WOk K tb W' -> Le tb W W' -> W'.mu = μ' -> cM K tb W' ds vs -> Q vs W'.H
def tDT (K : PySem.W.Frag) (tb : List Addr) (f : TF) : TT := λ σ H Q => ∃ W δ b μ', W.H = H /\ WOk K tb W /\ jC K tb W δ σ /\ f δ W.mu = some (b, μ') /\
 ∀ W', WOk K tb W' -> Le tb W W' -> W'.mu = μ' -> Q b W'.H
def EndD (K : PySem.W.Frag) (tb : List Addr) (E : Ends) (fl : Fl) (σ : SV) (W : Wd) : Prop := match fl with
 | .nx => E.nx σ W.H
 | .bk => E.bk σ W.H
 | .ct => E.ct σ W.H
 | .rt d => ∀ v, Den K tb W d v -> E.rt v W.H
def tDS (K : PySem.W.Frag) (tb : List Addr) (g : SF) : TS := λ E σ H => ∃ W δ fl δ' μ', W.H = H /\ WOk K tb W /\ jC K tb W δ σ /\ g δ W.mu = some (fl, δ', μ') /\
 ∀ σ' W', WOk K tb W' -> Le tb W W' -> W'.mu = μ' -> jC K tb W' δ' σ' -> EndD K tb E fl σ' W'
def PD (X : Cx) (tb : List Addr) (e : Expr) (f : EF) : Prop := PE X e (tD X.K tb f)
def PAD (X : Cx) (tb : List Addr) (es : List Expr) (f : AF) : Prop := PA X es (tDA X.K tb f)
def PTD (X : Cx) (tb : List Addr) (e : Expr) (f : TF) : Prop := PT X e (tDT X.K tb f)
def PWD (X : Cx) (tb : List Addr) (e : Expr) (f : TF) : Prop := PW X e (tDT X.K tb f)
def PSD (X : Cx) (tb : List Addr) (st : Stmt) (g : SF) : Prop := PS X st (tDS X.K tb g)
def ww (X : Cx) (tb : List Addr) (st : List Stmt) (g : SF) : Prop := PSs X st (tDS X.K tb g)
theorem dU (h : PE X e t) (k : ∀ σ H Q, t' σ H Q -> t σ H Q) : PE X e t' := λ pins s σ H Q I hq => h pins s σ H Q I (k σ H Q hq)
theorem PX (h : PA X e t) (k : ∀ σ H Q, t' σ H Q -> t σ H Q) : PA X e t' := λ pos pins s σ H Q I hq => h pos pins s σ H Q I (k σ H Q hq)
theorem KR (h : PT X e t) (k : ∀ σ H Q, t' σ H Q -> t σ H Q) : PT X e t' := λ pins s σ H Q I hq => h pins s σ H Q I (k σ H Q hq)
theorem Qj (h : PW X e t) (k : ∀ σ H Q, t' σ H Q -> t σ H Q) : PW X e t' := λ wh pins s σ H Q I hq => h wh pins s σ H Q I (k σ H Q hq)
theorem lL (h : PS X e t) (k : ∀ E σ H, t' E σ H -> t E σ H) : PS X e t' := λ pins s σ H E I hq => h pins s σ H E I (k E σ H hq)
theorem Kd (h : PSs X e t) (k : ∀ E σ H, t' E σ H -> t E σ H) : PSs X e t' := λ pins s σ H E I hq => h pins s σ H E I (k E σ H hq)
def aq (i : Nat) : EF := λ δ μ => match δ[i]? with
 | some (some d) => some (d, μ)
 | _ => none
def mC (d : D) : EF := λ _ μ => some (d, μ)
def M1 (fa : EF) (op : D -> Mu -> Option (D × Mu)) : EF := λ δ μ => (fa δ μ).bind λ r => op r.1 r.2
def M2 (fa fb : EF) (op : D -> D -> Mu -> Option (D × Mu)) : EF := λ δ μ => (fa δ μ).bind λ r => (fb δ r.2).bind λ q => op r.1 q.1 q.2
def aB : AF := λ _ μ => some ([], μ)
def ao (f : EF) (fs : AF) : AF := λ δ μ => (f δ μ).bind λ r => (fs δ r.2).bind λ q => some (r.1 :: q.1, q.2)
def MC (fs : AF) (op : List D -> Mu -> Option (D × Mu)) : EF := λ δ μ => (fs δ μ).bind λ r => op r.1 r.2
def RD1 (K : PySem.W.Frag) (tb : List Addr) (r : V -> Hp -> VK -> Prop) (op : D -> Mu -> Option (D × Mu)) : Prop := ∀ (W : Wd) (x : D) (v : V) (d : D) (μ' : Mu) (Q : VK), WOk K tb W -> Den K tb W x v -> op x W.mu = some (d, μ') ->
 (∀ v W', WOk K tb W' -> Le tb W W' -> W'.mu = μ' -> Den K tb W' d v -> Q v W'.H) -> r v W.H Q
def RD2 (K : PySem.W.Frag) (tb : List Addr) (r : R2) (op : D -> D -> Mu -> Option (D × Mu)) : Prop := ∀ (W : Wd) (x y : D) (v u : V) (d : D) (μ' : Mu) (Q : VK), WOk K tb W -> Den K tb W x v -> Den K tb W y u -> op x y W.mu = some (d, μ') ->
 (∀ v W', WOk K tb W' -> Le tb W W' -> W'.mu = μ' -> Den K tb W' d v -> Q v W'.H) -> r v u W.H Q
def RDN (K : PySem.W.Frag) (tb : List Addr) (r : List V -> Hp -> VK -> Prop) (op : List D -> Mu -> Option (D × Mu)) : Prop := ∀ (W : Wd) (xs : List D) (vs : List V) (d : D) (μ' : Mu) (Q : VK), WOk K tb W -> cM K tb W xs vs -> op xs W.mu = some (d, μ') ->
 (∀ v W', WOk K tb W' -> Le tb W W' -> W'.mu = μ' -> Den K tb W' d v -> Q v W'.H) -> r vs W.H Q
section
variable {K : PySem.W.Frag} {tb : List Addr}
theorem put {W : Wd} {Q : VK} {d : D} {v : V} (ok : WOk K tb W) (h : ∀ v W', WOk K tb W' -> Le tb W W' -> W'.mu = W.mu -> Den K tb W' d v -> Q v W'.H) (r : Den K tb W d v) : Q v W.H := h v W ok (Le.refl _) rfl r
theorem eO : Den K tb W (.int i) (.int i) := by show bx _ _ _ _ _; unfold bx; rfl
theorem fG : Den K tb W (.bl b) (.bl b) := by show bx _ _ _ _ _; unfold bx; rfl
theorem qT : Den K tb W .non .non := by show bx _ _ _ _ _; unfold bx; rfl
theorem Ez : Den K tb W (.str x) (.str x) := by show bx _ _ _ _ _; unfold bx; rfl
theorem bB (h : Den K tb W (.int i) v) : v = .int i := by have h : bx _ _ _ _ _ := h; unfold bx at h; exact h
theorem pJ (h : Den K tb W (.bl b) v) : v = .bl b := by have h : bx _ _ _ _ _ := h; unfold bx at h; exact h
theorem KQ (h : Den K tb W .non v) : v = .non := by have h : bx _ _ _ _ _ := h; unfold bx at h; exact h
theorem vA (h : Den K tb W (.str x) v) : v = .str x := by have h : bx _ _ _ _ _ := h; unfold bx at h; exact h
theorem gW (h : Den K tb W (.tup ds) v) : ∃ a xs, v = .ref a /\ SqT K (W.fz tb) a xs /\ cM K tb W ds xs := by have h : bx _ _ _ _ _ := h; unfold bx at h; exact h
theorem oO (h : Den K tb W (.lst ds) v) : ∃ a xs, v = .ref a /\ W.fz tb a = some (.lst xs) /\ cM K tb W ds xs := by have h : bx _ _ _ _ _ := h; unfold bx at h; exact h
theorem lE (h : Den K tb W (.lst ds) v) : ∃ a xs, v = .ref a /\ SqL K (W.fz tb) a xs /\ cM K tb W ds xs := let ⟨a, xs, e, q, r⟩ := oO h; ⟨a, xs, e, SqL.of q, r⟩
theorem xP (h : Den K tb W (.ro ds) v) : ∃ a xs, v = .ref a /\ SqL K (W.fz tb) a xs /\ cM K tb W ds xs := by have h : bx _ _ _ _ _ := h; unfold bx at h; exact h
theorem Rt (h : Den K tb W (.dic kvs) v) : ∃ a ps, v = .ref a /\ W.fz tb a = some (.dK ps) /\ gC K (W.fz tb) W.ad kvs ps := by have h : bx _ _ _ _ _ := h; unfold bx at h; exact h
theorem iH (h : Den K tb W (.cell n) v) : ∃ a, v = .ref a /\ W.ad[n]? = some a := by have h : bx _ _ _ _ _ := h; unfold bx at h; exact h
theorem oK {W : Wd} {Q : VK} {ds : List D} {vs : List V} {p : Addr} (ok : WOk K tb W) (h : ∀ v W', WOk K tb W' -> Le tb W W' -> W'.mu = W.mu -> Den K tb W' (.tup ds) v -> Q v W'.H) (r : cM K tb W ds vs) (hp : W.H p = none) : Q (.ref p) (upd W.H p (.tup vs)) := by
 obtain ⟨ok', le, e⟩ := ok.alloc (o := .tup vs) hp;refine h (.ref p) _ ok' le rfl ?_;show bx _ _ _ _ _;unfold bx;exact ⟨p, vs, rfl, .inl (.inl e), cM.mono' r le⟩
theorem lq {W : Wd} {Q : VK} {ds : List D} {vs : List V} {p : Addr} (ok : WOk K tb W) (h : ∀ v W', WOk K tb W' -> Le tb W W' -> W'.mu = W.mu -> Den K tb W' (.lst ds) v -> Q v W'.H) (r : cM K tb W ds vs) (hp : W.H p = none) : Q (.ref p) (upd W.H p (.lst vs)) := by
 obtain ⟨ok', le, e⟩ := ok.alloc (o := .lst vs) hp;refine h (.ref p) _ ok' le rfl ?_;show bx _ _ _ _ _;unfold bx;exact ⟨p, vs, rfl, e, cM.mono' r le⟩
end
section
variable {X : Cx} {tb : List Addr} {a b c e : Expr} {fa fb fc f : EF} {pos : Pos}
theorem Sv {i : Nat} {x : Str} (hN : X.N[i]? = some x) (hv : Vis X.env.scope x) (hd : (x == ("__debug__" : Str)) = false := by decide) (hcd : (x == ("__classdict__" : Str)) = false := by decide) : PD X tb (.Name x pos) (aq i) :=
 dU (RW hN hv hd hcd) λ σ H Q zq1 => by
  obtain ⟨W, δ, d, μ', e, ok, hd, hf, h⟩ := zq1;subst e;unfold aq at hf;split at hf
  .rename_i d' e;cases hf;obtain ⟨v, ev, r⟩ := hd.2 i _ e;exact ⟨v, ev, put ok h r⟩
  .cases hf
theorem qC {d : D} {v : V} (hp : PE X e (tC v)) (hd : ∀ W, Den X.K tb W d v) : PD X tb e (mC d) :=
 dU hp λ σ H Q zq2 => by
  obtain ⟨W, δ, d', μ', e, ok, _, hf, h⟩ := zq2;subst e;cases hf;exact put ok h (hd W)
theorem az {i j} : PD X tb (.Constant (.int i) j pos) (mC (.int i)) := qC Jl λ _ => eO
theorem iB {i j} : PD X tb (.Constant (.bool i) j pos) (mC (.bl i)) := qC Wc λ _ => fG
theorem DG {j} : PD X tb (.Constant .none j pos) (mC .non) := qC Qy λ _ => qT
theorem DR {i j} : PD X tb (.Constant (.str i) j pos) (mC (.str i)) := qC Qt λ _ => Ez
theorem Te {r : V -> Hp -> VK -> Prop} (hp : ∀ ta, PE X a ta -> PE X e (tUn r ta)) (ho : RD1 X.K tb r op) (ha : PD X tb a fa) : PD X tb e (M1 fa op) :=
 dU (hp _ ha) λ σ H Q zq3 => by
  obtain ⟨W, δ, d, μ', e, ok, hd, hf, h⟩ := zq3;unfold M1 at hf;obtain ⟨⟨x, μ1⟩, e1, e2⟩ := Za.mp hf;exact ⟨W, δ, x, μ1, e, ok, hd, e1, λ v W1 ok1 l1 m1 d1 => ho W1 x v d μ' Q ok1 d1 (by rw [m1]; exact e2) λ v' W' ok' l' m' d' => h v' W' ok' (l1.trans l') m' d'⟩
theorem Dn (hp : ∀ ta tb, PE X a ta -> PE X b tb -> PE X e (tOp r ta tb)) (ho : RD2 X.K tb r op) (ha : PD X tb a fa) (hb : PD X tb b fb) : PD X tb e (M2 fa fb op) :=
 dU (hp _ _ ha hb) λ σ H Q zq4 => by
  obtain ⟨W, δ, d, μ', e, ok, hd, hf, h⟩ := zq4;unfold M2 at hf;obtain ⟨⟨x, μ1⟩, e1, hf⟩ := Za.mp hf;obtain ⟨⟨y, μ2⟩, e2, e3⟩ := Za.mp hf;refine ⟨W, δ, x, μ1, e, ok, hd, e1, λ v W1 ok1 l1 m1 d1 => ⟨W1, δ, y, μ2, rfl, ok1, hd.mono' l1, (by rw [m1]; exact e2), λ u W2 ok2 l2 m2 d2 => ?_⟩⟩
  exact ho W2 x y v u d μ' Q ok2 (Den.mono' d1 l2) d2 (by rw [m2]; exact e3) λ v' W' ok' l' m' d' => h v' W' ok' ((l1.trans l2).trans l') m' d'
theorem au : PAD X tb [] aB := PX yG λ σ H Q zq5 => by
 obtain ⟨W, δ, d, μ', e, ok, hd, hf, h⟩ := zq5;subst e; cases hf;exact h [] W ok (Le.refl _) rfl aD.nil
theorem aa (ha : PD X tb e f) (hr : PAD X tb es fs) (hs : starEach (e :: es) X.env = (false, eval e X.env) :: starEach es X.env := by rfl) : PAD X tb (e :: es) (ao f fs) :=
 PX (qm ha hr hs) λ σ H Q zq6 => by
  obtain ⟨W, δ, ds, μ', e, ok, hd, hf, h⟩ := zq6;unfold ao at hf;obtain ⟨⟨x, μ1⟩, e1, hf⟩ := Za.mp hf;obtain ⟨⟨xs, μ2⟩, e2, e3⟩ := Za.mp hf;cases e3;refine ⟨W, δ, x, μ1, e, ok, hd, e1, λ v W1 ok1 l1 m1 d1 => ⟨W1, δ, xs, _, rfl, ok1, hd.mono' l1, (by rw [m1]; exact e2), λ vs W2 ok2 l2 m2 d2 => ?_⟩⟩
  exact h (v :: vs) W2 ok2 (l1.trans l2) m2 (aD.cons (Den.mono' d1 l2) d2)
theorem Gf {r : List V -> Hp -> VK -> Prop} (hp : ∀ ta, PA X es ta -> PE X e (tCB r ta)) (ho : RDN X.K tb r op) (ha : PAD X tb es fs) : PD X tb e (MC fs op) :=
 dU (hp _ ha) λ σ H Q zq7 => by
  obtain ⟨W, δ, d, μ', e, ok, hd, hf, h⟩ := zq7;unfold MC at hf;obtain ⟨⟨x, μ1⟩, e1, e2⟩ := Za.mp hf;exact ⟨W, δ, x, μ1, e, ok, hd, e1, λ v W1 ok1 l1 m1 d1 => ho W1 x v d μ' Q ok1 d1 (by rw [m1]; exact e2) λ v' W' ok' l' m' d' => h v' W' ok' (l1.trans l') m' d'⟩
def oTup (ds : List D) (μ : Mu) : Option (D × Mu) := if ds.length <= sizeLine then some (.tup ds, μ) else none
def oLst (ds : List D) (μ : Mu) : Option (D × Mu) := if ds.length <= sizeLine then some (.lst ds, μ) else none
theorem aZ {es : List Expr} {fs : AF} {x1} (h : PAD X tb es fs) : PD X tb (.Tuple es x1 pos) (MC fs oTup) :=
 Gf (r := λ xs H Q => xs.length <= sizeLine /\ ∀ p, H p = none -> Q (.ref p) (upd H p (.tup xs))) (λ ta h => Rn h) (λ W xs vs d μ' Q ok r ho h => by
  unfold oTup at ho;split at ho
  .rename_i hl;cases ho;exact ⟨by rw [<- aD.length r]; exact hl, λ p hp => oK ok h r hp⟩
  .cases ho) h
theorem cZ {es : List Expr} {fs : AF} (h : PAD X tb es fs) : PD X tb (.List es pos) (MC fs oLst) :=
 Gf (r := λ xs H Q => xs.length <= sizeLine /\ ∀ p, H p = none -> Q (.ref p) (upd H p (.lst xs))) (λ ta h => Im h) (λ W xs vs d μ' Q ok r ho h => by
  unfold oLst at ho;split at ho
  .rename_i hl;cases ho;exact ⟨by rw [<- aD.length r]; exact hl, λ p hp => lq ok h r hp⟩
  .cases ho) h
def zQ : D -> Mu -> Option Bool
 | .bl b, _ => some b
 | .int i, _ => some (i != 0)
 | .non, _ => some false
 | .tup ds, _ => some !ds.isEmpty
 | .lst ds, _ => some !ds.isEmpty
 | .cell n, μ => match μ[n]? with
  | some (some ds) => some !ds.isEmpty
  | _ => none
 | _, _ => none
end
section
variable {K : PySem.W.Frag} {tb : List Addr}
theorem Ob (ok : WOk K tb W) (h : Den K tb W x v) (e : zQ x W.mu = some k) : Tw K v W.H k := by
 cases x with
 | non => rw [KQ h]; cases e; rfl
 | bl b => rw [pJ h]; cases e; rfl
 | int i => rw [bB h]; cases e; rfl
 | str y => cases e
 | dic y => cases e
 | ro y => cases e
 | tup ds =>
  obtain ⟨a, xs, rfl, q, r⟩ := gW h;cases e;refine .inr (.inl ⟨xs, SqT.fz q, ?_⟩);have := aD.length r;cases ds <;> cases xs <;> simp_all
 | lst ds =>
  obtain ⟨a, xs, rfl, q, r⟩ := lE h;cases e;refine .inl ⟨xs, SqL.fz q, ?_⟩;have := aD.length r;cases ds <;> cases xs <;> simp_all
 | cell n =>
  obtain ⟨a, rfl, q⟩ := iH h;have e' : (match W.mu[n]? with | some (some ds) => some !ds.isEmpty | _ => none) = some k := e
  cases e2 : W.mu[n]? with
  | none => rw [e2] at e'; cases e'
  | some o =>
   cases o with
   | none => rw [e2] at e'; cases e'
   | some ds =>
    rw [e2] at e';have e'' : some (!ds.isEmpty) = some k := e';cases e'';obtain ⟨xs, e3, r⟩ := ok.cont n a ds q e2;refine .inl ⟨xs, SqL.of e3, ?_⟩;have := aD.length r;cases ds <;> cases xs <;> simp_all
end
section
variable {X : Cx} {tb : List Addr} {a b c e : Expr} {fa fb fc f : EF} {ta tc : TF} {pos : Pos}
def iC (f : EF) : TF := λ δ μ => (f δ μ).bind λ r => (zQ r.1 r.2).map λ k => (k, r.2)
theorem dJ (h : PD X tb e f) (he : ∀ whole, isTrue e X.env whole = (do let v <- whole; standAt e.pos; holding [v] (truthy v)) := by intro _; rfl) : PTD X tb e (iC f) :=
 KR (Ir h he) λ σ H Q zq1 => by
  obtain ⟨W, δ, k, μ', e, ok, hd, hf, h⟩ := zq1;unfold iC at hf;obtain ⟨⟨x, μ1⟩, e1, e2⟩ := Za.mp hf;obtain ⟨k', e3, e4⟩ := Zp.mp e2;cases e4;exact ⟨W, δ, x, _, e, ok, hd, e1, λ v W1 ok1 l1 m1 d1 => ⟨k, Ob ok1 d1 (by rw [m1]; exact e3), h W1 ok1 l1 m1⟩⟩
structure OpD (X : Cx) (tb : List Addr) (sem : Value -> Value -> Sem Value) (op : D -> D -> Mu -> Option (D × Mu)) : Prop where
 ex : ∃ r, OpR X sem r /\ RD2 X.K tb r op
theorem aG (ho : OpD X tb (binaryOp o) op) (ha : PD X tb a fa) (hb : PD X tb b fb) : PD X tb (.BinOp a o b pos) (M2 fa fb op) := by
 obtain ⟨r, h1, h2⟩ := ho.ex;exact Dn (λ ta tb ha hb => Qg h1 ha hb) h2 ha hb
theorem lA (ho : OpD X tb (compareOp o) op) (ha : PD X tb a fa) (hb : PD X tb b fb) (hm : behindInMarks o b = false := by first | exact Ae _ (by decide) (by decide) | rfl) : PD X tb (.Compare a [o] [b] pos) (M2 fa fb op) := by
 obtain ⟨r, h1, h2⟩ := ho.ex;exact Dn (λ ta tb ha hb => LK h1 ha hb hm) h2 ha hb
def toB (f : EF) : TF := λ δ μ => (f δ μ).bind λ r => match r.1 with
 | .bl k => some (k, r.2)
 | _ => none
theorem bw (ho : OpD X tb (compareOp o) op) (ha : PD X tb a fa) (hb : PD X tb b fb) (hm : behindInMarks o b = false := by first | exact Ae _ (by decide) (by decide) | rfl) : PTD X tb (.Compare a [o] [b] pos) (toB (M2 fa fb op)) := by
 obtain ⟨r, h1, h2⟩ := ho.ex;refine KR (Ma h1 ha hb hm) λ σ H Q zq2 => ?_;obtain ⟨W, δ, k, μ', e, ok, hd, hf, h⟩ := zq2;unfold toB at hf;obtain ⟨⟨z, μz⟩, hf, ez⟩ := Za.mp hf;unfold M2 at hf;obtain ⟨⟨x, μ1⟩, e1, hf⟩ := Za.mp hf;obtain ⟨⟨y, μ2⟩, e2, e3⟩ := Za.mp hf;cases z with
 | bl k' =>
  cases ez;refine ⟨W, δ, x, μ1, e, ok, hd, e1, λ v W1 ok1 l1 m1 d1 => ⟨W1, δ, y, μ2, rfl, ok1, hd.mono' l1, (by rw [m1]; exact e2), λ u W2 ok2 l2 m2 d2 => ?_⟩⟩
  refine h2 W2 x y v u _ _ _ ok2 (Den.mono' d1 l2) d2 (by rw [m2]; exact e3) λ v' W' ok' l' m' d' => ?_
  exact ⟨k, pJ d', h W' ok' ((l1.trans l2).trans l') m'⟩
 | _ => cases ez
def MCh (fa fb fc : EF) (op op' : D -> D -> Mu -> Option (D × Mu)) : EF := λ δ μ => (fa δ μ).bind λ r => (fb δ r.2).bind λ q => (op r.1 q.1 q.2).bind λ z => match z.1 with
 | .bl true => (fc δ z.2).bind λ t => op' q.1 t.1 t.2
 | .bl false => some (.bl false, z.2)
 | _ => none
theorem Ih (h1 : RD2 X.K tb r op) (h2 : RD2 X.K tb r' op') (h : tD X.K tb (MCh fa fb fc op op') σ H Q) : HS r r' (tD X.K tb fa) (tD X.K tb fb) (tD X.K tb fc) σ H Q := by
 obtain ⟨W, δ, d, μ', e, ok, hd, hf, h⟩ := h;unfold MCh at hf;obtain ⟨⟨x, μ1⟩, e1, hf⟩ := Za.mp hf;obtain ⟨⟨y, μ2⟩, e2, hf⟩ := Za.mp hf;obtain ⟨⟨z, μ3⟩, e3, hf⟩ := Za.mp hf;refine ⟨W, δ, x, μ1, e, ok, hd, e1, λ v W1 ok1 l1 m1 d1 => ⟨W1, δ, y, μ2, rfl, ok1, hd.mono' l1, (by rw [m1]; exact e2), λ u W2 ok2 l2 m2 d2 => ?_⟩⟩
 refine h1 W2 x y v u _ _ _ ok2 (Den.mono' d1 l2) d2 (by rw [m2]; exact e3) λ v' W3 ok3 l3 m3 d3 => ?_
 cases z with
 | bl k =>
  cases k with
  | true =>
  refine ⟨true, pJ d3, ?_⟩;rw [if_pos rfl];obtain ⟨⟨t, μ4⟩, e4, e5⟩ := Za.mp hf;refine ⟨W3, δ, t, μ4, rfl, ok3, hd.mono' ((l1.trans l2).trans l3), (by rw [m3]; exact e4), λ w' W4 ok4 l4 m4 d4 => ?_⟩
  exact h2 W4 y t u w' _ _ _ ok4 (Den.mono' d2 (l3.trans l4)) d4 (by rw [m4]; exact e5) λ v'' W' ok' l' m' d' => h v'' W' ok' ((((l1.trans l2).trans l3).trans l4).trans l') m' d'
  | false =>
  cases hf;refine ⟨false, pJ d3, ?_⟩;rw [if_neg Zr];exact h _ W3 ok3 ((l1.trans l2).trans l3) m3 fG
 | _ => cases hf
theorem KJ (ho : OpD X tb (compareOp o) op) (ho' : OpD X tb (compareOp o') op') (ha : PD X tb a fa) (hb : PD X tb b fb) (hc : PD X tb c fc)
  (hm : lastMarks [o, o'] [b, c] = false := by with_unfolding_all rfl) : PD X tb (.Compare a [o, o'] [b, c] pos) (MCh fa fb fc op op') := by
 obtain ⟨r, h1, h2⟩ := ho.ex;obtain ⟨r', h1', h2'⟩ := ho'.ex;exact dU (Jq h1 h1' ha hb hc hm) λ σ H Q h => Ih h2 h2' h
def ou (ta tc : TF) : TF := λ δ μ => (ta δ μ).bind λ r => if r.1 = true then tc δ r.2 else some (false, r.2)
def gV (ta tc : TF) : TF := λ δ μ => (ta δ μ).bind λ r => if r.1 = true then some (true, r.2) else tc δ r.2
def dN (ta : TF) : TF := λ δ μ => (ta δ μ).bind λ r => some (!r.1, r.2)
theorem zB (ha : PTD X tb a ta) : PWD X tb (.BoolOp .And [a] pos) ta := Pj ha
theorem iU (ha : PTD X tb a ta) : PWD X tb (.BoolOp .Or [a] pos) ta := Tr ha
theorem yW {rest : List Expr} (ha : PTD X tb a ta) (hb : PWD X tb (.BoolOp .And (b :: rest) pos) tc) : PWD X tb (.BoolOp .And (a :: b :: rest) pos) (ou ta tc) :=
 Qj (RB ha hb) λ σ H Q zq4 => by
  obtain ⟨W, δ, k, μ', e, ok, hd, hf, h⟩ := zq4;unfold ou at hf;obtain ⟨⟨z, μz⟩, e1, e2⟩ := Za.mp hf;refine ⟨W, δ, z, μz, e, ok, hd, e1, λ W1 ok1 l1 m1 => ?_⟩;cases z with
  | true => exact ⟨W1, δ, k, μ', rfl, ok1, hd.mono' l1, (by rw [m1]; exact e2), λ W' ok' l' m' => h W' ok' (l1.trans l') m'⟩
  | false => cases e2; exact h W1 ok1 l1 m1
theorem gF {rest : List Expr} (ha : PTD X tb a ta) (hb : PWD X tb (.BoolOp .Or (b :: rest) pos) tc) : PWD X tb (.BoolOp .Or (a :: b :: rest) pos) (gV ta tc) :=
 Qj (Vu ha hb) λ σ H Q zq5 => by
  obtain ⟨W, δ, k, μ', e, ok, hd, hf, h⟩ := zq5;unfold gV at hf;obtain ⟨⟨z, μz⟩, e1, e2⟩ := Za.mp hf;refine ⟨W, δ, z, μz, e, ok, hd, e1, λ W1 ok1 l1 m1 => ?_⟩;cases z with
  | false => exact ⟨W1, δ, k, μ', rfl, ok1, hd.mono' l1, (by rw [m1]; exact e2), λ W' ok' l' m' => h W' ok' (l1.trans l') m'⟩
  | true => cases e2; exact h W1 ok1 l1 m1
theorem ji (h : PWD X tb a ta) : PTD X tb a ta := PW.pt h
theorem dI (ha : PTD X tb a ta) : PTD X tb (.UnaryOp .Not a pos) (dN ta) :=
 KR (Tt ha) λ σ H Q zq6 => by
  obtain ⟨W, δ, k, μ', e, ok, hd, hf, h⟩ := zq6;unfold dN at hf;obtain ⟨⟨z, μz⟩, e1, e2⟩ := Za.mp hf;cases e2;exact ⟨W, δ, z, _, e, ok, hd, e1, λ W1 ok1 l1 m1 => h W1 ok1 l1 m1⟩
def jG (fa fb : EF) : EF := λ δ μ => (fa δ μ).bind λ r => match r.1 with
 | .bl true => fb δ r.2
 | .bl false => some (.bl false, r.2)
 | _ => none
def oh (fa : EF) : EF := λ δ μ => (fa δ μ).bind λ r => match r.1 with
 | .bl k => some (.bl !k, r.2)
 | _ => none
theorem jH {o} (ha : PD X tb a fa) : PD X tb (.BoolOp o [a] pos) fa := Sy ha
theorem lB {rest : List Expr} (ha : PD X tb a fa) (hb : PD X tb (.BoolOp .And (b :: rest) pos) fb) : PD X tb (.BoolOp .And (a :: b :: rest) pos) (jG fa fb) :=
 dU (RC ha hb) λ σ H Q zq7 => by
  obtain ⟨W, δ, d, μ', e, ok, hd, hf, h⟩ := zq7;unfold jG at hf;obtain ⟨⟨z, μz⟩, e1, e2⟩ := Za.mp hf;refine ⟨W, δ, z, μz, e, ok, hd, e1, λ v W1 ok1 l1 m1 d1 => ?_⟩;cases z with
  | bl k =>
   cases k with
   | true =>
   refine ⟨true, pJ d1, ?_⟩;rw [if_pos rfl];exact ⟨W1, δ, d, μ', rfl, ok1, hd.mono' l1, (by rw [m1]; exact e2), λ v W' ok' l' m' d' => h v W' ok' (l1.trans l') m' d'⟩
   | false =>
   cases e2;refine ⟨false, pJ d1, ?_⟩;rw [if_neg Zr];exact h _ W1 ok1 l1 m1 fG
  | _ => cases e2
theorem ul (ha : PD X tb a fa) : PD X tb (.UnaryOp .Not a pos) (oh fa) :=
 dU (QQ ha) λ σ H Q zq9 => by
  obtain ⟨W, δ, d, μ', e, ok, hd, hf, h⟩ := zq9;unfold oh at hf;obtain ⟨⟨z, μz⟩, e1, e2⟩ := Za.mp hf;refine ⟨W, δ, z, μz, e, ok, hd, e1, λ v W1 ok1 l1 m1 d1 => ?_⟩;cases z with
  | bl k =>
   cases e2;exact ⟨k, pJ d1, h _ W1 ok1 l1 m1 fG⟩
  | _ => cases e2
end
def bH : SF := λ δ μ => some (.nx, δ, μ)
def vM : SF := λ δ μ => some (.bk, δ, μ)
def aO (g h : SF) : SF := λ δ μ => (g δ μ).bind λ r => match r.1 with
 | .nx => h r.2.1 r.2.2
 | _ => some r
def gK (f : EF) : SF := λ δ μ => (f δ μ).bind λ r => some (.nx, δ, r.2)
def bh (f : EF) : SF := λ δ μ => (f δ μ).bind λ r => some (.rt r.1, δ, r.2)
def sIf (c : TF) (g h : SF) : SF := λ δ μ => (c δ μ).bind λ r => if r.1 = true then g δ r.2 else h δ r.2
def bf (i : Nat) (f : EF) : SF := λ δ μ => (f δ μ).bind λ r => some (.nx, δ.set i (some r.1), r.2)
section
variable {X : Cx} {tb : List Addr} {e : Expr} {f : EF} {g h : SF} {st : Stmt} {rest : List Stmt} {pos : Pos}
theorem bj : ww X tb [] bH := Kd Lx λ E σ H zq11 => by
 obtain ⟨W, δ, fl, δ', μ', e, ok, hd, hf, h⟩ := zq11;subst e; cases hf;exact h σ W ok (Le.refl _) rfl hd
theorem aF (h1 : PSD X tb st g) : ww X tb [st] g := Pa h1
theorem aC (h1 : PSD X tb st g) (h2 : ww X tb rest h) : ww X tb (st :: rest) (aO g h) :=
 Kd (JF h1 h2) λ E σ H zq12 => by
  obtain ⟨W, δ, fl, δ', μ', e, ok, hd, hf, k⟩ := zq12;unfold aO at hf;obtain ⟨⟨fl1, δ1, μ1⟩, e1, e2⟩ := Za.mp hf;refine ⟨W, δ, fl1, δ1, μ1, e, ok, hd, e1, λ σ1 W1 ok1 l1 m1 d1 => ?_⟩;cases fl1 with
  | nx => exact ⟨W1, δ1, fl, δ', μ', rfl, ok1, d1, (by rw [m1]; exact e2), λ σ' W' ok' l' m' d' => k σ' W' ok' (l1.trans l') m' d'⟩
  | bk => cases e2; exact k σ1 W1 ok1 l1 m1 d1
  | ct => cases e2; exact k σ1 W1 ok1 l1 m1 d1
  | rt d => cases e2; exact k σ1 W1 ok1 l1 m1 d1
theorem GC : PSD X tb (.Break pos) vM := lL JL λ E σ H zq14 => by
 obtain ⟨W, δ, fl, δ', μ', e, ok, hd, hf, h⟩ := zq14;subst e; cases hf;exact h σ W ok (Le.refl _) rfl hd
theorem jt (he : PD X tb e f) (hs : swapsWith e none pos.line X.env = pure false := by rfl) : PSD X tb (.Expr e pos) (gK f) :=
 lL (Ot he hs) λ E σ H zq16 => by
  obtain ⟨W, δ, fl, δ', μ', e, ok, hd, hf, h⟩ := zq16;unfold gK at hf;obtain ⟨⟨x, μ1⟩, e1, e2⟩ := Za.mp hf;cases e2;exact ⟨W, δ, x, _, e, ok, hd, e1, λ v W1 ok1 l1 m1 d1 => h σ W1 ok1 l1 m1 (hd.mono' l1)⟩
theorem aM (he : PD X tb e f) : PSD X tb (.Return (some e) pos) (bh f) :=
 lL (Tq he) λ E σ H zq17 => by
  obtain ⟨W, δ, fl, δ', μ', e, ok, hd, hf, h⟩ := zq17;unfold bh at hf;obtain ⟨⟨x, μ1⟩, e1, e2⟩ := Za.mp hf;cases e2;exact ⟨W, δ, x, _, e, ok, hd, e1, λ v W1 ok1 l1 m1 d1 => h σ W1 ok1 l1 m1 (hd.mono' l1) v d1⟩
theorem bT (hc : PTD X tb c tc) (ha : ww X tb as g) (hb : ww X tb bs h) : PSD X tb (.If c as bs pos) (sIf tc g h) :=
 lL (Vo hc ha hb) λ E σ H zq18 => by
  obtain ⟨W, δ, fl, δ', μ', e, ok, hd, hf, k⟩ := zq18;unfold sIf at hf;obtain ⟨⟨z, μ1⟩, e1, e2⟩ := Za.mp hf;refine ⟨W, δ, z, μ1, e, ok, hd, e1, λ W1 ok1 l1 m1 => ?_⟩;cases z with
  | true => exact ⟨W1, δ, fl, δ', μ', rfl, ok1, hd.mono' l1, (by rw [m1]; exact e2), λ σ' W' ok' l' m' d' => k σ' W' ok' (l1.trans l') m' d'⟩
  | false => exact ⟨W1, δ, fl, δ', μ', rfl, ok1, hd.mono' l1, (by rw [m1]; exact e2), λ σ' W' ok' l' m' d' => k σ' W' ok' (l1.trans l') m' d'⟩
theorem aU (hN : X.N.Nodup) (he : PD X tb e f) (hi : X.N[i]? = some x := by rfl) (hx : Loc X.env.scope x := by first | exact Or.inl rfl | exact Or.inr rfl) (hs : swapsWith e (some (.Name x pos')) pos.line X.env = pure false := by rfl)
  (hf : X.fn x = true ∨ X.env.scope.names.lookup x = some .local := by first | exact .inl rfl | exact .inr rfl | assumption) : PSD X tb (.Assign [.Name x pos'] e pos) (bf i f) :=
 lL (Rv hN hi hx he hs hf) λ E σ H zq19 => by
  obtain ⟨W, δ, fl, δ', μ', e, ok, hd, hf, h⟩ := zq19;unfold bf at hf;obtain ⟨⟨x, μ1⟩, e1, e2⟩ := Za.mp hf;cases e2;exact ⟨W, δ, x, _, e, ok, hd, e1, λ v W1 ok1 l1 m1 d1 => h _ W1 ok1 l1 m1 ((hd.mono' l1).set d1)⟩
def wz (i j : Nat) (fs : AF) : SF := λ δ μ => (fs δ μ).bind λ r => match r.1 with
 | [x, y] => some (.nx, (δ.set i (some x)).set j (some y), r.2)
 | _ => none
theorem tZ {kt k2 pt2} (hc : X.calm = true) (hN : X.N.Nodup) (ha : PAD X tb [a, b] fs) (hij : i ≠ j := by decide) (hi : X.N[i]? = some x := by rfl) (hj : X.N[j]? = some y := by rfl)
  (hx : X.env.scope.names.lookup x = some .local := by rfl) (hy : X.env.scope.names.lookup y = some .local := by rfl)
  (hw : swappedStores [.Tuple [.Name x px, .Name y py] kt pt] (.Tuple [a, b] k2 pt2) X.env = pure (some [x, y]) := by rfl)
  (hs : swapsWithSole [.Tuple [.Name x px, .Name y py] kt pt] (.Tuple [a, b] k2 pt2) pos.line X.env = pure false := by rfl) :
  PSD X tb (.Assign [.Tuple [.Name x px, .Name y py] kt pt] (.Tuple [a, b] k2 pt2) pos) (wz i j fs) :=
 lL (SQ hc hN hi hj hij hx hy ha hw hs) λ E σ H zq20 => by
  obtain ⟨W, δ, fl, δ', μ', e, ok, hd, hf, h⟩ := zq20;unfold wz at hf;obtain ⟨⟨xs, μ1⟩, e1, e2⟩ := Za.mp hf
  match xs, e1, e2 with
  | [x, y], e1, e2 =>
   cases e2;refine ⟨W, δ, _, _, e, ok, hd, e1, λ vs W1 ok1 l1 m1 d1 => ?_⟩;obtain ⟨u, v, rfl, du, dv⟩ := aD.two d1;exact ⟨u, v, rfl, h _ W1 ok1 l1 m1 (((hd.mono' l1).set du).set dv)⟩
def fK (c : TF) (b : SF) : Nat -> SF
 | 0 => λ _ _ => none
 | n + 1 => λ δ μ => (c δ μ).bind λ r => if r.1 = true then (b δ r.2).bind λ q => match q.1 with
   | .nx => fK c b n q.2.1 q.2.2
   | .ct => fK c b n q.2.1 q.2.2
   | .bk => some (.nx, q.2)
   | .rt d => some (.rt d, q.2)
  else some (.nx, δ, r.2)
theorem lw : ∀ {n m : Nat} {δ : En} {μ : Mu} {r : Fl × En × Mu}, n <= m -> fK c b n δ μ = some r -> fK c b m δ μ = some r
 | 0, _, _, _, _, _, h => by cases h
 | n + 1, 0, _, _, _, hl, _ => by omega
 | n + 1, m + 1, δ, μ, r, hl, h => by
  unfold fK at h ⊢;obtain ⟨q, e1, e2⟩ := Za.mp h;rw [e1];show (if q.1 = true then _ else _) = _;by_cases hq : q.1 = true
  .rw [if_pos hq] at e2 ⊢;obtain ⟨t, e3, e4⟩ := Za.mp e2;rw [e3];show (match t.1 with | .nx => _ | .ct => _ | .bk => _ | .rt d => _) = _
   cases ht : t.1 with
   | nx => rw [ht] at e4; exact lw (by omega) e4
   | ct => rw [ht] at e4; exact lw (by omega) e4
   | bk => rw [ht] at e4; exact e4
   | rt d => rw [ht] at e4; exact e4
  .rw [if_neg hq] at e2 ⊢; exact e2
open Classical in
noncomputable def lV (c : TF) (b : SF) : SF := λ δ μ => if h : ∃ n r, fK c b n δ μ = some r then some (choose (choose_spec h)) else none
theorem sI (h : fK c b n δ μ = some r) : lV c b δ μ = some r := by
 have hx : ∃ n r, fK c b n δ μ = some r := ⟨n, r, h⟩;unfold lV;rw [dif_pos hx];have q := Classical.choose_spec (Classical.choose_spec hx);have a := lw (Nat.le_max_left n (Classical.choose hx)) h;have b := lw (Nat.le_max_right n (Classical.choose hx)) q;rw [a] at b;exact b.symm
theorem Hj (h : lV c b δ μ = some r) : ∃ n, fK c b n δ μ = some r := by
 unfold lV at h;split at h
 .rename_i hx;cases h;exact ⟨_, Classical.choose_spec (Classical.choose_spec hx)⟩
 .cases h
theorem rQ (hp : PassesOwn (model X.prog X.w) X.A X.env X.xe) (hc : PTD X tb c tc) (hb : ww X tb body g) : PSD X tb (.While c body [] pos) (lV tc g) :=
 lL (Kz hp hc hb) λ E σ H zq21 => by
  obtain ⟨W, δ, fl, δ', μ', e, ok, hd, hf, h⟩ := zq21;obtain ⟨n0, hn0⟩ := Hj hf;refine ⟨λ m σ1 H1 => ∃ W1 δ1, W1.H = H1 /\ WOk X.K tb W1 /\ Le tb W W1 /\ jC X.K tb W1 δ1 σ1 /\ fK tc g m δ1 W1.mu = some (fl, δ', μ'), ⟨n0, W, δ, e, ok, Le.refl _, hd, hn0⟩, ?_⟩;rintro m σ1 H1 ⟨W1, δ1, rfl, ok1, l1, d1, hn⟩;cases m with
  | zero => cases hn
  | succ m =>
   unfold fK at hn;obtain ⟨⟨k, μ2⟩, e1, e2⟩ := Za.mp hn;refine ⟨W1, δ1, k, μ2, rfl, ok1, d1, e1, λ W2 ok2 l2 m2 => ?_⟩;cases k with
   | false =>
    cases e2;rw [if_neg Zr];exact h σ1 W2 ok2 (l1.trans l2) m2 (d1.mono' l2)
   | true =>
    rw [if_pos rfl];obtain ⟨⟨fl3, δ3, μ3⟩, e3, e4⟩ := Za.mp e2;refine ⟨λ σ3 H3 => ∃ W3, W3.H = H3 /\ WOk X.K tb W3 /\ Le tb W W3 /\ jC X.K tb W3 δ3 σ3 /\ fK tc g m δ3 W3.mu = some (fl, δ', μ'), λ σ3 H3 ⟨W3, q1, q2, q3, q4, q5⟩ => ⟨m, Nat.lt_succ_self _, W3, δ3, q1, q2, q3, q4, q5⟩, ?_⟩;refine ⟨W2, δ1, fl3, δ3, μ3, rfl, ok2, d1.mono' l2, (by rw [m2]; exact e3), λ σ3 W3 ok3 l3 m3 d3 => ?_⟩
    cases fl3 with
    | nx => exact ⟨W3, rfl, ok3, (l1.trans l2).trans l3, d3, by rw [m3]; exact e4⟩
    | ct => exact ⟨W3, rfl, ok3, (l1.trans l2).trans l3, d3, by rw [m3]; exact e4⟩
    | bk => cases e4; exact h σ3 W3 ok3 ((l1.trans l2).trans l3) m3 d3
    | rt d => cases e4; exact h σ3 W3 ok3 ((l1.trans l2).trans l3) m3 d3
end
abbrev GF := D -> En -> Mu -> Option En
abbrev GsF := List D -> En -> Mu -> Option En
def tDG (K : PySem.W.Frag) (tb : List Addr) (ts : List Nat) (h : GF) : TG := λ v σ H Q => ∃ W δ d δ', W.H = H /\ WOk K tb W /\ jC K tb W δ σ /\ Den K tb W d v /\ h d δ W.mu = some δ' /\
 ∀ σ', jC K tb W δ' σ' -> σ'.length = σ.length -> (∀ i, i ∉ ts -> σ'[i]? = σ[i]?) -> Q σ' H
def tDGs (K : PySem.W.Frag) (tb : List Addr) (ts : List Nat) (h : GsF) : TGs := λ vs σ H Q => ∃ W δ ds δ', W.H = H /\ WOk K tb W /\ jC K tb W δ σ /\ cM K tb W ds vs /\ h ds δ W.mu = some δ' /\
 ∀ σ', jC K tb W δ' σ' -> σ'.length = σ.length -> (∀ i, i ∉ ts -> σ'[i]? = σ[i]?) -> Q σ' H
def PGD (X : Cx) (tb : List Addr) (tg : Expr) (ts : List Nat) (h : GF) : Prop := PG X tg (tDG X.K tb ts h)
def Mh (X : Cx) (tb : List Addr) (tg : List Expr) (ts : List Nat) (h : GsF) : Prop := PGs X tg (tDGs X.K tb ts h)
theorem PK (h : PG X e t) (k : ∀ v σ H Q, t' v σ H Q -> t v σ H Q) : PG X e t' := λ pins s σ H v u Q I r hq => h pins s σ H v u Q I r (k v σ H Q hq)
theorem JP (h : PGs X e t) (k : ∀ v σ H Q, t' v σ H Q -> t v σ H Q) : PGs X e t' := λ pins s σ H v u Q I r hq => h pins s σ H v u Q I r (k v σ H Q hq)
def hName (i : Nat) : GF := λ d δ _ => some (δ.set i (some d))
def jB : GsF := λ ds δ _ => match ds with
 | [] => some δ
 | _ => none
def bN (h : GF) (hs : GsF) : GsF := λ ds δ μ => match ds with
 | [] => none
 | d :: r => (h d δ μ).bind λ δ1 => hs r δ1 μ
def jD (n : Nat) (hs : GsF) : GF := λ d δ μ => match d with
 | .tup ds => if ds.length = n then hs ds δ μ else none
 | _ => none
section
variable {X : Cx} {tb : List Addr} {e tg iter elt : Expr} {f : EF} {pos : Pos}
theorem aQ (hN : X.N.Nodup) (hi : X.N[i]? = some x := by rfl) (hx : Loc X.env.scope x := by first | exact Or.inl rfl | exact Or.inr rfl)
  (hf : X.fn x = true ∨ X.env.scope.names.lookup x = some .local := by first | exact .inl rfl | exact .inr rfl | assumption) : PGD X tb (.Name x pos) [i] (hName i) :=
 PK (Np hN hi hx hf) λ v σ H Q zq1 => by
  obtain ⟨W, δ, d, δ', e, ok, hd, dv, hh, h⟩ := zq1;cases hh;refine h _ (hd.set dv) (by rw [List.length_set]) λ j hj => ?_
  rw [List.getElem?_set_ne (λ z => hj (by simp [z]))]
theorem gh : Mh X tb [] [] jB :=
 JP Mr λ vs σ H Q zq2 => by
  obtain ⟨W, δ, ds, δ', e, ok, hd, dv, hh, h⟩ := zq2
  match ds, dv, hh with
  | [], dv, hh =>
   cases hh;exact ⟨aD.zero dv, h σ hd rfl λ _ _ => rfl⟩
theorem bG (h1 : PGD X tb e ts h) (h2 : Mh X tb es us hs)
  (ha : (assignEach (e :: es) X.env).map (·.2) = assign e X.env :: (assignEach es X.env).map (·.2) := by rfl) : Mh X tb (e :: es) (ts ++ us) (bN h hs) :=
 JP (Lh h1 h2 ha) λ vs σ H Q zq3 => by
  obtain ⟨W, δ, ds, δ', e, ok, hd, dv, hh, k⟩ := zq3
  match ds, dv, hh with
  | d :: r, dv, hh =>
   obtain ⟨δ1, e1, e2⟩ := Za.mp hh;have dv' : aD _ _ _ _ _ := dv;unfold aD at dv';obtain ⟨u, us', rfl, p, q⟩ := dv';refine ⟨u, us', rfl, W, δ, d, δ1, e, ok, hd, p, e1, λ σ1 d1 l1 s1 => ⟨W, δ1, r, δ', e, ok, d1, q, e2, λ σ2 d2 l2 s2 => ?_⟩⟩;exact k σ2 d2 (l2.trans l1) λ i hi => (s2 i λ z => hi (Zn _ z)).trans (s1 i λ z => hi (List.mem_append_left _ z))
theorem iJ (hc : X.calm = true) (h : Mh X tb es ts hs) (hn : (assignEach es X.env).length = n := by rfl) (hst : (assignEach es X.env).findIdx? (·.1) = none := by rfl) :
  PGD X tb (.Tuple es k pos) ts (jD n hs) :=
 PK (Qu hc h hn hst) λ v σ H Q zq4 => by
  obtain ⟨W, δ, d, δ', e, ok, hd, dv, hh, k⟩ := zq4;cases d with
  | tup ds =>
   obtain ⟨a, xs, rfl, q, r⟩ := gW dv;have hh' : (if ds.length = n then hs ds δ W.mu else none) = some δ' := hh;by_cases hl : ds.length = n
   .rw [if_pos hl] at hh';have q' : SqT X.K H a xs := by rw [<- e]; exact SqT.fz q
    have hl' : xs.length = n := by rw [<- aD.length r]; exact hl
    exact ⟨a, xs, rfl, q', hl', ⟨W, δ, ds, δ', e, ok, hd, r, hh', k⟩⟩
   .rw [if_neg hl] at hh'; cases hh'
  | _ => cases hh
def Gi (f : EF) (h : GF) : SF := λ δ μ => (f δ μ).bind λ r => (h r.1 δ r.2).bind λ δ' => some (.nx, δ', r.2)
theorem yc (he : PD X tb e f) (hg : PGD X tb tg ts h) (hs : swapsWithSole [tg] e pos.line X.env = pure false := by rfl) (hw : swappedStores [tg] e X.env = pure none := by rfl)
  (h1 : (assignEach [tg] X.env).map (·.2) = [assign tg X.env] := by rfl) : PSD X tb (.Assign [tg] e pos) (Gi f h) :=
 lL (Ja he hg hs hw h1) λ E σ H zq5 => by
  obtain ⟨W, δ, fl, δ', μ', e, ok, hd, hf, k⟩ := zq5;unfold Gi at hf;obtain ⟨⟨x, μ1⟩, e1, hf⟩ := Za.mp hf;obtain ⟨δ1, e2, e3⟩ := Za.mp hf;cases e3;refine ⟨W, δ, x, _, e, ok, hd, e1, λ v W1 ok1 l1 m1 d1 => ⟨W1, δ, x, _, rfl, ok1, hd.mono' l1, d1, (by rw [m1]; exact e2), λ σ1 d2 _ _ => ?_⟩⟩
  exact k σ1 W1 ok1 l1 m1 d2
structure Src where
 items : List D
 cel : Option Nat
def Src.ok (S : Src) (μ : Mu) : Prop := ∀ n, S.cel = some n -> μ[n]? = some (some S.items)
theorem Src.cC {S : Src} {μ : Mu} (h : S.cel = none) : S.ok μ := λ n e => by rw [h] at e; cases e
abbrev IF := En -> Mu -> Option (Src × Mu)
structure GZ (K : PySem.W.Frag) (tb : List Addr) (J : It) (S : Src) (W0 : Wd) : Prop where
 go : ∀ (i : Nat) W d, Le tb W0 W -> WOk K tb W -> S.ok W.mu -> S.items[i]? = some d -> J.go i W.H /\ ∀ x H', J.yld i W.H x H' -> ∃ W', W'.H = H' /\ WOk K tb W' /\ Le tb W W' /\ W'.mu = W.mu /\ Den K tb W' d x
 stop : ∀ (i : Nat) W, Le tb W0 W -> WOk K tb W -> S.ok W.mu -> S.items.length <= i -> J.stop i W.H
def tDI (K : PySem.W.Frag) (tb : List Addr) (f : IF) : TI := λ σ H R => ∃ W δ S μ', W.H = H /\ WOk K tb W /\ jC K tb W δ σ /\ f δ W.mu = some (S, μ') /\
 ∀ J W', WOk K tb W' -> Le tb W W' -> W'.mu = μ' -> GZ K tb J S W' -> R J W'.H
def PID (X : Cx) (tb : List Addr) (tg iter : Expr) (f : IF) : Prop := PI X tg iter (tDI X.K tb f)
theorem Ky (h : PI X tg iter w) (k : ∀ σ H R, w' σ H R -> w σ H R) : PI X tg iter w' := λ pins s σ H R I hq => h pins s σ H R I (k σ H R hq)
theorem Qw (hl : PE X l tl) : PI X tg l (λ σ H R => tl σ H λ x H1 => ∃ a, x = .ref a /\ ((∃ xs, SqL X.K H1 a xs) /\ R (Itl X.K a) H1 ∨ (∃ xs, SqT X.K H1 a xs) /\ R (Itt X.K a) H1)) := by
 intro pins s σ H R I h;refine thn (hl pins s σ H _ I h) λ v s1 zq6 => ?_;obtain ⟨x, H1, I1, r1, q1⟩ := zq6;obtain ⟨a, e, q⟩ := q1;subst e;cases r1
 rcases q with ⟨⟨xs, hq⟩, q⟩ | ⟨⟨xs, hq⟩, q⟩
 .obtain ⟨its, rv, p, hz⟩ := I1.list hq;refine wpAny_pyIter_list p.isList ?_;refine ⟨s1.heap.objs.size, [s1.heap.objs.size], _, _, H1, rfl, I1.kept (t' := s1.toks) λ b o e => Zb _ e, wN a _, ⟨_, Zf _ rfl, rfl, rfl⟩, λ b hb => ?_, q⟩;have e : b = s1.heap.objs.size := by simpa using hb
  subst e;exact I1.fpOk (Zg _) (I1.hok.fresh (Zg _))
 .obtain ⟨its, rv, p, hz⟩ := I1.tuple hq;refine wpAny_pyIter_tuple (show s1.heap.IsTuple a its.toArray from p) ?_;refine ⟨s1.heap.objs.size, [s1.heap.objs.size], _, _, H1, rfl, I1.kept (t' := s1.toks) λ b o e => Zb _ e, vV a _, ⟨_, Zf _ rfl, rfl, rfl⟩, λ b hb => ?_, q⟩;have e : b = s1.heap.objs.size := by simpa using hb
  subst e;exact I1.fpOk (Zg _) (I1.hok.fresh (Zg _))
def srcOf (d : D) (μ : Mu) : Option Src := match d with
 | .tup ds => some ⟨ds, none⟩
 | .lst ds => some ⟨ds, none⟩
 | .cell n => match μ[n]? with
  | some (some ds) => some ⟨ds, some n⟩
  | _ => none
 | _ => none
theorem Kl {K : PySem.W.Frag} {W0 : Wd} {a : Addr} {xs : List V} {ds : List D} (q : SqL K (W0.fz tb) a xs) (r : cM K tb W0 ds xs) : GZ K tb (Itl K a) ⟨ds, none⟩ W0 where
 go := λ i W d l ok _ e => by
  have q' : SqL K W.H a xs := SqL.fz (SqL.mono l.same q);obtain ⟨v, ev, dv⟩ := aD.get (cM.mono' r l) e;exact ⟨⟨xs, v, q', ev⟩, λ x H' ⟨e1, e2⟩ => ⟨W, e1.symm, ok, Le.refl _, rfl, by have := e2 xs q'; rw [ev] at this; cases this; exact dv⟩⟩
 stop := λ i W l ok _ hi => ⟨xs, SqL.fz (SqL.mono l.same q), by rw [<- aD.length r]; exact hi⟩
theorem Jo {K : PySem.W.Frag} {W0 : Wd} {a : Addr} {xs : List V} {ds : List D} (q : SqT K (W0.fz tb) a xs) (r : cM K tb W0 ds xs) : GZ K tb (Itt K a) ⟨ds, none⟩ W0 where
 go := λ i W d l ok _ e => by
  have q' : SqT K W.H a xs := SqT.fz (SqT.mono l.same q);obtain ⟨v, ev, dv⟩ := aD.get (cM.mono' r l) e;exact ⟨⟨xs, v, q', ev⟩, λ x H' ⟨e1, e2⟩ => ⟨W, e1.symm, ok, Le.refl _, rfl, by have := e2 xs q'; rw [ev] at this; cases this; exact dv⟩⟩
 stop := λ i W l ok _ hi => ⟨xs, SqT.fz (SqT.mono l.same q), by rw [<- aD.length r]; exact hi⟩
theorem Rk {K : PySem.W.Frag} {W0 : Wd} {a : Addr} {n : Nat} {ds : List D} (q : W0.ad[n]? = some a) : GZ K tb (Itl K a) ⟨ds, some n⟩ W0 where
 go := λ i W d l ok hs e => by
  obtain ⟨xs, ex, r⟩ := ok.cont n a ds (l.ad _ _ q) (hs n rfl);obtain ⟨v, ev, dv⟩ := aD.get r e;exact ⟨⟨xs, v, SqL.of ex, ev⟩, λ x H' ⟨e1, e2⟩ => ⟨W, e1.symm, ok, Le.refl _, rfl, by have := e2 xs (SqL.of ex); rw [ev] at this; cases this; exact dv⟩⟩
 stop := λ i W l ok hs hi => by
  obtain ⟨xs, ex, r⟩ := ok.cont n a ds (l.ad _ _ q) (hs n rfl);exact ⟨xs, SqL.of ex, by rw [<- aD.length r]; exact hi⟩
def fL (f : EF) : IF := λ δ μ => (f δ μ).bind λ r => (srcOf r.1 r.2).map λ S => (S, r.2)
theorem cV (he : PD X tb e f) : PID X tb tg e (fL f) :=
 Ky (Qw he) λ σ H R zq7 => by
  obtain ⟨W, δ, S, μ', e, ok, hd, hf, h⟩ := zq7;unfold fL at hf;obtain ⟨⟨x, μ1⟩, e1, hf⟩ := Za.mp hf;obtain ⟨S', e2, e3⟩ := Zp.mp hf;cases e3;refine ⟨W, δ, x, _, e, ok, hd, e1, λ v W1 ok1 l1 m1 d1 => ?_⟩;cases x with
  | tup ds =>
   cases e2;obtain ⟨a, xs, rfl, q, r⟩ := gW d1;exact ⟨a, rfl, .inr ⟨⟨xs, SqT.fz q⟩, h _ W1 ok1 l1 m1 (Jo q r)⟩⟩
  | lst ds =>
   cases e2;obtain ⟨a, xs, rfl, q, r⟩ := lE d1;exact ⟨a, rfl, .inl ⟨⟨xs, SqL.fz q⟩, h _ W1 ok1 l1 m1 (Kl q r)⟩⟩
  | cell n =>
   obtain ⟨a, rfl, q⟩ := iH d1;have e2' : (match μ1[n]? with | some (some ds) => some (⟨ds, some n⟩ : Src) | _ => none) = some S := e2
   cases e4 : μ1[n]? with
   | none => rw [e4] at e2'; cases e2'
   | some o =>
    cases o with
    | none => rw [e4] at e2'; cases e2'
    | some ds =>
     rw [e4] at e2';cases e2';obtain ⟨xs, ex, _⟩ := ok1.cont n a ds q (by rw [m1]; exact e4)
     exact ⟨a, rfl, .inl ⟨⟨xs, SqL.of ex⟩, h _ W1 ok1 l1 m1 (Rk q)⟩⟩
  | _ => cases e2
def dY (lo : Int) (n : Nat) : List D := (List.range n).map λ (k : Nat) => D.int (lo + (k : Int))
theorem SN {K : PySem.W.Frag} {W0 : Wd} {lo : Int} {n : Nat} : GZ K tb (Itr lo n) ⟨dY lo n, none⟩ W0 where
 go := λ i W d l ok _ e => by
  unfold dY at e;rw [List.getElem?_map] at e;by_cases hi : i < n
  .rw [List.getElem?_range hi] at e;cases e;exact ⟨hi, λ x H' ⟨e1, e2⟩ => ⟨W, e1.symm, ok, Le.refl _, rfl, by rw [e2]; exact eO⟩⟩
  .rw [List.getElem?_eq_none (by simpa using hi)] at e; cases e
 stop := λ i W l ok _ hi => by
  unfold dY at hi;have hi' : n <= i := by simpa using hi
  exact hi'
def cg (fs : AF) : IF := λ δ μ => (fs δ μ).bind λ r => match r.1 with
 | [.int j] => if -(2 ^ 62) <= j /\ j < 2 ^ 62 then some (⟨dY 0 j.toNat, none⟩, r.2) else none
 | _ => none
theorem cH (hm : X.mg "range" = none) (ha : PAD X tb [a] fs) (hg : Gl X "range" := by rfl) (hs : starEach [a] X.env = [(false, eval a X.env)] := by rfl) : PID X tb tg (.Call (.Name "range" p) [a] [] pos) (cg fs) :=
 Ky (Hq hg hm ha hs) λ σ H R zq8 => by
  obtain ⟨W, δ, S, μ', e, ok, hd, hf, h⟩ := zq8;unfold cg at hf;obtain ⟨⟨xs, μ1⟩, e1, e2⟩ := Za.mp hf
  match xs, e1, e2 with
  | [.int j], e1, e2 =>
   have e2' : (if -(2 ^ 62) <= j /\ j < 2 ^ 62 then some ((⟨dY 0 j.toNat, none⟩ : Src), μ1) else none) = some (S, μ') := e2;split at e2'
   .rename_i hj;cases e2';refine ⟨W, δ, _, _, e, ok, hd, e1, λ vs W1 ok1 l1 m1 d1 => ?_⟩;obtain ⟨u, rfl, du⟩ := aD.one d1;rw [bB du];exact ⟨j, rfl, hj.1, hj.2, h _ W1 ok1 l1 m1 SN⟩
   .cases e2'
open Classical in
noncomputable def forL (S : Src) (h : GF) (b : SF) : List D -> SF
 | [], δ, μ => if S.ok μ then some (.nx, δ, μ) else none
 | d :: r, δ, μ => if S.ok μ then (h d δ μ).bind λ δ1 => (b δ1 μ).bind λ q => match q.1 with
   | .nx => forL S h b r q.2.1 q.2.2
   | .ct => forL S h b r q.2.1 q.2.2
   | .bk => some (.nx, q.2)
   | .rt d => some (.rt d, q.2)
  else none
noncomputable def gn (f : IF) (h : GF) (b : SF) : SF := λ δ μ => (f δ μ).bind λ r => forL r.1 h b r.1.items δ r.2
theorem fH (hp : PassesOwn (model X.prog X.w) X.A X.env X.xe) (hc : X.calm = true) (hi : PID X tb tg iter fi) (hg : PGD X tb tg ts h) (hb : ww X tb body b)
  (hs : ∀ x, foldedSetIterable iter X.env x = pure x := by intro _; rfl) : PSD X tb (.For tg iter body [] pos) (gn fi h b) :=
 lL (Qx hp hc hi hg hb hs) λ E σ H zq10 => by
  obtain ⟨W, δ, fl, δ', μ', e, ok, hd, hf, k⟩ := zq10;unfold gn at hf;obtain ⟨⟨S, μ1⟩, e1, e2⟩ := Za.mp hf;refine ⟨W, δ, S, μ1, e, ok, hd, e1, λ J W1 ok1 l1 m1 io => ?_⟩;refine ⟨λ i m σ2 H2 => m = S.items.length - i /\ i <= S.items.length /\ ∃ W2 δ2, W2.H = H2 /\ WOk X.K tb W2 /\ Le tb W1 W2 /\ jC X.K tb W2 δ2 σ2 /\ forL S h b (S.items.drop i) δ2 W2.mu = some (fl, δ', μ'),
   ⟨S.items.length, rfl, Nat.zero_le _, W1, δ, rfl, ok1, Le.refl _, hd.mono' l1, by rw [m1]; exact e2⟩, ?_⟩
  rintro i m σ2 H2 ⟨hm, hi', W2, δ2, rfl, ok2, l2, d2, hn⟩;by_cases hlt : i < S.items.length
  .right
   have hdr : S.items.drop i = S.items[i] :: S.items.drop (i + 1) := List.drop_eq_getElem_cons hlt;rw [hdr] at hn;unfold forL at hn;split at hn
   .rename_i hok;obtain ⟨δ3, e3, hn⟩ := Za.mp hn;obtain ⟨⟨fl4, δ4, μ4⟩, e4, e5⟩ := Za.mp hn;obtain ⟨go, yl⟩ := io.go i W2 S.items[i] l2 ok2 hok (by simp [hlt])
    refine ⟨go, λ σ5 H5 => ∃ W5, W5.H = H5 /\ WOk X.K tb W5 /\ Le tb W1 W5 /\ jC X.K tb W5 δ4 σ5 /\ forL S h b (S.items.drop (i + 1)) δ4 W5.mu = some (fl, δ', μ'), λ σ5 H5 ⟨W5, q1, q2, q3, q4, q5⟩ => ⟨S.items.length - (i + 1), by omega, rfl, hlt, W5, δ4, q1, q2, q3, q4, q5⟩, λ x H' y => ?_⟩
    obtain ⟨W3, rfl, ok3, l3, m3, d3⟩ := yl x H' y;refine ⟨W3, δ2, S.items[i], δ3, rfl, ok3, d2.mono' l3, d3, (by rw [m3]; exact e3), λ σ3 d3' _ _ => ?_⟩
    refine ⟨W3, δ3, fl4, δ4, μ4, rfl, ok3, d3', (by rw [m3]; exact e4), λ σ4 W4 ok4 l4 m4 d4 => ?_⟩
    cases fl4 with
    | nx => exact ⟨W4, rfl, ok4, (l2.trans l3).trans l4, d4, by rw [m4]; exact e5⟩
    | ct => exact ⟨W4, rfl, ok4, (l2.trans l3).trans l4, d4, by rw [m4]; exact e5⟩
    | bk => cases e5; exact k σ4 W4 ok4 (((l1.trans l2).trans l3).trans l4) m4 d4
    | rt d => cases e5; exact k σ4 W4 ok4 (((l1.trans l2).trans l3).trans l4) m4 d4
   .cases hn
  .left
   have hdr : S.items.drop i = [] := List.drop_of_length_le (by omega)
   rw [hdr] at hn;unfold forL at hn;split at hn
   .rename_i hok;have hn' : some (Fl.nx, δ2, W2.mu) = some (fl, δ', μ') := hn;cases hn';exact ⟨io.stop i W2 l2 ok2 hok (by omega), k σ2 W2 ok2 (l1.trans l2) rfl d2⟩
   .cases hn
abbrev LF := En -> Mu -> Option (List D × Mu)
def tDN (K : PySem.W.Frag) (tb : List Addr) (f : LF) : TE := λ σ H Q => ∃ W δ ds μ', W.H = H /\ WOk K tb W /\ jC K tb W δ σ /\ f δ W.mu = some (ds, μ') /\
 ∀ p vs W', WOk K tb W' -> Le tb W W' -> W'.mu = μ' -> W'.H p = none -> cM K tb W' ds vs -> Q (.ref p) (upd W'.H p (.lst vs))
def PDN (X : Cx) (tb : List Addr) (e : Expr) (f : LF) : Prop := PE X e (tDN X.K tb f)
def mFz (f : LF) : EF := λ δ μ => (f δ μ).bind λ r => some (.lst r.1, r.2)
def mD (f : LF) : EF := λ δ μ => (f δ μ).bind λ r => some (.cell r.2.length, r.2 ++ [some r.1])
theorem fZ {f : LF} (h : PDN X tb e f) : PD X tb e (mFz f) := dU h λ σ H Q zq11 => by
 obtain ⟨W, δ, d, μ', e, ok, hd, hf, k⟩ := zq11;unfold mFz at hf;obtain ⟨⟨ds, μ1⟩, e1, e2⟩ := Za.mp hf;cases e2;refine ⟨W, δ, ds, _, e, ok, hd, e1, λ p vs W1 ok1 l1 m1 hp r => ?_⟩;exact lq ok1 (λ v W' ok' l' m' d' => k v W' ok' (l1.trans l') (m'.trans m1) d') r hp
theorem mq {f : LF} (h : PDN X tb e f) : PD X tb e (mD f) := dU h λ σ H Q zq12 => by
 obtain ⟨W, δ, d, μ', e, ok, hd, hf, k⟩ := zq12;unfold mD at hf;obtain ⟨⟨ds, μ1⟩, e1, e2⟩ := Za.mp hf;cases e2;refine ⟨W, δ, ds, μ1, e, ok, hd, e1, λ p vs W1 ok1 l1 m1 hp r => ?_⟩;obtain ⟨ok2, l2, d2⟩ := ok1.new hp r;exact k _ _ ok2 (l1.trans l2) (by show W1.mu ++ [some ds] = _; rw [m1]) (by rw [<- m1]; exact d2)
def vR (fs : AF) : LF := λ δ μ => (fs δ μ).bind λ r => if r.1.length <= sizeLine then some r else none
theorem qj (h : PAD X tb es fs) : PDN X tb (.List es pos) (vR fs) := dU (Im h) λ σ H Q zq13 => by
 obtain ⟨W, δ, ds, μ', e, ok, hd, hf, k⟩ := zq13;unfold vR at hf;obtain ⟨⟨xs, μ1⟩, e1, e2⟩ := Za.mp hf;split at e2
 .rename_i hl;cases e2;exact ⟨W, δ, _, _, e, ok, hd, e1, λ vs W1 ok1 l1 m1 d1 => ⟨by rw [<- aD.length d1]; exact hl, λ p hp => k p vs W1 ok1 l1 m1 hp d1⟩⟩
 .cases e2
def dg (own : List Str) (δ : En) (capI : List Nat) : En := List.replicate own.length none ++ capI.map λ i => (δ[i]?).join
theorem uf {K : PySem.W.Frag} {W : Wd} {own : List Str} {capI : List Nat} {δ : En} {σ : SV} (h : jC K tb W δ σ) : jC K tb W (dg own δ capI) (cX own σ capI) := by
 refine ⟨by unfold dg cX lN; simp, λ i d e => ?_⟩
 unfold dg at e;unfold cX lN;by_cases hi : i < own.length
 .rw [Zs (by simpa using hi), List.getElem?_replicate] at e
  split at e <;> cases e
 .rw [List.getElem?_append_right (by simpa using hi), List.getElem?_map] at e
  rw [List.getElem?_append_right (by simpa using hi), List.getElem?_map]
  rw [List.length_replicate] at e ⊢;cases q : capI[i - own.length]? with
  | none => rw [q] at e; cases e
  | some j =>
   rw [q] at e;have e' : (δ[j]?).join = some d := by simpa using e
   cases q2 : δ[j]? with
   | none => rw [q2] at e'; cases e'
   | some o =>
    rw [q2] at e';have e2 : o = some d := e';subst e2;obtain ⟨v, ev, dv⟩ := h.2 j d q2;exact ⟨v, by simp [ev], dv⟩
theorem fits_of {own : List Str} {capI : List Nat} {σ σ' : SV} {ts : List Nat} (hts : ∀ i ∈ ts, i < own.length) (hl : σ'.length = (cX own σ capI).length) (h : ∀ i, i ∉ ts -> σ'[i]? = (cX own σ capI)[i]?) : Fits (cX own σ capI) σ' :=
 ⟨hl, λ i v e => by
  rw [h i λ z => ?_]
  .exact e
  .unfold cX at e;rw [Zs (by simpa using hts i z), List.getElem?_replicate] at e
   split at e <;> cases e⟩
open Classical in
noncomputable def lcL (S : Src) (h : GF) (tt : TF) (fe : EF) (δb : En) : List D -> Mu -> Option (List D × Mu)
 | [], μ => if S.ok μ then some ([], μ) else none
 | d :: r, μ => if S.ok μ then (h d δb μ).bind λ δ1 => (tt δ1 μ).bind λ k => if k.1 = true then (fe δ1 k.2).bind λ y => (lcL S h tt fe δb r y.2).bind λ ys => some (y.1 :: ys.1, ys.2) else lcL S h tt fe δb r k.2 else none
noncomputable def lLC (own : List Str) (capI : List Nat) (fi : IF) (h : GF) (tt : TF) (fe : EF) : LF := λ δ μ => (fi δ μ).bind λ r => if r.1.items.length <= sizeLine then lcL r.1 h tt fe (dg own δ capI) r.1.items r.2 else none
def Pk (X : Cx) (tb : List Addr) (ifs : List Expr) (t : TF) : Prop := PIf X ifs (tDT X.K tb t)
def cT : TF := λ _ μ => some (true, μ)
theorem Rm {X : Cx} {e : List Expr} {t t' : TT} (h : PIf X e t) (k : ∀ σ H Q, t' σ H Q -> t σ H Q) : PIf X e t' := λ pins s σ H Q I hq => h pins s σ H Q I (k σ H Q hq)
theorem di : Pk X tb [] cT := Rm Ol λ σ H Q zq14 => by
 obtain ⟨W, δ, k, μ', e, ok, hd, hf, h⟩ := zq14;subst e; cases hf;exact h W ok (Le.refl _) rfl
theorem iM {ifs : List Expr} {fi : IF} {h : GF} {tt : TF} {fe : EF} {own cap : List Str} {capI ts : List Nat} {scope : Scope} (hc : X.calm = true) (B : eQ X own cap capI scope) (hown : ∀ x ∈ own, (x, NameKind.free) ∉ scope.names) (hi : PID X tb tg iter fi)
  (hg : ∀ cs C fp s2 H2, PGD (dj X own cap scope cs C fp s2 H2) tb tg ts h) (ht : ∀ cs C fp s2 H2, Pk (dj X own cap scope cs C fp s2 H2) tb ifs tt) (he : ∀ cs C fp s2 H2, PD (dj X own cap scope cs C fp s2 H2) tb elt fe)
  (hts : ∀ i ∈ ts, i < own.length := by decide) (hs : ∀ x, foldedSetIterable iter X.env x = pure x := by intro _; rfl) : PDN X tb (.ListComp elt [⟨tg, iter, ifs, 0⟩] scope pos) (lLC own capI fi h tt fe) :=
 dU (Vq (g := tDG X.K tb ts h) (tt := tDT X.K tb tt) (te := tD X.K tb fe) hc B hown hi hg ht he hs) λ σ H Q zq15 => by
  obtain ⟨W, δ, ds, μ', e, ok, hd, hf, k⟩ := zq15;unfold lLC at hf;obtain ⟨⟨S, μ1⟩, e1, e2⟩ := Za.mp hf;split at e2
  .rename_i hz;refine ⟨W, δ, S, μ1, e, ok, hd, e1, λ J W1 ok1 l1 m1 io => ?_⟩;refine ⟨λ i m ys H2 => m = S.items.length - i /\ i <= S.items.length /\ ys.length <= i /\ ∃ W2 zs rs, W2.H = H2 /\ WOk X.K tb W2 /\ Le tb W1 W2 /\ cM X.K tb W2 zs ys /\ lcL S h tt fe (dg own δ capI) (S.items.drop i) W2.mu = some (rs, μ') /\ zs ++ rs = ds,
    ⟨S.items.length, rfl, Nat.zero_le _, Nat.zero_le _, W1, [], ds, rfl, ok1, Le.refl _, aD.nil, by rw [m1]; exact e2, rfl⟩, ?_⟩
   rintro i m ys H2 ⟨hm, hi', hy, W2, zs, rs, rfl, ok2, l2, d2, hn, hzs⟩;by_cases hlt : i < S.items.length
   .right
    have hdr : S.items.drop i = S.items[i] :: S.items.drop (i + 1) := List.drop_eq_getElem_cons hlt;rw [hdr] at hn;unfold lcL at hn;split at hn
    .rename_i hok;obtain ⟨δ3, e3, hn⟩ := Za.mp hn;obtain ⟨⟨kk, μ4⟩, e4, hn⟩ := Za.mp hn;obtain ⟨go, yl⟩ := io.go i W2 S.items[i] l2 ok2 hok (by simp [hlt])
     refine ⟨go, Zc (Nat.lt_of_le_of_lt hy hlt) hz, λ x H' y => ?_⟩;obtain ⟨W3, rfl, ok3, l3, m3, d3⟩ := yl x H' y;refine ⟨W3, dg own δ capI, S.items[i], δ3, rfl, ok3, (uf hd).mono' ((l1.trans l2).trans l3), d3, (by rw [m3]; exact e3), λ σ3 d3' hl3 ht3 => ⟨fits_of hts hl3 ht3, ?_⟩⟩
     refine ⟨W3, δ3, kk, μ4, rfl, ok3, d3', (by rw [m3]; exact e4), λ W4 ok4 l4 m4 => ?_⟩
     cases kk with
     | false =>
      rw [if_neg Zr];exact ⟨S.items.length - (i + 1), by omega, rfl, hlt, by omega, W4, zs, rs, rfl, ok4, (l2.trans l3).trans l4, cM.mono' d2 (l3.trans l4), by rw [m4]; exact hn, hzs⟩
     | true =>
      rw [if_pos rfl];have hn' : ((fe δ3 μ4).bind λ y => (lcL S h tt fe (dg own δ capI) (S.items.drop (i + 1)) y.2).bind λ ys => some (y.1 :: ys.1, ys.2)) = some (rs, μ') := hn;obtain ⟨⟨yd, μ5⟩, e5, hn'⟩ := Za.mp hn';obtain ⟨⟨rs', μ6⟩, e6, e7⟩ := Za.mp hn';cases e7;refine ⟨W4, δ3, yd, μ5, rfl, ok4, d3'.mono' l4, (by rw [m4]; exact e5), λ v W5 ok5 l5 m5 d5 => ?_⟩
      refine ⟨S.items.length - (i + 1), by omega, rfl, hlt, by rw [List.length_append]; simp; omega, W5, zs ++ [yd], rs', rfl, ok5, ((l2.trans l3).trans l4).trans l5, aD.append (cM.mono' d2 ((l3.trans l4).trans l5)) (aD.cons d5 aD.nil), by rw [m5]; exact e6, by rw [List.append_assoc]; exact hzs⟩
    .cases hn
   .left
    have hdr : S.items.drop i = [] := List.drop_of_length_le (by omega)
    rw [hdr] at hn;unfold lcL at hn;split at hn
    .rename_i hok;cases hn;rw [List.append_nil] at hzs;subst hzs;exact ⟨io.stop i W2 l2 ok2 hok (by omega), λ l hl => k l ys W2 ok2 (l1.trans l2) rfl hl d2⟩
    .cases hn
  .cases e2
end
end L3
namespace L2
open PySem PySem.Spec PyProof.Rows
theorem vL {X : Cx} {pins : List (Addr × Obj)} {σ : L2.St} {H : Hp} {s : Shared} (I : Inv X pins σ H s) (hc : X.calm = true) {A' : Around} (h1 : A'.handled = X.A.handled) (h2 : A'.frames = X.A.frames) : A'.handled = none /\ A'.frames = some X.stack :=
 ⟨h1.trans (I.ok.hd hc), h2.trans I.ok.frames⟩
theorem qO {X : Cx} {e : Expr} {pos : Pos} {s : Shared} {Q : List Value -> Shared -> Prop} (h : wpAny (model X.prog X.w) X.A (eval e X.env) (λ u s1 => Q [u] s1) X.xe s) (hs : starEach [e] X.env = (false, eval e X.env) :: starEach [] X.env := by rfl) :
  wpAny (model X.prog X.w) X.A (spliced (backTo pos (starEach [e] X.env))) Q X.xe s := by
 rw [hs];show wpAny _ _ (spliced ((false, eval e X.env) :: backTo pos (starEach [] X.env))) _ _ s;exact Calls.spliced_cons (thn h λ u s1 q => Calls.spliced_nil q)
def Hh (y : V) (k : Bool) : Prop := y = .bl k ∨ ∃ i, y = .int i /\ k = (i != 0)
theorem Eh {E : Value -> Shared -> Prop} {Q : Bool -> Shared -> Prop} (r : RelV y v) (h : Hh y k) (hq : Q k s) : wpAny (model P w) A (truthy v) Q E s := by
 rcases h with rfl | ⟨i, rfl, rfl⟩
 .cases r; exact wpAny_truthy_bool hq
 .obtain ⟨t, rfl⟩ := r; exact PySem.P.truthy_int hq
theorem zA {M : Model} {A : Around} {E : Value -> Shared -> Prop} {s : Shared} {t : Sem (Option Value)} {P : Value -> Shared -> Prop} {f : Value -> Sem Unit} (hf : ∀ u, f u = pure ())
  (h : wpAny M A t (λ r s1 => ∃ u, r = some u /\ wpAny M A (f u) (λ _ s2 => P u s2) E s1) E s) : wpAny M A t (λ r s1 => ∃ u, r = some u /\ P u s1) E s := λ Γ p hΓ =>
 Sem.wp_mono M Γ t (λ a p' s ⟨u, e, q⟩ => ⟨u, e, by rw [hf] at q; exact q Γ p' hΓ⟩) (λ _ _ _ e => e) p s (h Γ p hΓ)
section
variable {X : Cx} {e : Expr} {ts : vG} {p pos : Pos} {pins : List (Addr × Obj)} {σ : L2.St}
def Up (ts : vG) : TE := λ σ H Q => ts σ H λ S H1 => ∃ W : Nat -> Nat -> Hp -> Prop, (∃ m, W 0 m H1) /\ ∀ i m H, W i m H ->
 (S.fin i H /\ Q (.bl true) H) ∨ S.nxt i H λ y H' => ∃ k, Hh y k /\ if k = true then ∃ m', m' < m /\ W (i + 1) m' H' else Q (.bl false) H'
def UW (ts : vG) : TE := λ σ H Q => ts σ H λ S H1 => ∃ W : Nat -> Nat -> Hp -> Prop, (∃ m, W 0 m H1) /\ ∀ i m H, W i m H ->
 (S.fin i H /\ Q (.bl false) H) ∨ S.nxt i H λ y H' => ∃ k, Hh y k /\ if k = true then Q (.bl true) H' else ∃ m', m' < m /\ W (i + 1) m' H'
theorem HQ {it : Addr} {lo : Nat} {S : pg} {SS : List (Addr × Obj) -> Nat -> Hp -> Shared -> Prop} {Q : VK} {W : Nat -> Nat -> Hp -> Prop} (sm : zm X pins σ X.A.in1 it lo S SS)
  (st : ∀ i m H, W i m H -> (S.fin i H /\ Q (.bl true) H) ∨ S.nxt i H λ y H' => ∃ k, Hh y k /\ if k = true then ∃ m', m' < m /\ W (i + 1) m' H' else Q (.bl false) H') :
  ∀ (m i : Nat) (H : Hp) (s : Shared), SS [] i H s -> W i m H -> codeAny (model X.prog X.w) X.A (.builtin "all.loop" ⟨[.ref it], []⟩) (λ r s' => ∃ u, r = .ok (.ret u) /\ EP X pins σ Q u s') s := by
 intro m
 induction m using Nat.strongRecOn with
 | ind m ih =>
  intro i H s hs hw;refine codeAny_builtin F.entry_all_loop ?_;rw [Around.under_plainId F.plain_all_loop _];show wpAny _ X.A.in1 (pyNext (.ref it) >>= _) _ _ s
  rcases st i m H hw with ⟨hf, q⟩ | hn
  .refine wpAny_bind (wpAny_mono (sm.stop (λ _ _ => False) hs hf) (λ r s1 ⟨hr, I1⟩ => ?_) λ _ _ z => z.elim);subst hr;refine wpAny_bind (wpAny_rule (wpAny_pure ⟨_, rfl, .bl true, H, ?_, rfl, q⟩));rw [List.append_nil] at I1;exact I1
  .refine wpAny_bind (wpAny_mono (sm.next (λ _ _ => False) hs hn) (λ r s1 ⟨u, y, H', hr, ry, ⟨k, tk, q⟩, hs'⟩ => ?_) λ _ _ z => z.elim);subst hr;refine wpAny_bind (wpAny_holding (Eh ry tk ?_));refine wpAny_bind (wpAny_letGo ?_);cases k with
   | true =>
    simp only [if_true];rw [if_pos rfl] at q;obtain ⟨m', hm, hw'⟩ := q;exact wpAny_pure ⟨plainId_quiet F.plain_all_loop _, ih m' hm (i + 1) H' s1 hs' hw'⟩
   | false =>
    simp only [Bool.false_eq_true, if_false];rw [if_neg Zr] at q;refine wpAny_bind (wpAny_rule (wpAny_pure ⟨_, rfl, .bl false, H', ?_, rfl, q⟩));have I1 := sm.inv hs';rw [List.append_nil] at I1;exact I1
theorem Ie {it : Addr} {lo : Nat} {S : pg} {SS : List (Addr × Obj) -> Nat -> Hp -> Shared -> Prop} {Q : VK} {W : Nat -> Nat -> Hp -> Prop} (sm : zm X pins σ X.A.in1 it lo S SS)
  (st : ∀ i m H, W i m H -> (S.fin i H /\ Q (.bl false) H) ∨ S.nxt i H λ y H' => ∃ k, Hh y k /\ if k = true then Q (.bl true) H' else ∃ m', m' < m /\ W (i + 1) m' H') :
  ∀ (m i : Nat) (H : Hp) (s : Shared), SS [] i H s -> W i m H -> codeAny (model X.prog X.w) X.A (.builtin "any.loop" ⟨[.ref it], []⟩) (λ r s' => ∃ u, r = .ok (.ret u) /\ EP X pins σ Q u s') s := by
 intro m
 induction m using Nat.strongRecOn with
 | ind m ih =>
  intro i H s hs hw;refine codeAny_builtin F.entry_any_loop ?_;rw [Around.under_plainId F.plain_any_loop _];show wpAny _ X.A.in1 (pyNext (.ref it) >>= _) _ _ s
  rcases st i m H hw with ⟨hf, q⟩ | hn
  .refine wpAny_bind (wpAny_mono (sm.stop (λ _ _ => False) hs hf) (λ r s1 ⟨hr, I1⟩ => ?_) λ _ _ z => z.elim);subst hr;refine wpAny_bind (wpAny_rule (wpAny_pure ⟨_, rfl, .bl false, H, ?_, rfl, q⟩));rw [List.append_nil] at I1;exact I1
  .refine wpAny_bind (wpAny_mono (sm.next (λ _ _ => False) hs hn) (λ r s1 ⟨u, y, H', hr, ry, ⟨k, tk, q⟩, hs'⟩ => ?_) λ _ _ z => z.elim);subst hr;refine wpAny_bind (wpAny_holding (Eh ry tk ?_));refine wpAny_bind (wpAny_letGo ?_);cases k with
   | false =>
    simp only [Bool.false_eq_true, if_false];rw [if_neg Zr] at q;obtain ⟨m', hm, hw'⟩ := q;exact wpAny_pure ⟨plainId_quiet F.plain_any_loop _, ih m' hm (i + 1) H' s1 hs' hw'⟩
   | true =>
    simp only [if_true];rw [if_pos rfl] at q;refine wpAny_bind (wpAny_rule (wpAny_pure ⟨_, rfl, .bl true, H', ?_, rfl, q⟩));have I1 := sm.inv hs';rw [List.append_nil] at I1;exact I1
theorem Oq (hc : X.calm = true) (hm : X.mg "all" = none) (hstr : Ah X e ts) (hg : Gl X "all" := by rfl) (hs : starEach [e] X.env = (false, eval e X.env) :: starEach [] X.env := by rfl) : PE X (.Call (.Name "all" p) [e] [] pos) (Up ts) := by
 intro pins s σ H Q I h;refine wpAny_Call_Name_kw (lD I hg hm boot_all ?_ (by decide) (by decide))
 refine PyProof.Rows.callWith_builtin1 (qO (thn (hstr pins s σ H _ I h) λ u s1 ⟨S, H1, I1, rdy, W, ⟨m, w0⟩, st⟩ => ?_) hs) hs rfl;refine call_function_tree F.kind_all F.plain_all F.entry_all (F.args_all1 _) ?_;unfold Builtin.«all»;refine wpAny_bind (m := oneArg "all" _) (wpAny_pure ?_);obtain ⟨a1, a2⟩ := vL I1 hc (A' := X.A.in1) rfl rfl;refine wpAny_bind (wpAny_mono (rdy X.A.in1 (λ _ _ => False) a1 a2 (Nat.le_succ _) (by show X.A.units + 1 <= _; omega)) (λ itv s2 ⟨it, lo, SS, e, sm, s0, _⟩ => ?_) λ _ _ z => z.elim)
 subst e;refine wpAny_pure ⟨plainId_quiet F.plain_all_loop _, codeAny_mono (HQ sm st m 0 H1 s2 s0 w0) λ r s' ⟨u, hr, q⟩ => ?_⟩;subst hr;exact q
theorem Oz (hc : X.calm = true) (hm : X.mg "any" = none) (hstr : Ah X e ts) (hg : Gl X "any" := by rfl) (hs : starEach [e] X.env = (false, eval e X.env) :: starEach [] X.env := by rfl) : PE X (.Call (.Name "any" p) [e] [] pos) (UW ts) := by
 intro pins s σ H Q I h;refine wpAny_Call_Name_kw (lD I hg hm boot_any ?_ (by decide) (by decide))
 refine PyProof.Rows.callWith_builtin1 (qO (thn (hstr pins s σ H _ I h) λ u s1 ⟨S, H1, I1, rdy, W, ⟨m, w0⟩, st⟩ => ?_) hs) hs rfl;refine call_function_tree F.kind_any F.plain_any F.entry_any (F.args_any1 _) ?_;unfold Builtin.«any»;refine wpAny_bind (m := oneArg "any" _) (wpAny_pure ?_);obtain ⟨a1, a2⟩ := vL I1 hc (A' := X.A.in1) rfl rfl;refine wpAny_bind (wpAny_mono (rdy X.A.in1 (λ _ _ => False) a1 a2 (Nat.le_succ _) (by show X.A.units + 1 <= _; omega)) (λ itv s2 ⟨it, lo, SS, e, sm, s0, _⟩ => ?_) λ _ _ z => z.elim)
 subst e;refine wpAny_pure ⟨plainId_quiet F.plain_any_loop _, codeAny_mono (Ie sm st m 0 H1 s2 s0 w0) λ r s' ⟨u, hr, q⟩ => ?_⟩;subst hr;exact q
def Eg (J : It) : pg := ⟨λ i H Q => J.go i H /\ ∀ x H', J.yld i H x H' -> Q x H', λ i H => J.stop i H⟩
theorem wO {A' : Around} {it : Addr} {fp : List Addr} {tn : Nat -> Heap -> Prop} {J : It} {H : Hp} {s : Shared} (hc : X.calm = true) (hP : A'.handled = none) (hf : A'.frames = some X.stack)
  (T : Turn X.prog X.w X.K (.Name "x" ⟨0, 0, 0, 0⟩) J fp it tn) (I : Inv X pins σ H s) (st : tn 0 s.heap) (fk : ∀ b ∈ fp, mQ X pins H b) :
  ∃ lo SS, zm X pins σ A' it lo (Eg J) SS /\ SS [] 0 H s /\ lo <= s.heap.objs.size := by
 have toA : ∀ {P : List (Addr × Obj)} {H : Hp} {s : Shared}, Inv X P σ H s -> Inv ({ X with A := A' } : Cx) P σ H s := λ I =>
  ⟨⟨I.ok.mod, I.ok.kind, I.ok.glob, I.ok.blt, I.ok.above, I.ok.inj, I.ok.has, I.ok.cab, λ _ => hP, hf, I.ok.stk, I.ok.exf, I.ok.bs, I.ok.bsz, I.ok.noex, I.ok.exfs, I.ok.funs, I.ok.frf⟩, I.os, I.bare, I.base, I.loc, I.cell, I.free, I.freeC, I.pin, I.hok, I.len⟩
 have ofA : ∀ {P : List (Addr × Obj)} {H : Hp} {s : Shared}, X.Ok -> Inv ({ X with A := A' } : Cx) P σ H s -> Inv X P σ H s := λ ok I =>
  ⟨ok, I.os, I.bare, I.base, I.loc, I.cell, I.free, I.freeC, I.pin, I.hok, I.len⟩
 have flt : ∀ b ∈ fp, b < s.heap.objs.size := λ b hb => let ⟨o, e, _⟩ := T.obj 0 _ st b hb; Ze e;have fkA : ∀ {P : List (Addr × Obj)} {H' : Hp}, (∀ p ∈ P, s.heap.objs.size <= p.1) -> (∀ b ∈ fp, H' b = none) -> ∀ b ∈ fp, mQ ({ X with A := A' } : Cx) (pins ++ P) H' b := λ {P H'} hP hn b hb => by
  obtain ⟨q0, q1, q2, q3, q4, q5⟩ := fk b hb;refine ⟨hn b hb, q1, q2, q3, q4, λ p hp => ?_⟩
  rcases Zm.mp hp with z | z
  .exact q5 p (by simp only [Zm]; exact .inl z)
  .rcases Zm.mp z with z | z
   .exact q5 p (by simp only [Zm]; exact .inr z)
   .exact λ e => absurd (flt b hb) (by rw [<- e]; exact Nat.not_lt.mpr (hP p z))
 refine ⟨s.heap.objs.size, λ P i H' s' => (∀ p ∈ P, s.heap.objs.size <= p.1) /\ Inv X (pins ++ P) σ H' s' /\ tn i s'.heap /\ ∀ b ∈ fp, H' b = none, ⟨λ st => st.2.1, ?_, ?_, ?_, ?_, ?_, ?_⟩, ⟨λ p hp => absurd hp (by simp), by rw [List.append_nil]; exact I, st, λ b hb => (fk b hb).1⟩, Zg _⟩
 .rintro P i H1 s1 Q E ⟨hP1, I1, st1, fr1⟩ ⟨go, yl⟩;have q := T.item ({ X with A := A' } : Cx) rfl rfl rfl hc i (pins ++ P) s1 σ H1 (λ _ _ => False) (toA I1) (fkA hP1 fr1) st1 go
  refine wpAny_mono (zA (λ u => rfl) q) (λ r s2 ⟨u, hr, x, H', I3, r3, y3, st3, fr3⟩ => ?_) λ _ _ z => z.elim;exact ⟨u, x, H', hr, r3, yl x H' y3, hP1, ofA I1.ok I3, st3, fr3⟩
 .rintro P i H1 s1 E ⟨hP1, I1, st1, fr1⟩ hf;exact wpAny_mono (T.done ({ X with A := A' } : Cx) rfl rfl rfl hc i (pins ++ P) s1 σ H1 (λ _ _ => False) (toA I1) (fkA hP1 fr1) st1 hf) (λ r s2 ⟨hr, I2⟩ => ⟨hr, ofA I1.ok I2⟩) λ _ _ z => z.elim
 .rintro P i H1 s1 h' tk ⟨hP1, I1, st1, fr1⟩ hk;exact ⟨hP1, I1.kept hk, T.keep _ _ _ st1 λ b _ o e => hk b o e, fr1⟩
 .rintro P i H1 s1 D o ⟨hP1, I1, st1, fr1⟩ hD ho hn hcell;refine ⟨λ p hp => ?_, I1.pins_of λ p hp => ?_, st1, fr1⟩
  .rcases Zi.mp hp with z | z
   .subst z; exact hD
   .exact hP1 p z
  .rcases Zm.mp hp with z | z
   .exact I1.pin p (by simp [z])
   .rcases Zi.mp z with z | z
    .subst z;exact ⟨ho, hn, λ z => absurd I.lt (by rw [<- z]; exact Nat.not_lt.mpr hD), I.nofs hD, hcell⟩
    .exact I1.pin p (by simp [z])
 .rintro p P i H1 s1 ⟨hP1, I1, st1, fr1⟩;exact ⟨λ q hq => hP1 q (List.mem_cons_of_mem _ hq), I1.pins_of λ q hq => I1.pin q (by rcases Zm.mp hq with z | z <;> simp [z]), st1, fr1⟩
 .rintro P i H1 s1 h' tk D ⟨hP1, I1, st1, fr1⟩ hD hn hPD hk;have l4 : ∀ b, b < s.heap.objs.size -> b ≠ D := λ b hb => Zk (Zc hb hD);refine ⟨hP1, I1.turned hk hn (Ne.symm (l4 _ I.lt)) (.inr (Zl I.sz hD)) (λ x c e => let ⟨v, q⟩ := I.cell x c e; l4 c q.lt) (λ p hp => ?_), T.keep _ _ _ st1 λ b hb o e => hk b o (l4 b (flt b hb)) e, fr1⟩
  rcases Zm.mp hp with z | z
  .exact l4 _ (Ze (I.pin p (by simp [z])).1)
  .rcases Zm.mp z with z | z
   .exact l4 _ (Ze (I.pin p (by simp [z])).1)
   .exact hPD p z
theorem JS {te : TE} (hc : X.calm = true) (he : PE X e te) : Ah X e (λ σ H R => te σ H λ x H1 => ∃ a, x = .ref a /\ ((∃ xs, SqL X.K H1 a xs) /\ R (Eg (Itl X.K a)) H1 ∨ (∃ xs, SqT X.K H1 a xs) /\ R (Eg (Itt X.K a)) H1)) := by
 intro pins s σ H R I h;refine thn (he pins s σ H _ I h) λ v s1 zq1 => ?_;obtain ⟨x, H1, I1, r1, a, e, q⟩ := zq1;subst e;cases r1
 rcases q with ⟨⟨xs, hq⟩, q⟩ | ⟨⟨xs, hq⟩, q⟩
 .refine ⟨_, H1, I1, λ A' E h1 h2 h3 h4 => ?_, q⟩;obtain ⟨its, rv, p, hz⟩ := I1.list hq;refine wpAny_pyIter_list p.isList ?_;obtain ⟨lo, SS, sm, s0, hl⟩ := wO (A' := A') (H := H1) (s := { s1 with heap := s1.heap.push { cls := .type "list_iterator", data := .fields #[.ref a, .int 0 0] } }) hc h1 h2 (wN a s1.heap.objs.size) (I1.kept (t' := s1.toks) λ b o e => Zb _ e) ⟨_, Zf _ rfl, rfl, rfl⟩ λ b hb => by
   have e : b = s1.heap.objs.size := by simpa using hb
   subst e;exact I1.fpOk (Zg _) (I1.hok.fresh (Zg _))
  exact ⟨_, lo, SS, rfl, sm, s0, hl⟩
 .refine ⟨_, H1, I1, λ A' E h1 h2 h3 h4 => ?_, q⟩;obtain ⟨its, rv, p, hz⟩ := I1.tuple hq;refine wpAny_pyIter_tuple (show s1.heap.IsTuple a its.toArray from p) ?_;obtain ⟨lo, SS, sm, s0, hl⟩ := wO (A' := A') (H := H1) (s := { s1 with heap := s1.heap.push { cls := .type "tuple_iterator", data := .fields #[.ref a, .int 0 0] } }) hc h1 h2 (vV a s1.heap.objs.size) (I1.kept (t' := s1.toks) λ b o e => Zb _ e) ⟨_, Zf _ rfl, rfl, rfl⟩ λ b hb => by
   have e : b = s1.heap.objs.size := by simpa using hb
   subst e;exact I1.fpOk (Zg _) (I1.hok.fresh (Zg _))
  exact ⟨_, lo, SS, rfl, sm, s0, hl⟩
end
section
variable {X : Cx} {e : Expr} {ts : vG} {p pos : Pos} {pins : List (Addr × Obj)} {σ : L2.St}
def Rg (S : pg) (Fin : List V -> Hp -> Prop) (H1 : Hp) : Prop := ∃ W : Nat -> Nat -> List V -> Hp -> Prop, (∃ m, W 0 m [] H1) /\ ∀ i m ys H, W i m ys H ->
 (S.fin i H /\ Fin ys H) ∨ (ys.length < sizeLine /\ S.nxt i H λ y H' => ∃ m', m' < m /\ W (i + 1) m' (ys ++ [y]) H')
theorem BJ {A : Around} {it D : Addr} {lo : Nat} {S : pg} {SS : List (Addr × Obj) -> Nat -> Hp -> Shared -> Prop} {Fin : List V -> Hp -> Prop} {W : Nat -> Nat -> List V -> Hp -> Prop} {res : Value} (sm : zm X pins σ A.in1 it lo S SS) (hD : lo <= D)
  (st : ∀ i m ys H, W i m ys H -> (S.fin i H /\ Fin ys H) ∨ (ys.length < sizeLine /\ S.nxt i H λ y H' => ∃ m', m' < m /\ W (i + 1) m' (ys ++ [y]) H')) :
  ∀ (m i : Nat) (ys : List V) (us : List Value) (c : Nat) (H : Hp) (s : Shared), SS [] i H s -> W i m ys H -> Vals ys us -> ys.length <= sizeLine -> s.heap.get? D = some (bR us c) -> H D = none ->
   codeAny (model X.prog X.w) A (.builtin "list.extend.loop" ⟨[.ref D, .ref it, res], []⟩) (λ r s' => r = .ok (.ret res) /\ ∃ ys us c H', Inv X pins σ H' s' /\ Vals ys us /\ ys.length <= sizeLine /\ s'.heap.get? D = some (bR us c) /\ H' D = none /\ Fin ys H') s := by
 intro m
 induction m using Nat.strongRecOn with
 | ind m ih =>
  intro i ys us c H s hs hw hv hz ho hn;have hsp := sm.pin hs hD ho hn (λ v z => by cases z)
  refine codeAny_builtin F.entry_extend_loop ?_;rw [Around.under_plainId F.plain_extend_loop _];show wpAny _ A.in1 (pyNext (.ref it) >>= _) _ _ s
  rcases st i m ys H hw with ⟨hf, q⟩ | ⟨hlt, hn'⟩
  .refine wpAny_bind (wpAny_mono (sm.stop (λ _ _ => False) hsp hf) (λ r s1 ⟨hr, I1⟩ => ?_) λ _ _ z => z.elim);subst hr;have pl := I1.pin (D, bR us c) (by simp)
   exact wpAny_pure ⟨rfl, ys, us, c, H, I1.pins_of λ p hp => I1.pin p (by simp [hp]), hv, hz, pl.1, hn, q⟩
  .refine wpAny_bind (wpAny_mono (sm.next (λ _ _ => False) hsp hn') (λ r s1 ⟨u, y, H', hr, ry, ⟨m', hm, hw'⟩, hs'⟩ => ?_) λ _ _ z => z.elim);subst hr;have pl := (sm.inv hs').pin (D, bR us c) (by simp)
   have hul : us.length = ys.length := hv.length.symm;show wpAny _ A.in1 (updateSeq D (·.push u) >>= _) _ _ _;refine wpAny_bind ?_;refine wpAny_updateSeq pl.1 rfl (wpAny_pure ⟨plainId_quiet F.plain_extend_loop _, ih m' hm (i + 1) (ys ++ [y]) (us ++ [u]) (c + 1) H' _ (sm.acc (tk := s1.toks) (sm.unpin hs') hD pl.2.1 (λ p hp => absurd hp (by simp)) λ b o hb e => (Heap.get?_update_other _ _ (Ne.symm hb)).trans e) hw' (hv.append (.cons ry .nil)) (by rw [List.length_append]; exact hlt) ?_ pl.2.1⟩) ?_ ?_
   .rw [Heap.get?_update_self _ pl.1 rfl];simp [Obj.mapSeq, bR]
   .show us.toArray.size <= sizeLine;rw [Zd, hul]; exact hz
   .show (us.toArray.push u).size <= sizeLine + 1;rw [Array.size_push, Zd, hul]; omega
theorem Ak {A : Around} {E : Value -> Shared -> Prop} {a : Addr} {lo : Nat} {S : pg} {SS : List (Addr × Obj) -> Nat -> Hp -> Shared -> Prop} {Fin : List V -> Hp -> Prop} {H : Hp} {s : Shared} {Q : List Value -> Shared -> Prop} (sm : zm X pins σ A.in1 a lo S SS) (hs : SS [] 0 H s) (hal : a < lo) (hlo : lo <= s.heap.objs.size)
  (hg : ∀ P i H s, SS P i H s -> ∃ g, s.heap.IsGen a g) (hC : Rg S Fin H) (hQ : ∀ ys us H' s', Inv X pins σ H' s' -> Vals ys us -> ys.length <= sizeLine -> Fin ys H' -> Q us s') : wpAny (model X.prog X.w) A (collect (.ref a)) Q E s := by
 obtain ⟨W, ⟨m, w0⟩, st⟩ := hC;have hT : ∀ {P i H s}, SS P i H s -> s.TypeIs (.ref a) "generator" := λ h => let ⟨g, ig⟩ := hg _ _ _ _ h; ig.typeIs;have hSa : s.heap.objs.size ≠ a := Nat.ne_of_gt (Zc hal hlo);unfold collect;refine wpAny_bind (wpAny_runValue (codeAny_builtin F.entry_proto_collect ?_));rw [Around.under_plainId F.plain_proto_collect _];show wpAny _ A.in1 (newList [] >>= λ l => again (.builtin "list.__iadd__" ⟨[l, .ref a], []⟩)) _ _ s;refine wpAny_bind (wpAny_newObj_type ?_);refine wpAny_pure ⟨plainId_quiet F.plain_list_iadd _, codeAny_builtin F.entry_list_iadd ?_⟩;rw [Around.under_plainId F.plain_list_iadd _];have hn : H s.heap.objs.size = none := (sm.inv hs).hok.fresh (Zg _);have hst₁ := sm.keep (h' := s.heap.push { cls := .type "list", data := .seq ([] : List Value).toArray }) (tk := s.toks) hs λ b o e => Zb _ e;show wpAny _ A.in1 (Builtin.List.listExtendWith (.ref s.heap.objs.size) (.ref a) (.ref s.heap.objs.size)) _ _ _;unfold Builtin.List.listExtendWith;refine wpAny_bind (wpAny_typeOf (hT hst₁) ?_);have h1 : Builtin.List.listSameRef (.ref s.heap.objs.size) (.ref a) = false := by simp [Builtin.List.listSameRef, hSa]
 have h2 : (Value.type "generator" == Value.type "list") = false := by decide
 have h3 : (Value.type "generator" == Value.type "tuple") = false := by decide
 simp only [h1, h2, h3, Bool.or_false, Bool.false_eq_true, if_false];obtain ⟨g1, ig1⟩ := hg _ _ _ _ hst₁;refine wpAny_bind (wpAny_pyIter_gen ig1 ?_);refine wpAny_bind (wpAny_holding ?_);unfold Builtin.List.listLengthHint;refine wpAny_bind (wpAny_specialOf (hT hst₁) F.gen_no_len ?_);show wpAny _ A.in1 (specialOf (Value.ref a) (Str.ofString "__length_hint__") >>= _) _ _ _;refine wpAny_bind (wpAny_specialOf (hT hst₁) F.gen_no_hint ?_);refine wpAny_pure ?_;show wpAny _ A.in1 (rule "list.extend.makes-room" >>= λ _ => Builtin.List.listTouch (.ref s.heap.objs.size) >>= λ _ =>
  again (.builtin "list.extend.loop" ⟨[.ref s.heap.objs.size, .ref a, .ref s.heap.objs.size], []⟩)) _ _ _
 refine wpAny_bind (wpAny_rule ?_);have hS₁ : (s.heap.push { cls := .type "list", data := .seq ([] : List Value).toArray }).get? s.heap.objs.size = some { cls := .type "list", data := .seq ([] : List Value).toArray } := Zf _ rfl;refine wpAny_bind ?_;show wpAny _ A.in1 (updateSeq s.heap.objs.size (·.push .none) >>= λ _ => updateSeq s.heap.objs.size (·.pop)) _ _ _;refine wpAny_bind (wpAny_updateSeq hS₁ rfl ?_);have hS₂ := Heap.get?_update_self (Obj.mapSeq (·.push Value.none)) hS₁ rfl;refine wpAny_updateSeq hS₂ rfl ?_;have hS₃ := Heap.get?_update_self (Obj.mapSeq (·.pop)) hS₂ rfl;have oth : ∀ b o, b ≠ s.heap.objs.size -> (s.heap.push { cls := .type "list", data := .seq ([] : List Value).toArray }).get? b = some o ->
   (((s.heap.push { cls := .type "list", data := .seq ([] : List Value).toArray }).update s.heap.objs.size (Obj.mapSeq (·.push Value.none))).update s.heap.objs.size (Obj.mapSeq (·.pop))).get? b = some o :=
  λ b o hb e => (Heap.get?_update_other _ _ (Ne.symm hb)).trans ((Heap.get?_update_other _ _ (Ne.symm hb)).trans e)
 refine wpAny_pure ⟨plainId_quiet F.plain_extend_loop _, codeAny_mono (BJ (res := .ref s.heap.objs.size) sm hlo st m 0 [] [] _ H _ (sm.acc (s := ({ s with heap := s.heap.push { cls := .type "list", data := .seq ([] : List Value).toArray } } : Shared)) (h' := ((s.heap.push { cls := .type "list", data := .seq ([] : List Value).toArray }).update s.heap.objs.size (Obj.mapSeq (·.push Value.none))).update s.heap.objs.size (Obj.mapSeq (·.pop))) (tk := s.toks) hst₁ hlo hn (λ p hp => absurd hp (by simp)) oth) w0 .nil (Nat.zero_le _) hS₃ hn) λ r s' ⟨hr, ys, us, c, H', I', hv, hz, ho, hn', hfin⟩ => ?_⟩
 subst hr;show wpAny _ A (load s.heap.objs.size >>= _) _ _ s';refine wpAny_bind (wpAny_load ho ?_);refine wpAny_pure ?_;have e : (us.toArray).toList = us := by simp
 show Q (us.toArray).toList s';rw [e];exact hQ ys us H' s' I' hv hz hfin
def Um (ts : vG) : TE := λ σ H Q => ts σ H λ S H1 => Rg S (λ ys H' => ∀ p, H' p = none -> Q (.ref p) (upd H' p (.tup ys))) H1
theorem uv {A : Around} {E : Value -> Shared -> Prop} {a : Addr} {lo : Nat} {S : pg} {SS : List (Addr × Obj) -> Nat -> Hp -> Shared -> Prop} {Fin : List V -> Hp -> Prop} {H : Hp} {s : Shared} {Q₁ : Value -> Shared -> Prop} (sm : zm X pins σ A.in1.in1 a lo S SS) (hs : SS [] 0 H s) (hal : a < lo) (hlo : lo <= s.heap.objs.size)
  (hg : ∀ P i H s, SS P i H s -> ∃ g, s.heap.IsGen a g) (hC : Rg S Fin H) (h : ∀ ys us H' s', Inv X pins σ H' s' -> Vals ys us -> ys.length <= sizeLine -> Fin ys H' -> Q₁ (.ref s'.heap.objs.size) { s' with heap := s'.heap.push { cls := .type "tuple", data := .seq us.toArray } }) :
  codeAny (model X.prog X.w) A (.call (.builtin "tuple.__new__") ⟨[.type "tuple", .ref a], []⟩) (wants Q₁ E) s := by
 refine codeAny_of_tree ?_;show wpAny _ A.in1 (do checkBuiltinCall "tuple.__new__" ⟨[.type "tuple", .ref a], []⟩; again (.builtin "tuple.__new__" ⟨[.type "tuple", .ref a], []⟩)) _ _ s
 refine wpAny_bind (wpAny_of_eq (F.newCall_tuple_1 _) (wpAny_pure ⟨plainId_quiet F.plain_tuple_new _, codeAny_builtin F.entry_tuple_new ?_⟩));rw [Around.under_plainId F.plain_tuple_new _];have hsub := sub_tuple_self;have hinit := init_tuple_lookup;have hmh := madeHere_tuple;obtain ⟨g0, ig0⟩ := hg _ _ _ _ hs;have hTI := ig0.typeIs;have col : ∀ {Q : List Value -> Shared -> Prop} {E : Value -> Shared -> Prop}, (∀ ys us H' s', Inv X pins σ H' s' -> Vals ys us -> ys.length <= sizeLine -> Fin ys H' -> Q us s') -> wpAny (model X.prog X.w) A.in1 (collect (.ref a)) Q E s := λ hQ => Ak sm hs hal hlo hg hC hQ
 wp_walk using wpAny_typeOf hTI, col
 intro ys us H' s' I' hv hz hfin;show wpAny _ _ (Builtin.Tuple.tupleExact us.toArray >>= λ v => ret v) _ _ _;unfold Builtin.Tuple.tupleExact;refine wpAny_bind (wpAny_newObj_type ?_ (by show us.toArray.size <= sizeLine; rw [Zd, <- hv.length]; exact hz))
 refine wpAny_pure ?_;exact h ys us H' s' I' hv hz hfin
theorem Pu (hc : X.calm = true) (hm : X.mg "tuple" = none) (hstr : xr X e ts) (hg : Gl X "tuple" := by rfl) (hs : starEach [e] X.env = (false, eval e X.env) :: starEach [] X.env := by rfl) : PE X (.Call (.Name "tuple" p) [e] [] pos) (Um ts) := by
 intro pins s σ H Q I h;refine wpAny_Call_Name_kw (lD I hg hm PyProof.Rows.boot_tuple ?_ (by decide) (by decide))
 refine PyProof.Rows.callWith_type1 (qO (thn (hstr pins s σ H _ I h) λ u s1 ⟨a, S, H1, e, I1, rdy, hC⟩ => ?_) hs) hs rfl;subst e;obtain ⟨a1, a2⟩ := vL I1 hc (A' := X.A.in1.in1.in1) rfl rfl;obtain ⟨lo, SS, sm, s0, hal, hlo, hgn⟩ := rdy X.A.in1.in1.in1 a1 a2 (Nat.le_succ _) (by show X.A.units + 1 + 1 + 1 <= _; omega)
 refine callType_codes (Q₁ := λ obj s₁ => s₁.TypeIs obj "tuple" /\ EP X pins σ Q obj s₁) F.called_tuple (F.typeCall_tuple_1 _) F.entry_object_init
  (uv (A := X.A.in1) sm s0 hal hlo hgn hC λ ys us H' s' I' hv hz hfin => ⟨⟨_, Zf _ rfl, rfl⟩, ?_⟩) λ obj s₁ h₁ => ?_
 .have hf : H' s'.heap.objs.size = none := I'.hok.fresh (Zg _);refine ⟨.ref s'.heap.objs.size, upd H' s'.heap.objs.size (.tup ys), I'.laid (t' := s'.toks) (λ b u e => Zb _ e) (Zg _) ?_, rfl, hfin _ hf⟩;exact ⟨hz, us, hv, ⟨_, Zf _ rfl, rfl, _, rfl⟩⟩
 .exact ⟨h₁.1, F.args_object_init_2 obj _, object_init_meets F.called_tuple.init.lookup F.called_tuple.made (by decide) X.prog X.w X.A.in1 _ s₁ ⟨h₁.1, rfl, h₁.2⟩⟩
def Uu (ts : vG) : TE := λ σ H Q => ts σ H λ S H1 => ∃ W : Nat -> Nat -> Int -> Hp -> Prop, (∃ m, W 0 m 0 H1) /\ ∀ i m t H, W i m t H ->
 (S.fin i H /\ Q (.int t) H) ∨ S.nxt i H λ y H' => ∃ j, y = .int j /\ ∃ m', m' < m /\ W (i + 1) m' (t + j) H'
theorem Jp {A : Around} {it D : Addr} {lo : Nat} {S : pg} {SS : List (Addr × Obj) -> Nat -> Hp -> Shared -> Prop} {Q : VK} {W : Nat -> Nat -> Int -> Hp -> Prop} (sm : zm X pins σ A.in1 it lo S SS) (hD : lo <= D)
  (st : ∀ i m t H, W i m t H -> (S.fin i H /\ Q (.int t) H) ∨ S.nxt i H λ y H' => ∃ j, y = .int j /\ ∃ m', m' < m /\ W (i + 1) m' (t + j) H') :
  ∀ (m i : Nat) (t : Int) (tA : Tok) (c : Nat) (stage : Int) (H : Hp) (s : Shared), (stage = 0 ∨ stage = 2) -> SS [] i H s -> W i m t H -> s.heap.get? D = some (bR [.int t tA] c) -> H D = none ->
   codeAny (model X.prog X.w) A (.builtin "sum.loop" ⟨[.ref it, .ref D, rawInt stage, rawInt 0], []⟩) (λ r s' => ∃ u, r = .ok (.ret u) /\ EP X pins σ Q u s') s := by
 intro m
 induction m using Nat.strongRecOn with
 | ind m ih =>
  intro i t tA c stage H s hstg hs hw ho hn;have hsp := sm.pin hs hD ho hn (λ v z => by cases z)
  refine codeAny_builtin F.entry_sum_loop ?_;rw [Around.under_plainId F.plain_sum_loop _];show wpAny _ A.in1 (seqItems? (.ref D) >>= _) _ _ s;refine wpAny_bind (wpAny_seqItems ho rfl ?_);show wpAny _ A.in1 (tryCatch (pyNext (.ref it)) _ >>= _) _ _ s
  rcases st i m t H hw with ⟨hf, q⟩ | hn'
  .refine wpAny_bind (wpAny_tryCatch (wpAny_mono (sm.stop (λ _ _ => False) hsp hf) (λ r s1 ⟨hr, I1⟩ => ?_) λ _ _ z => z.elim));subst hr;exact wpAny_pure ⟨_, rfl, .int t, H, I1.pins_of λ p hp => I1.pin p (by simp [hp]), ⟨tA, rfl⟩, q⟩
  .refine wpAny_bind (wpAny_tryCatch (wpAny_mono (sm.next (λ _ _ => False) hsp hn') (λ r s1 ⟨u, y, H', hr, ry, ⟨j, ey, m', hm, hw'⟩, hs'⟩ => ?_) λ _ _ z => z.elim));subst hr ey;obtain ⟨tj, rfl⟩ := ry;have pl := (sm.inv hs').pin (D, bR [.int t tA] c) (by simp)
   have hs0 := sm.unpin hs';have plain : ∀ (next : Value -> Int), (∀ r, next r = 2) -> wpAny (model X.prog X.w) A.in1 (do
     match <- (holding [Value.int j tj] (binaryOp .Add (Value.int t tA) (Value.int j tj))).attempt with
     | .ok r => updateSeq D λ _ => #[r]; letGo [Value.int t tA, Value.int j tj]; (do updateSeq D λ _ => #[r]; again (.builtin "sum.loop" ⟨[.ref it, .ref D, rawInt (next r), rawInt 0], []⟩))
     | .error e => updateSeq D λ _ => #[]; letGo [Value.int t tA, Value.int j tj] [e]; throw e) (λ fin s' => match fin with
      | .done f => ∃ u, (Except.ok f : Result) = .ok (.ret u) /\ EP X pins σ Q u s'
      | .again c => c.quiet = true /\ codeAny (model X.prog X.w) A c (λ r s' => ∃ u, r = .ok (.ret u) /\ EP X pins σ Q u s') s') (λ e s' => ∃ u, (Except.error e : Result) = .ok (.ret u) /\ EP X pins σ Q u s') s1 := by
    intro next hnx;refine wpAny_bind (wpAny_attempt (wpAny_holding (add_int ?_)));refine wpAny_bind (wpAny_updateSeq (s := { s1 with toks := s1.toks + 1 }) pl.1 rfl ?_)
    have o1 := Heap.get?_update_self (Obj.mapSeq (λ _ => #[Value.int (t + j) s1.toks])) pl.1 rfl;refine wpAny_bind (wpAny_letGo ?_);refine wpAny_bind (wpAny_updateSeq o1 rfl ?_);have o2 := Heap.get?_update_self (Obj.mapSeq (λ _ => #[Value.int (t + j) s1.toks])) o1 rfl;rw [hnx];refine wpAny_pure ⟨plainId_quiet F.plain_sum_loop _, ih m' hm (i + 1) (t + j) s1.toks _ 2 H' _ (.inr rfl) (sm.acc (s := s1) (h' := (s1.heap.update D (Obj.mapSeq (λ _ => #[Value.int (t + j) s1.toks]))).update D (Obj.mapSeq (λ _ => #[Value.int (t + j) s1.toks]))) (tk := s1.toks + 1) hs0 hD pl.2.1 (λ p hp => absurd hp (by simp)) λ b o hb e => (Heap.get?_update_other _ _ (Ne.symm hb)).trans ((Heap.get?_update_other _ _ (Ne.symm hb)).trans e)) hw' o2 pl.2.1⟩
   rcases hstg with rfl | rfl
   .show wpAny _ A.in1 (if (_ : Bool) = true then (mkInt (t + j) >>= _) else _) _ _ _;split
    .refine wpAny_bind (wpAny_mkInt ?_);show wpAny _ A.in1 (updateSeq D (λ _ => #[.int (t + j) s1.toks]) >>= _) _ _ _;refine wpAny_bind (wpAny_updateSeq (s := { s1 with toks := s1.toks + 1 }) pl.1 rfl ?_)
     have o1 := Heap.get?_update_self (Obj.mapSeq (λ _ => #[Value.int (t + j) s1.toks])) pl.1 rfl;exact wpAny_pure ⟨plainId_quiet F.plain_sum_loop _, ih m' hm (i + 1) (t + j) s1.toks _ 0 H' _ (.inl rfl) (sm.acc (s := s1) (h' := s1.heap.update D (Obj.mapSeq (λ _ => #[Value.int (t + j) s1.toks]))) (tk := s1.toks + 1) hs0 hD pl.2.1 (λ p hp => absurd hp (by simp)) λ b o hb e => (Heap.get?_update_other _ _ (Ne.symm hb)).trans e) hw' o1 pl.2.1⟩
    .exact wpAny_bind (wpAny_rule (plain (λ _ => 2) λ _ => rfl))
   .exact plain (λ _ => 2) λ _ => rfl
theorem OJ (hc : X.calm = true) (hm : X.mg "sum" = none) (hstr : Ah X e ts) (hg : Gl X "sum" := by rfl) (hs : starEach [e] X.env = (false, eval e X.env) :: starEach [] X.env := by rfl) : PE X (.Call (.Name "sum" p) [e] [] pos) (Uu ts) := by
 intro pins s σ H Q I h;refine wpAny_Call_Name_kw (lD I hg hm boot_sum ?_ (by decide) (by decide))
 refine PyProof.Rows.callWith_builtin1 (qO (thn (hstr pins s σ H _ I h) λ u s1 ⟨S, H1, I1, rdy, W, ⟨m, w0⟩, st⟩ => ?_) hs) hs rfl;refine call_function_tree F.kind_sum F.plain_sum F.entry_sum (F.args_sum1 _) ?_;unfold Builtin.«sum»;simp only [List.length_cons, List.length_nil];rw [if_neg (by decide)]
 refine wpAny_bind (wpAny_of_eq (show Builtin.Builtins.bindParams "sum" ["start"] 0 { } = pure [none] from rfl) ?_);obtain ⟨a1, a2⟩ := vL I1 hc (A' := X.A.in1) rfl rfl;refine wpAny_bind (wpAny_mono (rdy X.A.in1 (λ _ _ => False) a1 a2 (Nat.le_succ _) (by show X.A.units + 1 <= _; omega)) (λ itv s2 ⟨it, lo, SS, e, sm, s0, hlo⟩ => ?_) λ _ _ z => z.elim)
 subst e;refine wpAny_bind (wpAny_mkInt ?_);refine wpAny_bind (wpAny_pure ?_);simp only [List.forIn_cons, List.forIn_nil];refine wpAny_bind (wpAny_bind (wpAny_bind (wpAny_isInstance (T := "int") (b := false) (typeIs_int _ _ _) PySem.sub_int_str ?_)));simp only [Bool.false_eq_true, if_false];refine wpAny_pure (wpAny_bind (wpAny_bind (wpAny_isInstance (T := "int") (b := false) (typeIs_int _ _ _) PySem.sub_int_bytes ?_)));simp only [Bool.false_eq_true, if_false];refine wpAny_pure (wpAny_bind (wpAny_bind (wpAny_isInstance (T := "int") (b := false) (typeIs_int _ _ _) PySem.sub_int_bytearray ?_)));simp only [Bool.false_eq_true, if_false];refine wpAny_pure (wpAny_pure ?_);refine wpAny_bind (wpAny_newObj_type ?_);have hn : H1 s2.heap.objs.size = none := (sm.inv s0).hok.fresh (Zg _);refine wpAny_pure ⟨plainId_quiet F.plain_sum_loop _, codeAny_mono (Jp sm hlo st m 0 0 s2.toks 0 0 H1 _ (.inl rfl) (sm.keep (s := s2) (h' := s2.heap.push { cls := .type "list", dict := none, data := .seq [Value.int 0 s2.toks].toArray }) (tk := s2.toks + 1) s0 λ b o e => Zb _ e) w0 (Zf _ rfl) hn) λ r s' ⟨u, hr, q⟩ => ?_⟩;subst hr;exact q
end
end L2
namespace L3
open PySem PySem.Spec PyProof.Rows L2
abbrev gJ := Mu -> Option (D × Mu)
structure Qo (K : PySem.W.Frag) (tb : List Addr) (S : pg) (ths : List gJ) (W0 : Wd) : Prop where
 nxt : ∀ (i : Nat) W th d μ' Q, Le tb W0 W -> WOk K tb W -> ths[i]? = some th -> th W.mu = some (d, μ') -> (∀ v W', WOk K tb W' -> Le tb W W' -> W'.mu = μ' -> Den K tb W' d v -> Q v W'.H) -> S.nxt i W.H Q
 fin : ∀ (i : Nat) W, Le tb W0 W -> WOk K tb W -> ths.length <= i -> S.fin i W.H
abbrev StF := En -> Mu -> Option (List gJ × Mu)
def PQ (K : PySem.W.Frag) (tb : List Addr) (f : StF) : vG := λ σ H R => ∃ W δ ths μ', W.H = H /\ WOk K tb W /\ jC K tb W δ σ /\ f δ W.mu = some (ths, μ') /\
 ∀ S W', WOk K tb W' -> Le tb W W' -> W'.mu = μ' -> Qo K tb S ths W' -> R S W'.H
def Bk (X : Cx) (tb : List Addr) (e : Expr) (f : StF) : Prop := Ah X e (PQ X.K tb f)
def Dt (X : Cx) (tb : List Addr) (e : Expr) (f : StF) : Prop := xr X e (PQ X.K tb f)
section
variable {X : Cx} {tb : List Addr} {e tg iter elt : Expr} {f : EF} {pos p : Pos} {fs : StF}
theorem MT {t t' : vG} (h : Ah X e t) (k : ∀ σ H R, t' σ H R -> t σ H R) : Ah X e t' := λ pins s σ H R I hq => h pins s σ H R I (k σ H R hq)
theorem JT (h : xr X e t) (k : ∀ σ H R, t' σ H R -> t σ H R) : xr X e t' := λ pins s σ H R I hq => h pins s σ H R I (k σ H R hq)
theorem nU (h : Dt X tb e fs) : Bk X tb e fs := Bt h
def thE (d : D) : gJ := λ μ => some (d, μ)
def oF (f : EF) : StF := λ δ μ => (f δ μ).bind λ r => match r.1 with
 | .tup ds => some (ds.map thE, r.2)
 | .lst ds => some (ds.map thE, r.2)
 | _ => none
theorem JN {K : PySem.W.Frag} {J : It} {ds : List D} {W0 : Wd} (io : GZ K tb J ⟨ds, none⟩ W0) : Qo K tb (Eg J) (ds.map thE) W0 where
 nxt := λ i W th d μ' Q l ok e1 e2 hQ => by
  rw [List.getElem?_map] at e1;cases q : ds[i]? with
  | none => rw [q] at e1; cases e1
  | some d0 =>
   rw [q] at e1;cases e1;cases e2;obtain ⟨go, yl⟩ := io.go i W d l ok (Src.cC rfl) q;exact ⟨go, λ x H' y => by
    obtain ⟨W', rfl, ok', l', m', d'⟩ := yl x H' y;exact hQ x W' ok' l' m' d'⟩
 fin := λ i W l ok hi => io.stop i W l ok (Src.cC rfl) (by simpa using hi)
theorem lO (hc : X.calm = true) (he : PD X tb e f) : Bk X tb e (oF f) :=
 MT (JS hc he) λ σ H R zq1 => by
  obtain ⟨W, δ, ths, μ', e, ok, hd, hf, h⟩ := zq1;unfold oF at hf;obtain ⟨⟨x, μ1⟩, e1, e2⟩ := Za.mp hf;refine ⟨W, δ, x, μ1, e, ok, hd, e1, λ v W1 ok1 l1 m1 d1 => ?_⟩;cases x with
  | tup ds =>
   cases e2;obtain ⟨a, xs, rfl, q, r⟩ := gW d1;exact ⟨a, rfl, .inr ⟨⟨xs, SqT.fz q⟩, h _ W1 ok1 l1 m1 (JN (Jo q r))⟩⟩
  | lst ds =>
   cases e2;obtain ⟨a, xs, rfl, q, r⟩ := lE d1;exact ⟨a, rfl, .inl ⟨⟨xs, SqL.fz q⟩, h _ W1 ok1 l1 m1 (JN (Kl q r))⟩⟩
  | _ => cases e2
def thG (h : GF) (fe : EF) (δb : En) (d : D) : gJ := λ μ => (h d δb μ).bind λ δ1 => fe δ1 μ
def pC (own : List Str) (capI : List Nat) (fi : IF) (h : GF) (fe : EF) : StF := λ δ μ => (fi δ μ).bind λ r => match r.1.cel with
 | none => some (r.1.items.map (thG h fe (dg own δ capI)), r.2)
 | some _ => none
theorem jP {fi : IF} {h : GF} {fe : EF} {own cap : List Str} {capI ts : List Nat} {scope : Scope} {P : Addr} {kr : Nat} (hc : X.calm = true) (hr : eG kr X.A) (B : eQ X own cap capI scope) (hown : ∀ x ∈ own, (x, NameKind.free) ∉ scope.names) (hnc : ∀ y ∈ scope.names, y.2 ≠ .cell)
  (hP : P ∈ tb) (htb : ∃ c, X.env.code = .ref c /\ PySem.W.CodeHd X.base c P) (hi : PID X tb tg iter fi)
  (hg : ∀ AG cs C code fp s2 H2, PGD (uG X AG own cap scope cs C code fp s2 H2) tb tg ts h)
  (he : ∀ AG cs C code fp s2 H2, (∀ k, eG (k + 1) X.A -> eG k AG) -> PD (uG X AG own cap scope cs C code fp s2 H2) tb elt fe)
  (hts : ∀ i ∈ ts, i < own.length := by decide) (h0 : scope.names.lookup (".0" : Str) = some NameKind.local := by rfl) (hco : scope.isCoroutine = false := by rfl) (hs : ∀ x, genFold iter X.env x = pure x := by intro _; rfl) :
  Dt X tb (.GeneratorExp elt [⟨tg, iter, [], 0⟩] scope pos) (pC own capI fi h fe) :=
 JT (JQ (g := tDG X.K tb ts h) (te := tD X.K tb fe) hc hr B hown hnc h0 hco htb hi hg he hs) λ σ H R zq2 => by
  obtain ⟨W, δ, ths, μ', e, ok, hd, hf, k⟩ := zq2;unfold pC at hf;obtain ⟨⟨S, μ1⟩, e1, e2⟩ := Za.mp hf;obtain ⟨items, cel⟩ := S;cases cel with
  | some n => cases e2
  | none =>
   cases e2;refine ⟨W, δ, ⟨items, none⟩, _, e, ok, hd, e1, λ J W1 ok1 l1 m1 io => ?_⟩;obtain ⟨ps, ep, tp⟩ := ok1.tab P hP;refine ⟨ps, ep, tp, λ lo H2 ps' hG => ?_⟩;obtain ⟨ok2, l2⟩ := ok1.tbl hP ep hG;refine k _ ⟨H2, W1.ad, W1.mu⟩ ok2 (l1.trans l2) m1 ⟨λ i W3 th d μ3 Q l3 ok3 e3 e4 hQ => ?_, λ i W3 l3 ok3 hi3 => ?_⟩
   .rw [List.getElem?_map] at e3;cases q : items[i]? with
    | none => rw [q] at e3; cases e3
    | some d0 =>
     rw [q] at e3;cases e3;unfold thG at e4;obtain ⟨δ1, e5, e6⟩ := Za.mp e4;obtain ⟨go, yl⟩ := io.go i W3 d0 (l2.trans l3) ok3 (Src.cC rfl) q;refine ⟨go, λ x H' y => ?_⟩;obtain ⟨W4, rfl, ok4, l4, m4, d4⟩ := yl x H' y;refine ⟨W4, dg own δ capI, d0, δ1, rfl, ok4, (uf hd).mono' (((l1.trans l2).trans l3).trans l4), d4, (by rw [m4]; exact e5), λ σ' d' hl ht => ⟨fits_of hts hl ht, ?_⟩⟩
     exact ⟨W4, δ1, d, μ3, rfl, ok4, d', (by rw [m4]; exact e6), λ v W5 ok5 l5 m5 d5 => hQ v W5 ok5 (l4.trans l5) m5 d5⟩
   .exact io.stop i W3 (l2.trans l3) ok3 (Src.cC rfl) (by simpa using hi3)
def Bh : D -> Option Bool
 | .bl b => some b
 | .int i => some (i != 0)
 | _ => none
theorem zN {K : PySem.W.Frag} {W : Wd} {x : D} {v : V} {k : Bool} (h : Den K tb W x v) (e : Bh x = some k) : Hh v k := by
 cases x with
 | bl b => cases e; exact .inl (pJ h)
 | int i => cases e; exact .inr ⟨i, bB h, rfl⟩
 | _ => cases e
def Am : List gJ -> Mu -> Option (Bool × Mu)
 | [], μ => some (true, μ)
 | t :: r, μ => (t μ).bind λ x => (Bh x.1).bind λ k => if k = true then Am r x.2 else some (false, x.2)
def rJ : List gJ -> Mu -> Option (Bool × Mu)
 | [], μ => some (false, μ)
 | t :: r, μ => (t μ).bind λ x => (Bh x.1).bind λ k => if k = true then some (true, x.2) else rJ r x.2
def Bm : List gJ -> Mu -> Option (List D × Mu)
 | [], μ => some ([], μ)
 | t :: r, μ => (t μ).bind λ x => (Bm r x.2).bind λ q => some (x.1 :: q.1, q.2)
def tV : Int -> List gJ -> Mu -> Option (Int × Mu)
 | a, [], μ => some (a, μ)
 | a, t :: r, μ => (t μ).bind λ x => match x.1 with
  | .int j => tV (a + j) r x.2
  | _ => none
def Bw (f : StF) : EF := λ δ μ => (f δ μ).bind λ r => (Am r.1 r.2).bind λ q => some (.bl q.1, q.2)
def An (f : StF) : EF := λ δ μ => (f δ μ).bind λ r => (rJ r.1 r.2).bind λ q => some (.bl q.1, q.2)
def zV (f : StF) : EF := λ δ μ => (f δ μ).bind λ r => if r.1.length <= sizeLine then (Bm r.1 r.2).bind λ q => some (.tup q.1, q.2) else none
def Hu (f : StF) : EF := λ δ μ => (f δ μ).bind λ r => (tV 0 r.1 r.2).bind λ q => some (.int q.1, q.2)
theorem yL (hc : X.calm = true) (hm : X.mg "all" = none) (hstr : Bk X tb e fs) (hg : Gl X "all" := by rfl) (hs : starEach [e] X.env = (false, eval e X.env) :: starEach [] X.env := by rfl) : PD X tb (.Call (.Name "all" p) [e] [] pos) (Bw fs) :=
 dU (Oq hc hm hstr hg hs) λ σ H Q zq3 => by
  obtain ⟨W, δ, d, μ', e, ok, hd, hf, h⟩ := zq3;unfold Bw at hf;obtain ⟨⟨ths, μ1⟩, e1, hf⟩ := Za.mp hf;obtain ⟨⟨b, μ2⟩, e2, e3⟩ := Za.mp hf;cases e3;refine ⟨W, δ, ths, μ1, e, ok, hd, e1, λ S W1 ok1 l1 m1 so => ?_⟩;refine ⟨λ i m H2 => m = ths.length - i /\ ∃ W2, W2.H = H2 /\ WOk X.K tb W2 /\ Le tb W1 W2 /\ Am (ths.drop i) W2.mu = some (b, μ2), ⟨_, rfl, W1, rfl, ok1, Le.refl _, by rw [m1]; exact e2⟩, ?_⟩
  rintro i m H2 ⟨rfl, W2, rfl, ok2, l2, ha⟩;by_cases hlt : i < ths.length
  .right
   rw [List.drop_eq_getElem_cons hlt] at ha;unfold Am at ha;obtain ⟨⟨x, μ3⟩, e3, ha⟩ := Za.mp ha;obtain ⟨k, e4, ha⟩ := Za.mp ha;refine so.nxt i W2 ths[i] x μ3 _ l2 ok2 (by simp [hlt]) e3 λ v W3 ok3 l3 m3 d3 => ⟨k, zN d3 e4, ?_⟩
   cases k with
   | true =>
    rw [if_pos rfl];exact ⟨ths.length - (i + 1), by omega, rfl, W3, rfl, ok3, l2.trans l3, by rw [m3]; exact ha⟩
   | false =>
    rw [if_neg Zr];cases ha;exact h _ W3 ok3 ((l1.trans l2).trans l3) m3 fG
  .left
   rw [List.drop_of_length_le (by omega)] at ha
   cases ha;exact ⟨so.fin i W2 l2 ok2 (by omega), h _ W2 ok2 (l1.trans l2) rfl fG⟩
theorem yS (hc : X.calm = true) (hm : X.mg "any" = none) (hstr : Bk X tb e fs) (hg : Gl X "any" := by rfl) (hs : starEach [e] X.env = (false, eval e X.env) :: starEach [] X.env := by rfl) : PD X tb (.Call (.Name "any" p) [e] [] pos) (An fs) :=
 dU (Oz hc hm hstr hg hs) λ σ H Q zq4 => by
  obtain ⟨W, δ, d, μ', e, ok, hd, hf, h⟩ := zq4;unfold An at hf;obtain ⟨⟨ths, μ1⟩, e1, hf⟩ := Za.mp hf;obtain ⟨⟨b, μ2⟩, e2, e3⟩ := Za.mp hf;cases e3;refine ⟨W, δ, ths, μ1, e, ok, hd, e1, λ S W1 ok1 l1 m1 so => ?_⟩;refine ⟨λ i m H2 => m = ths.length - i /\ ∃ W2, W2.H = H2 /\ WOk X.K tb W2 /\ Le tb W1 W2 /\ rJ (ths.drop i) W2.mu = some (b, μ2), ⟨_, rfl, W1, rfl, ok1, Le.refl _, by rw [m1]; exact e2⟩, ?_⟩
  rintro i m H2 ⟨rfl, W2, rfl, ok2, l2, ha⟩;by_cases hlt : i < ths.length
  .right
   rw [List.drop_eq_getElem_cons hlt] at ha;unfold rJ at ha;obtain ⟨⟨x, μ3⟩, e3, ha⟩ := Za.mp ha;obtain ⟨k, e4, ha⟩ := Za.mp ha;refine so.nxt i W2 ths[i] x μ3 _ l2 ok2 (by simp [hlt]) e3 λ v W3 ok3 l3 m3 d3 => ⟨k, zN d3 e4, ?_⟩
   cases k with
   | false =>
    rw [if_neg Zr];exact ⟨ths.length - (i + 1), by omega, rfl, W3, rfl, ok3, l2.trans l3, by rw [m3]; exact ha⟩
   | true =>
    rw [if_pos rfl];cases ha;exact h _ W3 ok3 ((l1.trans l2).trans l3) m3 fG
  .left
   rw [List.drop_of_length_le (by omega)] at ha
   cases ha;exact ⟨so.fin i W2 l2 ok2 (by omega), h _ W2 ok2 (l1.trans l2) rfl fG⟩
theorem Jb (hc : X.calm = true) (hm : X.mg "sum" = none) (hstr : Bk X tb e fs) (hg : Gl X "sum" := by rfl) (hs : starEach [e] X.env = (false, eval e X.env) :: starEach [] X.env := by rfl) : PD X tb (.Call (.Name "sum" p) [e] [] pos) (Hu fs) :=
 dU (OJ hc hm hstr hg hs) λ σ H Q zq5 => by
  obtain ⟨W, δ, d, μ', e, ok, hd, hf, h⟩ := zq5;unfold Hu at hf;obtain ⟨⟨ths, μ1⟩, e1, hf⟩ := Za.mp hf;obtain ⟨⟨b, μ2⟩, e2, e3⟩ := Za.mp hf;cases e3;refine ⟨W, δ, ths, μ1, e, ok, hd, e1, λ S W1 ok1 l1 m1 so => ?_⟩;refine ⟨λ i m t H2 => m = ths.length - i /\ ∃ W2, W2.H = H2 /\ WOk X.K tb W2 /\ Le tb W1 W2 /\ tV t (ths.drop i) W2.mu = some (b, μ2), ⟨_, rfl, W1, rfl, ok1, Le.refl _, by rw [m1]; exact e2⟩, ?_⟩
  rintro i m t H2 ⟨rfl, W2, rfl, ok2, l2, ha⟩;by_cases hlt : i < ths.length
  .right
   rw [List.drop_eq_getElem_cons hlt] at ha;unfold tV at ha;obtain ⟨⟨x, μ3⟩, e3, ha⟩ := Za.mp ha;cases x with
   | int j =>
    refine so.nxt i W2 ths[i] _ μ3 _ l2 ok2 (by simp [hlt]) e3 λ v W3 ok3 l3 m3 d3 => ⟨j, bB d3, ths.length - (i + 1), by omega, rfl, W3, rfl, ok3, l2.trans l3, by rw [m3]; exact ha⟩
   | _ => cases ha
  .left
   rw [List.drop_of_length_le (by omega)] at ha
   cases ha;exact ⟨so.fin i W2 l2 ok2 (by omega), h _ W2 ok2 (l1.trans l2) rfl eO⟩
theorem Nz (hc : X.calm = true) (hm : X.mg "tuple" = none) (hstr : Dt X tb e fs) (hg : Gl X "tuple" := by rfl) (hs : starEach [e] X.env = (false, eval e X.env) :: starEach [] X.env := by rfl) : PD X tb (.Call (.Name "tuple" p) [e] [] pos) (zV fs) :=
 dU (Pu hc hm hstr hg hs) λ σ H Q zq6 => by
  obtain ⟨W, δ, d, μ', e, ok, hd, hf, h⟩ := zq6;unfold zV at hf;obtain ⟨⟨ths, μ1⟩, e1, hf⟩ := Za.mp hf;split at hf
  .rename_i hz;obtain ⟨⟨ds, μ2⟩, e2, e3⟩ := Za.mp hf;cases e3;refine ⟨W, δ, ths, μ1, e, ok, hd, e1, λ S W1 ok1 l1 m1 so => ?_⟩;refine ⟨λ i m ys H2 => m = ths.length - i /\ ys.length <= i /\ i <= ths.length /\ ∃ W2 zs rs, W2.H = H2 /\ WOk X.K tb W2 /\ Le tb W1 W2 /\ cM X.K tb W2 zs ys /\ Bm (ths.drop i) W2.mu = some (rs, μ2) /\ zs ++ rs = ds, ⟨_, rfl, Zg _, Nat.zero_le _, W1, [], ds, rfl, ok1, Le.refl _, aD.nil, by rw [m1]; exact e2, rfl⟩, ?_⟩
   rintro i m ys H2 ⟨rfl, hy, hi, W2, zs, rs, rfl, ok2, l2, d2, ha, hzs⟩;by_cases hlt : i < ths.length
   .right
    rw [List.drop_eq_getElem_cons hlt] at ha;unfold Bm at ha;obtain ⟨⟨x, μ3⟩, e3, ha⟩ := Za.mp ha;obtain ⟨⟨rs', μ4⟩, e4, e5⟩ := Za.mp ha;cases e5;refine ⟨by have hz' : ths.length <= sizeLine := hz; omega, so.nxt i W2 ths[i] x μ3 _ l2 ok2 (by simp [hlt]) e3 λ v W3 ok3 l3 m3 d3 => ?_⟩
    exact ⟨ths.length - (i + 1), by omega, rfl, by rw [List.length_append]; simp; omega, hlt, W3, zs ++ [x], rs', rfl, ok3, l2.trans l3, aD.append (cM.mono' d2 l3) (aD.cons d3 aD.nil), by rw [m3]; exact e4, by rw [List.append_assoc]; exact hzs⟩
   .left
    rw [List.drop_of_length_le (by omega)] at ha
    cases ha;rw [List.append_nil] at hzs;subst hzs;exact ⟨so.fin i W2 l2 ok2 (by omega), λ p hp => oK ok2 (λ v W' ok' l' m' d' => h v W' ok' ((l1.trans l2).trans l') m' d') d2 hp⟩
  .cases hf
end
abbrev FF := List D -> Mu -> Option (D × Mu)
def spD (K : PySem.W.Frag) (tb : List Addr) (n : Nat) (φ : FF) : Sp := λ vs H Q _ => ∃ W ds d μ', W.H = H /\ WOk K tb W /\ cM K tb W ds vs /\ ds.length = n /\ φ ds W.mu = some (d, μ') /\
 ∀ v W', WOk K tb W' -> Le tb W W' -> W'.mu = μ' -> Den K tb W' d v -> Q v W'.H
structure FI (P : Program) (w : World) (K : PySem.W.Frag) (mg : Str -> Option Value) (base : Heap) (tb : List Addr) (x : Str) (n k : Nat) (φ : FF) : Prop where
 is : ∃ f fd ps, tU P w K mg base CX0 k f fd ps (spD K tb n φ) /\ mg x = some (.ref f) /\ PySem.W.keepIn K (.ref f) = true /\ Binds K fd ps []
def aH (m : Nat) (g : SF) : FF := λ ds μ => (g (ds.map some ++ List.replicate (m - ds.length) none) μ).bind λ r => match r.1 with
 | .rt d => some (d, r.2.2)
 | .nx => some (.non, r.2.2)
 | _ => none
section
variable {X : Cx} {tb : List Addr} {e : Expr} {es : List Expr} {fs : AF} {x : Str} {n k : Nat} {φ : FF} {p pos : Pos}
theorem aK (F : FI X.prog X.w X.K X.mg X.base tb x n k φ) (hr : eG k X.A) (ha : PAD X tb (e :: es) fs) (hn : ∀ δ μ r, fs δ μ = some r -> r.1.length = n) (hg : Gl X x := by rfl) (hdb : (x == ("__debug__" : Str)) = false := by decide)
  (he : starEach (e :: es) X.env = (false, eval e X.env) :: starEach es X.env := by rfl) (hpl : (backTo pos (starEach es X.env)).any (·.1) = false := by rfl) : PD X tb (.Call (.Name x p) (e :: es) [] pos) (MC fs φ) := by
 obtain ⟨f, fd, ps, h1, h2, h3, h4⟩ := F.is;refine dU (Mg (E := E0) h1 hr hg h2 h3 h4 .nil Uv ha hdb he hpl) λ σ H Q zq7 => ?_;obtain ⟨W, δ, d, μ', e, ok, hd, hf, h⟩ := zq7;unfold MC at hf;obtain ⟨⟨xs, μ1⟩, e1, e2⟩ := Za.mp hf;refine ⟨W, δ, xs, μ1, e, ok, hd, e1, λ vs W1 ok1 l1 m1 d1 => ?_⟩;refine ⟨W1, xs, d, μ', rfl, ok1, by rw [List.append_nil]; exact d1, hn _ _ _ e1, (by rw [m1]; exact e2), λ v W' ok' l' m' d' => h v W' ok' (l1.trans l') m' d'⟩
theorem aL (δ : En) (μ : Mu) (r : List D × Mu) (h : aB δ μ = some r) : r.1.length = 0 := by cases h; rfl
theorem aA (hk : ∀ δ μ r, fs δ μ = some r -> r.1.length = n) (δ : En) (μ : Mu) (r : List D × Mu) (h : ao f fs δ μ = some r) : r.1.length = n + 1 := by
 unfold ao at h;obtain ⟨q, _, h⟩ := Za.mp h;obtain ⟨t, e, h⟩ := Za.mp h;cases h;rw [List.length_cons, hk _ _ _ e]
end
structure dC (K : PySem.W.Frag) (x qual : Str) (st : Stmt) (f : Addr) (fd : FuncData) (P : Addr) : Prop where
 ex : ∃ (oc : Value) (od : Option Addr) (kV doc pm : Value) (an : Option Addr) (c : Addr) (ct : Value) (osl : Array (Option Value)),
  fd = PySem.W.fnOf x qual (lW st) (jK st) (aN st) .none kV doc pm an (.ref c) ct /\ K.lookup f = some ⟨oc, od, .func fd, osl⟩ /\ PySem.W.codeIn K (.ref c) qual = true /\ ∀ h : Heap, K.In h -> PySem.W.CodeHd h c P
 kp : PySem.W.keepIn K (.ref f) = true
theorem bV {P : Program} {w : World} {K : PySem.W.Frag} {mg : Str -> Option Value} {base : Heap} {tb : List Addr} {x qual : Str} {st : Stmt} {f : Addr} {fd : FuncData} {T : Addr} {N ps : List Str} {n k : Nat} {g : SF} (F : dC K x qual st f fd T) (KB : K.In base) (hmg : mg x = some (.ref f)) (S : aW N ps (aN st)) (hps : ps.length = n)
  (hb : ∀ (kV doc pm : Value) (an : Option Addr) (cdv ct : Value) (us : List Value), us.length = ps.length -> bindArgs (PySem.W.fnOf x qual (lW st) (jK st) (aN st) .none kV doc pm an cdv ct) ⟨us, []⟩ = pure (ps.zip us))
  (hbody : ∀ (c : Addr) (A : Around) (outer : List Env) (s : Shared) (H : Hp) (E : XK), PySem.W.CodeHd base c T -> eG k (A.deeper (envOfC qual (aN st) s.heap.objs.size f (.ref c))) ->
   ww (Ck CX0 P w K mg base N qual (aN st) f (.ref c) A outer s H E).nox tb (jK st) g) : FI P w K mg base tb x n (k + 1) (aH N.length g) := by
 obtain ⟨oc, od, kV, doc, pm, an, c, ct, osl, rfl, lk, hcd, hhd⟩ := F.ex;refine ⟨f, _, ps, Qf lk hcd S (λ vs H Q E ⟨W, ds, d, μ', e, ok, dl, hl, _⟩ => by rw [<- aD.length dl, hl, hps]) λ A outer s H vs Q E hr hsp => ?_, hmg, F.kp, .all (hb kV doc pm an (.ref c) ct)⟩
 obtain ⟨W, ds, d, μ', e, ok, dl, hl, hf, k⟩ := hsp;refine ⟨_, (hbody c A outer s H E (hhd base KB) hr).nox, ?_⟩;unfold aH at hf;obtain ⟨⟨fl, δ', μ1⟩, e1, e2⟩ := Za.mp hf;refine ⟨W, _, fl, δ', μ1, e, ok, ?_, e1, λ σ' W' ok' l' m' d' => ?_⟩
 .have hlen := aD.length dl;refine ⟨by unfold L2.start; simp [hlen], λ i y q => ?_⟩
  unfold L2.start;by_cases hi : i < ds.length
  .rw [Zs (by simpa using hi), List.getElem?_map] at q
   cases q2 : ds[i]? with
   | none => rw [q2] at q; cases q
   | some z =>
    rw [q2] at q;cases q;obtain ⟨v, ev, dv⟩ := aD.get dl q2;exact ⟨v, by rw [Zs (by rw [Zu, <- hlen]; exact hi), List.getElem?_map, ev]; rfl, dv⟩
  .rw [List.getElem?_append_right (by simpa using hi), List.getElem?_replicate] at q
   split at q <;> cases q
 .cases fl with
  | nx => cases e2; exact k .non W' ok' l' m' qT
  | rt d0 => cases e2; exact λ v dv => k v W' ok' l' m' dv
  | bk => cases e2
  | ct => cases e2
end L3
namespace L2
open PySem PySem.Spec PyProof.Rows
section
variable {X : Cx} {a b c e : Expr} {ta tb tc te : TE} {pos : Pos}
def jL (i j : Int) : Nat := Builtin.Int.intBits i + Builtin.Int.intBits j
theorem Nj : OpR X (binaryOp .Mult) (rI (λ i j => jL i j <= 134217728) λ i j => .int (i * j)) := opI λ _ _ _ _ _ _ _ hc q => mul_int q (IntMulOk.of_le (Zg _) (Zg _) hc)
theorem Lj : OpR X (binaryOp .FloorDiv) (rI (λ _ j => j ≠ 0 /\ j.natAbs.log2 < 9000) λ i j => .int (i.fdiv j)) := opI λ _ _ _ _ _ _ _ hc q => floordiv_int hc.1 q (.inl (PyProof.noPylong_of_log2 hc.2))
theorem NT : OpR X (binaryOp .Pow) (rI (λ i j => 0 <= j /\ (Builtin.Int.intBits i : Int) * j <= 2 ^ 27) λ i j => .int (i ^ j.toNat)) := opI λ _ _ _ _ _ _ _ hc q => pow_int hc.1 hc.2 q
def Uw (K : PySem.W.Frag) : R2 := λ x y H Q => ∃ a b xs ys, x = .ref a /\ y = .ref b /\ SqT K H a xs /\ SqT K H b ys /\ xs.length + ys.length <= sizeLine /\
 (xs = [] -> Q (.ref b) H) /\ (xs ≠ [] -> ys = [] -> Q (.ref a) H) /\ (xs ≠ [] -> ys ≠ [] -> ∀ p, H p = none -> Q (.ref p) (upd H p (.tup (xs ++ ys))))
theorem Nf : OpR X (binaryOp .Add) (Uw X.K) := by
 intro pins s σ H x y v u Q I rx ry h;obtain ⟨t, b, xs, ys, rfl, rfl, ha, hb, hz, q0, q1, q2⟩ := h;by_cases hx : xs = []
 .subst hx;cases rx;cases ry;obtain ⟨its, r1, p1, _⟩ := I.tuple ha;obtain ⟨its2, r2, p2, _⟩ := I.tuple hb;cases r1;obtain ⟨⟨cls, dd, data, sl⟩, ho, hc, n, hd⟩ := id p1;obtain ⟨⟨cls2, dd2, data2, sl2⟩, ho2, hc2, n2, hd2⟩ := id p2;simp only at hc hd hc2 hd2;subst hc hd hc2 hd2;exact concat_meets ⟨_, ho, rfl⟩ ⟨_, ho2, rfl⟩ noFill_tuple_add seq_tuple_add PySem.F.slot_tuple_add PySem.F.entry_tuple_add (PySem.F.args_tuple_add_2 _ _)
   (tuple_addW0 t b _ _ n n2 dd dd2 sl sl2 (by simp)) ⟨ho, ho2, ⟨.ref b, H, I, rfl, q0 rfl⟩⟩
 .exact MP pins s σ H _ _ v u Q I rx ry ⟨t, b, xs, ys, rfl, rfl, ha, hb, hx, hz, q1 hx, q2 hx⟩
theorem rO : fillsNumberSlot (.type "tuple") "mul" = pure false :=
 PySem.fillsNumberSlot_seq (id := "tuple.__mul__") (r := some (.builtin "tuple.__rmul__")) F.slot_tuple_mul.lookup (by decide +kernel) F.slot_tuple_rmul.lookup (by decide +kernel)
theorem yC : seqRepeat? (.type "tuple") = pure (some (.builtin "tuple.__mul__")) := by
 unfold seqRepeat?;rw [PySem.seqSlot_of (T := "tuple") (name := "__mul__") (id := "tuple.__mul__") F.slot_tuple_mul.lookup (by decide +kernel), PySem.seqSlot_of (T := "tuple") (name := "__rmul__") (id := "tuple.__rmul__") F.slot_tuple_rmul.lookup (by decide +kernel)]
 rfl
theorem uF (a : Int) (t : Tok) (l : Addr) (items : Array Value) (n : Nat) (dd : Option Addr) (sl : Array (Option Value)) :
  Meets (Builtin.«int.__rmul__» ⟨[.int a t, .ref l], []⟩) (λ _ R s => s.heap.get? l = some { cls := .type "tuple", dict := dd, data := .seq items n, slots := sl } /\ R (.ok (.ret Value.notImplemented)) s) :=
 .of_wp λ prog w A R s h => by obtain ⟨hp, g, d, tk, os⟩ := s; obtain ⟨hl, h⟩ := h; wp_walk; exact ⟨_, rfl, h⟩
theorem vH (l : Addr) (items : Array Value) (n : Nat) (x : Int) (u : Tok) (dd : Option Addr) (sl : Array (Option Value)) (h0 : (decide (x < -2 ^ 63) || decide (x >= 2 ^ 63)) = false) (h1 : (items.isEmpty || x == 1) = true) :
  Meets (Builtin.«tuple.__mul__» ⟨[.ref l, .int x u], []⟩) (λ _ R s => s.heap.get? l = some { cls := .type "tuple", dict := dd, data := .seq items n, slots := sl } /\ R (.ok (.ret (Value.ref l))) s) :=
 .of_wp λ prog w A R s h => by
  obtain ⟨hp, g, d, tk, os⟩ := s; obtain ⟨hl, h⟩ := h;unfold Builtin.«tuple.__mul__»
  wp_walk using AutoSeq1.wpAny_loadPart' hl
  refine wpAny_ite_false (decide_eq_false (by rw [h0]; exact Zr)) ?_
  wp_walk using AutoSeq1.wpAny_loadPart' hl
  exact ⟨_, rfl, h⟩
theorem vI (l : Addr) (items : Array Value) (n : Nat) (x : Int) (u : Tok) (dd : Option Addr) (sl : Array (Option Value)) (h0 : (decide (x < -2 ^ 63) || decide (x >= 2 ^ 63)) = false) (h1 : (items.isEmpty || x == 1) = false) (h2 : (decide (x <= 0) || items.isEmpty) = true) :
  Meets (Builtin.«tuple.__mul__» ⟨[.ref l, .int x u], []⟩) (λ _ R s => s.heap.get? l = some { cls := .type "tuple", dict := dd, data := .seq items n, slots := sl } /\ R (.ok (.ret (Value.ref s.heap.objs.size))) { s with heap := s.heap.push { cls := Value.type "tuple", data := Data.seq #[] }, toks := s.toks }) :=
 .of_wp λ prog w A R s h => by
  obtain ⟨hp, g, d, tk, os⟩ := s; obtain ⟨hl, h⟩ := h;unfold Builtin.«tuple.__mul__»
  wp_walk using AutoSeq1.wpAny_loadPart' hl
  refine wpAny_ite_false (decide_eq_false (by rw [h0]; exact Zr)) ?_
  wp_walk using AutoSeq1.wpAny_loadPart' hl
  exact ⟨_, rfl, h⟩
theorem wj (l : Addr) (items : Array Value) (n : Nat) (x : Int) (u : Tok) (dd : Option Addr) (sl : Array (Option Value)) (h0 : (decide (x < -2 ^ 63) || decide (x >= 2 ^ 63)) = false) (h1 : (items.isEmpty || x == 1) = false) (h2 : (decide (x <= 0) || items.isEmpty) = false)
  (h3 : ¬ (items.size : Int) * x > (2 ^ 63 - 1) / 8) (h4 : Builtin.Tuple.tupleTooMany ((items.size : Int) * x) = false) (h5 : ((List.replicate x.toNat items).foldl (· ++ ·) #[]).size <= sizeLine) :
  Meets (Builtin.«tuple.__mul__» ⟨[.ref l, .int x u], []⟩) (λ _ R s => s.heap.get? l = some { cls := .type "tuple", dict := dd, data := .seq items n, slots := sl } /\ R (.ok (.ret (Value.ref s.heap.objs.size))) { s with heap := s.heap.push { cls := Value.type "tuple", data := Data.seq ((List.replicate x.toNat items).foldl (· ++ ·) #[]) }, toks := s.toks }) :=
 .of_wp λ prog w A R s h => by
  obtain ⟨hp, g, d, tk, os⟩ := s; obtain ⟨hl, h⟩ := h;unfold Builtin.«tuple.__mul__»
  wp_walk using AutoSeq1.wpAny_loadPart' hl
  refine wpAny_ite_false (decide_eq_false (by rw [h0]; exact Zr)) ?_
  wp_walk using AutoSeq1.wpAny_loadPart' hl
  refine wpAny_ite_false (decide_eq_false h3) ?_
  wp_walk using AutoSeq1.wpAny_loadPart' hl
  exact ⟨_, rfl, h⟩
def Wb (K : PySem.W.Frag) : R2 := λ x y H Q => ∃ l k xs, x = .ref l /\ y = .int k /\ SqT K H l xs /\ -(2 ^ 63) <= k /\ k < 2 ^ 63 /\ xs.length * k.toNat <= sizeLine /\
 ((xs = [] ∨ k = 1) -> Q (.ref l) H) /\ (¬ (xs = [] ∨ k = 1) -> ∀ p, H p = none -> Q (.ref p) (upd H p (.tup (List.replicate k.toNat xs).flatten)))
theorem Om : OpR X (binaryOp .Mult) (Wb X.K) := by
 intro pins s σ H x y v u Q I rx ry h;obtain ⟨l, k, xs, rfl, rfl, hH, h1, h2, hz, q1, q2⟩ := h;cases rx;obtain ⟨t, rfl⟩ := ry;obtain ⟨its, r, p, hz0⟩ := I.tuple hH;have hl := r.length;obtain ⟨⟨cls, dd, data, sl⟩, e, hc, n, hd⟩ := id p;simp only at hc hd;subst hc hd;have h0 : (decide (k < -2 ^ 63) || decide (k >= 2 ^ 63)) = false := by
  rw [decide_eq_false (by omega), decide_eq_false (by omega)]; rfl
 refine wpAny_binaryOp_repeat_ref (T := "tuple") (U := "int") (by decide) ⟨_, e, rfl⟩ (λ s' => typeIs_int s' k t) rO F.fills_int_mul F.slot_int_rmul yC F.slot_int_index.lookup
  (call_meets F.slot_int_rmul (typeIs_int s k t) F.entry_int_rmul (F.args_int_rmul_2 _ _) (uF k t l its.toArray n dd sl) ⟨e, rfl, ⟨_, e, rfl⟩, ?_⟩)
 by_cases hs : xs = [] ∨ k = 1
 .refine call_meets F.slot_tuple_mul ⟨_, e, rfl⟩ F.entry_tuple_mul (F.args_tuple_mul_2 _ _) (vH l its.toArray n k t dd sl h0 ?_) ⟨e, ⟨.ref l, H, I, rfl, q1 hs⟩⟩
  rcases hs with hs | hs
  .subst hs; cases r; rfl
  .subst hs; simp
 .have hne : (its.toArray.isEmpty || k == 1) = false := by
   rw [Bool.or_eq_false_iff];refine ⟨?_, by simpa using λ z => hs (.inr z)⟩
   cases its with
   | nil => cases r; exact absurd (Or.inl rfl) hs
   | cons a b => simp
  have hne' : its.toArray.isEmpty = false := (Bool.or_eq_false_iff.mp hne).1;by_cases hk : k <= 0
  .refine call_meets F.slot_tuple_mul ⟨_, e, rfl⟩ F.entry_tuple_mul (F.args_tuple_mul_2 _ _) (vI l its.toArray n k t dd sl h0 hne (by rw [decide_eq_true hk]; rfl)) ⟨e, ?_⟩
   have hk0 : k.toNat = 0 := by omega
   refine ⟨.ref s.heap.objs.size, _, I.laid (t' := s.toks) (o := .tup []) (λ b ob q => Zb _ q) (Zg _) ⟨Nat.zero_le _, [], .nil, IsTup.new _ _⟩, rfl, ?_⟩;have := q2 hs _ (I.hok.fresh (Zg _));rw [hk0] at this;exact this
  .have hp : its.length * k.toNat <= sizeLine := by rw [<- hl]; exact hz
   have hsz := sizeLine_eq;have hcast : ((its.toArray.size : Int)) * k = ((its.length * k.toNat : Nat) : Int) := by
    rw [Zd, Int.natCast_mul, Int.toNat_of_nonneg (by omega)]
   have hfold : List.foldl (λ x1 x2 => x1 ++ x2) #[] (List.replicate k.toNat its.toArray) = (List.replicate k.toNat its).flatten.toArray := by
    have := foldl_rep its k.toNat [];rw [List.nil_append] at this;exact this
   have hlen : (List.replicate k.toNat its).flatten.length <= sizeLine := by rw [len_rep, Nat.mul_comm]; exact hp
   refine call_meets F.slot_tuple_mul ⟨_, e, rfl⟩ F.entry_tuple_mul (F.args_tuple_mul_2 _ _) (wj l its.toArray n k t dd sl h0 hne (by rw [decide_eq_false hk, hne']; rfl) ?_ ?_ ?_) ⟨e, ?_⟩
   .rw [hcast];have : (sizeLine : Int) <= (2 ^ 63 - 1) / 8 := by decide
    omega
   .rw [hcast];unfold Builtin.Tuple.tupleTooMany;exact decide_eq_false (by omega)
   .rw [hfold, Zd]; exact hlen
   .rw [hfold];refine ⟨.ref s.heap.objs.size, _, I.laid (t' := s.toks) (o := .tup (List.replicate k.toNat xs).flatten) (λ b ob q => Zb _ q) (Zg _) ⟨by rw [len_rep, Nat.mul_comm]; exact hz, _, r.rep k.toNat, IsTup.new _ _⟩, rfl, q2 hs _ (I.hok.fresh (Zg _))⟩
def SX (K : PySem.W.Frag) (T : String) (x : V) (H : Hp) (k : Bool) : Prop := match x with
 | .non => k = false
 | .bl _ => k = (T == "bool" || T == "int")
 | .int _ => k = (T == "int")
 | .str _ => k = (T == "str")
 | .ref p => (k = (T == "list") /\ ∃ xs, SqL K H p xs) ∨ (k = (T == "tuple") /\ ∃ xs, SqT K H p xs) ∨ (k = (T == "dict") /\ ∃ xs, H p = some (.dK xs))
 | _ => False
def NQ : List String := ["bool", "int", "str", "list", "tuple", "dict"]
theorem HN : jF X (.builtin "isinstance") (λ xs H Q => ∃ x T k, xs = [x, .ty T] /\ T ∈ NQ /\ SX X.K T x H k /\ Q (.bl k) H) := by
 intro pins s σ H xs us Q I r h;obtain ⟨x, T, k, rfl, hT, hx, q⟩ := h;obtain ⟨u, w', rfl, rx, rt⟩ := vals2 r;cases rt;have fin : EP X pins σ Q (.bool k) s := ⟨.bl k, H, I, rfl, q⟩;have fin1 : EP X pins σ Q (.bool k) { s with toks := s.toks + 1 } := ⟨.bl k, H, I.tok _, rfl, q⟩
 simp only [NQ, Zi, List.not_mem_nil, or_false] at hT;cases x with
 | non =>
  cases rx;have hk : k = false := hx;subst hk
  rcases hT with rfl | rfl | rfl | rfl | rfl | rfl
  .exact IsiPair.NoneType_bool fin1
  .exact IsiPair.NoneType_int fin1
  .exact IsiPair.NoneType_str fin1
  .exact IsiPair.NoneType_list fin1
  .exact IsiPair.NoneType_tuple fin1
  .exact IsiPair.NoneType_dict fin1
 | bl b =>
  cases rx;have hk : k = _ := hx;subst hk
  rcases hT with rfl | rfl | rfl | rfl | rfl | rfl
  .exact IsiPair.bool_bool fin
  .exact IsiPair.bool_int fin
  .exact IsiPair.bool_str fin1
  .exact IsiPair.bool_list fin1
  .exact IsiPair.bool_tuple fin1
  .exact IsiPair.bool_dict fin1
 | int b =>
  obtain ⟨t, rfl⟩ := rx;have hk : k = _ := hx;subst hk
  rcases hT with rfl | rfl | rfl | rfl | rfl | rfl
  .exact IsiPair.int_bool fin1
  .exact IsiPair.int_int fin
  .exact IsiPair.int_str fin1
  .exact IsiPair.int_list fin1
  .exact IsiPair.int_tuple fin1
  .exact IsiPair.int_dict fin1
 | str b =>
  obtain ⟨t, rfl⟩ := rx;have hk : k = _ := hx;subst hk
  rcases hT with rfl | rfl | rfl | rfl | rfl | rfl
  .exact IsiPair.str_bool fin1
  .exact IsiPair.str_int fin1
  .exact IsiPair.str_str fin
  .exact IsiPair.str_list fin1
  .exact IsiPair.str_tuple fin1
  .exact IsiPair.str_dict fin1
 | ref p =>
  cases rx
  rcases hx with ⟨hk, xs, hq⟩ | ⟨hk, xs, hq⟩ | ⟨hk, xs, hq⟩
  .subst hk;obtain ⟨its, _, pl, _⟩ := I.list hq;obtain ⟨o, ho, hc, _⟩ := pl.isList
   rcases hT with rfl | rfl | rfl | rfl | rfl | rfl
   .exact IsiPair.list_bool ho hc fin1
   .exact IsiPair.list_int ho hc fin1
   .exact IsiPair.list_str ho hc fin1
   .exact IsiPair.list_list ho hc fin
   .exact IsiPair.list_tuple ho hc fin1
   .exact IsiPair.list_dict ho hc fin1
  .subst hk;obtain ⟨its, _, pl, _⟩ := I.tuple hq;obtain ⟨o, ho, hc, _⟩ := pl
   rcases hT with rfl | rfl | rfl | rfl | rfl | rfl
   .exact IsiPair.tuple_bool ho hc fin1
   .exact IsiPair.tuple_int ho hc fin1
   .exact IsiPair.tuple_str ho hc fin1
   .exact IsiPair.tuple_list ho hc fin1
   .exact IsiPair.tuple_tuple ho hc fin
   .exact IsiPair.tuple_dict ho hc fin1
  .subst hk;obtain ⟨_, _, vs, _, o, _, _, ho, ex, _⟩ := I.hok p _ hq;have hc := ex.1
   rcases hT with rfl | rfl | rfl | rfl | rfl | rfl
   .exact IsiPair.dict_bool ho hc fin1
   .exact IsiPair.dict_int ho hc fin1
   .exact IsiPair.dict_str ho hc fin1
   .exact IsiPair.dict_list ho hc fin1
   .exact IsiPair.dict_tuple ho hc fin1
   .exact IsiPair.dict_dict ho hc fin
 | _ => exact hx.elim
end
end L2
namespace L3
open PySem PySem.Spec PyProof.Rows L2
abbrev O2 := D -> D -> Mu -> Option (D × Mu)
abbrev O1' := D -> Mu -> Option (D × Mu)
abbrev ON := List D -> Mu -> Option (D × Mu)
def cu : O2
 | .int i, .int j, μ => some (.int (i + j), μ)
 | .tup xs, .tup ys, μ => if xs.length + ys.length <= sizeLine then some (.tup (xs ++ ys), μ) else none
 | .lst xs, .lst ys, μ => if xs.length + ys.length <= sizeLine then some (.lst (xs ++ ys), μ) else none
 | .str x, .str y, μ => if x.length + y.length <= sizeLine then some (.str (x ++ y), μ) else none
 | _, _, _ => none
def iG : O2
 | .int i, .int j, μ => some (.int (i - j), μ)
 | _, _, _ => none
def cU : O2
 | .int i, .int j, μ => if jL i j <= 134217728 then some (.int (i * j), μ) else none
 | .tup xs, .int k, μ => if -(2 ^ 63) <= k /\ k < 2 ^ 63 /\ xs.length * k.toNat <= sizeLine then some (.tup (List.replicate k.toNat xs).flatten, μ) else none
 | .lst xs, .int k, μ => if -(2 ^ 63) <= k /\ k < 2 ^ 63 /\ xs.length * k.toNat <= sizeLine then some (.lst (List.replicate k.toNat xs).flatten, μ) else none
 | _, _, _ => none
def oDiv : O2
 | .int i, .int j, μ => if j ≠ 0 /\ j.natAbs.log2 < 9000 then some (.int (i.fdiv j), μ) else none
 | _, _, _ => none
def oMod : O2
 | .int i, .int j, μ => if j ≠ 0 then some (.int (i.fmod j), μ) else none
 | _, _, _ => none
def vZ : O2
 | .int i, .int j, μ => if 0 <= j /\ (Builtin.Int.intBits i : Int) * j <= 2 ^ 27 then some (.int (i ^ j.toNat), μ) else none
 | _, _, _ => none
def oLt : O2
 | .int i, .int j, μ => some (.bl (decide (i < j)), μ)
 | _, _, _ => none
def oLe : O2
 | .int i, .int j, μ => some (.bl (decide (i <= j)), μ)
 | _, _, _ => none
def oGt : O2
 | .int i, .int j, μ => some (.bl (decide (j < i)), μ)
 | _, _, _ => none
def oGe : O2
 | .int i, .int j, μ => some (.bl (decide (j <= i)), μ)
 | _, _, _ => none
section
variable {X : Cx} {tb : List Addr}
theorem ug {K : PySem.W.Frag} {F : Hp} {ad : List Addr} {ds : List D} {vs : List V} (h : aD K F ad ds vs) : ∀ k : Nat, aD K F ad (List.replicate k ds).flatten (List.replicate k vs).flatten
 | 0 => aD.nil
 | k + 1 => by
  rw [List.replicate_succ, List.replicate_succ, List.flatten_cons, List.flatten_cons];exact aD.append h (ug h k)
theorem mL {K : PySem.W.Frag} {F : Hp} {ad : List Addr} {ds : List D} {vs : List V} (h : aD K F ad ds vs) : vs = [] ↔ ds = [] := by
 have := aD.length h;cases ds <;> cases vs <;> simp_all
theorem Mi {α : Type} (xs : List α) : (List.replicate (1 : Int).toNat xs).flatten = xs := by simp
theorem cR : OpD X tb (binaryOp .Add) cu := ⟨_, Tj.or (Nf.or (RJ.or Di)), λ W x y v u d μ' Q ok dx dy ho h => by
 cases x with
 | int i =>
  cases y with
  | int j => cases ho; rw [bB dx, bB dy]; exact .inl ⟨i, j, rfl, rfl, put ok h eO⟩
  | _ => cases ho
 | tup xs =>
  cases y with
  | tup ys =>
   have ho' : (if xs.length + ys.length <= sizeLine then some (D.tup (xs ++ ys), W.mu) else none) = some (d, μ') := ho;split at ho'
   .rename_i hz;cases ho';obtain ⟨a, us, rfl, q1, r1⟩ := gW dx;obtain ⟨b, ws, rfl, q2, r2⟩ := gW dy;refine .inr (.inl ⟨a, b, us, ws, rfl, rfl, SqT.fz q1, SqT.fz q2, by rw [<- aD.length r1, <- aD.length r2]; exact hz, λ e => ?_, λ _ e => ?_, λ _ _ p hp => oK ok h (aD.append r1 r2) hp⟩)
    .have e' := (mL r1).mp e;subst e';exact put ok h dy
    .have e' := (mL r2).mp e;subst e';rw [List.append_nil] at h;exact put ok h dx
   .cases ho'
  | _ => cases ho
 | lst xs =>
  cases y with
  | lst ys =>
   have ho' : (if xs.length + ys.length <= sizeLine then some (D.lst (xs ++ ys), W.mu) else none) = some (d, μ') := ho;split at ho'
   .rename_i hz;cases ho';obtain ⟨a, us, rfl, q1, r1⟩ := oO dx;obtain ⟨b, ws, rfl, q2, r2⟩ := oO dy;exact .inr (.inr (.inl ⟨a, b, us, ws, rfl, rfl, (dM q1).1, (dM q2).1, by rw [<- aD.length r1, <- aD.length r2]; exact hz, λ p hp => lq ok h (aD.append r1 r2) hp⟩))
   .cases ho'
  | _ => cases ho
 | str x =>
  cases y with
  | str y =>
   have ho' : (if x.length + y.length <= sizeLine then some (D.str (x ++ y), W.mu) else none) = some (d, μ') := ho;split at ho'
   .rename_i hz;cases ho';rw [vA dx, vA dy];exact .inr (.inr (.inr ⟨x, y, rfl, rfl, hz, put ok h Ez⟩))
   .cases ho'
  | _ => cases ho
 | _ => cases y <;> cases ho⟩
theorem gf : OpD X tb (binaryOp .Sub) iG := ⟨_, Qs, λ W x y v u d μ' Q ok dx dy ho h => by
 cases x with
 | int i =>
  cases y with
  | int j => cases ho; rw [bB dx, bB dy]; exact ⟨i, j, rfl, rfl, put ok h eO⟩
  | _ => cases ho
 | _ => cases y <;> cases ho⟩
theorem dq : OpD X tb (binaryOp .Mult) cU := ⟨_, Nj.or (Om.or KC), λ W x y v u d μ' Q ok dx dy ho h => by
 cases x with
 | int i =>
  cases y with
  | int j =>
   have ho' : (if jL i j <= 134217728 then some (D.int (i * j), W.mu) else none) = some (d, μ') := ho;split at ho'
   .rename_i hz;cases ho';rw [bB dx, bB dy]; exact .inl ⟨i, j, rfl, rfl, hz, put ok h eO⟩
   .cases ho'
  | _ => cases ho
 | tup xs =>
  cases y with
  | int k =>
   have ho' : (if -(2 ^ 63) <= k /\ k < 2 ^ 63 /\ xs.length * k.toNat <= sizeLine then some (D.tup (List.replicate k.toNat xs).flatten, W.mu) else none) = some (d, μ') := ho;split at ho'
   .rename_i hz;cases ho';obtain ⟨a, us, rfl, q1, r1⟩ := gW dx;rw [bB dy];refine .inr (.inl ⟨a, k, us, rfl, rfl, SqT.fz q1, hz.1, hz.2.1, by rw [<- aD.length r1]; exact hz.2.2, λ e => ?_, λ _ p hp => oK ok h (ug r1 _) hp⟩)
    rcases e with e | e
    .have e' := (mL r1).mp e;subst e';have e2 : (List.replicate k.toNat ([] : List D)).flatten = [] := by simp
     rw [e2] at h;exact put ok h dx
    .subst e;rw [Mi] at h;exact put ok h dx
   .cases ho'
  | _ => cases ho
 | lst xs =>
  cases y with
  | int k =>
   have ho' : (if -(2 ^ 63) <= k /\ k < 2 ^ 63 /\ xs.length * k.toNat <= sizeLine then some (D.lst (List.replicate k.toNat xs).flatten, W.mu) else none) = some (d, μ') := ho;split at ho'
   .rename_i hz;cases ho';obtain ⟨a, us, rfl, q1, r1⟩ := oO dx;rw [bB dy];exact .inr (.inr ⟨a, k, us, rfl, rfl, (dM q1).1, hz.1, hz.2.1, by rw [<- aD.length r1]; exact hz.2.2, λ p hp => lq ok h (ug r1 _) hp⟩)
   .cases ho'
  | _ => cases ho
 | _ => cases y <;> cases ho⟩
theorem dH : OpD X tb (binaryOp .FloorDiv) oDiv := ⟨_, Lj, λ W x y v u d μ' Q ok dx dy ho h => by
 cases x with
 | int i =>
  cases y with
  | int j =>
   have ho' : (if j ≠ 0 /\ j.natAbs.log2 < 9000 then some (D.int (i.fdiv j), W.mu) else none) = some (d, μ') := ho;split at ho'
   .rename_i hz;cases ho';rw [bB dx, bB dy]; exact ⟨i, j, rfl, rfl, hz, put ok h eO⟩
   .cases ho'
  | _ => cases ho
 | _ => cases y <;> cases ho⟩
theorem bz : OpD X tb (binaryOp .Mod) oMod := ⟨_, Nk, λ W x y v u d μ' Q ok dx dy ho h => by
 cases x with
 | int i =>
  cases y with
  | int j =>
   have ho' : (if j ≠ 0 then some (D.int (i.fmod j), W.mu) else none) = some (d, μ') := ho;split at ho'
   .rename_i hz;cases ho';rw [bB dx, bB dy]; exact ⟨i, j, rfl, rfl, hz, put ok h eO⟩
   .cases ho'
  | _ => cases ho
 | _ => cases y <;> cases ho⟩
theorem Kv : OpD X tb (binaryOp .Pow) vZ := ⟨_, NT, λ W x y v u d μ' Q ok dx dy ho h => by
 cases x with
 | int i =>
  cases y with
  | int j =>
   have ho' : (if 0 <= j /\ (Builtin.Int.intBits i : Int) * j <= 2 ^ 27 then some (D.int (i ^ j.toNat), W.mu) else none) = some (d, μ') := ho;split at ho'
   .rename_i hz;cases ho';rw [bB dx, bB dy]; exact ⟨i, j, rfl, rfl, hz, put ok h eO⟩
   .cases ho'
  | _ => cases ho
 | _ => cases y <;> cases ho⟩
theorem sZ : OpD X tb (compareOp .Lt) oLt := ⟨_, Vb, λ W x y v u d μ' Q ok dx dy ho h => by
 cases x with
 | int i =>
  cases y with
  | int j => cases ho; rw [bB dx, bB dy]; exact ⟨i, j, rfl, rfl, put ok h fG⟩
  | _ => cases ho
 | _ => cases y <;> cases ho⟩
theorem Qk : OpD X tb (compareOp .LtE) oLe := ⟨_, Uy, λ W x y v u d μ' Q ok dx dy ho h => by
 cases x with
 | int i =>
  cases y with
  | int j => cases ho; rw [bB dx, bB dy]; exact ⟨i, j, rfl, rfl, put ok h fG⟩
  | _ => cases ho
 | _ => cases y <;> cases ho⟩
theorem Ew : OpD X tb (compareOp .Gt) oGt := ⟨_, VL, λ W x y v u d μ' Q ok dx dy ho h => by
 cases x with
 | int i =>
  cases y with
  | int j => cases ho; rw [bB dx, bB dy]; exact ⟨i, j, rfl, rfl, put ok h fG⟩
  | _ => cases ho
 | _ => cases y <;> cases ho⟩
theorem Fd : OpD X tb (compareOp .GtE) oGe := ⟨_, Vj, λ W x y v u d μ' Q ok dx dy ho h => by
 cases x with
 | int i =>
  cases y with
  | int j => cases ho; rw [bB dx, bB dy]; exact ⟨i, j, rfl, rfl, put ok h fG⟩
  | _ => cases ho
 | _ => cases y <;> cases ho⟩
end
open PySem.SeqAt
mutual
def eqD : D -> D -> Bool
 | .non, .non => true
 | .bl a, .bl b => a == b
 | .bl a, .int b => (if a then 1 else 0) == b
 | .int a, .bl b => a == (if b then 1 else 0)
 | .int a, .int b => a == b
 | .str a, .str b => a == b
 | .tup xs, .tup ys => jd xs ys
 | .lst xs, .lst ys => jd xs ys
 | _, _ => false
def jd : List D -> List D -> Bool
 | [], [] => true
 | x :: xs, y :: ys => eqD x y && jd xs ys
 | _, _ => false
end
mutual
def ir : D -> Nat
 | .tup ds => jz ds + 1
 | .lst ds => jz ds + 1
 | _ => 0
def jz : List D -> Nat
 | [] => 0
 | d :: ds => max (ir d) (jz ds)
end
mutual
def cN : D -> Bool
 | .non => true
 | .bl _ => true
 | .int _ => true
 | .str _ => true
 | .tup ds => eY ds
 | .lst ds => eY ds
 | _ => false
def eY : List D -> Bool
 | [] => true
 | d :: ds => cN d && eY ds
end
mutual
def DV (K : PySem.W.Frag) (H : Hp) : D -> V -> Prop
 | .non, v => v = .non
 | .bl b, v => v = .bl b
 | .int i, v => v = .int i
 | .str x, v => v = .str x
 | .tup ds, v => ∃ a xs, v = .ref a /\ SqT K H a xs /\ DVL K H ds xs
 | .lst ds, v => ∃ a xs, v = .ref a /\ SqL K H a xs /\ DVL K H ds xs
 | .ro _, _ => False
 | .dic _, _ => False
 | .cell _, _ => False
def DVL (K : PySem.W.Frag) (H : Hp) : List D -> List V -> Prop
 | [], vs => vs = []
 | d :: ds, vs => ∃ u us, vs = u :: us /\ DV K H d u /\ DVL K H ds us
end
section
variable {K : PySem.W.Frag} {tb : List Addr} {W : Wd}
mutual
theorem Qh : ∀ (d : D) (v : V), cN d = true -> bx K (W.fz tb) W.ad d v -> DV K W.H d v
 | .non, v, _, h => by unfold bx at h; unfold DV; exact h
 | .bl _, v, _, h => by unfold bx at h; unfold DV; exact h
 | .int _, v, _, h => by unfold bx at h; unfold DV; exact h
 | .str _, v, _, h => by unfold bx at h; unfold DV; exact h
 | .tup ds, v, p, h => by
  unfold bx at h; unfold DV; unfold cN at p;obtain ⟨a, xs, e, q, r⟩ := h;exact ⟨a, xs, e, SqT.fz q, uP ds xs p r⟩
 | .lst ds, v, p, h => by
  unfold bx at h; unfold DV; unfold cN at p;obtain ⟨a, xs, e, q, r⟩ := h;exact ⟨a, xs, e, SqL.of (dM q).1, uP ds xs p r⟩
 | .ro ds, v, p, h => by unfold cN at p; cases p
 | .dic ds, v, p, h => by unfold cN at p; cases p
 | .cell ds, v, p, h => by unfold cN at p; cases p
theorem uP : ∀ (ds : List D) (vs : List V), eY ds = true -> aD K (W.fz tb) W.ad ds vs -> DVL K W.H ds vs
 | [], vs, _, h => by unfold aD at h; unfold DVL; exact h
 | d :: ds, vs, p, h => by
  unfold aD at h; unfold DVL; unfold eY at p;rw [Zo] at p;obtain ⟨u, us, e, q, r⟩ := h;exact ⟨u, us, e, Qh d u p.1 q, uP ds us p.2 r⟩
end
end
def tu (xs ys : List D) (j : Nat) : Bool := match xs[j]?, ys[j]? with
 | some x, some y => eqD x y
 | _, _ => false
theorem mO : ∀ (xs ys : List D), xs.length = ys.length -> (List.range xs.length).all (tu xs ys) = jd xs ys
 | [], [], _ => by unfold jd; rfl
 | x :: xs, y :: ys, h => by
  unfold jd;rw [List.length_cons, List.range_succ_eq_map, List.all_cons, List.all_map, <- mO xs ys (by simpa using h)]
  rfl
theorem qF : ∀ (xs ys : List D), xs.length ≠ ys.length -> jd xs ys = false
 | [], [], h => absurd rfl h
 | [], y :: ys, _ => by unfold jd; rfl
 | x :: xs, [], _ => by unfold jd; rfl
 | x :: xs, y :: ys, h => by
  unfold jd;rw [qF xs ys (by simpa using h), Bool.and_false]
theorem zY (xs ys : List D) : ((List.range (min xs.length ys.length)).all (tu xs ys) && xs.length == ys.length) = jd xs ys := by
 by_cases h : xs.length = ys.length
 .rw [<- h, Nat.min_self, mO xs ys h]; simp
 .rw [qF xs ys h, beq_false_of_ne h, Bool.and_false]
section
variable {X : Cx} {pins : List (Addr × Obj)} {σ : L2.St} {H : Hp} {s : Shared}
theorem DVL.length {K : PySem.W.Frag} : ∀ {ds : List D} {vs : List V}, DVL K H ds vs -> ds.length = vs.length
 | [], vs, h => by unfold DVL at h; subst h; rfl
 | d :: ds, vs, h => by
  unfold DVL at h;obtain ⟨u, us, rfl, _, r⟩ := h;rw [List.length_cons, List.length_cons, DVL.length r]
theorem DVL.get' {K : PySem.W.Frag} : ∀ {ds : List D} {vs : List V} {i : Nat} {v : V}, DVL K H ds vs -> vs[i]? = some v -> ∃ d, ds[i]? = some d /\ DV K H d v
 | [], vs, i, v, h, e => by unfold DVL at h; subst h; simp at e
 | d :: ds, vs, 0, x, h, e => by
  unfold DVL at h;obtain ⟨u, us, rfl, p, r⟩ := h;simp at e; subst e;exact ⟨d, rfl, p⟩
 | d :: ds, vs, i + 1, x, h, e => by
  unfold DVL at h;obtain ⟨u, us, rfl, p, r⟩ := h;obtain ⟨y, e1, e2⟩ := DVL.get' (i := i) r (by simpa using e)
  exact ⟨y, by simpa using e1, e2⟩
theorem zu {a : Addr} {xs ys : List V} (I : Inv X pins σ H s) (h : SqL X.K H a xs) (h' : SqT X.K H a ys) : False := by
 obtain ⟨its, _, pl, _⟩ := I.list h;obtain ⟨its', _, pt, _⟩ := I.tuple h';obtain ⟨o, ho, hc, _⟩ := pl.isList;obtain ⟨o', ho', hc', _⟩ := pt;rw [ho] at ho'; cases ho';rw [hc] at hc';exact absurd hc' (by decide)
mutual
theorem uB (I : Inv X pins σ H s) : ∀ (x y : D) (v : V), DV X.K H x v -> DV X.K H y v -> eqD x y = true
 | .non, .non, v, h, k => by unfold eqD; rfl
 | .non, .bl b, v, h, k => by unfold DV at h k; subst h; cases k
 | .non, .int b, v, h, k => by unfold DV at h k; subst h; cases k
 | .non, .str b, v, h, k => by unfold DV at h k; subst h; cases k
 | .non, .tup ys, v, h, k => by unfold DV at h k; obtain ⟨a, us, rfl, q, r⟩ := k; cases h
 | .non, .lst ys, v, h, k => by unfold DV at h k; obtain ⟨a, us, rfl, q, r⟩ := k; cases h
 | .bl a, .non, v, h, k => by unfold DV at h k; subst h; cases k
 | .bl a, .bl b, v, h, k => by unfold DV at h k; subst h; cases k; unfold eqD; simp
 | .bl a, .int b, v, h, k => by unfold DV at h k; subst h; cases k
 | .bl a, .str b, v, h, k => by unfold DV at h k; subst h; cases k
 | .bl a, .tup ys, v, h, k => by unfold DV at h k; obtain ⟨a, us, rfl, q, r⟩ := k; cases h
 | .bl a, .lst ys, v, h, k => by unfold DV at h k; obtain ⟨a, us, rfl, q, r⟩ := k; cases h
 | .int a, .non, v, h, k => by unfold DV at h k; subst h; cases k
 | .int a, .bl b, v, h, k => by unfold DV at h k; subst h; cases k
 | .int a, .int b, v, h, k => by unfold DV at h k; subst h; cases k; unfold eqD; simp
 | .int a, .str b, v, h, k => by unfold DV at h k; subst h; cases k
 | .int a, .tup ys, v, h, k => by unfold DV at h k; obtain ⟨a, us, rfl, q, r⟩ := k; cases h
 | .int a, .lst ys, v, h, k => by unfold DV at h k; obtain ⟨a, us, rfl, q, r⟩ := k; cases h
 | .str a, .non, v, h, k => by unfold DV at h k; subst h; cases k
 | .str a, .bl b, v, h, k => by unfold DV at h k; subst h; cases k
 | .str a, .int b, v, h, k => by unfold DV at h k; subst h; cases k
 | .str a, .str b, v, h, k => by unfold DV at h k; subst h; cases k; unfold eqD; simp
 | .str a, .tup ys, v, h, k => by unfold DV at h k; obtain ⟨a, us, rfl, q, r⟩ := k; cases h
 | .str a, .lst ys, v, h, k => by unfold DV at h k; obtain ⟨a, us, rfl, q, r⟩ := k; cases h
 | .tup xs, .non, v, h, k => by unfold DV at h k; obtain ⟨a, us, rfl, q, r⟩ := h; cases k
 | .tup xs, .bl b, v, h, k => by unfold DV at h k; obtain ⟨a, us, rfl, q, r⟩ := h; cases k
 | .tup xs, .int b, v, h, k => by unfold DV at h k; obtain ⟨a, us, rfl, q, r⟩ := h; cases k
 | .tup xs, .str b, v, h, k => by unfold DV at h k; obtain ⟨a, us, rfl, q, r⟩ := h; cases k
 | .tup xs, .tup ys, v, h, k => by
  unfold DV at h k;obtain ⟨a, us, rfl, q, r⟩ := h;obtain ⟨a', us', e, q', r'⟩ := k;cases e;have := I.tuple_inj q q';subst this;unfold eqD;exact rN I xs ys us r r'
 | .tup xs, .lst ys, v, h, k => by
  unfold DV at h k;obtain ⟨a, us, rfl, q, r⟩ := h;obtain ⟨a', us', e, q', r'⟩ := k;cases e;exact (zu I q' q).elim
 | .lst xs, .non, v, h, k => by unfold DV at h k; obtain ⟨a, us, rfl, q, r⟩ := h; cases k
 | .lst xs, .bl b, v, h, k => by unfold DV at h k; obtain ⟨a, us, rfl, q, r⟩ := h; cases k
 | .lst xs, .int b, v, h, k => by unfold DV at h k; obtain ⟨a, us, rfl, q, r⟩ := h; cases k
 | .lst xs, .str b, v, h, k => by unfold DV at h k; obtain ⟨a, us, rfl, q, r⟩ := h; cases k
 | .lst xs, .tup ys, v, h, k => by
  unfold DV at h k;obtain ⟨a, us, rfl, q, r⟩ := h;obtain ⟨a', us', e, q', r'⟩ := k;cases e;exact (zu I q q').elim
 | .lst xs, .lst ys, v, h, k => by
  unfold DV at h k;obtain ⟨a, us, rfl, q, r⟩ := h;obtain ⟨a', us', e, q', r'⟩ := k;cases e;have := I.list_inj q q';subst this;unfold eqD;exact rN I xs ys us r r'
 | .ro _, _, v, h, _ => by unfold DV at h; exact h.elim
 | .dic _, _, v, h, _ => by unfold DV at h; exact h.elim
 | .cell _, _, v, h, _ => by unfold DV at h; exact h.elim
 | _, .ro _, v, _, k => by unfold DV at k; exact k.elim
 | _, .dic _, v, _, k => by unfold DV at k; exact k.elim
 | _, .cell _, v, _, k => by unfold DV at k; exact k.elim
theorem rN (I : Inv X pins σ H s) : ∀ (xs ys : List D) (vs : List V), DVL X.K H xs vs -> DVL X.K H ys vs -> jd xs ys = true
 | [], [], vs, _, _ => by unfold jd; rfl
 | [], y :: ys, vs, h, k => by unfold DVL at h k; subst h; obtain ⟨u, us, e, _⟩ := k; cases e
 | x :: xs, [], vs, h, k => by unfold DVL at h k; subst k; obtain ⟨u, us, e, _⟩ := h; cases e
 | x :: xs, y :: ys, vs, h, k => by
  unfold DVL at h k;obtain ⟨u, us, rfl, p, r⟩ := h;obtain ⟨u', us', e, p', r'⟩ := k;cases e;unfold jd;rw [uB I x y u p p', rN I xs ys us r r']; rfl
end
def sk : D -> D -> Bool
 | .tup _, .tup _ => true
 | .lst _, .lst _ => true
 | _, _ => false
def Vw (s : Shared) : D -> Value -> Prop
 | .non, v => v = .none
 | .bl b, v => v = .bool b
 | .int i, v => ∃ t, v = .int i t
 | .str z, v => ∃ t, v = .str z t
 | .tup _, v => ∃ a its, v = .ref a /\ IsTup s.heap a its
 | .lst _, v => ∃ a its, v = .ref a /\ s.heap.IsList a its
 | _, _ => False
theorem vw {x : D} {v : V} {vv : Value} (I : Inv X pins σ H s) (h : DV X.K H x v) (rv : RelV v vv) : Vw s x vv := by
 cases x <;> unfold DV at h
 case tup => obtain ⟨a, us, rfl, q, r⟩ := h; obtain ⟨_, _, pl, _⟩ := I.tuple q; exact ⟨a, _, rv, pl⟩
 case lst => obtain ⟨a, us, rfl, q, r⟩ := h; obtain ⟨_, _, pl, _⟩ := I.list q; exact ⟨a, _, rv, pl.isList⟩
 case ro => exact h.elim
 case dic => exact h.elim
 case cell => exact h.elim
 all_goals subst h; exact rv
theorem lY {vv uu : Value} {A : Around} (hu : A.units < cLine) : ∀ (x y : D), Vw s x vv -> Vw s y uu -> sk x y = false -> EqAt A s vv uu (eqD x y)
 | .non, .non, rfl, rfl, _ => by unfold eqD; exact EqAt.same _
 | .non, .bl _, rfl, rfl, _ => by unfold eqD; exact EqAt.none_bool _
 | .non, .int _, rfl, ⟨_, rfl⟩, _ => by unfold eqD; exact EqAt.none_int _ _
 | .non, .str _, rfl, ⟨_, rfl⟩, _ => by unfold eqD; exact EqAt.none_str _ _
 | .non, .tup _, rfl, ⟨_, _, rfl, m⟩, _ => by unfold eqD; exact EqAt.none_tuple m hu
 | .non, .lst _, rfl, ⟨_, _, rfl, m⟩, _ => by unfold eqD; exact EqAt.none_list m hu
 | .bl _, .non, rfl, rfl, _ => by unfold eqD; exact EqAt.bool_none _
 | .bl _, .bl _, rfl, rfl, _ => by unfold eqD; exact EqAt.bool_bool _ _
 | .bl _, .int _, rfl, ⟨_, rfl⟩, _ => by unfold eqD; exact EqAt.bool_int _ _ _
 | .bl _, .str _, rfl, ⟨_, rfl⟩, _ => by unfold eqD; exact EqAt.bool_str _ _ _
 | .bl _, .tup _, rfl, ⟨_, _, rfl, m⟩, _ => by unfold eqD; exact EqAt.bool_tuple _ m hu
 | .bl _, .lst _, rfl, ⟨_, _, rfl, m⟩, _ => by unfold eqD; exact EqAt.bool_list _ m hu
 | .int _, .non, ⟨_, rfl⟩, rfl, _ => by unfold eqD; exact EqAt.int_none _ _
 | .int _, .bl _, ⟨_, rfl⟩, rfl, _ => by unfold eqD; exact EqAt.int_bool _ _ _
 | .int _, .int _, ⟨_, rfl⟩, ⟨_, rfl⟩, _ => by unfold eqD; exact EqAt.int_int _ _ _ _
 | .int _, .str _, ⟨_, rfl⟩, ⟨_, rfl⟩, _ => by unfold eqD; exact EqAt.int_str _ _ _ _
 | .int _, .tup _, ⟨_, rfl⟩, ⟨_, _, rfl, m⟩, _ => by unfold eqD; exact EqAt.int_tuple _ _ m hu
 | .int _, .lst _, ⟨_, rfl⟩, ⟨_, _, rfl, m⟩, _ => by unfold eqD; exact EqAt.int_list _ _ m hu
 | .str _, .non, ⟨_, rfl⟩, rfl, _ => by unfold eqD; exact EqAt.str_none _ _
 | .str _, .bl _, ⟨_, rfl⟩, rfl, _ => by unfold eqD; exact EqAt.str_bool _ _ _
 | .str _, .int _, ⟨_, rfl⟩, ⟨_, rfl⟩, _ => by unfold eqD; exact EqAt.str_int _ _ _ _
 | .str _, .str _, ⟨_, rfl⟩, ⟨_, rfl⟩, _ => by unfold eqD; exact EqAt.str_str _ _ _ _
 | .str _, .tup _, ⟨_, rfl⟩, ⟨_, _, rfl, m⟩, _ => by unfold eqD; exact EqAt.str_tuple _ _ m hu
 | .str _, .lst _, ⟨_, rfl⟩, ⟨_, _, rfl, m⟩, _ => by unfold eqD; exact EqAt.str_list _ _ m hu
 | .tup _, .non, ⟨_, _, rfl, l⟩, rfl, _ => by unfold eqD; exact EqAt.tuple_none l hu
 | .tup _, .bl _, ⟨_, _, rfl, l⟩, rfl, _ => by unfold eqD; exact EqAt.tuple_bool _ l hu
 | .tup _, .int _, ⟨_, _, rfl, l⟩, ⟨_, rfl⟩, _ => by unfold eqD; exact EqAt.tuple_int _ _ l hu
 | .tup _, .str _, ⟨_, _, rfl, l⟩, ⟨_, rfl⟩, _ => by unfold eqD; exact EqAt.tuple_str _ _ l hu
 | .tup _, .tup _, _, _, h => nomatch h
 | .tup _, .lst _, ⟨_, _, rfl, l⟩, ⟨_, _, rfl, m⟩, _ => by unfold eqD; exact EqAt.tuple_list l m hu
 | .lst _, .non, ⟨_, _, rfl, l⟩, rfl, _ => by unfold eqD; exact EqAt.list_none l hu
 | .lst _, .bl _, ⟨_, _, rfl, l⟩, rfl, _ => by unfold eqD; exact EqAt.list_bool _ l hu
 | .lst _, .int _, ⟨_, _, rfl, l⟩, ⟨_, rfl⟩, _ => by unfold eqD; exact EqAt.list_int _ _ l hu
 | .lst _, .str _, ⟨_, _, rfl, l⟩, ⟨_, rfl⟩, _ => by unfold eqD; exact EqAt.list_str _ _ l hu
 | .lst _, .tup _, ⟨_, _, rfl, l⟩, ⟨_, _, rfl, m⟩, _ => by unfold eqD; exact EqAt.list_tuple l m hu
 | .lst _, .lst _, _, _, h => nomatch h
 | .ro _, _, p, _, _ => p.elim
 | _, .ro _, _, p, _ => p.elim
 | .dic _, _, p, _, _ => p.elim
 | _, .dic _, _, p, _ => p.elim
 | .cell _, _, p, _, _ => p.elim
 | _, .cell _, _, p, _ => p.elim
theorem mz {vv uu : Value} {A : Around} (hu : A.units < cLine) : ∀ (x y : D), Vw s x vv -> Vw s y uu -> sk x y = false -> RcAt A s vv uu (eqD x y)
 | .non, .non, rfl, rfl, _ => by unfold eqD; exact RcAt.none_none
 | .non, .bl _, rfl, rfl, _ => by unfold eqD; exact RcAt.none_bool _
 | .non, .int _, rfl, ⟨_, rfl⟩, _ => by unfold eqD; exact RcAt.none_int _ _
 | .non, .str _, rfl, ⟨_, rfl⟩, _ => by unfold eqD; exact RcAt.none_str _ _
 | .non, .tup _, rfl, ⟨_, _, rfl, m⟩, _ => by unfold eqD; exact RcAt.none_tuple m hu
 | .non, .lst _, rfl, ⟨_, _, rfl, m⟩, _ => by unfold eqD; exact RcAt.none_list m hu
 | .bl _, .non, rfl, rfl, _ => by unfold eqD; exact RcAt.bool_none _
 | .bl _, .bl _, rfl, rfl, _ => by unfold eqD; exact RcAt.bool_bool _ _
 | .bl _, .int _, rfl, ⟨_, rfl⟩, _ => by unfold eqD; exact RcAt.bool_int _ _ _
 | .bl _, .str _, rfl, ⟨_, rfl⟩, _ => by unfold eqD; exact RcAt.bool_str _ _ _
 | .bl _, .tup _, rfl, ⟨_, _, rfl, m⟩, _ => by unfold eqD; exact RcAt.bool_tuple _ m hu
 | .bl _, .lst _, rfl, ⟨_, _, rfl, m⟩, _ => by unfold eqD; exact RcAt.bool_list _ m hu
 | .int _, .non, ⟨_, rfl⟩, rfl, _ => by unfold eqD; exact RcAt.int_none _ _
 | .int _, .bl _, ⟨_, rfl⟩, rfl, _ => by unfold eqD; exact RcAt.int_bool _ _ _
 | .int _, .int _, ⟨_, rfl⟩, ⟨_, rfl⟩, _ => by unfold eqD; exact RcAt.int_int _ _ _ _
 | .int _, .str _, ⟨_, rfl⟩, ⟨_, rfl⟩, _ => by unfold eqD; exact RcAt.int_str _ _ _ _
 | .int _, .tup _, ⟨_, rfl⟩, ⟨_, _, rfl, m⟩, _ => by unfold eqD; exact RcAt.int_tuple _ _ m hu
 | .int _, .lst _, ⟨_, rfl⟩, ⟨_, _, rfl, m⟩, _ => by unfold eqD; exact RcAt.int_list _ _ m hu
 | .str _, .non, ⟨_, rfl⟩, rfl, _ => by unfold eqD; exact RcAt.str_none _ _
 | .str _, .bl _, ⟨_, rfl⟩, rfl, _ => by unfold eqD; exact RcAt.str_bool _ _ _
 | .str _, .int _, ⟨_, rfl⟩, ⟨_, rfl⟩, _ => by unfold eqD; exact RcAt.str_int _ _ _ _
 | .str _, .str _, ⟨_, rfl⟩, ⟨_, rfl⟩, _ => by unfold eqD; exact RcAt.str_str _ _ _ _
 | .str _, .tup _, ⟨_, rfl⟩, ⟨_, _, rfl, m⟩, _ => by unfold eqD; exact RcAt.str_tuple _ _ m hu
 | .str _, .lst _, ⟨_, rfl⟩, ⟨_, _, rfl, m⟩, _ => by unfold eqD; exact RcAt.str_list _ _ m hu
 | .tup _, .non, ⟨_, _, rfl, l⟩, rfl, _ => by unfold eqD; exact RcAt.tuple_none l hu
 | .tup _, .bl _, ⟨_, _, rfl, l⟩, rfl, _ => by unfold eqD; exact RcAt.tuple_bool _ l hu
 | .tup _, .int _, ⟨_, _, rfl, l⟩, ⟨_, rfl⟩, _ => by unfold eqD; exact RcAt.tuple_int _ _ l hu
 | .tup _, .str _, ⟨_, _, rfl, l⟩, ⟨_, rfl⟩, _ => by unfold eqD; exact RcAt.tuple_str _ _ l hu
 | .tup _, .tup _, _, _, h => nomatch h
 | .tup _, .lst _, ⟨_, _, rfl, l⟩, ⟨_, _, rfl, m⟩, _ => by unfold eqD; exact RcAt.tuple_list l m hu
 | .lst _, .non, ⟨_, _, rfl, l⟩, rfl, _ => by unfold eqD; exact RcAt.list_none l hu
 | .lst _, .bl _, ⟨_, _, rfl, l⟩, rfl, _ => by unfold eqD; exact RcAt.list_bool _ l hu
 | .lst _, .int _, ⟨_, _, rfl, l⟩, ⟨_, rfl⟩, _ => by unfold eqD; exact RcAt.list_int _ _ l hu
 | .lst _, .str _, ⟨_, _, rfl, l⟩, ⟨_, rfl⟩, _ => by unfold eqD; exact RcAt.list_str _ _ l hu
 | .lst _, .tup _, ⟨_, _, rfl, l⟩, ⟨_, _, rfl, m⟩, _ => by unfold eqD; exact RcAt.list_tuple l m hu
 | .lst _, .lst _, _, _, h => nomatch h
 | .ro _, _, p, _, _ => p.elim
 | _, .ro _, _, p, _ => p.elim
 | .dic _, _, p, _, _ => p.elim
 | _, .dic _, _, p, _ => p.elim
 | .cell _, _, p, _, _ => p.elim
 | _, .cell _, _, p, _ => p.elim
theorem mF {vv uu : Value} {A : Around} (hu : A.units < cLine) : ∀ (x y : D), Vw s x vv -> Vw s y uu -> sk x y = false -> RcNeAt A s vv uu (!eqD x y)
 | .non, .non, rfl, rfl, _ => by unfold eqD; exact RcNeAt.none_none
 | .non, .bl _, rfl, rfl, _ => by unfold eqD; exact RcNeAt.none_bool _
 | .non, .int _, rfl, ⟨_, rfl⟩, _ => by unfold eqD; exact RcNeAt.none_int _ _
 | .non, .str _, rfl, ⟨_, rfl⟩, _ => by unfold eqD; exact RcNeAt.none_str _ _
 | .non, .tup _, rfl, ⟨_, _, rfl, m⟩, _ => by unfold eqD; exact RcNeAt.none_tuple m hu
 | .non, .lst _, rfl, ⟨_, _, rfl, m⟩, _ => by unfold eqD; exact RcNeAt.none_list m hu
 | .bl _, .non, rfl, rfl, _ => by unfold eqD; exact RcNeAt.bool_none _
 | .bl _, .bl _, rfl, rfl, _ => by unfold eqD; exact RcNeAt.bool_bool _ _
 | .bl _, .int _, rfl, ⟨_, rfl⟩, _ => by unfold eqD; exact RcNeAt.bool_int _ _ _
 | .bl _, .str _, rfl, ⟨_, rfl⟩, _ => by unfold eqD; exact RcNeAt.bool_str _ _ _
 | .bl _, .tup _, rfl, ⟨_, _, rfl, m⟩, _ => by unfold eqD; exact RcNeAt.bool_tuple _ m hu
 | .bl _, .lst _, rfl, ⟨_, _, rfl, m⟩, _ => by unfold eqD; exact RcNeAt.bool_list _ m hu
 | .int _, .non, ⟨_, rfl⟩, rfl, _ => by unfold eqD; exact RcNeAt.int_none _ _
 | .int _, .bl _, ⟨_, rfl⟩, rfl, _ => by unfold eqD; exact RcNeAt.int_bool _ _ _
 | .int _, .int _, ⟨_, rfl⟩, ⟨_, rfl⟩, _ => by unfold eqD; exact RcNeAt.int_int _ _ _ _
 | .int _, .str _, ⟨_, rfl⟩, ⟨_, rfl⟩, _ => by unfold eqD; exact RcNeAt.int_str _ _ _ _
 | .int _, .tup _, ⟨_, rfl⟩, ⟨_, _, rfl, m⟩, _ => by unfold eqD; exact RcNeAt.int_tuple _ _ m hu
 | .int _, .lst _, ⟨_, rfl⟩, ⟨_, _, rfl, m⟩, _ => by unfold eqD; exact RcNeAt.int_list _ _ m hu
 | .str _, .non, ⟨_, rfl⟩, rfl, _ => by unfold eqD; exact RcNeAt.str_none _ _
 | .str _, .bl _, ⟨_, rfl⟩, rfl, _ => by unfold eqD; exact RcNeAt.str_bool _ _ _
 | .str _, .int _, ⟨_, rfl⟩, ⟨_, rfl⟩, _ => by unfold eqD; exact RcNeAt.str_int _ _ _ _
 | .str _, .str _, ⟨_, rfl⟩, ⟨_, rfl⟩, _ => by unfold eqD; exact RcNeAt.str_str _ _ _ _
 | .str _, .tup _, ⟨_, rfl⟩, ⟨_, _, rfl, m⟩, _ => by unfold eqD; exact RcNeAt.str_tuple _ _ m hu
 | .str _, .lst _, ⟨_, rfl⟩, ⟨_, _, rfl, m⟩, _ => by unfold eqD; exact RcNeAt.str_list _ _ m hu
 | .tup _, .non, ⟨_, _, rfl, l⟩, rfl, _ => by unfold eqD; exact RcNeAt.tuple_none l hu
 | .tup _, .bl _, ⟨_, _, rfl, l⟩, rfl, _ => by unfold eqD; exact RcNeAt.tuple_bool _ l hu
 | .tup _, .int _, ⟨_, _, rfl, l⟩, ⟨_, rfl⟩, _ => by unfold eqD; exact RcNeAt.tuple_int _ _ l hu
 | .tup _, .str _, ⟨_, _, rfl, l⟩, ⟨_, rfl⟩, _ => by unfold eqD; exact RcNeAt.tuple_str _ _ l hu
 | .tup _, .tup _, _, _, h => nomatch h
 | .tup _, .lst _, ⟨_, _, rfl, l⟩, ⟨_, _, rfl, m⟩, _ => by unfold eqD; exact RcNeAt.tuple_list l m hu
 | .lst _, .non, ⟨_, _, rfl, l⟩, rfl, _ => by unfold eqD; exact RcNeAt.list_none l hu
 | .lst _, .bl _, ⟨_, _, rfl, l⟩, rfl, _ => by unfold eqD; exact RcNeAt.list_bool _ l hu
 | .lst _, .int _, ⟨_, _, rfl, l⟩, ⟨_, rfl⟩, _ => by unfold eqD; exact RcNeAt.list_int _ _ l hu
 | .lst _, .str _, ⟨_, _, rfl, l⟩, ⟨_, rfl⟩, _ => by unfold eqD; exact RcNeAt.list_str _ _ l hu
 | .lst _, .tup _, ⟨_, _, rfl, l⟩, ⟨_, _, rfl, m⟩, _ => by unfold eqD; exact RcNeAt.list_tuple l m hu
 | .lst _, .lst _, _, _, h => nomatch h
 | .ro _, _, p, _, _ => p.elim
 | _, .ro _, _, p, _ => p.elim
 | .dic _, _, p, _, _ => p.elim
 | _, .dic _, _, p, _ => p.elim
 | .cell _, _, p, _, _ => p.elim
 | _, .cell _, _, p, _ => p.elim
theorem yJ {xs ys : List D} {us ws : List V} {its0 its1 : List Value} {A : Around} (r : DVL X.K H xs us) (r2 : DVL X.K H ys ws) (iv0 : Vals us its0) (iv1 : Vals ws its1)
  (E : ∀ (j : Nat) (x y : D), xs[j]? = some x -> ys[j]? = some y -> ∀ (z z' : Value), its0[j]? = some z -> its1[j]? = some z' -> EqAt A.in1 s z z' (eqD x y)) (j : Nat) (h1 : j < its0.toArray.size) (h2 : j < its1.toArray.size) : EqAt A.in1 s its0.toArray[j] its1.toArray[j] (tu xs ys j) := by
 have h1' : j < its0.length := by simpa using h1
 have h2' : j < its1.length := by simpa using h2
 obtain ⟨d, e1, dv⟩ := DVL.get' r (show us[j]? = some (us[j]'(by rw [iv0.length]; exact h1')) by simp)
 obtain ⟨d', e2, dv'⟩ := DVL.get' r2 (show ws[j]? = some (ws[j]'(by rw [iv1.length]; exact h2')) by simp)
 obtain ⟨z, ez, rz⟩ := iv0.get (show us[j]? = some (us[j]'(by rw [iv0.length]; exact h1')) by simp)
 obtain ⟨z', ez', rz'⟩ := iv1.get (show ws[j]? = some (ws[j]'(by rw [iv1.length]; exact h2')) by simp)
 have f1 : its0.toArray[j] = z := by simpa [h1'] using ez
 have f2 : its1.toArray[j] = z' := by simpa [h2'] using ez'
 rw [f1, f2];have := E j d d' e1 e2 z z' ez ez';unfold tu;rw [e1, e2];exact this
theorem Fy {xs ys : List D} {us ws : List V} {its0 its1 : List Value} {a b : Addr} {A : Around} (pl0 : IsTup s.heap a its0.toArray) (pl1 : IsTup s.heap b its1.toArray) (r : DVL X.K H xs us) (r2 : DVL X.K H ys ws) (iv0 : Vals us its0) (iv1 : Vals ws its1) (hu : A.units < cLine)
  (E : ∀ (j : Nat) (x y : D), xs[j]? = some x -> ys[j]? = some y -> ∀ (z z' : Value), its0[j]? = some z -> its1[j]? = some z' -> EqAt A.in1 s z z' (eqD x y)) : RcAt A s (.ref a) (.ref b) (jd xs ys) := by
 have hl0 : its0.toArray.size = xs.length := by rw [Zd, <- iv0.length, <- DVL.length r]
 have hl1 : its1.toArray.size = ys.length := by rw [Zd, <- iv1.length, <- DVL.length r2]
 have rc := RcAt.tuples (A := A) (e := tu xs ys) pl0 pl1 (by omega) (yJ r r2 iv0 iv1 E)
 rw [hl0, hl1, zY] at rc;exact rc
theorem FZ {xs ys : List D} {us ws : List V} {its0 its1 : List Value} {a b : Addr} {A : Around} (pl0 : PlainL s.heap a its0.toArray) (pl1 : PlainL s.heap b its1.toArray) (r : DVL X.K H xs us) (r2 : DVL X.K H ys ws) (iv0 : Vals us its0) (iv1 : Vals ws its1) (hu : A.units < cLine)
  (E : ∀ (j : Nat) (x y : D), xs[j]? = some x -> ys[j]? = some y -> ∀ (z z' : Value), its0[j]? = some z -> its1[j]? = some z' -> EqAt A.in1 s z z' (eqD x y)) : RcAt A s (.ref a) (.ref b) (jd xs ys) := by
 have hl0 : its0.toArray.size = xs.length := by rw [Zd, <- iv0.length, <- DVL.length r]
 have hl1 : its1.toArray.size = ys.length := by rw [Zd, <- iv1.length, <- DVL.length r2]
 by_cases hlen : xs.length = ys.length
 .have rc := RcAt.lists (A := A) (e := tu xs ys) pl0.isList pl1.isList (by rw [hl0, hl1, hlen]) (by omega) (yJ r r2 iv0 iv1 E)
  rw [hl0, mO _ _ hlen] at rc;exact rc
 .rw [qF _ _ hlen];exact RcAt.lists_lengths pl0.isList pl1.isList (by rw [hl0, hl1]; simpa using hlen) (by omega)
theorem NZ {xs ys : List D} {us ws : List V} {its0 its1 : List Value} {a b : Addr} {A : Around} (pl0 : IsTup s.heap a its0.toArray) (pl1 : IsTup s.heap b its1.toArray) (r : DVL X.K H xs us) (r2 : DVL X.K H ys ws) (iv0 : Vals us its0) (iv1 : Vals ws its1) (hu : A.units < cLine)
  (E : ∀ (j : Nat) (x y : D), xs[j]? = some x -> ys[j]? = some y -> ∀ (z z' : Value), its0[j]? = some z -> its1[j]? = some z' -> EqAt A.in1 s z z' (eqD x y)) : RcNeAt A s (.ref a) (.ref b) (!jd xs ys) := by
 have hl0 : its0.toArray.size = xs.length := by rw [Zd, <- iv0.length, <- DVL.length r]
 have hl1 : its1.toArray.size = ys.length := by rw [Zd, <- iv1.length, <- DVL.length r2]
 have rc := RcNeAt.tuples (A := A) (e := tu xs ys) pl0 pl1 (by omega) (yJ r r2 iv0 iv1 E)
 rw [hl0, hl1, zY] at rc;exact rc
theorem Oo {xs ys : List D} {us ws : List V} {its0 its1 : List Value} {a b : Addr} {A : Around} (pl0 : PlainL s.heap a its0.toArray) (pl1 : PlainL s.heap b its1.toArray) (r : DVL X.K H xs us) (r2 : DVL X.K H ys ws) (iv0 : Vals us its0) (iv1 : Vals ws its1) (hu : A.units < cLine)
  (E : ∀ (j : Nat) (x y : D), xs[j]? = some x -> ys[j]? = some y -> ∀ (z z' : Value), its0[j]? = some z -> its1[j]? = some z' -> EqAt A.in1 s z z' (eqD x y)) : RcNeAt A s (.ref a) (.ref b) (!jd xs ys) := by
 have hl0 : its0.toArray.size = xs.length := by rw [Zd, <- iv0.length, <- DVL.length r]
 have hl1 : its1.toArray.size = ys.length := by rw [Zd, <- iv1.length, <- DVL.length r2]
 by_cases hlen : xs.length = ys.length
 .have rc := RcNeAt.lists (A := A) (e := tu xs ys) pl0.isList pl1.isList (by rw [hl0, hl1, hlen]) (by omega) (yJ r r2 iv0 iv1 E)
  rw [hl0, mO _ _ hlen] at rc;exact rc
 .rw [qF _ _ hlen];exact RcNeAt.lists_lengths pl0.isList pl1.isList (by rw [hl0, hl1]; simpa using hlen) (by omega)
mutual
theorem QD (I : Inv X pins σ H s) : ∀ (x y : D) (v u : V) (vv uu : Value) (A : Around), DV X.K H x v -> DV X.K H y u -> RelV v vv -> RelV u uu -> A.units + ir x < cLine -> EqAt A s vv uu (eqD x y)
 | .tup xs, y, v, u, vv, uu, A, h, k, rv, ru, hu => by
  cases y with
  | tup ys =>
   have h0 := h;have k0 := k;unfold DV at h k; unfold ir at hu;obtain ⟨a, us, rfl, q, r⟩ := h; cases rv; obtain ⟨its0, iv0, pl0, hz0⟩ := I.tuple q; obtain ⟨b, ws, rfl, p, r2⟩ := k; cases ru; obtain ⟨its1, iv1, pl1, hz1⟩ := I.tuple p;by_cases hab : a = b
   .subst hab;rw [uB I _ _ _ h0 k0];exact EqAt.same _
   .unfold eqD;exact EqAt.of_refs hab (Fy pl0 pl1 r r2 iv0 iv1 (by omega) (my I xs ys us ws its0 its1 A.in1 r r2 iv0 iv1 (by rw [units_in1]; omega)))
  | _ => exact lY (by omega) _ _ (vw I h rv) (vw I k ru) rfl
 | .lst xs, y, v, u, vv, uu, A, h, k, rv, ru, hu => by
  cases y with
  | lst ys =>
   have h0 := h;have k0 := k;unfold DV at h k; unfold ir at hu;obtain ⟨a, us, rfl, q, r⟩ := h; cases rv; obtain ⟨its0, iv0, pl0, hz0⟩ := I.list q; obtain ⟨b, ws, rfl, p, r2⟩ := k; cases ru; obtain ⟨its1, iv1, pl1, hz1⟩ := I.list p;by_cases hab : a = b
   .subst hab;rw [uB I _ _ _ h0 k0];exact EqAt.same _
   .unfold eqD;exact EqAt.of_refs hab (FZ pl0 pl1 r r2 iv0 iv1 (by omega) (my I xs ys us ws its0 its1 A.in1 r r2 iv0 iv1 (by rw [units_in1]; omega)))
  | _ => exact lY (by omega) _ _ (vw I h rv) (vw I k ru) rfl
 | .non, y, v, u, vv, uu, A, h, k, rv, ru, hu => lY (by omega) _ _ (vw I h rv) (vw I k ru) (by cases y <;> rfl)
 | .bl _, y, v, u, vv, uu, A, h, k, rv, ru, hu => lY (by omega) _ _ (vw I h rv) (vw I k ru) (by cases y <;> rfl)
 | .int _, y, v, u, vv, uu, A, h, k, rv, ru, hu => lY (by omega) _ _ (vw I h rv) (vw I k ru) (by cases y <;> rfl)
 | .str _, y, v, u, vv, uu, A, h, k, rv, ru, hu => lY (by omega) _ _ (vw I h rv) (vw I k ru) (by cases y <;> rfl)
 | .ro _, y, v, u, vv, uu, A, h, k, rv, ru, hu => lY (by omega) _ _ (vw I h rv) (vw I k ru) (by cases y <;> rfl)
 | .dic _, y, v, u, vv, uu, A, h, k, rv, ru, hu => lY (by omega) _ _ (vw I h rv) (vw I k ru) (by cases y <;> rfl)
 | .cell _, y, v, u, vv, uu, A, h, k, rv, ru, hu => lY (by omega) _ _ (vw I h rv) (vw I k ru) (by cases y <;> rfl)
theorem my (I : Inv X pins σ H s) : ∀ (xs ys : List D) (vs us : List V) (vvs uus : List Value) (A : Around), DVL X.K H xs vs -> DVL X.K H ys us -> Vals vs vvs -> Vals us uus -> A.units + jz xs < cLine ->
  ∀ (j : Nat) (x y : D), xs[j]? = some x -> ys[j]? = some y -> ∀ (z z' : Value), vvs[j]? = some z -> uus[j]? = some z' -> EqAt A s z z' (eqD x y)
 | [], ys, vs, us, vvs, uus, A, _, _, _, _, _ => λ j x y e => by simp at e
 | x :: xs, [], vs, us, vvs, uus, A, _, _, _, _, _ => λ j _ y _ e => by simp at e
 | x :: xs, y :: ys, vs, us, vvs, uus, A, h, k, rv, ru, hu => by
  unfold DVL at h k;unfold jz at hu;obtain ⟨v, vs', rfl, p, r⟩ := h;obtain ⟨u, us', rfl, p', r'⟩ := k;cases rv with
  | cons rv1 rv2 =>
   cases ru with
   | cons ru1 ru2 =>
    intro j x' y' e1 e2 z z' ez ez';cases j with
    | zero =>
     simp at e1 e2 ez ez';subst e1 e2 ez ez';exact QD I x y v u _ _ A p p' rv1 ru1 (by omega)
    | succ j =>
     exact my I xs ys vs' us' _ _ A r r' rv2 ru2 (by omega) j x' y' (by simpa using e1) (by simpa using e2) z z' (by simpa using ez) (by simpa using ez')
end
theorem SJ (I : Inv X pins σ H s) : ∀ (x y : D) (v u : V) (vv uu : Value) (A : Around), DV X.K H x v -> DV X.K H y u -> RelV v vv -> RelV u uu -> A.units + ir x < cLine -> RcAt A s vv uu (eqD x y)
 | .tup xs, y, v, u, vv, uu, A, h, k, rv, ru, hu => by
  cases y with
  | tup ys =>
   unfold DV at h k; unfold ir at hu;obtain ⟨a, us, rfl, q, r⟩ := h; cases rv; obtain ⟨its0, iv0, pl0, hz0⟩ := I.tuple q; obtain ⟨b, ws, rfl, p, r2⟩ := k; cases ru; obtain ⟨its1, iv1, pl1, hz1⟩ := I.tuple p;unfold eqD;exact Fy pl0 pl1 r r2 iv0 iv1 (by omega) (my I xs ys us ws its0 its1 A.in1 r r2 iv0 iv1 (by rw [units_in1]; omega))
  | _ => exact mz (by omega) _ _ (vw I h rv) (vw I k ru) rfl
 | .lst xs, y, v, u, vv, uu, A, h, k, rv, ru, hu => by
  cases y with
  | lst ys =>
   unfold DV at h k; unfold ir at hu;obtain ⟨a, us, rfl, q, r⟩ := h; cases rv; obtain ⟨its0, iv0, pl0, hz0⟩ := I.list q; obtain ⟨b, ws, rfl, p, r2⟩ := k; cases ru; obtain ⟨its1, iv1, pl1, hz1⟩ := I.list p;unfold eqD;exact FZ pl0 pl1 r r2 iv0 iv1 (by omega) (my I xs ys us ws its0 its1 A.in1 r r2 iv0 iv1 (by rw [units_in1]; omega))
  | _ => exact mz (by omega) _ _ (vw I h rv) (vw I k ru) rfl
 | .non, y, v, u, vv, uu, A, h, k, rv, ru, hu => mz (by omega) _ _ (vw I h rv) (vw I k ru) (by cases y <;> rfl)
 | .bl _, y, v, u, vv, uu, A, h, k, rv, ru, hu => mz (by omega) _ _ (vw I h rv) (vw I k ru) (by cases y <;> rfl)
 | .int _, y, v, u, vv, uu, A, h, k, rv, ru, hu => mz (by omega) _ _ (vw I h rv) (vw I k ru) (by cases y <;> rfl)
 | .str _, y, v, u, vv, uu, A, h, k, rv, ru, hu => mz (by omega) _ _ (vw I h rv) (vw I k ru) (by cases y <;> rfl)
 | .ro _, y, v, u, vv, uu, A, h, k, rv, ru, hu => mz (by omega) _ _ (vw I h rv) (vw I k ru) (by cases y <;> rfl)
 | .dic _, y, v, u, vv, uu, A, h, k, rv, ru, hu => mz (by omega) _ _ (vw I h rv) (vw I k ru) (by cases y <;> rfl)
 | .cell _, y, v, u, vv, uu, A, h, k, rv, ru, hu => mz (by omega) _ _ (vw I h rv) (vw I k ru) (by cases y <;> rfl)
theorem QJ (I : Inv X pins σ H s) : ∀ (x y : D) (v u : V) (vv uu : Value) (A : Around), DV X.K H x v -> DV X.K H y u -> RelV v vv -> RelV u uu -> A.units + ir x < cLine -> RcNeAt A s vv uu (!eqD x y)
 | .tup xs, y, v, u, vv, uu, A, h, k, rv, ru, hu => by
  cases y with
  | tup ys =>
   unfold DV at h k; unfold ir at hu;obtain ⟨a, us, rfl, q, r⟩ := h; cases rv; obtain ⟨its0, iv0, pl0, hz0⟩ := I.tuple q; obtain ⟨b, ws, rfl, p, r2⟩ := k; cases ru; obtain ⟨its1, iv1, pl1, hz1⟩ := I.tuple p;unfold eqD;exact NZ pl0 pl1 r r2 iv0 iv1 (by omega) (my I xs ys us ws its0 its1 A.in1 r r2 iv0 iv1 (by rw [units_in1]; omega))
  | _ => exact mF (by omega) _ _ (vw I h rv) (vw I k ru) rfl
 | .lst xs, y, v, u, vv, uu, A, h, k, rv, ru, hu => by
  cases y with
  | lst ys =>
   unfold DV at h k; unfold ir at hu;obtain ⟨a, us, rfl, q, r⟩ := h; cases rv; obtain ⟨its0, iv0, pl0, hz0⟩ := I.list q; obtain ⟨b, ws, rfl, p, r2⟩ := k; cases ru; obtain ⟨its1, iv1, pl1, hz1⟩ := I.list p;unfold eqD;exact Oo pl0 pl1 r r2 iv0 iv1 (by omega) (my I xs ys us ws its0 its1 A.in1 r r2 iv0 iv1 (by rw [units_in1]; omega))
  | _ => exact mF (by omega) _ _ (vw I h rv) (vw I k ru) rfl
 | .non, y, v, u, vv, uu, A, h, k, rv, ru, hu => mF (by omega) _ _ (vw I h rv) (vw I k ru) (by cases y <;> rfl)
 | .bl _, y, v, u, vv, uu, A, h, k, rv, ru, hu => mF (by omega) _ _ (vw I h rv) (vw I k ru) (by cases y <;> rfl)
 | .int _, y, v, u, vv, uu, A, h, k, rv, ru, hu => mF (by omega) _ _ (vw I h rv) (vw I k ru) (by cases y <;> rfl)
 | .str _, y, v, u, vv, uu, A, h, k, rv, ru, hu => mF (by omega) _ _ (vw I h rv) (vw I k ru) (by cases y <;> rfl)
 | .ro _, y, v, u, vv, uu, A, h, k, rv, ru, hu => mF (by omega) _ _ (vw I h rv) (vw I k ru) (by cases y <;> rfl)
 | .dic _, y, v, u, vv, uu, A, h, k, rv, ru, hu => mF (by omega) _ _ (vw I h rv) (vw I k ru) (by cases y <;> rfl)
 | .cell _, y, v, u, vv, uu, A, h, k, rv, ru, hu => mF (by omega) _ _ (vw I h rv) (vw I k ru) (by cases y <;> rfl)
end
def rsv (d : D) (μ : Mu) : D := match d with
 | .cell n => match μ[n]? with
  | some (some ds) => .lst ds
  | _ => d
 | .ro ds => .lst ds
 | _ => d
theorem nZ {K : PySem.W.Frag} {tb : List Addr} {W : Wd} {d : D} {v : V} (ok : WOk K tb W) (h : Den K tb W d v) (p : cN (rsv d W.mu) = true) : DV K W.H (rsv d W.mu) v := by
 cases d with
 | cell n =>
  obtain ⟨a, rfl, q⟩ := iH h;unfold rsv at p ⊢;dsimp only at p ⊢;cases e : W.mu[n]? with
  | none => rw [e] at p; cases p
  | some o =>
   rw [e] at p;cases o with
   | none => cases p
   | some ds =>
    dsimp only at p ⊢;unfold cN at p;obtain ⟨xs, ex, r⟩ := ok.cont n a ds q e;unfold DV;exact ⟨a, xs, rfl, SqL.of ex, uP ds xs p r⟩
 | ro ds =>
  obtain ⟨a, xs, rfl, q, r⟩ := xP h;have p' : cN (.lst ds) = true := p;unfold cN at p';show DV K W.H (.lst ds) _;unfold DV;exact ⟨a, xs, rfl, SqL.fz q, uP ds xs p' r⟩
 | _ => exact Qh _ _ p h
def oEq : O2 := λ x y μ => if (cN (rsv x μ) && cN (rsv y μ)) = true /\ ir (rsv x μ) < 100 then some (.bl (eqD (rsv x μ) (rsv y μ)), μ) else none
def oNe : O2 := λ x y μ => if (cN (rsv x μ) && cN (rsv y μ)) = true /\ ir (rsv x μ) < 100 then some (.bl (!eqD (rsv x μ) (rsv y μ)), μ) else none
def rEqD (K : PySem.W.Frag) : R2 := λ v u H Q => ∃ x y, DV K H x v /\ DV K H y u /\ ir x < 100 /\ Q (.bl (eqD x y)) H
def rNeD (K : PySem.W.Frag) : R2 := λ v u H Q => ∃ x y, DV K H x v /\ DV K H y u /\ ir x < 100 /\ Q (.bl (!eqD x y)) H
section
variable {X : Cx} {tb : List Addr} {k : Nat}
theorem Jy (hr : eG k X.A) : OpR X (compareOp .Eq) (rEqD X.K) := by
 intro pins s σ H v u vv uu Q I rv ru h;obtain ⟨x, y, hx, hy, hd, q⟩ := h;have hun := hr.un;exact SJ I x y v u vv uu X.A hx hy rv ru (by omega) X.prog X.w X.xe _ ⟨.bl _, H, I, rfl, q⟩
theorem Jh (hr : eG k X.A) : OpR X (compareOp .NotEq) (rNeD X.K) := by
 intro pins s σ H v u vv uu Q I rv ru h;obtain ⟨x, y, hx, hy, hd, q⟩ := h;have hun := hr.un;exact QJ I x y v u vv uu X.A hx hy rv ru (by omega) X.prog X.w X.xe _ ⟨.bl _, H, I, rfl, q⟩
theorem gB (hr : eG k X.A) : OpD X tb (compareOp .Eq) oEq := ⟨_, Jy hr, λ W x y v u d μ' Q ok dx dy ho h => by
 unfold oEq at ho;split at ho
 .rename_i hc;cases ho;rw [Zo] at hc;exact ⟨_, _, nZ ok dx hc.1.1, nZ ok dy hc.1.2, hc.2, put ok h fG⟩
 .cases ho⟩
theorem vJ (hr : eG k X.A) : OpD X tb (compareOp .NotEq) oNe := ⟨_, Jh hr, λ W x y v u d μ' Q ok dx dy ho h => by
 unfold oNe at ho;split at ho
 .rename_i hc;cases ho;rw [Zo] at hc;exact ⟨_, _, nZ ok dx hc.1.1, nZ ok dy hc.1.2, hc.2, put ok h fG⟩
 .cases ho⟩
end
end L3
namespace L2
open PySem PySem.Spec PyProof.Rows
section
variable {prog : Program} {w : World} {A : Around} {E : Value -> Shared -> Prop} {s : Shared}
theorem qQ {items} {Q : Value -> Shared -> Prop} (hit : s.heap.IsTupleIter it l i) (hl : s.heap.IsTuple l items) (hx : items[i]? = some x)
  (hQ : ∀ h', h'.IsTupleIter it l (i + 1) -> Heap.SameBut it s.heap h' -> Q x { s with heap := h' }) : wpAny (model prog w) A (Builtin.SmallTypes.nextOf (.ref it)) Q E s := by
 obtain ⟨o, ho, hc, hd⟩ := id hit;obtain ⟨ol, hol, _, nl, hdl⟩ := hl;unfold Builtin.SmallTypes.nextOf;refine wpAny_bind (wpAny_callSpecial?_slot (name := Str.ofString "__next__") hit.typeIs F.slot_tuple_iterator_next
  (wpAny_call_entry F.slot_tuple_iterator_next hit.typeIs F.entry_tuple_iterator_next ?_ (F.args_tuple_iterator_next_1 _)))
 show wpAny _ _ (field (.ref it) 0 >>= _) _ _ s;refine wpAny_bind (wpAny_field ho hd (x := .ref l) rfl ?_);show wpAny _ _ (if (Value.ref l == Value.none) = true then _ else _) _ _ s;rw [if_neg (show ¬ ((Value.ref l == Value.none) = true) from Zr)];show wpAny _ _ (field (.ref it) 1 >>= _) _ _ s;refine wpAny_bind (wpAny_field ho hd (x := .int i 0) rfl ?_);show wpAny _ _ (seqItems? (.ref l) >>= _) _ _ s;refine wpAny_bind (wpAny_seqItems hol hdl ?_);simp only [Int.toNat_natCast, hx];refine wpAny_bind (wpAny_setField ho hd (by simp) (wpAny_pure ⟨x, rfl, wpAny_pure (hQ _ ?_ (Heap.SameBut.update ..))⟩))
 exact ⟨_, Heap.get?_update_self _ ho (Obj.isFreed_of_fields (Obj.data_mapFields hd _)), (Obj.cls_mapFields ..).trans hc, by
  rw [Obj.data_mapFields hd]; simp [rawInt]⟩
theorem sU {items} {Q : Value -> Shared -> Prop} (hh : A.handled = none) (hit : s.heap.IsTupleIter it l i) (hl : s.heap.IsTuple l items) (hx : items[i]? = none)
  (hE : ∀ h' e, Heap.ExtBut it s.heap h' -> (∃ o, h'.get? e = some o /\ o.cls = .type "StopIteration") -> E (.ref e) { s with heap := h' }) : wpAny (model prog w) A (Builtin.SmallTypes.nextOf (.ref it)) Q E s := by
 obtain ⟨o, ho, hc, hd⟩ := id hit;obtain ⟨ol, hol, _, nl, hdl⟩ := hl;unfold Builtin.SmallTypes.nextOf;refine wpAny_bind (wpAny_callSpecial?_slot (name := Str.ofString "__next__") hit.typeIs F.slot_tuple_iterator_next
  (wpAny_call_entry F.slot_tuple_iterator_next hit.typeIs F.entry_tuple_iterator_next ?_ (F.args_tuple_iterator_next_1 _)))
 show wpAny _ _ (field (.ref it) 0 >>= _) _ _ s;refine wpAny_bind (wpAny_field ho hd (x := .ref l) rfl ?_);show wpAny _ _ (if (Value.ref l == Value.none) = true then _ else _) _ _ s;rw [if_neg (show ¬ ((Value.ref l == Value.none) = true) from Zr)];show wpAny _ _ (field (.ref it) 1 >>= _) _ _ s;refine wpAny_bind (wpAny_field ho hd (x := .int i 0) rfl ?_);show wpAny _ _ (seqItems? (.ref l) >>= _) _ _ s;refine wpAny_bind (wpAny_seqItems hol hdl ?_);simp only [Int.toNat_natCast, hx];refine wpAny_bind (wpAny_rule (wpAny_bind (wpAny_setField ho hd (by simp) ?_)))
 show wpAny _ _ (newExc (.type "StopIteration") [] >>= _) _ _ _;refine wpAny_bind ?_;simp only [newExc, newTuple];refine wpAny_bind (wpAny_newObj_type ?_ (by size_fits))
 refine wpAny_bind (m := firstArgMember _ _) (wpAny_of_eq (a := Value.none) (by first | rfl | (simp only [firstArgMember]; rfl)) ?_)
 refine wpAny_newObj_type ?_ (by size_fits)
 simp only [raiseNew];refine wpAny_bind (wpAny_handled ?_)
 first | rw [show A.in1.handled = none from hh] | rw [hh]
 refine wpAny_bind (wpAny_pure (wpAny_throw ?_));exact hE _ _ (((Heap.SameBut.update ..).extBut.push _).push _) ⟨_, Zf _ rfl, rfl⟩
end
def gP (k : Bool) (h : Heap) (it l : Addr) (i : Nat) : Prop := if k = true then h.IsTupleIter it l i else h.IsListIter it l i
def lC (k : Bool) (h : Heap) (l : Addr) (xs : Array Value) : Prop := if k = true then h.IsTuple l xs else h.IsList l xs
section
variable {prog : Program} {w : World} {A : Around} {E : Value -> Shared -> Prop} {s : Shared} {k : Bool} {it l : Addr} {i : Nat} {xs : Array Value} {h h' : Heap}
theorem gP.obj (x : gP k h it l i) : ∃ o, h.get? it = some o /\ (∀ v, o.data ≠ .cell v) /\ (o.cls = .type "tuple_iterator" ∨ o.cls = .type "list_iterator") := by
 cases k
 .obtain ⟨o, e, c, d⟩ : h.IsListIter it l i := x;exact ⟨o, e, (λ v z => by rw [d] at z; cases z), .inr c⟩
 .obtain ⟨o, e, c, d⟩ : h.IsTupleIter it l i := x;exact ⟨o, e, (λ v z => by rw [d] at z; cases z), .inl c⟩
theorem gP.at' (x : gP k h it l i) (hk : ∀ o, h.get? it = some o -> h'.get? it = some o) : gP k h' it l i := by
 cases k
 .obtain ⟨o, e, c, d⟩ : h.IsListIter it l i := x;exact (⟨o, hk o e, c, d⟩ : h'.IsListIter it l i)
 .obtain ⟨o, e, c, d⟩ : h.IsTupleIter it l i := x;exact (⟨o, hk o e, c, d⟩ : h'.IsTupleIter it l i)
theorem lC.at' (x : lC k h l xs) (hk : ∀ o, h.get? l = some o -> h'.get? l = some o) : lC k h' l xs := by
 cases k
 .obtain ⟨o, e, c⟩ : h.IsList l xs := x;exact (⟨o, hk o e, c⟩ : h'.IsList l xs)
 .obtain ⟨o, e, c⟩ : h.IsTuple l xs := x;exact (⟨o, hk o e, c⟩ : h'.IsTuple l xs)
theorem kW {Q : Value -> Shared -> Prop} (hit : gP k s.heap it l i) (hl : lC k s.heap l xs) (hx : xs[i]? = some x)
  (hQ : ∀ h', gP k h' it l (i + 1) -> Heap.SameBut it s.heap h' -> Q x { s with heap := h' }) : wpAny (model prog w) A (Builtin.SmallTypes.nextOf (.ref it)) Q E s := by
 cases k
 .exact wpAny_nextOf_list_item hit hl hx hQ
 .exact qQ hit hl hx hQ
theorem pD {Q : Value -> Shared -> Prop} (hh : A.handled = none) (hit : gP k s.heap it l i) (hl : lC k s.heap l xs) (hx : xs[i]? = none)
  (hE : ∀ h' e, Heap.ExtBut it s.heap h' -> (∃ o, h'.get? e = some o /\ o.cls = .type "StopIteration") -> E (.ref e) { s with heap := h' }) : wpAny (model prog w) A (Builtin.SmallTypes.nextOf (.ref it)) Q E s := by
 cases k
 .exact wpAny_nextOf_list_end hh hit hl hx hE
 .exact sU hh hit hl hx hE
end
structure ZA (z TI TO i1 i2 : Addr) : Prop where
 TIz : TI ≠ z
 TOz : TO ≠ z
 i1z : i1 ≠ z
 i2z : i2 ≠ z
 TITO : TI ≠ TO
 TIi1 : TI ≠ i1
 TIi2 : TI ≠ i2
 TOi1 : TO ≠ i1
 TOi2 : TO ≠ i2
 i12 : i1 ≠ i2
section
variable {prog : Program} {w : World} {A : Around} {E : Value -> Shared -> Prop} {s : Shared}
theorem Gk {z TI TO i1 i2 l1 l2 : Addr} {c1 c2 : Bool} {k1 k2 : Nat} {xs ys : Array Value} {x y a b : Value} {Q : Value -> Shared -> Prop} (D : ZA z TI TO i1 i2)
  (l1z : l1 ≠ z) (l2z : l2 ≠ z) (l2i1 : l2 ≠ i1) (l2TO : l2 ≠ TO)
  (hz : IsZip s.heap z TI TO .none) (hTI : IsPair s.heap TI (.ref i1) (.ref i2)) (hTO : IsPair s.heap TO a b)
  (h1 : gP c1 s.heap i1 l1 k1) (h2 : gP c2 s.heap i2 l2 k2) (hl1 : lC c1 s.heap l1 xs) (hl2 : lC c2 s.heap l2 ys) (hx : xs[k1]? = some x) (hy : ys[k2]? = some y)
  (hQ : ∀ h', IsZip h' z TI TO (rawInt s.heap.objs.size) -> IsPair h' TO x y -> gP c1 h' i1 l1 (k1 + 1) -> gP c2 h' i2 l2 (k2 + 1) -> IsPair h' s.heap.objs.size x y -> h'.objs.size = s.heap.objs.size + 1 ->
   (∀ c o, c ≠ z -> c ≠ TO -> c ≠ i1 -> c ≠ i2 -> s.heap.get? c = some o -> h'.get? c = some o) -> Q (.ref s.heap.objs.size) { s with heap := h' }) :
  wpAny (model prog w) A (Builtin.«zip.__next__» ⟨[.ref z], []⟩) (λ fin s' => ∃ v, fin = .done (.ret v) /\ Q v s') E s := by
 show wpAny _ _ (field (.ref z) 2 >>= _) _ _ _;refine wpAny_bind (wpAny_field hz rfl (x := .bool false) rfl ?_);show wpAny _ _ (field (.ref z) 3 >>= _) _ _ _;refine wpAny_bind (wpAny_field hz rfl (x := .ref TI) rfl ?_);refine wpAny_bind (wpAny_seqItems hTI rfl ?_);show wpAny _ _ (Builtin.SmallTypes.ownedTupleIsFree (.ref z) >>= _) _ _ _;refine wpAny_bind ?_;unfold Builtin.SmallTypes.ownedTupleIsFree;refine wpAny_bind (wpAny_field hz rfl (x := .none) rfl (wpAny_pure ?_));simp only [if_true];refine wpAny_bind (wpAny_rule ?_);refine wpAny_bind (wpAny_field hz rfl (x := .ref TO) rfl ?_);refine wpAny_bind (wpAny_setField_rec hz (by simp) λ h₁ hz₁ hs₁ => ?_)
 replace hz₁ : IsZip h₁ z TI TO .ellipsis := hz₁;refine wpAny_bind ?_;simp only [List.zipIdx_cons, List.zipIdx_nil, List.forIn_cons, List.forIn_nil];refine wpAny_bind (wpAny_bind (wpAny_onRaise ?_));show wpAny _ _ (Builtin.SmallTypes.nextOf (.ref i1) >>= _) _ _ _;refine wpAny_bind (kW (h1.at' λ o e => hs₁.extBut _ _ D.i1z e) (hl1.at' λ o e => hs₁.extBut _ _ l1z e) hx λ h₂ h1₂ hs₂ => wpAny_pure ?_);have hTO₂ : IsPair h₂ TO a b := hs₂.extBut _ _ D.TOi1 (hs₁.extBut _ _ D.TOz hTO);refine wpAny_bind (wpAny_seqItems hTO₂ rfl ?_);refine wpAny_bind (wpAny_updateSeq_pair hTO₂ λ h₃ hTO₃ hs₃ => ?_);replace hTO₃ : IsPair h₃ TO x b := hTO₃;refine wpAny_bind (wpAny_letGo (wpAny_pure ?_));refine wpAny_bind (wpAny_bind (wpAny_onRaise ?_));show wpAny _ _ (Builtin.SmallTypes.nextOf (.ref i2) >>= _) _ _ _;refine wpAny_bind (kW (h2.at' λ o e => hs₃.extBut _ _ D.TOi2.symm (hs₂.extBut _ _ D.i12.symm (hs₁.extBut _ _ D.i2z e))) (hl2.at' λ o e => hs₃.extBut _ _ l2TO (hs₂.extBut _ _ l2i1 (hs₁.extBut _ _ l2z e))) hy λ h₄ h2₄ hs₄ => wpAny_pure ?_);have hTO₄ : IsPair h₄ TO x b := hs₄.extBut _ _ D.TOi2 hTO₃;refine wpAny_bind (wpAny_seqItems hTO₄ rfl ?_);refine wpAny_bind (wpAny_updateSeq_pair hTO₄ λ h₅ hTO₅ hs₅ => ?_);replace hTO₅ : IsPair h₅ TO x y := hTO₅;refine wpAny_bind (wpAny_letGo (wpAny_pure (wpAny_pure ?_)));refine wpAny_bind (wpAny_seqItems hTO₅ rfl ?_);refine wpAny_bind (wpAny_newTuple ?_);have hsz : h₅.objs.size = s.heap.objs.size := by rw [hs₅.1, hs₄.1, hs₃.1, hs₂.1, hs₁.1]
 have hz₅ : IsZip h₅ z TI TO .ellipsis := hs₅.extBut _ _ D.TOz.symm (hs₄.extBut _ _ D.i2z.symm (hs₃.extBut _ _ D.TOz.symm (hs₂.extBut _ _ D.i1z.symm hz₁)));have hk₅ : ∀ c o, c ≠ z -> c ≠ TO -> c ≠ i1 -> c ≠ i2 -> s.heap.get? c = some o -> h₅.get? c = some o := λ c o q1 q2 q3 q4 e =>
  hs₅.extBut _ _ q2 (hs₄.extBut _ _ q4 (hs₃.extBut _ _ q2 (hs₂.extBut _ _ q3 (hs₁.extBut _ _ q1 e))))
 have h1₅ : gP c1 h₅ i1 l1 (k1 + 1) := h1₂.at' λ o e => hs₅.extBut _ _ D.TOi1.symm (hs₄.extBut _ _ D.i12 (hs₃.extBut _ _ D.TOi1.symm e));have h2₅ : gP c2 h₅ i2 l2 (k2 + 1) := h2₄.at' λ o e => hs₅.extBut _ _ D.TOi2.symm e;have hzlt : z < h₅.objs.size := Ze hz₅;show wpAny _ _ (Builtin.SmallTypes.ownedTupleHandOut (.ref z) (.ref h₅.objs.size) >>= _) _ _ _;refine wpAny_bind ?_;unfold Builtin.SmallTypes.ownedTupleHandOut;have hz₆ : IsZip (h₅.push { cls := .type "tuple", data := .seq #[x, y] }) z TI TO .ellipsis := Zb _ hz₅;refine wpAny_bind (wpAny_setField_rec hz₆ (by simp) λ h₇ hz₇ hs₇ => ?_)
 replace hz₇ : IsZip h₇ z TI TO (rawInt h₅.objs.size) := hz₇;refine wpAny_setField_rec hz₇ (by simp) λ h₈ hz₈ hs₈ => ?_
 replace hz₈ : IsZip h₈ z TI TO (rawInt h₅.objs.size) := hz₈;have up : ∀ c o, c ≠ z -> h₅.get? c = some o -> h₈.get? c = some o := λ c o q1 e => hs₈.extBut _ _ q1 (hs₇.extBut _ _ q1 (Zb _ e));have hT₈ : IsPair h₈ h₅.objs.size x y := hs₈.extBut _ _ (Nat.ne_of_gt hzlt) (hs₇.extBut _ _ (Nat.ne_of_gt hzlt) (Zf _ rfl));have hz8 : h₈.objs.size = h₅.objs.size + 1 := by rw [hs₈.1, hs₇.1, Heap.size_push]
 rw [hsz] at hz₈ hT₈ hz8;refine wpAny_pure ⟨_, rfl, ?_⟩;show Q (.ref h₅.objs.size) _;rw [hsz];exact hQ h₈ hz₈ (up _ _ D.TOz hTO₅) (h1₅.at' λ o e => up _ o D.i1z e) (h2₅.at' λ o e => up _ o D.i2z e) hT₈ hz8 λ c o q1 q2 q3 q4 e => up c o q1 (hk₅ c o q1 q2 q3 q4 e)
theorem Ko {z TI TO i1 i2 l1 l2 : Addr} {c1 c2 : Bool} {k1 k2 : Nat} {xs ys : Array Value} {a b : Value} {Q : PySem.Fin -> Shared -> Prop} (hh : A.handled = none) (D : ZA z TI TO i1 i2)
  (l1z : l1 ≠ z) (l2z : l2 ≠ z) (l2i1 : l2 ≠ i1) (l2TO : l2 ≠ TO)
  (hz : IsZip s.heap z TI TO .none) (hTI : IsPair s.heap TI (.ref i1) (.ref i2)) (hTO : IsPair s.heap TO a b)
  (h1 : gP c1 s.heap i1 l1 k1) (h2 : gP c2 s.heap i2 l2 k2) (hl1 : lC c1 s.heap l1 xs) (hl2 : lC c2 s.heap l2 ys) (hend : xs[k1]? = none ∨ ys[k2]? = none)
  (hE : ∀ h' e, (∀ c o, c ≠ z -> c ≠ TO -> c ≠ i1 -> c ≠ i2 -> s.heap.get? c = some o -> h'.get? c = some o) -> (∃ o, h'.get? e = some o /\ o.cls = .type "StopIteration") -> E (.ref e) { s with heap := h' }) :
  wpAny (model prog w) A (Builtin.«zip.__next__» ⟨[.ref z], []⟩) Q E s := by
 show wpAny _ _ (field (.ref z) 2 >>= _) _ _ _;refine wpAny_bind (wpAny_field hz rfl (x := .bool false) rfl ?_);show wpAny _ _ (field (.ref z) 3 >>= _) _ _ _;refine wpAny_bind (wpAny_field hz rfl (x := .ref TI) rfl ?_);refine wpAny_bind (wpAny_seqItems hTI rfl ?_);show wpAny _ _ (Builtin.SmallTypes.ownedTupleIsFree (.ref z) >>= _) _ _ _;refine wpAny_bind ?_;unfold Builtin.SmallTypes.ownedTupleIsFree;refine wpAny_bind (wpAny_field hz rfl (x := .none) rfl (wpAny_pure ?_));simp only [if_true];refine wpAny_bind (wpAny_rule ?_);refine wpAny_bind (wpAny_field hz rfl (x := .ref TO) rfl ?_);refine wpAny_bind (wpAny_setField_rec hz (by simp) λ h₁ hz₁ hs₁ => ?_)
 replace hz₁ : IsZip h₁ z TI TO .ellipsis := hz₁;refine wpAny_bind ?_;simp only [List.zipIdx_cons, List.zipIdx_nil, List.forIn_cons, List.forIn_nil];refine wpAny_bind (wpAny_bind (wpAny_onRaise ?_));show wpAny _ _ (Builtin.SmallTypes.nextOf (.ref i1) >>= _) _ _ _;cases hx : xs[k1]? with
 | none =>
  refine wpAny_bind (pD hh (h1.at' λ o e => hs₁.extBut _ _ D.i1z e) (hl1.at' λ o e => hs₁.extBut _ _ l1z e) hx λ h₂ e hs₂ he => ?_);obtain ⟨oe, hoe, hce⟩ := he;have hz₂ : IsZip h₂ z TI TO .ellipsis := hs₂ _ _ D.i1z.symm hz₁;have hez : e ≠ z := λ x => by subst x; rw [hz₂] at hoe; cases hoe; simp at hce
  exact wpAny_setField_rec hz₂ (by simp) λ h₃ _ hs₃ => hE h₃ e (λ c o q1 _ q3 _ x => hs₃.extBut _ _ q1 (hs₂ _ _ q3 (hs₁.extBut _ _ q1 x))) ⟨oe, hs₃.extBut _ _ hez hoe, hce⟩
 | some x =>
  have hy : ys[k2]? = none := by rcases hend with h | h; rw [hx] at h; cases h; exact h
  refine wpAny_bind (kW (h1.at' λ o e => hs₁.extBut _ _ D.i1z e) (hl1.at' λ o e => hs₁.extBut _ _ l1z e) hx λ h₂ h1₂ hs₂ => wpAny_pure ?_);have hTO₂ : IsPair h₂ TO a b := hs₂.extBut _ _ D.TOi1 (hs₁.extBut _ _ D.TOz hTO);refine wpAny_bind (wpAny_seqItems hTO₂ rfl ?_);refine wpAny_bind (wpAny_updateSeq_pair hTO₂ λ h₃ hTO₃ hs₃ => ?_);refine wpAny_bind (wpAny_letGo (wpAny_pure ?_));refine wpAny_bind (wpAny_bind (wpAny_onRaise ?_));show wpAny _ _ (Builtin.SmallTypes.nextOf (.ref i2) >>= _) _ _ _;refine wpAny_bind (pD hh (h2.at' λ o e => hs₃.extBut _ _ D.TOi2.symm (hs₂.extBut _ _ D.i12.symm (hs₁.extBut _ _ D.i2z e))) (hl2.at' λ o e => hs₃.extBut _ _ l2TO (hs₂.extBut _ _ l2i1 (hs₁.extBut _ _ l2z e))) hy λ h₄ e hs₄ he => ?_);obtain ⟨oe, hoe, hce⟩ := he;have hz₄ : IsZip h₄ z TI TO .ellipsis := hs₄ _ _ D.i2z.symm (hs₃.extBut _ _ D.TOz.symm (hs₂.extBut _ _ D.i1z.symm hz₁));have hez : e ≠ z := λ x => by subst x; rw [hz₄] at hoe; cases hoe; simp at hce
  exact wpAny_setField_rec hz₄ (by simp) λ h₅ _ hs₅ => hE h₅ e (λ c o q1 q2 q3 q4 x => hs₅.extBut _ _ q1 (hs₄ _ _ q4 (hs₃.extBut _ _ q2 (hs₂.extBut _ _ q3 (hs₁.extBut _ _ q1 x))))) ⟨oe, hs₅.extBut _ _ hez hoe, hce⟩
end
section
variable {prog : Program} {w : World} {A : Around} {E : Value -> Shared -> Prop} {s : Shared}
theorem sr {z TI TO i1 i2 l1 l2 : Addr} {c1 c2 : Bool} {k1 k2 : Nat} {xs ys : Array Value} {x y a b : Value} {Q : Option Value -> Shared -> Prop} (D : ZA z TI TO i1 i2)
  (l1z : l1 ≠ z) (l2z : l2 ≠ z) (l2i1 : l2 ≠ i1) (l2TO : l2 ≠ TO)
  (hz : IsZip s.heap z TI TO .none) (hTI : IsPair s.heap TI (.ref i1) (.ref i2)) (hTO : IsPair s.heap TO a b)
  (h1 : gP c1 s.heap i1 l1 k1) (h2 : gP c2 s.heap i2 l2 k2) (hl1 : lC c1 s.heap l1 xs) (hl2 : lC c2 s.heap l2 ys) (hx : xs[k1]? = some x) (hy : ys[k2]? = some y)
  (hQ : ∀ h', IsZip h' z TI TO (rawInt s.heap.objs.size) -> IsPair h' TO x y -> gP c1 h' i1 l1 (k1 + 1) -> gP c2 h' i2 l2 (k2 + 1) -> IsPair h' s.heap.objs.size x y -> h'.objs.size = s.heap.objs.size + 1 ->
   (∀ c o, c ≠ z -> c ≠ TO -> c ≠ i1 -> c ≠ i2 -> s.heap.get? c = some o -> h'.get? c = some o) -> Q (some (.ref s.heap.objs.size)) { s with heap := h' }) :
  wpAny (model prog w) A (pyNext (.ref z)) Q E s := by
 have hT : s.TypeIs (.ref z) "zip" := ⟨_, hz, rfl⟩;unfold pyNext;exact wpAny_bind (wpAny_attempt (wpAny_callSpecial?_slot (name := Str.ofString "__next__") hT F.slot_zip_next
  (wpAny_call_entry F.slot_zip_next hT F.entry_zip_next
   (Gk D l1z l2z l2i1 l2TO hz hTI hTO h1 h2 hl1 hl2 hx hy λ h' a1 a2 a3 a4 a5 a6 a7 => wpAny_pure (hQ h' a1 a2 a3 a4 a5 a6 a7)) (F.args_zip_next_1 _))))
theorem tQ {z TI TO i1 i2 l1 l2 : Addr} {c1 c2 : Bool} {k1 k2 : Nat} {xs ys : Array Value} {a b : Value} {Q : Option Value -> Shared -> Prop} (hh : A.handled = none) (D : ZA z TI TO i1 i2)
  (l1z : l1 ≠ z) (l2z : l2 ≠ z) (l2i1 : l2 ≠ i1) (l2TO : l2 ≠ TO)
  (hz : IsZip s.heap z TI TO .none) (hTI : IsPair s.heap TI (.ref i1) (.ref i2)) (hTO : IsPair s.heap TO a b)
  (h1 : gP c1 s.heap i1 l1 k1) (h2 : gP c2 s.heap i2 l2 k2) (hl1 : lC c1 s.heap l1 xs) (hl2 : lC c2 s.heap l2 ys) (hend : xs[k1]? = none ∨ ys[k2]? = none)
  (hQ : ∀ h', (∀ c o, c ≠ z -> c ≠ TO -> c ≠ i1 -> c ≠ i2 -> s.heap.get? c = some o -> h'.get? c = some o) -> Q none { s with heap := h' }) : wpAny (model prog w) A (pyNext (.ref z)) Q E s := by
 have hT : s.TypeIs (.ref z) "zip" := ⟨_, hz, rfl⟩;unfold pyNext;refine wpAny_bind (wpAny_attempt (wpAny_callSpecial?_slot (name := Str.ofString "__next__") hT F.slot_zip_next
  (wpAny_call_entry F.slot_zip_next hT F.entry_zip_next (Ko hh D l1z l2z l2i1 l2TO hz hTI hTO h1 h2 hl1 hl2 hend λ h' e hk he => ?_) (F.args_zip_next_1 _))))
 obtain ⟨o, ho, hc⟩ := he;refine wpAny_bind (wpAny_isInstance (T := "StopIteration") (b := true) ⟨o, ho, hc⟩ isSubtype_stop ?_);exact wpAny_pure (hQ _ hk)
def itTy (k : Bool) : String := if k = true then "tuple_iterator" else "list_iterator"
abbrev pI (k : Bool) (l : Addr) : Obj := { cls := .type (itTy k), data := .fields #[.ref l, .int 0 0] }
theorem wM {Q : Value -> Shared -> Prop} (hl : lC k s.heap l xs) (hQ : Q (.ref s.heap.objs.size) { s with heap := s.heap.push (pI k l) }) : wpAny (model prog w) A (pyIter (.ref l)) Q E s := by
 cases k
 .exact wpAny_pyIter_list hl hQ
 .exact wpAny_pyIter_tuple hl hQ
end
abbrev zH2 (h : Heap) (c1 c2 : Bool) (l1 l2 : Addr) : Heap := (h.push (pI c1 l1)).push (pI c2 l2)
abbrev zH3 (h : Heap) (c1 c2 : Bool) (l1 l2 : Addr) : Heap := (zH2 h c1 c2 l1 l2).push { cls := .type "tuple", data := .seq #[.ref h.objs.size, .ref (h.push (pI c1 l1)).objs.size] }
abbrev zH4 (h : Heap) (c1 c2 : Bool) (l1 l2 : Addr) : Heap := (zH3 h c1 c2 l1 l2).push { cls := .type "tuple", data := .seq #[.none, .none] }
abbrev zH5 (h : Heap) (c1 c2 : Bool) (l1 l2 : Addr) : Heap := (zH4 h c1 c2 l1 l2).push { cls := .type "zip", data := .fields #[.none, .bool false, .bool false, .ref (zH2 h c1 c2 l1 l2).objs.size, .ref (zH3 h c1 c2 l1 l2).objs.size] }
theorem Jw (c1 c2 : Bool) (l1 l2 : Addr) (xs ys : Array Value) :
  Meets (Builtin.«zip.__new__» ⟨[.type "zip", .ref l1, .ref l2], []⟩) (λ _ R s => lC c1 s.heap l1 xs /\ lC c2 s.heap l2 ys /\
   R (.ok (.ret (.ref (zH4 s.heap c1 c2 l1 l2).objs.size))) { s with heap := zH5 s.heap c1 c2 l1 l2 }) :=
 .of_wp λ prog w A R s h => by
  obtain ⟨hp, g, d, tk, os⟩ := s; obtain ⟨hl1, hl2, h⟩ := h;have hsub := sub_zip;have hL1 : lC c1 (Shared.heap ⟨hp, g, d, tk, os⟩) l1 xs := hl1;have hL2 : lC c2 (Shared.heap ⟨hp.push (pI c1 l1), g, d, tk, os⟩) l2 ys := hl2.at' λ o e => Zb _ e
  wp_walk using wM hL1, wM hL2
  exact ⟨_, rfl, h⟩
section
variable {prog : Program} {w : World} {A : Around} {E : Value -> Shared -> Prop} {s : Shared}
theorem gP.new (k : Bool) (h : Heap) (l : Addr) : gP k (h.push (pI k l)) h.objs.size l 0 := by
 cases k
 .exact (⟨pI false l, Zf _ rfl, rfl, rfl⟩ : Heap.IsListIter _ _ _ 0)
 .exact (⟨pI true l, Zf _ rfl, rfl, rfl⟩ : Heap.IsTupleIter _ _ _ 0)
theorem Hd {Q : Value -> Shared -> Prop} (hl1 : lC c1 s.heap l1 xs) (hl2 : lC c2 s.heap l2 ys)
  (h : ∀ h', IsZip h' (s.heap.objs.size + 4) (s.heap.objs.size + 2) (s.heap.objs.size + 3) .none -> IsPair h' (s.heap.objs.size + 2) (.ref s.heap.objs.size) (.ref (s.heap.objs.size + 1)) ->
   IsPair h' (s.heap.objs.size + 3) .none .none -> gP c1 h' s.heap.objs.size l1 0 -> gP c2 h' (s.heap.objs.size + 1) l2 0 -> h'.objs.size = s.heap.objs.size + 5 ->
   (∀ c o, s.heap.get? c = some o -> h'.get? c = some o) -> Q (.ref (s.heap.objs.size + 4)) { s with heap := h' }) :
  wpAny (model prog w) A (call (.type "zip") [.ref l1, .ref l2]) Q E s := by
 refine callType_new F.called_zip (by decide) (F.typeCall_zip_2 _ _) (F.newCall_zip_2 _ _) (λ obj => F.args_object_init_3 obj _ _) F.entry_zip_new
  (Jw c1 c2 l1 l2 xs ys) ⟨hl1, hl2, ?_⟩
 have z1 : (s.heap.push (pI c1 l1)).objs.size = s.heap.objs.size + 1 := Heap.size_push ..;have z2 : (zH2 s.heap c1 c2 l1 l2).objs.size = s.heap.objs.size + 2 := by rw [Heap.size_push, z1]
 have z3 : (zH3 s.heap c1 c2 l1 l2).objs.size = s.heap.objs.size + 3 := by rw [Heap.size_push, z2]
 have z4 : (zH4 s.heap c1 c2 l1 l2).objs.size = s.heap.objs.size + 4 := by rw [Heap.size_push, z3]
 have z5 : (zH5 s.heap c1 c2 l1 l2).objs.size = s.heap.objs.size + 5 := by rw [Heap.size_push, z4]
 have g5 : (zH5 s.heap c1 c2 l1 l2).get? (zH4 s.heap c1 c2 l1 l2).objs.size = some _ := Zf _ rfl;have g4 : (zH5 s.heap c1 c2 l1 l2).get? (zH3 s.heap c1 c2 l1 l2).objs.size = some _ := Zb _ (Zf _ rfl);have g3 : (zH5 s.heap c1 c2 l1 l2).get? (zH2 s.heap c1 c2 l1 l2).objs.size = some _ := Zb _ (Zb _ (Zf _ rfl));have g2 : gP c2 (zH5 s.heap c1 c2 l1 l2) (s.heap.push (pI c1 l1)).objs.size l2 0 := (gP.new c2 _ l2).at' λ o e => Zb _ (Zb _ (Zb _ e));have g1 : gP c1 (zH5 s.heap c1 c2 l1 l2) s.heap.objs.size l1 0 := (gP.new c1 _ l1).at' λ o e => Zb _ (Zb _ (Zb _ (Zb _ e)));show _ /\ _;rw [z2, z3, z4] at g5;rw [z1, z2] at g3;rw [z3] at g4;rw [z1] at g2;rw [z4];exact ⟨⟨_, g5, rfl⟩, h _ g5 g3 g4 g1 g2 z5 λ c o x =>
  Zb _ (Zb _ (Zb _ (Zb _ (Zb _ x))))⟩
end
def SqB (c : Bool) (K : PySem.W.Frag) (H : Hp) (a : Addr) (xs : List V) : Prop := if c = true then SqT K H a xs else SqL K H a xs
section
variable {X : Cx} {pins : List (Addr × Obj)} {σ : L2.St} {H H' : Hp} {s : Shared} {h' : Heap}
theorem Inv.sqB (I : Inv X pins σ H s) (h : SqB c X.K H a xs) : ∃ its : List Value, Vals xs its /\ lC c s.heap a its.toArray /\ xs.length <= sizeLine := by
 cases c
 .obtain ⟨its, r, p, hz⟩ := I.list (show SqL X.K H a xs from h);exact ⟨its, r, p.isList, hz⟩
 .obtain ⟨its, r, p, hz⟩ := I.tuple (show SqT X.K H a xs from h);exact ⟨its, r, p, hz⟩
theorem Inv.sqB_inj (I : Inv X pins σ H s) (h : SqB c X.K H a xs) (h' : SqB c X.K H a ys) : xs = ys := by
 cases c
 .exact I.list_inj (show SqL X.K H a xs from h) h'
 .exact I.tuple_inj (show SqT X.K H a xs from h) h'
theorem Inv.sqB_ne (I : Inv X pins σ H s) (h : SqB c X.K H a xs) (f : mQ X pins H b) : a ≠ b := by
 have key : (∃ o, H a = some o) ∨ ∃ o, X.K.lookup a = some o := by
  cases c
  .rcases (show SqL X.K H a xs from h) with (h | ⟨o, h⟩) | ⟨o, _, _, h, _⟩
   .exact .inl ⟨_, h⟩
   .exact .inl ⟨_, h⟩
   .exact .inr ⟨_, h⟩
  .rcases (show SqT X.K H a xs from h) with (h | ⟨o, h⟩) | ⟨o, _, _, h, _⟩
   .exact .inl ⟨_, h⟩
   .exact .inl ⟨_, h⟩
   .exact .inr ⟨_, h⟩
 intro z;subst z
 rcases key with ⟨o, e⟩ | ⟨o, e⟩
 .rw [f.1] at e; cases e
 .have e' := I.ok.mod.kin a o e
  rcases f.2.2.2.1 with q | q
  .exact I.ok.noex a o e' q
  .exact absurd (Zc (Ze (I.ok.bs a o e').1) q) (Nat.lt_irrefl _)
theorem Inv.turnedL {t' : Nat} {fp : List Addr} (I : Inv X pins σ H s) (k : ∀ b o, b ∉ fp -> s.heap.get? b = some o -> h'.get? b = some o) (hf : ∀ b ∈ fp, mQ X pins H b) : Inv X pins σ H { s with heap := h', toks := t' } := by
 have nit : ∀ b u, H b = some u -> b ∉ fp := λ b u e z => by rw [(hf b z).1] at e; cases e
 refine I.step (g' := s.gens) (d' := s.drawn) (ch := fp) (λ b hb => ?_) (λ b o _ _ hc e _ => k b o hc e) (λ b o _ _ hc e _ => ⟨o.slots, k b o hc e⟩) (λ _ _ _ _ n => n)
  (λ b o hc e => ⟨o, k b o hc e⟩) (λ _ _ e => e) (λ _ _ _ e => e) (λ b ps e => ⟨#[], by rw [e]; simp⟩) (λ m hm => ?_) (λ b u e => ?_) I.bare.again
 .obtain ⟨f0, f1, f2, f3, f4, f5⟩ := hf b hb;exact ⟨f3, f1, f4, f5⟩
 .obtain ⟨o, es, ep, ho, r⟩ := hm;exact ⟨o, es, ep, k _ o (λ z => (hf _ z).2.1 rfl) ho, r⟩
 .refine (I.hok b u e).stay (λ c v hc q => k c v ?_ q) (λ _ q => q) λ _ _ q => q
  rcases hc with z | z
  .rw [z]; exact nit b u e
  .exact nit c _ z
end
def Itz (K : PySem.W.Frag) (c1 c2 : Bool) (a1 a2 : Addr) : It :=
 ⟨λ i H => (∃ xs x, SqB c1 K H a1 xs /\ xs[i]? = some x) /\ ∃ ys y, SqB c2 K H a2 ys /\ ys[i]? = some y,
  λ i H v H' => ∃ p x y, v = .ref p /\ H p = none /\ H' = upd H p (.tup [x, y]) /\ (∀ xs, SqB c1 K H a1 xs -> xs[i]? = some x) /\ ∀ ys, SqB c2 K H a2 ys -> ys[i]? = some y,
  λ i H => ∃ xs ys, SqB c1 K H a1 xs /\ SqB c2 K H a2 ys /\ (xs.length <= i ∨ ys.length <= i)⟩
def ZSt (c1 c2 : Bool) (z TI TO i1 i2 a1 a2 : Addr) (i : Nat) (h : Heap) : Prop :=
 IsZip h z TI TO .none /\ IsPair h TI (.ref i1) (.ref i2) /\ (∃ a b, IsPair h TO a b) /\ gP c1 h i1 a1 i /\ gP c2 h i2 a2 i
theorem Lb {h : Heap} {o u : Obj} {b : Addr} (e : (h.push o).get? b = some u) (hb : b ≠ h.objs.size) : h.get? b = some u := by
 unfold Heap.get? at e ⊢;have hp : (h.push o).objs[b]? = h.objs[b]? := by
  show (h.objs.push o)[b]? = h.objs[b]?;rw [Array.getElem?_push, if_neg hb]
 rw [hp] at e;exact e
theorem JH {P : Program} {w : World} {K : PySem.W.Frag} {elts : List Expr} {kk : Nat} {pos : Pos} (c1 c2 : Bool) (z TI TO i1 i2 a1 a2 : Addr) (D : ZA z TI TO i1 i2) :
  Turn P w K (.Tuple elts kk pos) (Itz K c1 c2 a1 a2) [z, TI, TO, i1, i2] z (ZSt c1 c2 z TI TO i1 i2 a1 a2) where
 mem := by simp
 obj := λ i h st b hb => by
  obtain ⟨hz, hTI, ⟨a, b', hTO⟩, h1, h2⟩ := st;simp only [Zi, List.not_mem_nil, or_false] at hb
  rcases hb with rfl | rfl | rfl | rfl | rfl
  .exact ⟨_, hz, λ v q => by cases q⟩
  .exact ⟨_, hTI, λ v q => by cases q⟩
  .exact ⟨_, hTO, λ v q => by cases q⟩
  .obtain ⟨o, e, d, _⟩ := h1.obj; exact ⟨o, e, d⟩
  .obtain ⟨o, e, d, _⟩ := h2.obj; exact ⟨o, e, d⟩
 keep := λ i h h' st k => by
  obtain ⟨hz, hTI, ⟨a, b', hTO⟩, h1, h2⟩ := st;exact ⟨k z (by simp) _ hz, k TI (by simp) _ hTI, ⟨a, b', k TO (by simp) _ hTO⟩, h1.at' λ o e => k i1 (by simp) o e, h2.at' λ o e => k i2 (by simp) o e⟩
 item := by
  intro X hP hw hK hc i pins s σ H E I hf st hg;subst hP hw hK;obtain ⟨hz, hTI, ⟨a, b', hTO⟩, h1, h2⟩ := st;obtain ⟨⟨xs, x, hx, ex⟩, ys, y, hy, ey⟩ := hg;obtain ⟨its1, r1, p1, z1⟩ := I.sqB hx;obtain ⟨its2, r2, p2, z2⟩ := I.sqB hy;obtain ⟨u1, eu1, ru1⟩ := r1.get ex;obtain ⟨u2, eu2, ru2⟩ := r2.get ey;have fz := hf z (by simp)
  have fTO := hf TO (by simp)
  have fi1 := hf i1 (by simp)
  have ltz : z < s.heap.objs.size := Ze hz;have ltTI : TI < s.heap.objs.size := Ze hTI;have ltTO : TO < s.heap.objs.size := Ze hTO;have lti1 : i1 < s.heap.objs.size := let ⟨_, e, _⟩ := h1.obj; Ze e;have lti2 : i2 < s.heap.objs.size := let ⟨_, e, _⟩ := h2.obj; Ze e;refine sr D (I.sqB_ne hx fz) (I.sqB_ne hy fz) (I.sqB_ne hy fi1) (I.sqB_ne hy fTO) hz hTI hTO h1 h2 p1 p2 (x := u1) (y := u2) (by simpa using eu1) (by simpa using eu2) λ h' q1 q2 q3 q4 q5 q6 q7 => ⟨_, rfl, ?_⟩
  refine wpAny_letOwnedTupleGo_zip q1 λ h2' y1 y2 => ?_;have hpn : H s.heap.objs.size = none := I.hok.fresh (Zg _);have IA : Inv X pins σ (upd H s.heap.objs.size (.tup [x, y])) { s with heap := s.heap.push { cls := .type "tuple", data := .seq #[u1, u2] } } :=
   I.laid (t' := s.toks) (o := .tup [x, y]) (λ b ob q => Zb _ q) (Zg _) ⟨by show 2 <= sizeLine; decide, [u1, u2], .cons ru1 (.cons ru2 .nil), IsTup.new _ _⟩
  have hne : ∀ b ∈ [z, TI, TO, i1, i2], b ≠ s.heap.objs.size := λ b hb => by
   simp only [Zi, List.not_mem_nil, or_false] at hb
   rcases hb with rfl | rfl | rfl | rfl | rfl
   .exact Zk ltz
   .exact Zk ltTI
   .exact Zk ltTO
   .exact Zk lti1
   .exact Zk lti2
  have hf' : ∀ b ∈ [z, TI, TO, i1, i2], mQ X pins (upd H s.heap.objs.size (.tup [x, y])) b := λ b hb => by
   obtain ⟨f0, f1⟩ := hf b hb;exact ⟨by rw [aR (hne b hb)]; exact f0, f1⟩
  have IB : Inv X pins σ (upd H s.heap.objs.size (.tup [x, y])) { s with heap := h2' } := by
   refine Inv.turnedL (s := { s with heap := s.heap.push { cls := .type "tuple", data := .seq #[u1, u2] } }) (t' := s.toks) (fp := [z, TI, TO, i1, i2]) IA (λ b o hb e => ?_) hf'
   simp only [Zi, List.not_mem_nil, or_false, not_or] at hb;obtain ⟨b1, b2, b3, b4, b5⟩ := hb;by_cases hs : b = s.heap.objs.size
   .subst hs;have e' : some ({ cls := .type "tuple", data := .seq #[u1, u2] } : Obj) = some o := (Zf s.heap rfl).symm.trans e;cases e';exact y2.extBut _ _ b1 q5
   .exact y2.extBut _ _ b1 (q7 b o b1 b3 b4 b5 (Lb e hs))
  refine ⟨.ref s.heap.objs.size, _, IB, rfl, ⟨_, x, y, rfl, hpn, rfl, λ zs hzs => by rw [I.sqB_inj hzs hx]; exact ex, λ zs hzs => by rw [I.sqB_inj hzs hy]; exact ey⟩, ?_, λ b hb => (hf' b hb).1⟩
  exact ⟨y1, y2.extBut _ _ D.TIz (q7 _ _ D.TIz D.TITO D.TIi1 D.TIi2 hTI), ⟨_, _, y2.extBut _ _ D.TOz q2⟩, q3.at' λ o e => y2.extBut _ _ D.i1z e, q4.at' λ o e => y2.extBut _ _ D.i2z e⟩
 done := by
  intro X hP hw hK hc i pins s σ H E I hf st hg;subst hP hw hK;obtain ⟨hz, hTI, ⟨a, b', hTO⟩, h1, h2⟩ := st;obtain ⟨xs, ys, hx, hy, hend⟩ := hg;obtain ⟨its1, r1, p1, z1⟩ := I.sqB hx;obtain ⟨its2, r2, p2, z2⟩ := I.sqB hy;have fz := hf z (by simp)
  have fTO := hf TO (by simp)
  have fi1 := hf i1 (by simp)
  have l1 := r1.length;have l2 := r2.length;refine tQ (I.ok.hd hc) D (I.sqB_ne hx fz) (I.sqB_ne hy fz) (I.sqB_ne hy fi1) (I.sqB_ne hy fTO) hz hTI hTO h1 h2 p1 p2 ?_ λ h' q => ⟨rfl, I.turnedL (t' := s.toks) (fp := [z, TI, TO, i1, i2]) (λ b o hb e => ?_) hf⟩
  .rcases hend with h | h
   .exact .inl (by simp; omega)
   .exact .inr (by simp; omega)
  .simp only [Zi, List.not_mem_nil, or_false, not_or] at hb;exact q b o hb.1 hb.2.2.1 hb.2.2.2.1 hb.2.2.2.2 e
 self := λ _ _ _ _ _ st h => wpAny_pyIter_zip st.1 h
def iZip (K : PySem.W.Frag) (ta : TA) : TI := λ σ H R => ta σ H λ vs H1 => ∃ a1 a2 c1 c2, vs = [.ref a1, .ref a2] /\ (∃ xs, SqB c1 K H1 a1 xs) /\ (∃ ys, SqB c2 K H1 a2 ys) /\ R (Itz K c1 c2 a1 a2) H1
section
variable {X : Cx}
theorem QM {a b : Expr} {ta : TA} {p pos p' : Pos} {elts : List Expr} {kk : Nat} (hg : Gl X "zip") (hm : X.mg "zip" = none) (ha : PA X [a, b] ta) (hs : starEach [a, b] X.env = [(false, eval a X.env), (false, eval b X.env)] := by rfl) (hs2 : starEach [b] X.env = [(false, eval b X.env)] := by rfl) :
  PI X (.Tuple elts kk p') (.Call (.Name "zip" p) [a, b] [] pos) (iZip X.K ta) := by
 intro pins s σ H R I h;refine Call_ (lD I hg hm boot_zip (PyProof.Rows.callWith_type1 (thn (ha pos pins s σ H _ I h) λ us s1 ⟨vs, H1, I1, r1, q1⟩ => ?_) (by rw [hs, hs2]) (by rw [hs2]; rfl)))
 obtain ⟨a1, a2, c1, c2, rfl, ⟨xs, hx⟩, ⟨ys, hy⟩, q⟩ := q1;obtain ⟨u, v, rfl, ru, rv⟩ := vals2 r1;cases ru;cases rv;obtain ⟨its1, _, p1, _⟩ := I1.sqB hx;obtain ⟨its2, _, p2, _⟩ := I1.sqB hy;refine Hd p1 p2 λ h' g1 g2 g3 g4 g5 g6 g7 => ?_;refine wpAny_pyIter_zip g1 ?_;refine ⟨_, [s1.heap.objs.size + 4, s1.heap.objs.size + 2, s1.heap.objs.size + 3, s1.heap.objs.size, s1.heap.objs.size + 1], _, _, H1, rfl, I1.kept (t' := s1.toks) g7, JH c1 c2 _ _ _ _ _ a1 a2 ?_, ⟨g1, g2, ⟨_, _, g3⟩, g4, g5⟩, λ b hb => ?_, q⟩
 .constructor <;> first | exact Zk (by omega) | exact Nat.ne_of_gt (by omega)
 .have hb' : s1.heap.objs.size <= b := by
   simp only [Zi, List.not_mem_nil, or_false] at hb
   rcases hb with q | q | q | q | q <;> rw [q] <;> first | exact Nat.le_add_right _ _ | exact Zg _
  exact I1.fpOk hb' (I1.hok.fresh hb')
end
end L2
namespace L3
open PySem PySem.Spec PyProof.Rows L2
def cj : D -> Mu -> Option (List D)
 | .tup ds, _ => some ds
 | .lst ds, _ => some ds
 | .ro ds, _ => some ds
 | .cell n, μ => match μ[n]? with
  | some (some ds) => some ds
  | _ => none
 | _, _ => none
def Eb : D -> Bool
 | .tup _ => true
 | _ => false
section
variable {K : PySem.W.Frag} {tb : List Addr}
theorem rZ (ok : WOk K tb W) (h : Den K tb W x v) (e : cj x W.mu = some ds) : ∃ a xs, v = .ref a /\ SqB (Eb x) K W.H a xs /\ cM K tb W ds xs := by
 cases x with
 | tup es => cases e; obtain ⟨a, xs, rfl, q, r⟩ := gW h; exact ⟨a, xs, rfl, SqT.fz q, r⟩
 | lst es => cases e; obtain ⟨a, xs, rfl, q, r⟩ := lE h; exact ⟨a, xs, rfl, SqL.fz q, r⟩
 | ro es => cases e; obtain ⟨a, xs, rfl, q, r⟩ := xP h; exact ⟨a, xs, rfl, SqL.fz q, r⟩
 | cell n =>
  obtain ⟨a, rfl, q⟩ := iH h;have e' : (match W.mu[n]? with | some (some ds) => some ds | _ => none) = some ds := e
  cases e2 : W.mu[n]? with
  | none => rw [e2] at e'; cases e'
  | some o =>
   cases o with
   | none => rw [e2] at e'; cases e'
   | some es =>
    rw [e2] at e';cases e';obtain ⟨xs, e3, r⟩ := ok.cont n a ds q e2;exact ⟨a, xs, rfl, SqL.of e3, r⟩
 | _ => cases e
theorem SqB.or (h : SqB c K H a xs) : SqL K H a xs ∨ SqT K H a xs := by
 cases c
 .exact .inl h
 .exact .inr h
end
theorem Pr {K : PySem.W.Frag} {tb : List Addr} {W : Wd} {ds : List D} {xs : List V} {i : Int} {d : D} (r : cM K tb W ds xs) (h : atI ds i = some d) : ∃ v, atI xs i = some v /\ Den K tb W d v := by
 unfold atI at h ⊢;rw [<- aD.length r];cases e : ixN ds.length i with
 | none => rw [e] at h; cases h
 | some j =>
  rw [e] at h;exact aD.get r h
def oIx : O2 := λ x y μ => match y with
 | .int i => (cj x μ).bind λ ds => (atI ds i).map λ d => (d, μ)
 | _ => none
def bC : O1' := λ x μ => match x with
 | .str y => if y.length <= sizeLine then some (.int y.length, μ) else none
 | _ => (cj x μ).map λ ds => (.int ds.length, μ)
def pQ : O1' := λ x μ => match x with
 | .int i => some (.int (if i < 0 then -i else i), μ)
 | _ => none
def gG : O1' := λ x μ => match x with
 | .int i => some (.int (-i), μ)
 | _ => none
def nA (op : O2) : ON := λ xs μ => match xs with
 | [x, y] => op x y μ
 | _ => none
theorem Cq (h : nA op xs μ = some r) : ∃ x y, xs = [x, y] /\ op x y μ = some r := by
 unfold nA at h;split at h
 .exact ⟨_, _, rfl, h⟩
 .cases h
def pB : O2 := λ x y μ => match x, y with
 | .int i, .int j => some (.int (if j < i then j else i), μ)
 | _, _ => none
def lX : ON := λ xs μ => match xs with
 | [x] => (cj x μ).map λ ds => (.tup ds, μ)
 | _ => none
def za (T : String) : D -> Option Bool
 | .non => some false
 | .bl _ => some (T == "bool" || T == "int")
 | .int _ => some (T == "int")
 | .str _ => some (T == "str")
 | .tup _ => some (T == "tuple")
 | .lst _ => some (T == "list")
 | .ro _ => some (T == "list")
 | .dic _ => some (T == "dict")
 | .cell _ => none
def gm (T : String) : O1' := λ x μ => match x with
 | .cell n => match μ[n]? with
  | some (some _) => some (.bl (T == "list"), μ)
  | _ => none
 | _ => (za T x).map λ k => (.bl k, μ)
section
variable {X : Cx} {tb : List Addr} {a b e : Expr} {fa fb f : EF} {fs : AF} {p pos : Pos}
theorem bA (ha : PD X tb a fa) (hb : PD X tb b fb) (hs : Er b := by intro _ _; rfl) : PD X tb (.Subscript a b pos) (M2 fa fb oIx) :=
 Dn (λ ta tb' ha hb => Vk Sd ha hb hs) (λ W x y v u d μ' Q ok dx dy ho h => by
  cases y with
  | int i =>
   obtain ⟨ds, e1, e2⟩ := Za.mp (show ((cj x W.mu).bind λ ds => (atI ds i).map λ d => (d, W.mu)) = some (d, μ') from ho);obtain ⟨d0, e3, e4⟩ := Zp.mp e2;cases e4;rw [bB dy];obtain ⟨a, xs, rfl, q, r⟩ := rZ ok dx e1;obtain ⟨v, ev, dv⟩ := Pr r e3
   rcases SqB.or q with q | q
   .exact .inl ⟨a, xs, i, v, rfl, rfl, q, ev, put ok h dv⟩
   .exact .inr (.inl ⟨a, xs, i, v, rfl, rfl, q, ev, put ok h dv⟩)
  | _ => cases ho) ha hb
theorem ie (ha : PD X tb a fa) : PD X tb (.UnaryOp .USub a pos) (M1 fa gG) :=
 Te (λ ta ha => UJ Ru ha) (λ W x v d μ' Q ok dx ho h => by
  cases x with
  | int i => cases ho; rw [bB dx]; exact ⟨i, rfl, put ok h eO⟩
  | _ => cases ho) ha
def aX (op : O1') : ON := λ xs μ => match xs with
 | [x] => op x μ
 | _ => none
theorem uy (h : aX op xs μ = some r) : ∃ x, xs = [x] /\ op x μ = some r := by
 unfold aX at h;split at h
 .exact ⟨_, rfl, h⟩
 .cases h
theorem zZ (h : lX xs μ = some r) : ∃ x, xs = [x] /\ lX [x] μ = some r := by
 unfold lX at h;split at h
 .exact ⟨_, rfl, h⟩
 .cases h
theorem cO (hm : X.mg "len" = none) (ha : PAD X tb [a] fs) (hg : Gl X "len" := by rfl) (he : starEach [a] X.env = (false, eval a X.env) :: starEach [] X.env := by rfl) : PD X tb (.Call (.Name "len" p) [a] [] pos) (MC fs (aX bC)) :=
 Gf (λ ta ha => nj (ye.or zj) hg hm PySem.boot_len ha (by decide) (by decide) he (by rfl)) (λ W xs vs d μ' Q ok r ho h => by
  obtain ⟨x, rfl, ho⟩ := uy ho;obtain ⟨v, rfl, dv⟩ := aD.one r;have gen : ∀ ds, cj x W.mu = some ds -> some (D.int ds.length, W.mu) = some (d, μ') -> ((∃ p ys, [v] = [V.ref p] /\ (SqL X.K W.H p ys ∨ SqT X.K W.H p ys) /\ Q (.int ys.length) W.H) ∨ ∃ z, [v] = [V.str z] /\ z.length <= sizeLine /\ Q (.int z.length) W.H) := λ ds e1 e2 => by
   cases e2;obtain ⟨a, xs, e, q, r⟩ := rZ ok dv e1;exact Or.inl ⟨a, xs, by rw [e], SqB.or q, by rw [<- aD.length r]; exact put ok h eO⟩
  cases x with
  | str y =>
   have ho' : (if y.length <= sizeLine then some (D.int y.length, W.mu) else none) = some (d, μ') := ho;split at ho'
   .rename_i hz;cases ho';rw [vA dv];exact .inr ⟨y, rfl, hz, put ok h eO⟩
   .cases ho'
  | tup ds => exact gen ds rfl ho
  | lst ds => exact gen ds rfl ho
  | ro ds => exact gen ds rfl ho
  | cell n =>
   obtain ⟨ds, e1, e2⟩ := Zp.mp (show (cj (.cell n) W.mu).map (λ ds => (D.int ds.length, W.mu)) = some (d, μ') from ho);exact gen ds e1 (congrArg some e2)
  | _ => cases ho) ha
theorem uZ (hm : X.mg "abs" = none) (ha : PAD X tb [a] fs) (hg : Gl X "abs" := by rfl) (he : starEach [a] X.env = (false, eval a X.env) :: starEach [] X.env := by rfl) : PD X tb (.Call (.Name "abs" p) [a] [] pos) (MC fs (aX pQ)) :=
 Gf (λ ta ha => nj Kf hg hm PyProof.Rows.boot_abs ha (by decide) (by decide) he (by rfl)) (λ W xs vs d μ' Q ok r ho h => by
  obtain ⟨x, rfl, ho⟩ := uy ho;obtain ⟨v, rfl, dv⟩ := aD.one r;cases x with
  | int i => cases ho; rw [bB dv]; exact ⟨i, rfl, put ok h eO⟩
  | _ => cases ho) ha
theorem Fg (hc : X.calm = true) (hm : X.mg "min" = none) (ha : PAD X tb [a, b] fs) (hg : Gl X "min" := by rfl) (he : starEach [a, b] X.env = (false, eval a X.env) :: starEach [b] X.env := by rfl) (hpl : (backTo pos (starEach [b] X.env)).any (·.1) = false := by rfl) : PD X tb (.Call (.Name "min" p) [a, b] [] pos) (MC fs (nA pB)) :=
 Gf (λ ta ha => nj (GJ hc) hg hm PyProof.Rows.boot_min ha (by decide) (by decide) he hpl) (λ W xs vs d μ' Q ok r ho h => by
  obtain ⟨x, y, rfl, ho⟩ := Cq ho;obtain ⟨u, v, rfl, du, dv⟩ := aD.two r;cases x with
  | int i =>
   cases y with
   | int j =>
    cases ho;rw [bB du, bB dv];exact ⟨i, j, rfl, put ok h eO⟩
   | _ => cases ho
  | _ => cases ho) ha
theorem Bs (hm : X.mg "tuple" = none) (ha : PAD X tb [a] fs) (hg : Gl X "tuple" := by rfl) (he : starEach [a] X.env = (false, eval a X.env) :: starEach [] X.env := by rfl) : PD X tb (.Call (.Name "tuple" p) [a] [] pos) (MC fs lX) :=
 Gf (λ ta ha => rE vY hg hm PyProof.Rows.boot_tuple ha (by decide) (by decide) he (by rfl)) (λ W xs vs d μ' Q ok r ho h => by
  obtain ⟨x, rfl, ho⟩ := zZ ho;obtain ⟨v, rfl, dv⟩ := aD.one r;obtain ⟨ds, e1, e2⟩ := Zp.mp (show (cj x W.mu).map (λ ds => (D.tup ds, W.mu)) = some (d, μ') from ho);cases e2;by_cases ht : ∃ es, x = .tup es
  .obtain ⟨es, rfl⟩ := ht;cases e1;obtain ⟨a, xs, rfl, q, r⟩ := gW dv;exact ⟨a, xs, rfl, .inr ⟨SqT.fz q, put ok h dv⟩⟩
  .obtain ⟨a, xs, rfl, q, r⟩ := rZ ok dv e1;have hf : Eb x = false := by cases x <;> first | rfl | exact absurd ⟨_, rfl⟩ ht
   rw [hf] at q;exact ⟨a, xs, rfl, .inl ⟨q, λ l hl => oK ok h r hl⟩⟩) ha
def lOf (fs : AF) : LF := λ δ μ => (fs δ μ).bind λ r => match r.1 with
 | [x] => (cj x r.2).map λ ds => (ds, r.2)
 | _ => none
theorem jE (hm : X.mg "isinstance" = none) (hmT : X.mg T = none) (hT : bootBuiltins T = some (.type tn)) (hmem : tn ∈ NQ) (ha : PD X tb a fa) (hg : Gl X "isinstance" := by rfl) (hgT : Gl X T := by rfl) (hn : T ≠ "__name__" := by decide) (hdb : (T == ("__debug__" : Str)) = false := by decide)
  (hs : starEach [a, .Name T pt] X.env = (false, eval a X.env) :: starEach [.Name T pt] X.env := by rfl) : PD X tb (.Call (.Name "isinstance" p) [a, .Name T pt] [] pos) (M1 fa (gm tn)) :=
 dU (nj HN hg hm PyProof.Rows.boot_isinstance (qm ha (qm (Py hgT hmT hT (v := .ty tn) rfl hn hdb) yG) hs) (by decide) (by decide) hs (by rfl)) λ σ H Q zq2 => by
  obtain ⟨W, δ, d, μ', e, ok, hd, hf, h⟩ := zq2;unfold M1 at hf;obtain ⟨⟨x, μ1⟩, e1, e2⟩ := Za.mp hf;refine ⟨W, δ, x, μ1, e, ok, hd, e1, λ v W1 ok1 l1 m1 d1 => ?_⟩;have fin : ∀ k, SX X.K tn v W1.H k -> some (D.bl k, μ1) = some (d, μ') -> ∃ x T k, [v, V.ty tn] = [x, .ty T] /\ T ∈ NQ /\ SX X.K T x W1.H k /\ Q (.bl k) W1.H := λ k hk e => by
   cases e;exact ⟨v, tn, k, rfl, hmem, hk, h _ W1 ok1 l1 m1 fG⟩
  cases x with
  | non => rw [KQ d1] at fin ⊢; exact fin _ rfl e2
  | bl b => rw [pJ d1] at fin ⊢; exact fin _ rfl e2
  | int b => rw [bB d1] at fin ⊢; exact fin _ rfl e2
  | str b => rw [vA d1] at fin ⊢; exact fin _ rfl e2
  | tup ds => obtain ⟨a, xs, rfl, q, r⟩ := gW d1; exact fin _ (.inr (.inl ⟨rfl, xs, SqT.fz q⟩)) e2
  | lst ds => obtain ⟨a, xs, rfl, q, r⟩ := lE d1; exact fin _ (.inl ⟨rfl, xs, SqL.fz q⟩) e2
  | ro ds => obtain ⟨a, xs, rfl, q, r⟩ := xP d1; exact fin _ (.inl ⟨rfl, xs, SqL.fz q⟩) e2
  | dic ds => obtain ⟨a, xs, rfl, q, r⟩ := Rt d1; exact fin _ (.inr (.inr ⟨rfl, xs, (dM q).1⟩)) e2
  | cell n =>
   have e2' : (match μ1[n]? with | some (some _) => some (D.bl (tn == "list"), μ1) | _ => none) = some (d, μ') := e2
   obtain ⟨a, rfl, q⟩ := iH d1;cases e4 : μ1[n]? with
   | none => rw [e4] at e2'; cases e2'
   | some o =>
    cases o with
    | none => rw [e4] at e2'; cases e2'
    | some ds =>
     rw [e4] at e2';obtain ⟨xs, ex, _⟩ := ok1.cont n a ds q (by rw [m1]; exact e4)
     exact fin _ (.inl ⟨rfl, xs, SqL.of ex⟩) e2'
def gD (μ : Mu) (n : Nat) : Bool := match μ[n]? with
 | some (some _) => true
 | _ => false
theorem Ac (h : gD μ n = true) : ∃ ds, μ[n]? = some (some ds) := by
 unfold gD at h;split at h
 .exact ⟨_, by assumption⟩
 .cases h
def iQ (fo : EF) (fs : AF) : EF := λ δ μ => (fo δ μ).bind λ r => (fs δ r.2).bind λ q => match r.1, q.1 with
 | .cell n, [y] => match q.2[n]? with
  | some (some ds) => if gD r.2 n = true /\ ds.length < sizeLine then some (.non, q.2.set n (some (ds ++ [y]))) else none
  | _ => none
 | _, _ => none
theorem iw (ho : PD X tb o fo) (ha : PAD X tb [e] fs)
  (hbase : attributeBase o "append" X.env (eval o X.env) = eval o X.env := by rfl)
  (hfew : ((backTo cpos (starEach [e] X.env)).all (λ x => !x.1) && (backToKw cpos (keywordEach [] X.env)).all (λ x => x.1.isSome)
   && decide ([e].length + ([] : List Keyword).length + (if ([] : List Keyword).isEmpty then 0 else 1) < 30)) = true := by rfl)
  (hline : (apos.endLine == cpos.line) = true := by rfl) (hs : starEach [e] X.env = (false, eval e X.env) :: starEach [] X.env := by rfl) : PD X tb (.Call (.Attribute o "append" apos) [e] [] cpos) (iQ fo fs) :=
 dU (Qc PySem.F.plainAttrs_list PySem.F.slot_list_append PySem.F.type_list_append Hc ho ha hbase hfew hline hs (by rfl)) λ σ H Q zq3 => by
  obtain ⟨W, δ, d, μ', e, ok, hd, hf, h⟩ := zq3;unfold iQ at hf;obtain ⟨⟨x, μ1⟩, e1, hf⟩ := Za.mp hf;obtain ⟨⟨ys, μ2⟩, e2, hf⟩ := Za.mp hf;refine ⟨W, δ, x, μ1, e, ok, hd, e1, λ v W1 ok1 l1 m1 d1 => ?_⟩
  match x, ys, e1, e2, hf, d1 with
  | .cell n, [y], e1, e2, hf, d1 =>
   have hf' : (match μ2[n]? with | some (some ds) => if gD μ1 n = true /\ ds.length < sizeLine then some (D.non, μ2.set n (some (ds ++ [y]))) else none | _ => none) = some (d, μ') := hf
   cases e4 : μ2[n]? with
   | none => rw [e4] at hf'; cases hf'
   | some oo =>
    cases oo with
    | none => rw [e4] at hf'; cases hf'
    | some ds =>
     rw [e4] at hf';have hf'' : (if gD μ1 n = true /\ ds.length < sizeLine then some (D.non, μ2.set n (some (ds ++ [y]))) else none) = some (d, μ') := hf';split at hf''
     .rename_i hz;cases hf'';obtain ⟨a, rfl, q⟩ := iH d1;obtain ⟨ds0, e5⟩ := Ac hz.1;obtain ⟨xs0, ex0, _⟩ := ok1.cont n a ds0 q (by rw [m1]; exact e5)
      refine ⟨.inl ⟨rfl, xs0, SqL.of ex0⟩, W1, δ, [y], μ2, rfl, ok1, hd.mono' l1, (by rw [m1]; exact e2), λ vs W2 ok2 l2 m2 d2 => ?_⟩
      obtain ⟨u, rfl, du⟩ := aD.one d2;have q2 := l2.ad _ _ q;have e6 : W2.mu[n]? = some (some ds) := by rw [m2]; exact e4
      obtain ⟨xs, ex, r⟩ := ok2.cont n a ds q2 e6;refine ⟨a, xs, u, rfl, rfl, ex, by rw [<- aD.length r]; exact hz.2, ?_⟩
      obtain ⟨ok3, l3⟩ := ok2.write q2 e6 (aD.append r (aD.cons du aD.nil));exact h .non _ ok3 ((l1.trans l2).trans l3) (by rw [<- m2]) qT
     .cases hf''
def EY (fo : EF) : EF := λ δ μ => (fo δ μ).bind λ r => match r.1 with
 | .cell n => match r.2[n]? with
  | some (some (y :: ds)) => some (y, r.2.set n (some ds))
  | _ => none
 | _ => none
theorem Ow {j} (ho : PD X tb o fo)
  (hbase : attributeBase o "pop" X.env (eval o X.env) = eval o X.env := by rfl)
  (hfew : ((backTo cpos (starEach [.Constant (.int 0) j p0] X.env)).all (λ x => !x.1) && (backToKw cpos (keywordEach [] X.env)).all (λ x => x.1.isSome)
   && decide ([Expr.Constant (.int 0) j p0].length + ([] : List Keyword).length + (if ([] : List Keyword).isEmpty then 0 else 1) < 30)) = true := by rfl)
  (hline : (apos.endLine == cpos.line) = true := by rfl) : PD X tb (.Call (.Attribute o "pop" apos) [.Constant (.int 0) j p0] [] cpos) (EY fo) :=
 dU (Qc PySem.F.plainAttrs_list PySem.F.slot_list_pop PySem.F.type_list_pop Kw ho (qm Jl yG) hbase hfew hline (by rfl) (by rfl)) λ σ H Q zq4 => by
  obtain ⟨W, δ, d, μ', e, ok, hd, hf, h⟩ := zq4;unfold EY at hf;obtain ⟨⟨x, μ1⟩, e1, hf⟩ := Za.mp hf;refine ⟨W, δ, x, μ1, e, ok, hd, e1, λ v W1 ok1 l1 m1 d1 => ?_⟩;cases x with
  | cell n =>
   have hf' : (match μ1[n]? with | some (some (y :: ds)) => some (y, μ1.set n (some ds)) | _ => none) = some (d, μ') := hf
   cases e4 : μ1[n]? with
   | none => rw [e4] at hf'; cases hf'
   | some oo =>
    match oo, e4 with
    | none, e4 => rw [e4] at hf'; cases hf'
    | some [], e4 => rw [e4] at hf'; cases hf'
    | some (y :: ds), e4 =>
     rw [e4] at hf';have hf'' : some (y, μ1.set n (some ds)) = some (d, μ') := hf';cases hf'';obtain ⟨a, rfl, q⟩ := iH d1;have e6 : W1.mu[n]? = some (some (d :: ds)) := by rw [m1]; exact e4
     obtain ⟨xs, ex, r⟩ := ok1.cont n a _ q e6;have r' : aD _ _ _ _ _ := r;unfold aD at r';obtain ⟨u, us, rfl, du, r2⟩ := r';refine ⟨.inl ⟨rfl, _, SqL.of ex⟩, a, u :: us, 0, 0, u, rfl, rfl, ex, by decide, by decide, ?_, rfl, ?_⟩
     .simp [seqIndex?]
     .obtain ⟨ok3, l3⟩ := ok1.write q e6 r2;exact h u _ ok3 (l1.trans l3) (by rw [<- m1]) (Den.mono' du l3)
  | _ => cases hf
theorem pdv (i : Nat) (hN : X.N[i]? = some x := by rfl) (hv : Vis X.env.scope x := by first | exact Or.inl rfl | exact Or.inr (Or.inl rfl) | exact Or.inr (Or.inr rfl)) (hd : (x == ("__debug__" : Str)) = false := by decide) (hcd : (x == ("__classdict__" : Str)) = false := by decide) : PD X tb (.Name x pos) (aq i) := Sv hN hv hd hcd
end
section
variable {X : Cx} {tb : List Addr} {a b e : Expr} {es : List Expr} {fa fb f : EF} {fs : AF} {p pos : Pos}
def kh : List D -> List D -> List D
 | x :: xs, y :: ys => .tup [x, y] :: kh xs ys
 | _, _ => []
theorem Av : ∀ {xs ys : List D} {i : Nat} {d : D}, (kh xs ys)[i]? = some d -> ∃ x y, d = .tup [x, y] /\ xs[i]? = some x /\ ys[i]? = some y
 | [], ys, i, d, h => by simp [kh] at h
 | x :: xs, [], i, d, h => by simp [kh] at h
 | x :: xs, y :: ys, 0, d, h => by
  have h' : some (D.tup [x, y]) = some d := by simpa [kh] using h
  cases h';exact ⟨x, y, rfl, rfl, rfl⟩
 | x :: xs, y :: ys, i + 1, d, h => by
  obtain ⟨u, v, e, e1, e2⟩ := Av (xs := xs) (ys := ys) (i := i) (by simpa [kh] using h)
  exact ⟨u, v, e, by simpa using e1, by simpa using e2⟩
theorem BL : ∀ (xs ys : List D), (kh xs ys).length = min xs.length ys.length
 | [], ys => by simp [kh]
 | x :: xs, [] => by simp [kh]
 | x :: xs, y :: ys => by simp [kh, BL xs ys]
def gw : D -> Option (List D)
 | .tup ds => some ds
 | .lst ds => some ds
 | .ro ds => some ds
 | _ => none
theorem Jc {K : PySem.W.Frag} {W : Wd} {x : D} {v : V} {ds : List D} (h : Den K tb W x v) (e : gw x = some ds) : ∃ a xs, v = .ref a /\ SqB (Eb x) K (W.fz tb) a xs /\ cM K tb W ds xs := by
 cases x with
 | tup es => cases e; obtain ⟨a, xs, rfl, q, r⟩ := gW h; exact ⟨a, xs, rfl, q, r⟩
 | lst es => cases e; obtain ⟨a, xs, rfl, q, r⟩ := lE h; exact ⟨a, xs, rfl, q, r⟩
 | ro es => cases e; obtain ⟨a, xs, rfl, q, r⟩ := xP h; exact ⟨a, xs, rfl, q, r⟩
 | _ => cases e
theorem nY {K : PySem.W.Frag} {c : Bool} {W0 W : Wd} {a : Addr} {xs : List V} (h : SqB c K (W0.fz tb) a xs) (l : Le tb W0 W) : SqB c K W.H a xs := by
 cases c
 .exact SqL.fz (SqL.mono l.same (show SqL K (W0.fz tb) a xs from h))
 .exact SqT.fz (SqT.mono l.same (show SqT K (W0.fz tb) a xs from h))
def tE (fs : AF) : IF := λ δ μ => (fs δ μ).bind λ r => match r.1 with
 | [x, y] => (gw x).bind λ xs => (gw y).map λ ys => (⟨kh xs ys, none⟩, r.2)
 | _ => none
theorem uc {p' : Pos} {elts : List Expr} {kk : Nat} (hm : X.mg "zip" = none) (ha : PAD X tb [a, b] fs) (hg : Gl X "zip" := by rfl) (hs : starEach [a, b] X.env = [(false, eval a X.env), (false, eval b X.env)] := by rfl) (hs2 : starEach [b] X.env = [(false, eval b X.env)] := by rfl) :
  PID X tb (.Tuple elts kk p') (.Call (.Name "zip" p) [a, b] [] pos) (tE fs) :=
 Ky (QM hg hm ha hs hs2) λ σ H R zq4 => by
  obtain ⟨W, δ, S, μ', e, ok, hd, hf, h⟩ := zq4;unfold tE at hf;obtain ⟨⟨zs, μ1⟩, e1, hf⟩ := Za.mp hf
  match zs, e1, hf with
  | [x, y], e1, hf =>
   obtain ⟨xs, e2, hf⟩ := Za.mp (show ((gw x).bind λ xs => (gw y).map λ ys => ((⟨kh xs ys, none⟩ : Src), μ1)) = some (S, μ') from hf);obtain ⟨ys, e3, e4⟩ := Zp.mp hf;cases e4;refine ⟨W, δ, [x, y], _, e, ok, hd, e1, λ vs W1 ok1 l1 m1 d1 => ?_⟩;obtain ⟨u, v, rfl, du, dv⟩ := aD.two d1;obtain ⟨a1, us, rfl, q1, r1⟩ := Jc du e2;obtain ⟨a2, ws, rfl, q2, r2⟩ := Jc dv e3;refine ⟨a1, a2, _, _, rfl, ⟨us, nY q1 (Le.refl _)⟩, ⟨ws, nY q2 (Le.refl _)⟩, h _ W1 ok1 l1 m1 ⟨λ i W2 d l ok2 _ ei => ?_, λ i W2 l ok2 _ hi => ?_⟩⟩
   .obtain ⟨x0, y0, rfl, ex, ey⟩ := Av ei;obtain ⟨vx, evx, dvx⟩ := aD.get (cM.mono' r1 l) ex;obtain ⟨vy, evy, dvy⟩ := aD.get (cM.mono' r2 l) ey;refine ⟨⟨⟨us, vx, nY q1 l, evx⟩, ws, vy, nY q2 l, evy⟩, λ z H' ⟨p, x', y', ez, hp, eH, hx', hy'⟩ => ?_⟩;have ex' := hx' us (nY q1 l);have ey' := hy' ws (nY q2 l);rw [evx] at ex'; cases ex';rw [evy] at ey'; cases ey';obtain ⟨ok3, l3, e3⟩ := ok2.alloc (o := .tup [vx, vy]) hp;refine ⟨_, eH.symm, ok3, l3, rfl, ?_⟩;rw [ez];show bx _ _ _ _ _;unfold bx;exact ⟨p, [vx, vy], rfl, .inl (.inl e3), cM.mono' (aD.cons dvx (aD.cons dvy aD.nil)) l3⟩
   .have hi' : min xs.length ys.length <= i := by rw [<- BL]; exact hi
    have l1' := aD.length r1;have l2' := aD.length r2;refine ⟨us, ws, nY q1 l, nY q2 l, ?_⟩;omega
end
theorem Ej {K : PySem.W.Frag} {F : Hp} {ad : List Addr} : ∀ (ns : List Int), aD K F ad (ns.map D.int) (ns.map V.int)
 | [] => aD.nil
 | n :: ns => aD.cons (by unfold bx; rfl) (Ej ns)
theorem Ht {P : Program} {w : World} {K : PySem.W.Frag} {mg mb : Str -> Option Value} {k : Nat} {fa a : Addr} {fd : FuncData} {x : Str} {s₁ : Shared} {vs : List Value} {ns : List Int} {tb : List Addr} {φ : FF} {μ' : Mu}
  (KX : K.In s₁.heap) (hns : s₁.heap.Ns mainGlobals mg) (hb : s₁.heap.Ns builtinsNs mb) (hbb : ∀ x : Str, x ≠ "__name__" -> mb x = bootBuiltins x) (hlim : s₁.heap.NoLimit)
  (hbm : ∃ bm ob, mg "__builtins__" = some (.ref bm) /\ bm ≠ builtinsNs /\ s₁.heap.get? bm = some ob /\ ob.cls = .type "module" /\ ob.dict = some builtinsNs /\ ob.data = .plain) (hg : s₁.gens = #[])
  (ha : s₁.heap.get? a = some { cls := .type "list", data := .seq vs.toArray }) (hi : IntsAre vs ns) (hl : ns.length <= sizeLine) (hr : eG k callerA)
  (htb : ∀ P ∈ tb, ∃ c, PySem.W.CodeHd s₁.heap c P /\ s₁.heap.get? P = some (PySem.W.tabObj #[])) (hnt : PySem.W.noTabs K = true)
  (F : ∀ base : Heap, K.In base -> base.Ns mainGlobals mg -> tU P w K mg base CX0 k fa fd [x] (spD K tb 1 φ)) (hbind : ∀ (s : Shared) (u : Value), BindsTo s fd ⟨[u], []⟩ [(x, u)])
  (hsp : φ [.ro (ns.map .int)] [] = some (.bl true, μ')) :
  codeAny (model P w) callerA (.call (.ref fa) ⟨[.ref a], []⟩) (λ r s' => r = .ok (.ret (.bool true)) /\ OldK s₁.heap s'.heap /\ s'.os = s₁.os /\ AllBare s'.gens) s₁ := by
 have rv := sH hi;have lenV := hi.length;have hat : a ∉ tb := λ z => by
  obtain ⟨c, _, e⟩ := htb a z;rw [ha] at e; cases e
 have hKt : ∀ P ∈ tb, K.lookup P = none := λ P hP => by
  cases q : K.lookup P with
  | none => rfl
  | some o =>
   obtain ⟨c, _, e⟩ := htb P hP;have e2 := KX P o q;rw [e] at e2;cases e2;have h2 := List.all_eq_true.mp hnt (P, _) (PySem.W.mem_of_lookupK q);exact absurd (show false = true from h2) Zr
 have core : ∀ H : Hp, (∀ b, H b = none ∨ (b = a /\ ∃ o xs, H b = some (.frz o (.lst xs))) ∨ (b ∈ tb /\ H b = some (.tbl #[]))) -> SqL K H a (ns.map V.int) -> HOk P w H s₁.heap -> (∀ P ∈ tb, H P = some (.tbl #[])) -> (H a ≠ none -> K.lookup a = none) ->
   codeAny (model P w) callerA (.call (.ref fa) ⟨[.ref a], []⟩) (λ r s' => r = .ok (.ret (.bool true)) /\ OldK s₁.heap s'.heap /\ s'.os = s₁.os /\ AllBare s'.gens) s₁ := by
  intro H hO hS hok hT hK;have base_of : ∀ {b : Addr} {o : Obj}, s₁.heap.get? b = some o -> H b = none -> (yw s₁.heap H).get? b = some o := λ e n => JM e n;have noH : ∀ {b : Addr} {o : Obj}, s₁.heap.get? b = some o -> o.cls ≠ .type "list" -> o.cls ≠ .none -> H b = none := λ {b o} e d1 d2 => by
   rcases hO b with z | ⟨rfl, _⟩ | ⟨z, _⟩
   .exact z
   .rw [ha] at e; cases e; exact absurd rfl d1
   .obtain ⟨c, _, e2⟩ := htb b z;rw [e2] at e; cases e; exact absurd rfl d2
  have noA : ∀ {b : Addr} {o : Obj} {es : Array DictEntry} {ep : Nat}, s₁.heap.get? b = some o -> o.data = .dict es ep -> H b = none := λ {b o es ep} e d => by
   rcases hO b with z | ⟨rfl, _⟩ | ⟨z, _⟩
   .exact z
   .rw [ha] at e; cases e; cases d
   .obtain ⟨c, _, e2⟩ := htb b z;rw [e2] at e; cases e; cases d
  have nsK : ∀ {b : Addr} {m : Str -> Option Value}, s₁.heap.Ns b m -> (yw s₁.heap H).Ns b m := λ {b m} ⟨o, es, ep, e, d, r⟩ => ⟨o, es, ep, base_of e (noA e d), d, r⟩;have hKb : K.In (yw s₁.heap H) := λ b o e => base_of (KX b o e) (by
   rcases hO b with z | ⟨rfl, _, _, z⟩ | ⟨z, _⟩
   .exact z
   .rw [hK (by rw [z]; simp)] at e; cases e
   .rw [hKt b z] at e; cases e)
  have hM : Mod K mg (yw s₁.heap H) := ⟨hKb, nsK hns, ⟨mb, nsK hb, hbb⟩, (let ⟨mc, h1, h2⟩ := hlim; ⟨mc, nsK h1, h2⟩), (let ⟨bm, ob, h1, h2, h3, h4, r⟩ := hbm; ⟨bm, ob, h1, h2, base_of h3 (noH h3 (by rw [h4]; decide) (by rw [h4]; decide)), h4, r⟩)⟩
  have e0 : Ls P w K mg (yw s₁.heap H) callerA [] s₁ H := ⟨rfl, hM, λ b o e => NP e, Nat.le_of_eq (Hn _ _), trivial, λ b hb => absurd (show b ∈ ([] : List Addr) from hb) (by simp), hok, .of_eq hg⟩
  have okW : WOk K tb ⟨H, [], []⟩ := ⟨rfl, λ i a ds e => by simp at e, λ i j a ds es e => by simp at e, λ P hP => ⟨#[], hT P hP, TOk.nil⟩⟩
  have nlive : ∀ b, ¬ ni ([] : List Addr) ([] : Mu) b := λ b ⟨i, ds, e, _⟩ => by simp at e
  have fzA : Wd.fz tb ⟨H, [], []⟩ a = H a := pH (W := ⟨H, [], []⟩) (nlive a) hat;have hden : Den K tb ⟨H, [], []⟩ (.ro (ns.map .int)) (.ref a) := by
   show bx _ _ _ _ _;unfold bx;refine ⟨a, _, rfl, ?_, Ej ns⟩
   rcases hS with (h | ⟨o, h⟩) | h
   .exact .inl (.inl (fzA.trans h))
   .exact .inl (.inr ⟨o, fzA.trans h⟩)
   .exact .inr h
  refine codeAny_mono ((F _ hKb (nsK hns)).run callerA [] s₁ H ⟨[.ref a], []⟩ [.ref a] [.ref a] (λ v _ => v = .bl true) (λ _ _ _ => False) hr e0 (hbind s₁ (.ref a)) (.cons rfl .nil)
   ⟨⟨H, [], []⟩, [.ro (ns.map .int)], _, _, rfl, okW, aD.cons hden aD.nil, rfl, hsp, λ v W' _ _ _ dv => pJ dv⟩) λ r s' h => ?_
  cases r with
  | error e => exact False.elim h
  | ok fl =>
   cases fl with
   | next => exact False.elim h
   | brk => exact False.elim h
   | cont => exact False.elim h
   | ret u =>
    obtain ⟨v, H', os, bare, un, hok', r', q⟩ := h;have q' : v = .bl true := q;subst q';obtain rfl : u = Value.bool true := r';have old : ∀ b o, s₁.heap.get? b = some o -> asItWas s₁.heap s'.heap b o /\ ∃ o', s'.heap.get? b = some o' := λ b o e => by
     rcases hO b with z | ⟨rfl, ob, xs, z⟩ | ⟨hb, z⟩
     .have := un.keep b o e z (by intro z; exact absurd (show b ∈ ([] : List Addr) from z) (by simp)) (by simp)
      exact ⟨.inl this, o, this⟩
     .have z2 := un.frzs b ob _ z;obtain ⟨e1, _⟩ := hok b _ z;obtain ⟨e2, _⟩ := hok' b _ z2;rw [e] at e1; cases e1;exact ⟨.inl e2, _, e2⟩
     .obtain ⟨more, z2⟩ := un.tbls b _ z;have e2 := hok' b _ z2;obtain ⟨c, hd, hp⟩ := htb b hb;rw [hp] at e; cases e;have e3 : s'.heap.get? b = some { cls := .none, data := .fields (#[] ++ more) } := e2;exact ⟨.inr (.inl ⟨(hd.tab hp).isCodeTable, rfl, #[], more, rfl, e3⟩), _, e3⟩
    exact ⟨rfl, ⟨λ b o e => (old b o e).1, λ b o e => (old b o e).2⟩, os, bare.bare⟩
 have tbOk : ∀ {H : Hp} {b : Addr}, b ∈ tb -> gM P w H s₁.heap b (.tbl #[]) := λ {H b} hb => by
  obtain ⟨c, _, e⟩ := htb b hb;exact e
 classical
 cases hk : K.lookup a with
 | some o =>
  have e := KX a o hk;rw [ha] at e;cases e;refine core (λ b => if b ∈ tb then some (.tbl #[]) else none) (λ b => ?_) (.inr ⟨_, vs.toArray, _, hk, rfl, rfl, rfl, by rw [Zd, lenV]; exact hl, by simpa using rv⟩) (λ b u z => ?_) (λ P hP => if_pos hP) λ z => absurd (if_neg hat) z
  .by_cases hb : b ∈ tb
   .exact .inr (.inr ⟨hb, if_pos hb⟩)
   .exact .inl (if_neg hb)
  .by_cases hb : b ∈ tb
   .have z' := (if_pos hb).symm.trans z;cases z';exact tbOk hb
   .have z' := (if_neg hb).symm.trans z;cases z'
 | none =>
  refine core (λ b => if b = a then some (.frz { cls := .type "list", data := .seq vs.toArray } (.lst (ns.map V.int))) else if b ∈ tb then some (.tbl #[]) else none) (λ b => ?_) (.inl (.inr ⟨{ cls := .type "list", data := .seq vs.toArray }, if_pos rfl⟩)) (λ b u z => ?_) (λ P hP => ?_) λ _ => hk
  .by_cases hb : b = a
   .exact .inr (.inl ⟨hb, _, _, if_pos hb⟩)
   .by_cases hb' : b ∈ tb
    .exact .inr (.inr ⟨hb', (if_neg hb).trans (if_pos hb')⟩)
    .exact .inl ((if_neg hb).trans (if_neg hb'))
  .by_cases hb : b = a
   .have z' := (if_pos hb).symm.trans z;cases z';subst hb;exact ⟨ha, by rw [Zu]; exact hl, vs, _, rv, ha⟩
   .have z1 := (if_neg hb).symm.trans z;by_cases hb' : b ∈ tb
    .have z' := (if_pos hb').symm.trans z1;cases z';exact tbOk hb'
    .have z' := (if_neg hb').symm.trans z1;cases z'
  .have hne : P ≠ a := λ z => hat (z ▸ hP);exact (if_neg hne).trans (if_pos hP)
theorem HX {l : PySem.W.OpenLaw} {n k : Nat} {q : Program} {loose : List Str} {XP : (Str -> Option Value) -> Heap -> Prop} {YP : World -> Heap -> Prop} {d : DefRec} {K : Params -> PySem.W.Frag} {x : Str} {φ : FF}
  (hn : l.most = some n) (hn2 : n <= sizeLine) (hdf : d.params.defaults = []) (hr : eG k callerA)
  (hY : ∀ (w : World) (h : Heap), YP w h -> (K w.params).In h)
  (F : ∀ (w : World) (mg mb : Str -> Option Value) (mean : ExcName -> Option Value) (lo : List Str) (fa : Addr) (h : Heap), (K w.params).In h -> Top q lo mean mg mb h -> mg d.name = some (.ref fa) ->
   ∃ (fd : FuncData) (tb : List Addr), (∀ (s : Shared) (u : Value), BindsTo s fd ⟨[u], []⟩ [(x, u)]) /\ (∀ P ∈ tb, ∃ c, PySem.W.CodeHd h c P /\ h.get? P = some (PySem.W.tabObj #[])) /\ PySem.W.noTabs (K w.params) = true /\
    ∀ base : Heap, (K w.params).In base -> base.Ns mainGlobals mg -> tU l.prog w (K w.params) mg base CX0 k fa fd [x] (spD (K w.params) tb 1 φ))
  (hsp : ∀ (ns : List Int), ns.length <= n -> ∃ μ', φ [.ro (ns.map .int)] [] = some (.bl true, μ')) :
  PySem.W.WalkO q loose XP YP l.row.toRowW d [] (λ f vs => PySem.call f vs) := by
 refine Att.attach_call hn hdf λ w s₀ s₁ mg mb fa o pm cd doc a vs ns G Y ho hd hcd hmg hobj hints hlen hg => ?_;have KX := hY w _ Y;obtain ⟨fd, tb, hb, htb, hnt, hF⟩ := F w mg mb _ _ fa _ KX G.T hmg;obtain ⟨μ', hs⟩ := hsp ns hlen;exact Ht KX G.T.g G.T.b G.T.builtins G.T.nolimit G.T.bmain hg hobj hints (Zl hlen hn2) hr htb hnt hF hb hs
end L3
namespace L2
open PySem PySem.Spec PyProof.Rows
section
variable {X : Cx} {tg iter elt : Expr} {ifs : List Expr} {wi : TI} {g : TG} {tt : TT} {te : TE} {own cap : List Str} {capI : List Nat} {scope : Scope} {pos : Pos}
theorem Qp (hN : X.N.Nodup) (hi₀ : X.N[i₀]? = some x₀) (hx₀ : Loc X.env.scope x₀) (hc : X.calm = true) (B : eQ X own cap capI scope) (hown : ∀ x ∈ own, (x, NameKind.free) ∉ scope.names) (hi : PI X tg iter wi)
  (hg : ∀ cs C fp s2 H2, PG (dj X own cap scope cs C fp s2 H2) tg g) (ht : ∀ cs C fp s2 H2, PIf (dj X own cap scope cs C fp s2 H2) ifs tt) (he : ∀ cs C fp s2 H2, PE (dj X own cap scope cs C fp s2 H2) elt te)
  (hs : ∀ x, foldedSetIterable iter X.env x = pure x := by intro _; rfl) (hsw : swapsWith (.ListComp elt [⟨tg, iter, ifs, 0⟩] scope pos) (some (.Name x₀ px₀)) spos.line X.env = pure true := by rfl)
  (hf₀ : X.fn x₀ = true ∨ X.env.scope.names.lookup x₀ = some .local := by first | exact .inl rfl | exact .inr rfl | assumption) :
  PS X (.Assign [.Name x₀ px₀] (.ListComp elt [⟨tg, iter, ifs, 0⟩] scope pos) spos) (RQ (tLC own capI wi g tt te) (Ju i₀)) := by
 intro pins s σ H D I h;rw [exec_Assign_Name_used _ _ _ _ hsw];refine wpAny_bind (wpAny_standAt (wpAny_bind ?_));show wpAny _ X.A (do let _ <- comprehension (.ListComp elt [⟨tg, iter, ifs, 0⟩] scope pos) scope X.env _ (newList []) false (eval iter X.env) (some (assign (.Name x₀ px₀) X.env))) _ _ s
 refine wpAny_bind (wpAny_mono (wpAny_comprehension_free (use := some (assign (.Name x₀ px₀) X.env)) (Q := λ _ s' => SP X pins D .next s') (cl := cA X.env scope.names []) rfl hs (jq (B.cells I)) B.kind (λ y hy e => dB B.nd (by rw [<- e]; exact hy)) ?_) (λ _ s' hq => wpAny_pure (wpAny_pure hq)) λ _ _ e => e)
 refine thn (hi pins s σ H _ I h) λ v s1 h1 => thn h1 λ itv s2 h2 => ?_;obtain ⟨it, fp, tn, J, H2, e, I2, T, st2, f2, W, ⟨m0, w0⟩, turn⟩ := h2;subst e;refine wpAny_newObj_type (pA ?_);dsimp only;generalize hl : s2.heap.objs.size = l;generalize hh0 : s2.heap.push { cls := .type "list", dict := none, data := .seq ([] : List Value).toArray } = h0;have hsz0 : h0.objs.size = l + 1 := by rw [<- hh0, Heap.size_push, hl]
 generalize hC : h0.objs.size = C;generalize hh1 : pushCells (h0.push { cls := .type (if (some X.env).isSome = true then "dict" else "frame"), data := .dict #[] }) scope.names = h1;have hl0 : h0.get? l = some (bR [] 0) := by rw [<- hh0, <- hl]; exact Zf _ rfl
 have hk0 : ∀ b o, s2.heap.get? b = some o -> h0.get? b = some o := λ b o e => by rw [<- hh0]; exact Zb _ e
 have hlC : l ≠ C := by rw [<- hC, hsz0]; exact Zk (Nat.lt_succ_self _)
 have hls : s2.heap.objs.size <= l := Nat.le_of_eq hl;have hCs : s2.heap.objs.size <= C := by rw [<- hC, hsz0, hl]; exact Nat.le_succ _
 have ho2 : ∀ b ∈ fp, ∃ o, s2.heap.get? b = some o := λ b hb => let ⟨o, e, _⟩ := T.obj 0 _ st2 b hb; ⟨o, e⟩;have hfl : ∀ b ∈ fp, b ≠ l /\ b ≠ C := λ b hb => let ⟨o, e⟩ := ho2 b hb; ⟨Zk (Zc (Ze e) hls), Zk (Zc (Ze e) hCs)⟩;have hl1 : h1.get? l = some (bR [] 0) := by rw [<- hh1]; exact pushCells_keeps _ _ _ _ (Zb _ hl0)
 have keep1 : ∀ b o, s2.heap.get? b = some o -> h1.get? b = some o := λ b o e => by rw [<- hh1]; exact pushCells_keeps _ _ _ _ (Zb _ (hk0 b o e))
 generalize hcs : cellsFrom (C + 1) scope.names (cA X.env scope.names []) = cs;have I0 : Inv (dj X own cap scope cs C fp s2 H2) [] (cX own σ capI) H2 { s2 with heap := h1 } := by
  have q := I2.comp (tk := s2.toks) B hown f2 ho2 hk0 (by rw [hsz0, hl]; exact Nat.le_succ _) hC.symm hh1.symm
  rw [hcs] at q;exact q
 have henv : (newEnv scope C X.env.globals cs X.env.qual none .none (some X.env) builtinsNs) = { compEnvC scope cs C X.env with scope := scope } := rfl
 have henv2 : ({ newEnv scope C X.env.globals cs X.env.qual none .none (some X.env) builtinsNs with scope := relabel scope X.env } : Env) = (dj X own cap scope cs C fp s2 H2).env := rfl
 generalize hX' : dj X own cap scope cs C fp s2 H2 = X' at I0 henv2;have eP : X'.prog = X.prog := by rw [<- hX']; rfl
 have eW : X'.w = X.w := by rw [<- hX']; rfl
 have eK : X'.K = X.K := by rw [<- hX']; rfl
 have eA : X'.A = X.A := by rw [<- hX']; rfl
 have eFs : X'.fs = frs X.stack := by rw [<- hX']; rfl
 have eEx : X'.ex = fp := by rw [<- hX']; rfl
 have eS : X'.s₀ = s2 := by rw [<- hX']; rfl
 have eH : X'.H₀ = H2 := by rw [<- hX']; rfl
 have eL : X'.env.locals = C := by rw [<- hX']; rfl
 have eC : X'.calm = true := by rw [<- hX']; exact hc
 have eX : X'.xe = λ _ _ => False := by rw [<- hX']; rfl
 have ePn : X'.pn = [] := by rw [<- hX']; rfl
 have hg' : PG X' tg g := by rw [<- hX']; exact hg cs C fp s2 H2
 have ht' : PIf X' ifs tt := by rw [<- hX']; exact ht cs C fp s2 H2
 have he' : PE X' elt te := by rw [<- hX']; exact he cs C fp s2 H2
 have stat : ∀ {H' : Hp} {P : List (Addr × Obj)}, X'.Ok -> (∀ b ∈ fp, H' b = none) -> (∀ p ∈ P, p.1 = l) -> ∀ b ∈ fp, mQ X' P H' b := λ {H' P} ok hn hP b hb => by
  refine ⟨hn b hb, ?_, ?_, .inl (by rw [eEx]; exact hb), ?_, λ p hp => ?_⟩
  .exact (ok.exf b (by rw [eEx]; exact hb)).1
  .exact ok.exfs b (by rw [eEx]; exact hb)
  .exact (ok.exf b (by rw [eEx]; exact hb)).2
  .rw [ePn, List.nil_append] at hp;rw [hP p hp];exact Ne.symm (hfl b hb).1
 have lfs : X'.Ok -> l ∉ X'.fs := λ ok hz => by
  rw [eFs] at hz;exact (Inv.nofs (X := X) I2 hls) ((Zi.mp (I2.stkSub l hz)).elim (λ z => absurd I2.lt (by rw [<- z, hl]; exact Nat.lt_irrefl _)) id)
 have pinL : ∀ {σ' : St} {H' : Hp} {s' : Shared} {us : List Value} {k : Nat}, Inv X' [] σ' H' s' -> s'.heap.get? l = some (bR us k) -> H' l = none -> Inv X' [(l, bR us k)] σ' H' s' := λ {σ' H' s' us k} I' e n =>
  I'.pins_of λ p hp => by
   obtain rfl : p = (l, bR us k) := by simpa using hp
   exact ⟨e, n, by rw [eL]; exact hlC, lfs I'.ok, λ v z => by cases z⟩
 have loop : ∀ s3 : Shared, s3 = { s2 with heap := h1 } -> codeAny (model X.prog X.w) X.A (.compLoop (.ListComp elt [⟨tg, iter, ifs, 0⟩] scope pos) 0 (.ref it) (.ref l) X'.env) (compPost (model X.prog X.w) X.A X.xe (some (assign (.Name x₀ px₀) X.env)) (λ _ s' => SP X pins D .next s') (.ref l) C) s3 := by
  rintro s3 rfl;refine xf (E' := λ _ _ => False) (λ n s' => ∃ i ys us k H', Inv X' [] (cX own σ capI) H' s' /\ tn i s'.heap /\ (∀ b ∈ fp, H' b = none) /\ W i n ys H' /\ Vals ys us /\ s'.heap.get? l = some (bR us k) /\ H' l = none /\ ys.length <= sizeLine) (λ _ _ z => z.elim) ?_ m0
   ⟨0, [], [], 0, H2, I0, T.keep _ _ _ st2 λ b _ o e => keep1 b o e, λ b hb => (f2 b hb).1, w0, .nil, hl1, I2.hok.fresh hls, Nat.zero_le _⟩
  rintro n s3 ⟨i, ys, us, k, H3, I3, st3, fr3, w3, v3, o3, n3, z3⟩;have I3p := pinL I3 o3 n3;have P1 : ∀ p ∈ [(l, bR us k)], p.1 = l := λ p hp => by
   obtain rfl : p = (l, bR us k) := by simpa using hp
   rfl
  rcases turn i n ys H3 w3 with ⟨stop, qn⟩ | ⟨go, hlt, step⟩
  .have q := T.done X' eP eW eK eC i _ s3 _ H3 (λ _ _ => False) I3p (stat I3.ok fr3 P1) st3 stop;rw [eA] at q;refine wpAny_mono q (λ r s4 ⟨hr, I4⟩ => ?_) λ _ _ z => z;subst hr;have pl := I4.pin (l, bR us k) (by simp)
   obtain ⟨m4, hn4, _⟩ := I4.loc;rw [eL] at hn4;have fC : H3 C = none := by have := I4.free; rw [eL] at this; exact this
   have IE : Inv X pins σ (upd H3 l (.lst ys)) s4 := by
    have := I2.compEnd f2 eP eW eFs eEx eS eH eL I4 hls hlC hCs pl.1 n3 v3 z3 (Heap.SameBut.refl C s4.heap);exact this
   show wpAny _ X.A (assign (.Name x₀ px₀) X.env (.ref l)) _ _ s4;refine wpAny_assign_Name (xn IE hN hi₀ hx₀ (v := .ref l) rfl (λ s5 I5 ⟨a, sa, ha⟩ => ?_) hf₀);have hnL : C ≠ X.env.locals := Nat.ne_of_gt (Zc I2.lt hCs);have hnc : ∀ y c, X.env.cells.lookup y = some c -> c ≠ C := λ y c e => by
    obtain ⟨v, q⟩ := I2.cell y c e;exact Zk (Zc q.lt hCs)
   have haC : C ≠ a := by
    rcases ha with q | q
    .rw [q]; exact hnL
    .exact Ne.symm (hnc _ _ q)
   obtain ⟨o4, es4, ep4, ho4, r4⟩ := hn4;refine ⟨m4, ⟨o4, es4, ep4, (sa.2 C haC).trans ho4, r4⟩, λ h' sb => ⟨_, _, ?_, qn l n3⟩⟩;refine I5.turned (t' := s5.toks) (it := C) (λ b o hb e => (sb.2 b hb).trans e) (by rw [aR (Ne.symm hlC)]; exact fC) hnL (.inr (Zl I2.sz hCs)) hnc λ p hp => ?_
   exact Zk (Zc (Ze (I2.pin p hp).1) hCs)
  .have q := T.item X' eP eW eK eC i _ s3 _ H3 (λ _ _ => False) I3p (stat I3.ok fr3 P1) st3 go;rw [eA] at q;refine wpAny_mono q (λ r s4 ⟨u, hr, h4⟩ => ?_) λ _ _ z => z;subst hr;refine wpAny_mono h4 (λ _ s5 ⟨x, H5, I5, r5, y5, st5, fr5⟩ => ?_) λ _ _ z => z;have I5' := I5.pinned (stat I5.ok fr5 P1) (T.obj _ _ st5);have a1 := hg' _ s5 _ H5 x u _ I5' r5 (step x H5 y5);rw [eP, eW, eA, eX] at a1;refine wpAny_mono a1 (λ _ s6 ⟨σ6, H6, I6, ft6, q6⟩ => ?_) λ _ _ z => z;have a2 := ht' _ s6 σ6 H6 _ I6 q6;rw [eP, eW, eA, eX] at a2;refine wpAny_mono a2 (λ ok s7 ⟨H7, I7, q7⟩ => ?_) λ _ _ z => z;have back : ∀ {H8 : Hp} {s8 : Shared}, Inv X' ([(l, bR us k)] ++ rM fp s5.heap) σ6 H8 s8 -> Inv X' [] (cX own σ capI) H8 s8 /\ tn (i + 1) s8.heap /\ (∀ b ∈ fp, H8 b = none) /\ s8.heap.get? l = some (bR us k) /\ H8 l = none := λ {H8 s8} I8 => by
    have pl := I8.pin (l, bR us k) (by simp)
    refine ⟨(I8.weak ft6.1.symm ft6.2).pins_of λ p hp => absurd hp (by simp), T.keep _ _ _ st5 λ b hb o e => ?_, λ b hb => ?_, pl.1, pl.2.1⟩
    .exact (I8.pin (b, o) (Zn _ (Zn _ (fY hb e)))).1
    .obtain ⟨o, e, d⟩ := T.obj _ _ st5 b hb;exact (I8.pin (b, o) (Zn _ (Zn _ (fY hb e)))).2.1
   cases ok with
   | false =>
    rw [if_neg Zr];rw [if_neg Zr] at q7;obtain ⟨m', hm, w7⟩ := q7;obtain ⟨I8, st8, fr8, o8, n8⟩ := back I7;exact ⟨m', hm, i + 1, ys, us, k, H7, I8, st8, fr8, w7, v3, o8, n8, z3⟩
   | true =>
    rw [if_pos rfl];rw [if_pos rfl] at q7;have a3 := he' _ s7 σ6 H7 _ I7 q7;rw [eP, eW, eA, eX] at a3;refine wpAny_mono a3 (λ yv s8 ⟨y, H8, I8', r8, m', hm, w8⟩ => ?_) λ _ _ z => z;obtain ⟨I8, st8, fr8, o8, n8⟩ := back I8';refine append_at (hsz := by show us.toArray.size <= sizeLine; rw [Zd, <- v3.length]; exact z3) o8 λ h9 sb9 o9 => ?_
    have I9 : Inv X' [] (cX own σ capI) H8 { s8 with heap := h9 } := I8.turned (t' := s8.toks) (λ b o hb e => (sb9.2 b hb).trans e) n8 (by rw [eL]; exact hlC) (.inr (by rw [eS]; exact hls)) (λ x c e => by
     rintro rfl;obtain ⟨v', ho', hd', hd''⟩ := I8.cell x c e;rw [o8] at hd';cases hd';cases hd'') (λ p hp => by rw [ePn] at hp; exact absurd hp (by simp))
    refine ⟨m', hm, i + 1, ys ++ [y], us ++ [yv], k + 1, H8, I9, T.keep _ _ _ st8 λ b hb o e => (sb9.2 b (hfl b hb).1).trans e, fr8, w8, v3.append (.cons r8 .nil), ?_, n8, ?_⟩
    .rw [o9];simp [bR]
    .rw [List.length_append];exact hlt
 have T0 := T.keep 0 s2.heap h1 st2 λ b _ o e => keep1 b o e;rw [henv2];exact codeAny_compStart_list (loop _ rfl) (T.self X.A 0 _ _ _ T0 (loop _ rfl))
end
end L2
namespace L3
open PySem PySem.Spec PyProof.Rows L2
section
variable {X : Cx} {tb : List Addr} {e tg iter elt : Expr} {f : EF} {pos : Pos}
theorem Es {fi : IF} {h : GF} {tt : TF} {fe : EF} {own : List Str} {capI ts : List Nat} {σ : SV} {H : Hp} {Q : VK} (hts : ∀ i ∈ ts, i < own.length) (hx : tDN X.K tb (lLC own capI fi h tt fe) σ H Q) :
  tLC own capI (tDI X.K tb fi) (tDG X.K tb ts h) (tDT X.K tb tt) (tD X.K tb fe) σ H Q := by
  obtain ⟨W, δ, ds, μ', e, ok, hd, hf, k⟩ := hx;unfold lLC at hf;obtain ⟨⟨S, μ1⟩, e1, e2⟩ := Za.mp hf;split at e2
  .rename_i hz;refine ⟨W, δ, S, μ1, e, ok, hd, e1, λ J W1 ok1 l1 m1 io => ?_⟩;refine ⟨λ i m ys H2 => m = S.items.length - i /\ i <= S.items.length /\ ys.length <= i /\ ∃ W2 zs rs, W2.H = H2 /\ WOk X.K tb W2 /\ Le tb W1 W2 /\ cM X.K tb W2 zs ys /\ lcL S h tt fe (dg own δ capI) (S.items.drop i) W2.mu = some (rs, μ') /\ zs ++ rs = ds,
    ⟨S.items.length, rfl, Nat.zero_le _, Nat.zero_le _, W1, [], ds, rfl, ok1, Le.refl _, aD.nil, by rw [m1]; exact e2, rfl⟩, ?_⟩
   rintro i m ys H2 ⟨hm, hi', hy, W2, zs, rs, rfl, ok2, l2, d2, hn, hzs⟩;by_cases hlt : i < S.items.length
   .right
    have hdr : S.items.drop i = S.items[i] :: S.items.drop (i + 1) := List.drop_eq_getElem_cons hlt;rw [hdr] at hn;unfold lcL at hn;split at hn
    .rename_i hok;obtain ⟨δ3, e3, hn⟩ := Za.mp hn;obtain ⟨⟨kk, μ4⟩, e4, hn⟩ := Za.mp hn;obtain ⟨go, yl⟩ := io.go i W2 S.items[i] l2 ok2 hok (by simp [hlt])
     refine ⟨go, Zc (Nat.lt_of_le_of_lt hy hlt) hz, λ x H' y => ?_⟩;obtain ⟨W3, rfl, ok3, l3, m3, d3⟩ := yl x H' y;refine ⟨W3, dg own δ capI, S.items[i], δ3, rfl, ok3, (uf hd).mono' ((l1.trans l2).trans l3), d3, (by rw [m3]; exact e3), λ σ3 d3' hl3 ht3 => ⟨fits_of hts hl3 ht3, ?_⟩⟩
     refine ⟨W3, δ3, kk, μ4, rfl, ok3, d3', (by rw [m3]; exact e4), λ W4 ok4 l4 m4 => ?_⟩
     cases kk with
     | false =>
      rw [if_neg Zr];exact ⟨S.items.length - (i + 1), by omega, rfl, hlt, by omega, W4, zs, rs, rfl, ok4, (l2.trans l3).trans l4, cM.mono' d2 (l3.trans l4), by rw [m4]; exact hn, hzs⟩
     | true =>
      rw [if_pos rfl];have hn' : ((fe δ3 μ4).bind λ y => (lcL S h tt fe (dg own δ capI) (S.items.drop (i + 1)) y.2).bind λ ys => some (y.1 :: ys.1, ys.2)) = some (rs, μ') := hn;obtain ⟨⟨yd, μ5⟩, e5, hn'⟩ := Za.mp hn';obtain ⟨⟨rs', μ6⟩, e6, e7⟩ := Za.mp hn';cases e7;refine ⟨W4, δ3, yd, μ5, rfl, ok4, d3'.mono' l4, (by rw [m4]; exact e5), λ v W5 ok5 l5 m5 d5 => ?_⟩
      refine ⟨S.items.length - (i + 1), by omega, rfl, hlt, by rw [List.length_append]; simp; omega, W5, zs ++ [yd], rs', rfl, ok5, ((l2.trans l3).trans l4).trans l5, aD.append (cM.mono' d2 ((l3.trans l4).trans l5)) (aD.cons d5 aD.nil), by rw [m5]; exact e6, by rw [List.append_assoc]; exact hzs⟩
    .cases hn
   .left
    have hdr : S.items.drop i = [] := List.drop_of_length_le (by omega)
    rw [hdr] at hn;unfold lcL at hn;split at hn
    .rename_i hok;cases hn;rw [List.append_nil] at hzs;subst hzs;exact ⟨io.stop i W2 l2 ok2 hok (by omega), λ l hl => k l ys W2 ok2 (l1.trans l2) rfl hl d2⟩
    .cases hn
  .cases e2
theorem Nr {i : Nat} {x : Str} {px spos : Pos} {ifs : List Expr} {fi : IF} {h : GF} {tt : TF} {fe : EF} {own cap : List Str} {capI ts : List Nat} {scope : Scope} (hN : X.N.Nodup) (hc : X.calm = true) (B : eQ X own cap capI scope) (hown : ∀ x ∈ own, (x, NameKind.free) ∉ scope.names) (hi : PID X tb tg iter fi)
  (hg : ∀ cs C fp s2 H2, PGD (dj X own cap scope cs C fp s2 H2) tb tg ts h) (ht : ∀ cs C fp s2 H2, Pk (dj X own cap scope cs C fp s2 H2) tb ifs tt) (he : ∀ cs C fp s2 H2, PD (dj X own cap scope cs C fp s2 H2) tb elt fe)
  (hts : ∀ i ∈ ts, i < own.length := by decide) (hs : ∀ x, foldedSetIterable iter X.env x = pure x := by intro _; rfl) (hi₀ : X.N[i]? = some x := by rfl) (hx₀ : Loc X.env.scope x := by first | exact Or.inl rfl | exact Or.inr rfl)
  (hsw : swapsWith (.ListComp elt [⟨tg, iter, ifs, 0⟩] scope pos) (some (.Name x px)) spos.line X.env = pure true := by rfl)
  (hf₀ : X.fn x = true ∨ X.env.scope.names.lookup x = some .local := by first | exact .inl rfl | exact .inr rfl | assumption) :
  PSD X tb (.Assign [.Name x px] (.ListComp elt [⟨tg, iter, ifs, 0⟩] scope pos) spos) (bf i (mFz (lLC own capI fi h tt fe))) :=
 lL (Qp (g := tDG X.K tb ts h) (tt := tDT X.K tb tt) (te := tD X.K tb fe) hN hi₀ hx₀ hc B hown hi hg ht he hs hsw hf₀) λ E σ H zq1 => by
  obtain ⟨W, δ, fl, δ', μ', e, ok, hd, hf, k⟩ := zq1;unfold bf at hf;obtain ⟨⟨d, μ1⟩, e1, e2⟩ := Za.mp hf;cases e2;unfold mFz at e1;obtain ⟨⟨ds, μ2⟩, e3, e4⟩ := Za.mp e1;cases e4;refine Es hts ⟨W, δ, ds, _, e, ok, hd, e3, λ p vs W1 ok1 l1 m1 hp r => ?_⟩;exact lq (Q := λ v H => E.nx (σ.set i (some v)) H) ok1 (λ v W' ok' l' m' d' => k _ W' ok' (l1.trans l') (m'.trans m1) ((hd.mono' (l1.trans l')).set d')) r hp
theorem My (hN : X.N.Nodup) (hc : X.calm = true) (B : eQ X own cap capI scope) (hown : ∀ x ∈ own, (x, NameKind.free) ∉ scope.names) (hi : PID X tb tg iter fi)
  (hg : ∀ cs C fp s2 H2, PGD (dj X own cap scope cs C fp s2 H2) tb tg ts h) (ht : ∀ cs C fp s2 H2, Pk (dj X own cap scope cs C fp s2 H2) tb ifs tt) (he : ∀ cs C fp s2 H2, PD (dj X own cap scope cs C fp s2 H2) tb elt fe)
  (hts : ∀ i ∈ ts, i < own.length := by decide) (hs : ∀ x, foldedSetIterable iter X.env x = pure x := by intro _; rfl) (hi₀ : X.N[i]? = some x := by rfl) (hx₀ : Loc X.env.scope x := by first | exact Or.inl rfl | exact Or.inr rfl)
  (hsw : swapsWith (.ListComp elt [⟨tg, iter, ifs, 0⟩] scope pos) (some (.Name x px)) spos.line X.env = pure true := by rfl)
  (hf₀ : X.fn x = true ∨ X.env.scope.names.lookup x = some .local := by first | exact .inl rfl | exact .inr rfl | assumption) :
  PSD X tb (.Assign [.Name x px] (.ListComp elt [⟨tg, iter, ifs, 0⟩] scope pos) spos) (bf i (mD (lLC own capI fi h tt fe))) :=
 lL (Qp (g := tDG X.K tb ts h) (tt := tDT X.K tb tt) (te := tD X.K tb fe) hN hi₀ hx₀ hc B hown hi hg ht he hs hsw hf₀) λ E σ H zq2 => by
  obtain ⟨W, δ, fl, δ', μ', e, ok, hd, hf, k⟩ := zq2;unfold bf at hf;obtain ⟨⟨d, μ1⟩, e1, e2⟩ := Za.mp hf;cases e2;unfold mD at e1;obtain ⟨⟨ds, μ2⟩, e3, e4⟩ := Za.mp e1;cases e4;refine Es hts ⟨W, δ, ds, μ2, e, ok, hd, e3, λ p vs W1 ok1 l1 m1 hp r => ?_⟩;obtain ⟨ok2, l2, d2⟩ := ok1.new hp r;exact k _ _ ok2 (l1.trans l2) (by show W1.mu ++ [some ds] = _; rw [m1]) ((hd.mono' (l1.trans l2)).set (by rw [<- m1]; exact d2))
end
theorem MN {P : Program} {w : World} {K : PySem.W.Frag} {mg : Str -> Option Value} {base : Heap} {tb : List Addr} {x qual : Str} {st : Stmt} {f : Addr} {fd : FuncData} {T : Addr} {N ps : List Str} {n k : Nat} {g : SF} (F : dC K x qual st f fd T) (KB : K.In base) (S : aW N ps (aN st)) (hps : ps.length = n)
  (hbody : ∀ (c : Addr) (A : Around) (outer : List Env) (s : Shared) (H : Hp) (E : XK), PySem.W.CodeHd base c T -> eG k (A.deeper (envOfC qual (aN st) s.heap.objs.size f (.ref c))) ->
   ww (Ck CX0 P w K mg base N qual (aN st) f (.ref c) A outer s H E).nox tb (jK st) g) : tU P w K mg base CX0 (k + 1) f fd ps (spD K tb n (aH N.length g)) := by
 obtain ⟨oc, od, kV, doc, pm, an, c, ct, osl, rfl, lk, hcd, hhd⟩ := F.ex;refine Qf lk hcd S (λ vs H Q E ⟨W, ds, d, μ', e, ok, dl, hl, _⟩ => by rw [<- aD.length dl, hl, hps]) λ A outer s H vs Q E hr hsp => ?_
 obtain ⟨W, ds, d, μ', e, ok, dl, hl, hf, k⟩ := hsp;refine ⟨_, (hbody c A outer s H E (hhd base KB) hr).nox, ?_⟩;unfold aH at hf;obtain ⟨⟨fl, δ', μ1⟩, e1, e2⟩ := Za.mp hf;refine ⟨W, _, fl, δ', μ1, e, ok, ?_, e1, λ σ' W' ok' l' m' d' => ?_⟩
 .have hlen := aD.length dl;refine ⟨by unfold L2.start; simp [hlen], λ i y q => ?_⟩
  unfold L2.start;by_cases hi : i < ds.length
  .rw [Zs (by simpa using hi), List.getElem?_map] at q
   cases q2 : ds[i]? with
   | none => rw [q2] at q; cases q
   | some z =>
    rw [q2] at q;cases q;obtain ⟨v, ev, dv⟩ := aD.get dl q2;exact ⟨v, by rw [Zs (by rw [Zu, <- hlen]; exact hi), List.getElem?_map, ev]; rfl, dv⟩
  .rw [List.getElem?_append_right (by simpa using hi), List.getElem?_replicate] at q
   split at q <;> cases q
 .cases fl with
  | nx => cases e2; exact k .non W' ok' l' m' qT
  | rt d0 => cases e2; exact λ v dv => k v W' ok' l' m' dv
  | bk => cases e2
  | ct => cases e2
def yz (vs : Array Value) : Bool := (match vs.getD 18 .none with | .str _ _ => true | _ => false) && (match vs.getD 7 .none with | .int _ _ => true | _ => false) &&
 (match vs.getD 9 .none with | .bool _ => true | _ => false) && (match vs.getD 10 .none with | .int _ _ => true | _ => false)
theorem GQ {K : PySem.W.Frag} {c P : Addr} {dd : Option Addr} {vs : Array Value} {sl : Array (Option Value)} (lc : K.lookup c = some ⟨.type "code", dd, .fields vs, sl⟩) (p : vs[11]? = some (.ref P)) (q : yz vs = true) (ne : (c != P) = true) : PySem.W.codeHdIn K c P = true := by
 unfold PySem.W.codeHdIn;rw [lc];unfold yz at q;simp only [Zo] at q ⊢;obtain ⟨⟨⟨q1, q2⟩, q3⟩, q4⟩ := q;refine ⟨⟨⟨⟨⟨?_, q1⟩, q2⟩, q3⟩, q4⟩, ne⟩;rw [p];exact beq_self_eq_true P
theorem Ly {K : PySem.W.Frag} {x qual : Str} {st : Stmt} {f c P : Addr} {oc : Value} {od an : Option Addr} {osl : Array (Option Value)} {kV doc pm ct : Value} {dd : Option Addr} {vs : Array Value} {sl : Array (Option Value)}
  (l : K.lookup f = some ⟨oc, od, .func (PySem.W.fnOf x qual (lW st) (jK st) (aN st) .none kV doc pm an (.ref c) ct), osl⟩) (hc : PySem.W.codeIn K (.ref c) qual = true) (k : PySem.W.keepIn K (.ref f) = true)
  (lc : K.lookup c = some ⟨.type "code", dd, .fields vs, sl⟩) (p : vs[11]? = some (.ref P)) (q : yz vs = true) (ne : (c != P) = true) : dC K x qual st f (PySem.W.fnOf x qual (lW st) (jK st) (aN st) .none kV doc pm an (.ref c) ct) P :=
 ⟨⟨oc, od, kV, doc, pm, an, c, ct, osl, rfl, l, hc, λ h X => PySem.W.codeHd_of_K X (GQ lc p q ne)⟩, k⟩
theorem TJ {K : PySem.W.Frag} {x : Str} {f c P : Addr} {oc oc' : Value} {od dd : Option Addr} {fd : FuncData} {osl sl : Array (Option Value)} {vs : Array Value} (a : PySem.W.nsIn K mainGlobals x = some (some (.ref f))) (l : K.lookup f = some ⟨oc, od, .func fd, osl⟩) (hc : fd.code = .ref c)
  (lc : K.lookup c = some ⟨oc', dd, .fields vs, sl⟩) (p : vs[11]? = some (.ref P)) : PySem.W.tabIn K x = some (c, P) := by
 unfold PySem.W.tabIn;rw [a];simp only [l, hc, lc, p]
theorem rC {q : Program} {lo : List Str} {mean : ExcName -> Option Value} {mg mb : Str -> Option Value} {h : Heap} {K : PySem.W.Frag} {x : Str} {c P : Addr} (T : Top q lo mean mg mb h) (X : K.In h) (hr : ((recsOf q).find? (λ e => e.name == x)).isSome = true) (ht : PySem.W.tabIn K x = some (c, P)) : PySem.W.CodeHd h c P /\ h.get? P = some (PySem.W.tabObj #[]) := by
 obtain ⟨d, hd⟩ := Option.isSome_iff_exists.mp hr;exact PySem.W.tab_of T X hd ht
end L3
namespace L2
open PySem PySem.Spec PyProof.Rows HT
section
variable {prog : Program} {w : World} {A : Around} {E : Value -> Shared -> Prop} {s : Shared}
theorem oY {t sl : Addr} {items : Array Value} {vl vu : Value} {lo hi : Option Int} {Q : Value -> Shared -> Prop} (ht : IsTup s.heap t items) (hs : s.heap.IsSliceOf sl vl vu .none) (pl : IsPart vl lo) (pu : IsPart vu hi)
  (hw : sIx items.size 0 lo = 0 /\ sIx items.size items.size hi = items.size) (h : Q (.ref t) s) : wpAny (model prog w) A (getItem (.ref t) (.ref sl)) Q E s := by
 obtain ⟨os, hos, hcs, hds⟩ := id hs;have hTs : s.TypeIs (.ref sl) "slice" := ⟨os, hos, hcs⟩;unfold getItem
 try with_reducible refine wpAny_holding ?_
 first | refine wpAny_bind (wpAny_pure ?_) | skip
 refine wpAny_bind (wpAny_sequenceKey ht.typeIs (by decide) ?_)
 refine wpAny_bind (wpAny_callSpecial?_slot (name := Str.ofString "__getitem__") ht.typeIs PyProof.Rows.slot_tuple_getitem
  (wpAny_call_entry PyProof.Rows.slot_tuple_getitem ht.typeIs entry_tuple_getitem ?_ (args_tuple_getitem _ _)))
 show wpAny _ _ (Builtin.Tuple.tupleItemsOf (.ref t) >>= _) _ _ s;refine wpAny_bind (tupleItemsOf_ ht ?_);refine wpAny_bind (wpAny_typeOf hTs ?_);rw [if_pos (by decide)]
 refine wpAny_bind (lF hs pl pu ?_);have hyes : (((sIx items.size 0 lo : Nat) : Int) == 0 && (1 : Int) == 1 && (sIx items.size items.size hi - sIx items.size 0 lo) == items.size) = true := by
  rw [hw.1, hw.2];simp
 show wpAny _ _ (if (((sIx items.size 0 lo : Nat) : Int) == 0 && (1 : Int) == 1 && (sIx items.size items.size hi - sIx items.size 0 lo) == items.size) = true then _ else _) _ _ s;rw [if_pos hyes];refine wpAny_bind (m := Builtin.Tuple.tupleIsExact (.ref t)) (wpAny_bind (wpAny_typeOf ht.typeIs (wpAny_pure ?_)));rw [if_pos (by decide)]
 refine wpAny_bind (wpAny_rule ?_)
 first
  | exact wpAny_pure ⟨_, rfl, wpAny_pure h⟩
  | exact wpAny_bind (wpAny_pure (wpAny_pure ⟨_, rfl, wpAny_pure h⟩))
  | exact wpAny_pure (wpAny_pure h)
end
section
variable {X : Cx}
def rSlW (K : PySem.W.Frag) : V -> Option Int -> Option Int -> Hp -> VK -> Prop := λ x lo hi H Q => ∃ a xs, x = .ref a /\ SqT K H a xs /\
 (HT.sIx xs.length 0 lo = 0 /\ HT.sIx xs.length xs.length hi = xs.length) /\ Q (.ref a) H
theorem Lq : SlR X (rSlW X.K) := by
 intro pins s σ H x v vl vu lo hi sl Q I rx hs pl pu h;obtain ⟨a, xs, rfl, hx, hw, q⟩ := h;cases rx;obtain ⟨its, r, ht, hz⟩ := I.tuple hx;have hlen : its.toArray.size = xs.length := by rw [Zd]; exact r.length.symm
 refine ⟨"tuple", _, PyProof.Rows.slot_tuple_getitem.lookup, ht.typeIs, ?_⟩;exact oY ht hs pl pu (by rw [hlen]; exact hw) ⟨.ref a, H, I, rfl, q⟩
end
end L2
namespace L3
open PySem PySem.Spec PyProof.Rows L2
abbrev PF := En -> Mu -> Option (Option Int × Mu)
def tDO (K : PySem.W.Frag) (tb : List Addr) (f : PF) : TO := λ σ H Q => ∃ W δ i μ', W.H = H /\ WOk K tb W /\ jC K tb W δ σ /\ f δ W.mu = some (i, μ') /\ ∀ W', WOk K tb W' -> Le tb W W' -> W'.mu = μ' -> Q i W'.H
def POD (X : Cx) (tb : List Addr) (e : Option Expr) (f : PF) : Prop := PO X e (tDO X.K tb f)
theorem Qa (h : PO X e t) (k : ∀ σ H Q, t' σ H Q -> t σ H Q) : PO X e t' := λ pins s σ H Q I hq => h pins s σ H Q I (k σ H Q hq)
def fNo : PF := λ _ μ => some (none, μ)
def fAt (f : EF) : PF := λ δ μ => (f δ μ).bind λ r => match r.1 with
 | .int i => some (some i, r.2)
 | _ => none
def cutD (ds : List D) (lo hi : Option Int) : List D := (ds.drop (HT.sIx ds.length 0 lo)).take (HT.sIx ds.length ds.length hi - HT.sIx ds.length 0 lo)
def oSl (x : D) (lo hi : Option Int) (μ : Mu) : Option (D × Mu) := match x with
 | .tup ds => some (.tup (cutD ds lo hi), μ)
 | .lst ds => some (.lst (cutD ds lo hi), μ)
 | .ro ds => some (.lst (cutD ds lo hi), μ)
 | .cell n => match μ[n]? with
  | some (some ds) => some (.lst (cutD ds lo hi), μ)
  | _ => none
 | _ => none
def mSl (f : EF) (fl fh : PF) : EF := λ δ μ => (f δ μ).bind λ r => (fl δ r.2).bind λ l => (fh δ l.2).bind λ u => oSl r.1 l.1 u.1 u.2
section
variable {X : Cx} {tb : List Addr} {e : Expr} {lo hi : Option Expr} {f : EF} {fl fh : PF} {pos p2 : Pos}
theorem oE : POD X tb none fNo := Qa Pz λ σ H Q zq1 => by
 obtain ⟨W, δ, i, μ', e, ok, hd, hf, h⟩ := zq1;subst e; cases hf;exact h W ok (Le.refl _) rfl
theorem nF (h : PD X tb e f) : POD X tb (some e) (fAt f) := Qa (Nt h) λ σ H Q zq2 => by
 obtain ⟨W, δ, i, μ', e, ok, hd, hf, h⟩ := zq2;unfold fAt at hf;obtain ⟨⟨x, μ1⟩, e1, e2⟩ := Za.mp hf;cases x with
 | int j =>
  cases e2;exact ⟨W, δ, _, _, e, ok, hd, e1, λ v W1 ok1 l1 m1 d1 => ⟨j, bB d1, h W1 ok1 l1 m1⟩⟩
 | _ => cases e2
theorem oV {K : PySem.W.Frag} {W : Wd} {ds : List D} {vs : List V} {l h : Option Int} (r : cM K tb W ds vs) : cM K tb W (cutD ds l h) (Bj vs l h) := by
 unfold cutD Bj;rw [<- aD.length r];exact aD.take _ (aD.drop _ r)
theorem qD (he : PD X tb e f) (hl : POD X tb lo fl) (hh : POD X tb hi fh) : PD X tb (.Subscript e (.Slice lo hi none p2) pos) (mSl f fl fh) :=
 dU (Aj (Rx.or (Lq.or Ft)) he hl hh) λ σ H Q zq3 => by
  obtain ⟨W, δ, d, μ', e, ok, hd, hf, h⟩ := zq3;unfold mSl at hf;obtain ⟨⟨x, μ1⟩, e1, hf⟩ := Za.mp hf;obtain ⟨⟨l, μ2⟩, e2, hf⟩ := Za.mp hf;obtain ⟨⟨u, μ3⟩, e3, hf⟩ := Za.mp hf;refine ⟨W, δ, x, μ1, e, ok, hd, e1, λ v W1 ok1 l1 m1 d1 => ⟨W1, δ, l, μ2, rfl, ok1, hd.mono' l1, (by rw [m1]; exact e2), λ W2 ok2 l2 m2 => ⟨W2, δ, u, μ3, rfl, ok2, hd.mono' (l1.trans l2), (by rw [m2]; exact e3), λ W3 ok3 l3 m3 => ?_⟩⟩⟩
  have d3 := Den.mono' d1 (l2.trans l3);have k : ∀ v W', WOk X.K tb W' -> Le tb W3 W' -> W'.mu = W3.mu -> Den X.K tb W' d v -> W3.mu = μ' -> Q v W'.H := λ v W' ok' l' m' d' q => h v W' ok' (((l1.trans l2).trans l3).trans l') (m'.trans q) d';cases x with
  | tup ds =>
   obtain ⟨a, xs, rfl, q, r⟩ := gW d3;cases hf;by_cases hw : HT.sIx ds.length 0 l = 0 /\ HT.sIx ds.length ds.length u = ds.length
   .have e : cutD ds l u = ds := by unfold cutD; rw [hw.1, hw.2]; simp
    exact .inr (.inl ⟨a, xs, rfl, SqT.fz q, by rw [<- aD.length r]; exact hw, k (.ref a) W3 ok3 (Le.refl _) rfl (by rw [e]; exact d3) m3⟩)
   .exact .inl ⟨a, xs, rfl, SqT.fz q, by rw [<- aD.length r]; exact hw, λ p hp => oK ok3 (λ v W' ok' l' m' d' => k v W' ok' l' m' d' m3) (oV r) hp⟩
  | lst ds =>
   obtain ⟨a, xs, rfl, q, r⟩ := lE d3;cases hf;exact .inr (.inr ⟨a, xs, rfl, SqL.fz q, λ p hp => lq ok3 (λ v W' ok' l' m' d' => k v W' ok' l' m' d' m3) (oV r) hp⟩)
  | ro ds =>
   obtain ⟨a, xs, rfl, q, r⟩ := xP d3;cases hf;exact .inr (.inr ⟨a, xs, rfl, SqL.fz q, λ p hp => lq ok3 (λ v W' ok' l' m' d' => k v W' ok' l' m' d' m3) (oV r) hp⟩)
  | cell n =>
   obtain ⟨a, rfl, q⟩ := iH d3;have hf : (match μ3[n]? with | some (some ds) => some (D.lst (cutD ds l u), μ3) | _ => none) = some (d, μ') := hf
   cases e4 : μ3[n]? with
   | none => rw [e4] at hf; cases hf
   | some o =>
    rw [e4] at hf;cases o with
    | none => cases hf
    | some ds =>
     cases hf;obtain ⟨xs, ex, r⟩ := ok3.cont n a ds q (by rw [m3]; exact e4)
     exact .inr (.inr ⟨a, xs, rfl, SqL.of ex, λ p hp => lq ok3 (λ v W' ok' l' m' d' => k v W' ok' l' m' d' m3) (oV r) hp⟩)
  | _ => cases hf
end
theorem Gg (r : Vals zs ws) : ∀ (π : List Nat), Vals (π.map λ i => zs.getD i .non) (π.map λ i => ws.getD i .none)
 | [] => .nil
 | i :: π => by
  refine .cons ?_ (Gg r π);show L2.RelV (zs.getD i V.non) (ws.getD i Value.none);cases e : zs[i]? with
  | none =>
   have e2 := Vals.none_of r e;rw [List.getD_eq_getElem?_getD, List.getD_eq_getElem?_getD, e, e2];rfl
  | some v =>
   obtain ⟨u, e2, rv⟩ := Vals.get r e;rw [List.getD_eq_getElem?_getD, List.getD_eq_getElem?_getD, e, e2];exact rv
theorem um {K : PySem.W.Frag} {tb : List Addr} {W : Wd} {ds : List D} {vs : List V} (r : cM K tb W ds vs) : ∀ (π : List Nat), cM K tb W (π.map λ i => ds.getD i .non) (π.map λ i => vs.getD i .non)
 | [] => aD.nil
 | i :: π => by
  refine aD.cons ?_ (um r π);show bx K (Wd.fz tb W) W.ad (ds.getD i D.non) (vs.getD i V.non);have hl := aD.length r;cases e : ds[i]? with
  | none =>
   have e2 : vs[i]? = none := by
    rw [List.getElem?_eq_none_iff] at e ⊢;omega
   rw [List.getD_eq_getElem?_getD, List.getD_eq_getElem?_getD, e, e2];exact qT
  | some v =>
   obtain ⟨u, e2, rv⟩ := aD.get r e;rw [List.getD_eq_getElem?_getD, List.getD_eq_getElem?_getD, e, e2];exact rv
end L3
namespace L2
open PySem PySem.Spec PyProof.Rows
section
variable {κ : Type} [DecidableEq κ]
def putK (kvs : List (κ × V)) (k : κ) (v : V) : List (κ × V) :=
 if (kvs.any λ kv => decide (kv.1 = k)) = true then kvs.map (λ kv => if kv.1 = k then (kv.1, v) else kv) else kvs ++ [(k, v)]
theorem KV.any {kvs : List (κ × V)} {vs : List (κ × Value)} (r : KV kvs vs) (k : κ) : (kvs.any λ kv => decide (kv.1 = k)) = vs.any λ kv => decide (kv.1 = k) := by
 unfold KV at r
 induction r with
 | nil => rfl
 | cons h t ih => rw [List.any_cons, List.any_cons, ih, h.1]
theorem KV.repl {kvs : List (κ × V)} {vs : List (κ × Value)} (r : KV kvs vs) (k : κ) {y : V} {u : Value} (ry : RelV y u) :
  KV (kvs.map λ kv => if kv.1 = k then (kv.1, y) else kv) (vs.map λ kv => if kv.1 = k then (kv.1, u) else kv) := by
 unfold KV at r ⊢
 induction r with
 | nil => exact .nil
 | @cons p q ps qs h t ih =>
  rw [Zj, Zj];refine .cons ?_ ih;obtain ⟨h1, h2⟩ := h;by_cases e : p.1 = k
  .rw [if_pos e, if_pos (h1.symm.trans e)]; exact ⟨h1, ry⟩
  .rw [if_neg e, if_neg (λ z => e (h1.trans z))]; exact ⟨h1, h2⟩
theorem KV.put {kvs : List (κ × V)} {vs : List (κ × Value)} (r : KV kvs vs) (k : κ) {y : V} {u : Value} (ry : RelV y u) : KV (putK kvs k y) (stored vs k u) := by
 unfold putK stored;rw [r.any k];by_cases e : (vs.any λ kv => decide (kv.1 = k)) = true
 .rw [if_pos e, if_pos e]; exact r.repl k ry
 .rw [if_neg e, if_neg e]; exact Paired.snoc r ⟨rfl, ry⟩
end
theorem Uq {P : Program} {w : World} {k : Key} {u : Value} (r : RelV (kV k) u) : (jo P w).is k u = true := by
 cases k with
 | inl i => obtain ⟨t, e⟩ := (show ∃ t, u = Value.int i t from r); subst e; exact zF P w i t
 | inr x => obtain ⟨t, e⟩ := (show ∃ t, u = Value.str x t from r); subst e; exact Bx P w x t
section
variable {X : Cx} {pins : List (Addr × Obj)} {σ : St} {H : Hp} {s : Shared} {a : Addr} {y v : V} {u r : Value} {o : Option V} {A : Around} {E : Value -> Shared -> Prop}
theorem Inv.big (I : Inv X pins σ H s) : sysModules < s.heap.objs.size := by
 have h : mainGlobals < s.heap.objs.size := (I.mod.glob.keeps I.bk).lt;exact Nat.lt_trans (by decide) h
end
theorem Js {P : Program} {w : World} {H : Hp} (h : Heap) (hb : sysModules < h.objs.size) : gM P w H (h.push { cls := .type "dict", data := .dict #[] }) h.objs.size (.dK []) :=
 ⟨Nat.zero_le _, beq_eq_false_iff_ne.mpr (Ne.symm (Zk hb)), [], .nil, Heap.DictOf.new h⟩
def Tf : TE := λ _ H Q => ∀ p, H p = none -> Q (.ref p) (upd H p (.dK []))
section
variable {X : Cx} {pos : Pos}
theorem Jk : PE X (.Dict [] [] pos) Tf := λ pins s σ H Q I h =>
 wpAny_Dict_empty ⟨.ref s.heap.objs.size, _, I.laid (a := s.heap.objs.size) (o := .dK []) (t' := s.toks) (λ _ _ q => Zb _ q) (Zg _) (Js s.heap I.big), rfl, h _ (I.hok.fresh (Zg _))⟩
end
def Cg : List (TE × TE) -> St -> Hp -> (List (V × V) -> Hp -> Prop) -> Prop
 | [], _, H, Q => Q [] H
 | (tk, tv) :: r, σ, H, Q => tk σ H λ x H1 => tv σ H1 λ y H2 => Cg r σ H2 λ ps H3 => Q ((x, y) :: ps) H3
abbrev VV : List (V × V) -> List (Value × Value) -> Prop := Paired λ p q => RelV p.1 q.1 /\ RelV p.2 q.2
def PPs (X : Cx) (pos : Pos) (keys : List (Option Expr)) (values : List Expr) (trs : List (TE × TE)) : Prop :=
 ∀ (pins : List (Addr × Obj)) (s : Shared) (σ : St) (H : Hp) (Q : List (V × V) -> Hp -> Prop), Inv X pins σ H s -> Cg trs σ H Q ->
  wpAny (model X.prog X.w) X.A (evalPairs (pairTrees keys values X.env pos)) (λ vs s' => ∃ ps H', Inv X pins σ H' s' /\ VV ps vs /\ Q ps H') X.xe s
theorem LC {X : Cx} {pos : Pos} : PPs X pos [] [] [] := λ pins s σ H Q I h => pairTrees_nil_walk ⟨[], H, I, .nil, h⟩
theorem JG {X : Cx} {pos : Pos} {k v : Expr} {ks : List (Option Expr)} {vs : List Expr} {tk tv : TE} {trs : List (TE × TE)} (hk : PE X k tk) (hv : PE X v tv) (hr : PPs X pos ks vs trs) :
  PPs X pos (some k :: ks) (v :: vs) ((tk, tv) :: trs) := λ pins s σ H Q I h =>
 pairTrees_cons_walk (thn (hk pins s σ H _ I h) λ u s1 ⟨x, H1, I1, rx, q1⟩ => thn (hv pins s1 σ H1 _ I1 q1) λ w2 s2 ⟨y, H2, I2, ry, q2⟩ =>
  thn (hr pins s2 σ H2 _ I2 q2) λ ws s3 ⟨ps, H3, I3, rel, q3⟩ => ⟨(x, y) :: ps, H3, I3, .cons ⟨rx, ry⟩ rel, q3⟩)
def CW (kvs more : List (Key × V)) : List (Key × V) := more.foldl (λ acc kv => putK acc kv.1 kv.2) kvs
theorem KV.merge : ∀ {more : List (Key × V)} {rs : List (Key × Value)} {kvs : List (Key × V)} {vs : List (Key × Value)}, KV more rs -> KV kvs vs -> KV (CW kvs more) (merged vs rs) := by
 intro more rs kvs vs r;unfold KV at r
 induction r generalizing kvs vs with
 | nil => intro q; exact q
 | @cons p q ps qs h t ih =>
  intro r0;have e : KV (putK kvs p.1 p.2) (stored vs q.1 q.2) := by
   have := r0.put p.1 h.2;rw [<- h.1]; exact this
  exact ih e
theorem uU {P : Program} {w : World} : ∀ {kvs : List (Key × V)} {ws : List (Value × Value)}, VV (kvs.map λ kv => (kV kv.1, kv.2)) ws -> ∃ rs, Carries (jo P w) ws rs /\ KV kvs rs
 | [], _, r => by rw [List.map_nil] at r; cases r; exact ⟨[], True.intro, .nil⟩
 | p :: kvs, _, r => by
  rw [Zj] at r;cases r with
  | @cons a b as bs h t =>
   obtain ⟨rs, c, q⟩ := uU (P := P) (w := w) t;obtain ⟨b1, b2⟩ := b;exact ⟨(p.1, b2) :: rs, ⟨Uq h.1, rfl, c⟩, .cons ⟨rfl, h.2⟩ q⟩
section
variable {X : Cx} {pins : List (Addr × Obj)} {σ : St} {H H2 : Hp} {s s2 : Shared} {h' : Heap} {p : Addr} {o : HO} {ob : Obj} {t' : Nat}
theorem Inv.pin1 (I : Inv X pins σ H s) (hd : ∀ v, ob.data ≠ .cell v) (hfr : ob.isFreed = false) : Inv X (pins ++ [(s.heap.objs.size, ob)]) σ H { s with heap := s.heap.push ob } := by
 have I1 : Inv X pins σ H { s with heap := s.heap.push ob } := I.kept (t' := s.toks) λ b u e => Zb _ e
 refine I1.pins_of λ q hq => ?_
 rcases Zm.mp hq with z | z
 .exact I1.pin q (Zn _ z)
 .have e : q = (s.heap.objs.size, ob) := by simpa using z
  subst e;exact ⟨Zf _ hfr, I.hok.fresh (Zg _), Nat.ne_of_gt I.lt, I.nofs (Zg _), hd⟩
theorem Inv.track (I0 : Inv X pins σ H s) (hp : s.heap.objs.size <= p) (I : Inv X (pins ++ [(p, ob)]) σ H2 s2) (k : ∀ b u, b ≠ p -> s2.heap.get? b = some u -> h'.get? b = some u) (he : ∃ u, h'.get? p = some u) (new : gM X.prog X.w (upd H2 p o) h' p o) :
  Inv X pins σ (upd H2 p o) { s2 with heap := h', toks := t' } := by
 obtain ⟨h1, h2, h3, h4, h5⟩ := I.pin (p, ob) (by simp)
 have J : Inv X pins σ H2 s2 := I.pins_of λ q hq => I.pin q (by simp only [Zm]; exact .inr (.inl hq))
 have np : ∀ b u, H2 b = some u -> b ≠ p := λ b u e z => by rw [z, h2] at e; cases e
 refine J.step (g' := s2.gens) (d' := s2.drawn) (t' := t') (ch := [p]) (λ b hb => ?_) (λ b o _ _ hc e _ => k b o (λ z => hc (by simp [z])) e) (λ b o _ _ hc e _ => ⟨o.slots, k b o (λ z => hc (by simp [z])) e⟩)
  (λ b o hc e n => ?_) (λ b o hc e => ⟨o, k b o (λ z => hc (by simp [z])) e⟩) (λ b xs e => ?_) (λ b o u e => ?_) (λ b ps e => ⟨#[], ?_⟩) (λ m hm => ?_) (λ b u e => ?_) J.bare.again
 .have e : b = p := by simpa using hb
  subst e;refine ⟨.inr (Zl I0.sz hp), h3, λ x c e z => ?_, λ q hq z => ?_⟩
  .obtain ⟨v, oc, hc, _⟩ := I0.cell x c e;have := Ze hc;rw [z] at this;exact absurd this (Nat.not_lt.mpr hp)
  .have := Ze (I0.pin q hq).1;rw [z] at this;exact absurd this (Nat.not_lt.mpr hp)
 .rw [aR (λ z => hc (by simp [z]))]; exact n
 .rw [aR (np b _ e)]; exact e
 .rw [aR (np b _ e)]; exact e
 .rw [aR (np b _ e), e]; simp
 .obtain ⟨o, es, ep, ho, r⟩ := hm;exact ⟨o, es, ep, k _ o (Ne.symm h3) ho, r⟩
 .by_cases hb : b = p
  .subst hb;rw [dG] at e;cases e;exact new
  .rw [aR hb] at e;refine (J.hok b u e).stay (λ c v hc q => k c v ?_ q) (λ c q => by rw [aR (np c _ q)]; exact q) λ c xs q => by rw [aR (np c _ q)]; exact q
   rcases hc with z | z
   .rw [z]; exact hb
   .exact np c _ z
end
def QC (tk tv : TE) : TE := λ σ H Q => tk σ H λ x H1 => tv σ H1 λ y H2 => ∃ k : Key, x = kV k /\ ∀ p, H2 p = none -> Q (.ref p) (upd H2 p (.dK [(k, y)]))
theorem Io {X : Cx} {pos : Pos} {k v : Expr} {tk tv : TE} (hk : PE X k tk) (hv : PE X v tv) : PE X (.Dict [some k] [v] pos) (QC tk tv) := by
 intro pins s σ H Q I q;have I1 := I.pin1 (ob := { cls := .type "dict", data := .dict #[] }) (λ v z => by cases z) rfl
 have h := JG (pos := pos) hk hv LC;refine wpAny_Dict_walk (knd := jo X.prog X.w) rfl rfl (by simp) (by simp) (thn (h (pins ++ [(s.heap.objs.size, { cls := .type "dict", data := .dict #[] })]) _ σ H (λ ps H2 => ∃ (k : Key) (y : V), ps = [(kV k, y)] /\ ∀ p, H2 p = none -> Q (.ref p) (upd H2 p (.dK [(k, y)]))) I1 ?_) λ ws s2 ⟨ps, H2, I2, rel, k, y, ep, q2⟩ => ?_)
 .have : Cg [(tk, tv)] σ H (λ ps H2 => ∃ (k : Key) (y : V), ps = [(kV k, y)] /\ ∀ p, H2 p = none -> Q (.ref p) (upd H2 p (.dK [(k, y)]))) = tk σ H λ x H1 => tv σ H1 λ y H2 => ∃ (k : Key) (y' : V), [(x, y)] = [(kV k, y')] /\ ∀ p, H2 p = none -> Q (.ref p) (upd H2 p (.dK [(k, y')])) := rfl;rw [this];have e2 : (λ x H1 => tv σ H1 λ y H2 => ∃ k : Key, x = kV k /\ ∀ p, H2 p = none -> Q (.ref p) (upd H2 p (.dK [(k, y)]))) = (λ x H1 => tv σ H1 λ y H2 => ∃ (k : Key) (y' : V), [(x, y)] = [(kV k, y')] /\ ∀ p, H2 p = none -> Q (.ref p) (upd H2 p (.dK [(k, y')]))) := by
   funext x H1
   congr 1
   funext y H2
   apply propext
   constructor
   .rintro ⟨k, rfl, h⟩;exact ⟨k, y, rfl, h⟩
   .rintro ⟨k, y', e, h⟩;simp only [List.cons.injEq, Prod.mk.injEq, and_true] at e;obtain ⟨rfl, rfl⟩ := e;exact ⟨k, rfl, h⟩
  rw [<- e2];exact q
 .subst ep;obtain ⟨rs, c, rk⟩ := uU (P := X.prog) (w := X.w) (kvs := [(k, y)]) rel;obtain ⟨h1, h2, _⟩ := I2.pin (s.heap.objs.size, { cls := .type "dict", data := .dict #[] }) (by simp)
  have dd : s2.heap.DictOf (jo X.prog X.w) s.heap.objs.size [] := by
   obtain ⟨o, es, ep, e1, e2, e3, e4⟩ := Heap.DictOf.new (knd := jo X.prog X.w) s.heap;rw [Zf _ rfl] at e1;cases e1;exact ⟨_, es, ep, h1, e2, e3, e4⟩
  refine ⟨rs, c, dd, λ h' dd' hs => ⟨.ref s.heap.objs.size, _, ?_, rfl, q2 _ h2⟩⟩;have he : ∃ q, h'.get? s.heap.objs.size = some q := let ⟨q, _, _, hq, _⟩ := dd'; ⟨q, hq⟩;have hm : KV (CW [] [(k, y)]) (merged [] rs) := rk.merge .nil;have e : CW [] [(k, y)] = [(k, y)] := rfl;rw [e] at hm;refine I.track (Zg _) I2 (λ b u hb e => (hs.2 b hb).trans e) he (show gM X.prog X.w _ h' _ (.dK [(k, y)]) from ⟨?_, ?_, _, hm, dd'⟩)
  .show 1 <= sizeLine;rw [sizeLine_eq]; decide
  .exact beq_eq_false_iff_ne.mpr (Ne.symm (Zk I.big))
end L2
namespace L3
open PySem PySem.Spec PyProof.Rows L2
def NB : D -> Option Key
 | .int i => some (.inl i)
 | .str x => some (.inr x)
 | _ => none
theorem Pq {K : PySem.W.Frag} {tb : List Addr} {W : Wd} {x : D} {v : V} {k : Key} (h : Den K tb W x v) (e : NB x = some k) : v = kV k := by
 cases x with
 | int i => cases e; exact bB h
 | str z => cases e; exact vA h
 | _ => cases e
def Ek : EF := λ _ μ => some (.dic [], μ)
def uK (fk fv : EF) : EF := λ δ μ => (fk δ μ).bind λ r => (fv δ r.2).bind λ q => (NB r.1).map λ k => (.dic [(k, q.1)], q.2)
section
variable {X : Cx} {tb : List Addr} {k v : Expr} {fk fv : EF} {pos : Pos}
theorem Fe {K : PySem.W.Frag} {W : Wd} {Q : VK} {kvs : List (Key × D)} {ps : List (Key × V)} {p : Addr} (ok : WOk K tb W) (h : ∀ v W', WOk K tb W' -> Le tb W W' -> W'.mu = W.mu -> Den K tb W' (.dic kvs) v -> Q v W'.H) (r : gC K (W.fz tb) W.ad kvs ps) (hp : W.H p = none) : Q (.ref p) (upd W.H p (.dK ps)) := by
 obtain ⟨ok', le, e⟩ := ok.alloc (o := .dK ps) hp;refine h (.ref p) _ ok' le rfl ?_;show bx _ _ _ _ _;unfold bx;exact ⟨p, ps, rfl, e, gC.mono le.same le.ad _ _ r⟩
theorem Oh : PD X tb (.Dict [] [] pos) Ek := dU Jk λ σ H Q zq1 => by
 obtain ⟨W, δ, d, μ', e, ok, hd, hf, h⟩ := zq1;subst e; cases hf;exact λ p hp => Fe ok h (by unfold gC; rfl) hp
theorem Eo (hk : PD X tb k fk) (hv : PD X tb v fv) : PD X tb (.Dict [some k] [v] pos) (uK fk fv) := dU (Io hk hv) λ σ H Q zq2 => by
 obtain ⟨W, δ, d, μ', e, ok, hd, hf, h⟩ := zq2;unfold uK at hf;obtain ⟨⟨x, μ1⟩, e1, hf⟩ := Za.mp hf;obtain ⟨⟨y, μ2⟩, e2, hf⟩ := Za.mp hf;obtain ⟨k, e3, e4⟩ := Zp.mp hf;cases e4;refine ⟨W, δ, x, μ1, e, ok, hd, e1, λ v W1 ok1 l1 m1 d1 => ⟨W1, δ, y, _, rfl, ok1, hd.mono' l1, (by rw [m1]; exact e2), λ u W2 ok2 l2 m2 d2 => ⟨k, Pq d1 e3, λ p hp => ?_⟩⟩⟩
 exact Fe ok2 (λ v' W' ok' l' m' d' => h v' W' ok' ((l1.trans l2).trans l') (m'.trans m2) d') (by unfold gC; exact ⟨_, _, rfl, ⟨rfl, d2⟩, by unfold gC; rfl⟩) hp
end
theorem Hb : jF X (.type "range") (λ xs H Q => ∃ j, xs = [.int j] /\ ∀ p, H p = none -> Q (.ref p) (upd H p (.rng 0 j))) := by
 intro pins s σ H xs us Q I r h;obtain ⟨j, rfl, q⟩ := h;obtain ⟨u, rfl, ⟨t, rfl⟩⟩ := vals1 r;exact call_range_1 ⟨.ref s.heap.objs.size, _, I.laid (a := s.heap.objs.size) (o := .rng 0 j) (λ b o e => Zb _ e) (Zg _) ⟨_, _, _, Zf _ rfl⟩, rfl, q _ (I.hok.fresh (Zg _))⟩
def JX (lo : Int) (n : Nat) : List V := (List.range n).map λ (k : Nat) => V.int (lo + (k : Int))
theorem xV {lo : Int} : ∀ {acc : List Value} {n k : Nat}, acc.length = n -> (∀ j v, acc[j]? = some v -> ∃ t, v = Value.int (lo + ((k + j : Nat) : Int)) t) -> Vals ((List.range' k n).map λ (i : Nat) => V.int (lo + (i : Int))) acc
 | [], n, k, e, _ => by cases e; exact .nil
 | v :: r, n, k, e, h => by
  cases e;rw [List.length_cons, List.range'_succ, Zj];refine .cons ?_ (xV rfl λ j u hu => ?_)
  .obtain ⟨t, q⟩ := h 0 v rfl;exact ⟨t, by simpa using q⟩
  .obtain ⟨t, q⟩ := h (j + 1) u hu;exact ⟨t, by rw [q]; congr 2; omega⟩
theorem wB {X : Cx} (hc : X.calm = true) : jF X (.type "list") (λ xs H Q => ∃ p i j, xs = [.ref p] /\ H p = some (.rng i j) /\ (-(2 ^ 62) <= i /\ i < 2 ^ 62 /\ -(2 ^ 62) <= j /\ j < 2 ^ 62) /\ (j - i).toNat <= sizeLine /\ ∀ l, H l = none -> Q (.ref l) (upd H l (.lst (JX i (j - i).toNat)))) := by
 intro pins s σ H xs us Q I r h;obtain ⟨p, i, j, rfl, hp, ⟨h1, h2, h3, h4⟩, hz, q⟩ := h;obtain ⟨u, rfl, rx⟩ := vals1 r;cases rx;obtain ⟨t, u, v, ho⟩ := I.hok p _ hp;have hn : Builtin.Range.rangeSize i j 1 = ((j - i).toNat : Nat) := by rw [rangeSize_one]; split <;> omega
 refine call_list_range (I.ok.hd hc) ho (small_one h1 h2 h3 h4) hn (by rw [sizeLine_eq] at hz; omega) λ h' tk acc' c' kp e it => ?_
 obtain ⟨e1, e2⟩ := it;have hv : Vals (JX i (j - i).toNat) acc'.toList := by
  unfold JX;rw [List.range_eq_range'];refine xV (by simpa using e1) λ k v hk => ?_
  obtain ⟨t, q⟩ := e2 k v (by simpa using hk)
  exact ⟨t, by rw [q]; congr 1; first | done | omega⟩
 exact ⟨.ref s.heap.objs.size, _, I.laid (t' := tk) kp (Zg _) (show gM X.prog X.w _ h' _ (.lst _) from ⟨by rw [hv.length]; simpa [e1] using hz, acc'.toList, c', hv, by rw [Array.toArray_toList]; exact e⟩), rfl, q _ (I.hok.fresh (Zg _))⟩
def Et (fs : AF) : LF := λ δ μ => (fs δ μ).bind λ r => match r.1 with
 | [.int j] => if -(2 ^ 62) <= j /\ j < 2 ^ 62 /\ j.toNat <= sizeLine then some (dY 0 j.toNat, r.2) else none
 | _ => none
theorem Fi {K : PySem.W.Frag} {F : Hp} {ad : List Addr} {lo : Int} : ∀ (l : List Nat), aD K F ad (l.map λ (k : Nat) => D.int (lo + (k : Int))) (l.map λ (k : Nat) => V.int (lo + (k : Int)))
 | [] => aD.nil
 | k :: l => aD.cons (by unfold bx; rfl) (Fi l)
section
variable {X : Cx} {tb : List Addr} {a b : Expr} {fs : AF} {p p2 pos pos2 : Pos}
theorem Kr (hc : X.calm = true) (hm : X.mg "list" = none) (hm2 : X.mg "range" = none) (ha : PAD X tb [a] fs) (hg : Gl X "list" := by rfl) (hg2 : Gl X "range" := by rfl) (he : starEach [a] X.env = (false, eval a X.env) :: starEach [] X.env := by rfl)
  (he2 : starEach [.Call (.Name "range" p2) [a] [] pos2] X.env = (false, eval (.Call (.Name "range" p2) [a] [] pos2) X.env) :: starEach [] X.env := by rfl) :
  PDN X tb (.Call (.Name "list" p) [.Call (.Name "range" p2) [a] [] pos2] [] pos) (Et fs) :=
 dU (rE (wB hc) hg hm PyProof.Rows.boot_list (qm (rE Hb hg2 hm2 PyProof.Rows.boot_range ha (by decide) (by decide) he (by rfl)) yG he2) (by decide) (by decide) he2 (by rfl)) λ σ H Q zq3 => by
  obtain ⟨W, δ, ds, μ', e, ok, hd, hf, k⟩ := zq3;unfold Et at hf;obtain ⟨⟨xs, μ1⟩, e1, e2⟩ := Za.mp hf
  match xs, e1, e2 with
  | [.int j], e1, e2 =>
   have e2' : (if -(2 ^ 62) <= j /\ j < 2 ^ 62 /\ j.toNat <= sizeLine then some (dY 0 j.toNat, μ1) else none) = some (ds, μ') := e2;split at e2'
   .rename_i hj;cases e2';refine ⟨W, δ, [.int j], _, e, ok, hd, e1, λ vs W1 ok1 l1 m1 d1 => ?_⟩;obtain ⟨v, rfl, dv⟩ := aD.one d1;rw [bB dv];refine ⟨j, rfl, λ q hq => ?_⟩;obtain ⟨ok2, l2, eq⟩ := ok1.alloc (o := .rng 0 j) hq;refine ⟨q, 0, j, rfl, dG, ⟨by omega, by omega, by omega, by omega⟩, by simpa using hj.2.2, λ l hl => ?_⟩
    have := k l (JX 0 (j - 0).toNat) _ ok2 (l1.trans l2) m1 hl (by simpa [dY, JX] using Fi (List.range j.toNat) (lo := 0))
    exact this
   .cases e2'
end
def rF (f : EF) : EF := λ δ μ => (f δ μ).bind λ r => match r.1 with
 | .cell n => (r.2.getD n none).map λ ds => (.lst ds, r.2.set n none)
 | d => some (d, r.2)
theorem qg (h : PD X tb e f) : PD X tb e (rF f) :=
 dU h λ σ H Q zq1 => by
  obtain ⟨W, δ, d, μ', e, ok, hd, hf, k⟩ := zq1;unfold rF at hf;obtain ⟨⟨x, μ1⟩, e1, e2⟩ := Za.mp hf;refine ⟨W, δ, x, μ1, e, ok, hd, e1, λ v W1 ok1 l1 m1 d1 => ?_⟩;cases x with
  | cell n =>
   obtain ⟨ds, e3, e4⟩ := Zp.mp e2;cases e4;obtain ⟨a, rfl, ea⟩ := iH d1;have em : W1.mu[n]? = some (some ds) := by
    rw [m1];rw [List.getD_eq_getElem?_getD] at e3;cases q : μ1[n]? with
    | none => rw [q] at e3; cases e3
    | some z => rw [q] at e3; exact congrArg some e3
   obtain ⟨ok2, l2, d2⟩ := ok1.freeze ea em;exact k _ ⟨W1.H, W1.ad, W1.mu.set n none⟩ ok2 (l1.trans l2) (by show W1.mu.set n none = _; rw [m1]) d2
  | _ => cases e2; exact k v W1 ok1 l1 m1 d1
mutual
def cLt (m : Nat) : D -> Bool
 | .tup ds => mj m ds
 | .lst ds => mj m ds
 | .ro ds => mj m ds
 | .dic kvs => wC m kvs
 | .cell n => decide (n < m)
 | _ => true
def mj (m : Nat) : List D -> Bool
 | [] => true
 | d :: ds => cLt m d && mj m ds
def wC (m : Nat) : List (Key × D) -> Bool
 | [] => true
 | p :: ds => cLt m p.2 && wC m ds
end
section
variable {K : PySem.W.Frag} {F F' : Hp} {ad : List Addr} {m : Nat}
mutual
theorem bx.cut (s : mY F F') : ∀ (d : D) (v : V), cLt m d = true -> bx K F ad d v -> bx K F' (ad.take m) d v
 | .non, v, _, h => by unfold bx at h ⊢; exact h
 | .bl _, v, _, h => by unfold bx at h ⊢; exact h
 | .int _, v, _, h => by unfold bx at h ⊢; exact h
 | .str _, v, _, h => by unfold bx at h ⊢; exact h
 | .tup ds, v, c, h => by
  unfold bx at h ⊢; unfold cLt at c;obtain ⟨a, xs, e, q, r⟩ := h;exact ⟨a, xs, e, SqT.mono s q, aD.cut s ds xs c r⟩
 | .lst ds, v, c, h => by
  unfold bx at h ⊢; unfold cLt at c;obtain ⟨a, xs, e, q, r⟩ := h;exact ⟨a, xs, e, s _ _ q, aD.cut s ds xs c r⟩
 | .ro ds, v, c, h => by
  unfold bx at h ⊢; unfold cLt at c;obtain ⟨a, xs, e, q, r⟩ := h;exact ⟨a, xs, e, SqL.mono s q, aD.cut s ds xs c r⟩
 | .dic kvs, v, c, h => by
  unfold bx at h ⊢; unfold cLt at c;obtain ⟨a, ps, e, q, r⟩ := h;exact ⟨a, ps, e, s _ _ q, gC.cut s kvs ps c r⟩
 | .cell n, v, c, h => by
  unfold bx at h ⊢; unfold cLt at c;obtain ⟨a, e, q⟩ := h;exact ⟨a, e, by rw [List.getElem?_take_of_lt (by simpa using c)]; exact q⟩
theorem aD.cut (s : mY F F') : ∀ (ds : List D) (vs : List V), mj m ds = true -> aD K F ad ds vs -> aD K F' (ad.take m) ds vs
 | [], vs, _, h => by unfold aD at h ⊢; exact h
 | d :: ds, vs, c, h => by
  unfold aD at h ⊢; unfold mj at c;have c := (Zo _ _).mp c;obtain ⟨u, us, e, p, r⟩ := h;exact ⟨u, us, e, bx.cut s d u c.1 p, aD.cut s ds us c.2 r⟩
theorem gC.cut (s : mY F F') : ∀ (ds : List (Key × D)) (vs : List (Key × V)), wC m ds = true -> gC K F ad ds vs -> gC K F' (ad.take m) ds vs
 | [], vs, _, h => by unfold gC at h ⊢; exact h
 | p :: ds, vs, c, h => by
  unfold gC at h ⊢; unfold wC at c;have c := (Zo _ _).mp c;obtain ⟨u, us, e, ⟨p1, p2⟩, r⟩ := h;exact ⟨u, us, e, ⟨p1, bx.cut s p.2 u.2 c.1 p2⟩, gC.cut s ds us c.2 r⟩
end
end
def cOk (m : Nat) (μ : Mu) : Bool := μ.all λ o => match o with
 | some ds => mj m ds
 | none => true
theorem WOk.cut {K : PySem.W.Frag} {tb : List Addr} {W : Wd} {m : Nat} (ok : WOk K tb W) (c : cOk m (W.mu.take m) = true) :
  WOk K tb ⟨W.H, W.ad.take m, W.mu.take m⟩ /\ mY (W.fz tb) (Wd.fz tb ⟨W.H, W.ad.take m, W.mu.take m⟩) := by
 have lv : ∀ b, ni (W.ad.take m) (W.mu.take m) b -> ni W.ad W.mu b := λ b zq2 => by
  obtain ⟨i, es, e1, e2⟩ := zq2;have h1 : i < m := by have := (Zh.mp e1).1; simp at this; omega
  rw [List.getElem?_take_of_lt h1] at e1 e2;exact ⟨i, es, e1, e2⟩
 have sm : mY (W.fz tb) (Wd.fz tb ⟨W.H, W.ad.take m, W.mu.take m⟩) := λ b u e => by
  obtain ⟨e1, e2, e3⟩ := dM e;have q := pH (tb := tb) (W := ⟨W.H, W.ad.take m, W.mu.take m⟩) (b := b) (λ z => e2 (lv b z)) e3;rw [q]; exact e1
 refine ⟨⟨by simp [ok.len], λ i a ds e1 e2 => ?_, λ i j a ds es e1 e2 e3 e4 => ?_, ok.tab⟩, sm⟩
 .have h1 : i < m := by have := (Zh.mp e1).1; simp at this; omega
  have cd : mj m ds = true := by
   have := List.all_eq_true.mp c (some ds) (List.mem_of_getElem? e2);exact this
  have e1' : (W.ad.take m)[i]? = some a := e1;have e2' : (W.mu.take m)[i]? = some (some ds) := e2;rw [List.getElem?_take_of_lt h1] at e1' e2';obtain ⟨xs, e, r⟩ := ok.cont i a ds e1' e2';exact ⟨xs, e, aD.cut sm ds xs cd r⟩
 .have h1 : i < m := by have := (Zh.mp e1).1; simp at this; omega
  have h2 : j < m := by have := (Zh.mp e2).1; simp at this; omega
  have e1' : (W.ad.take m)[i]? = some a := e1;have e2' : (W.ad.take m)[j]? = some a := e2;have e3' : (W.mu.take m)[i]? = some (some ds) := e3;have e4' : (W.mu.take m)[j]? = some (some es) := e4;rw [List.getElem?_take_of_lt h1] at e1' e3';rw [List.getElem?_take_of_lt h2] at e2' e4';exact ok.inj i j a ds es e1' e2' e3' e4'
def trunc (φ : FF) : FF := λ ds μ => (φ ds μ).bind λ r => if (cLt μ.length r.1 && cOk μ.length (r.2.take μ.length)) = true then some (r.1, r.2.take μ.length) else some r
theorem FI.trunc {P : Program} {w : World} {K : PySem.W.Frag} {mg : Str -> Option Value} {base : Heap} {tb : List Addr} {x : Str} {n k : Nat} {φ : FF} (F : FI P w K mg base tb x n k φ) : FI P w K mg base tb x n k (trunc φ) := by
 obtain ⟨f, fd, ps, h1, h2⟩ := F.is;refine ⟨f, fd, ps, h1.imp λ vs H Q E ⟨W, ds, d, μ', e, ok, dl, hl, hf, k⟩ => ?_, h2⟩;unfold L3.trunc at hf;obtain ⟨⟨d1, μ1⟩, e1, e2⟩ := Za.mp hf;split at e2
 .rename_i hc;have hc := (Zo _ _).mp hc;cases e2;refine ⟨W, ds, d1, μ1, e, ok, dl, hl, e1, λ v W' ok' l' m' d' => ?_⟩;obtain ⟨ok2, sm⟩ := ok'.cut (m := W.mu.length) (by rw [m']; exact hc.2)
  exact k v ⟨W'.H, W'.ad.take W.mu.length, W'.mu.take W.mu.length⟩ ok2 ⟨l'.same.trans sm, λ i x q => by
   have hi : i < W.mu.length := by rw [<- ok.len]; exact (Zh.mp q).1
   show (W'.ad.take W.mu.length)[i]? = some x;rw [List.getElem?_take_of_lt hi]; exact l'.ad i x q⟩ (by show W'.mu.take _ = _; rw [m']) (bx.cut sm d1 v hc.1 d')
 .cases e2;exact ⟨W, ds, d, μ', e, ok, dl, hl, e1, k⟩
theorem jg {φ : FF} {ds : List D} {μ μ' : Mu} {d : D} (h : φ ds μ = some (d, μ')) (hl : μ'.length = μ.length) : trunc φ ds μ = some (d, μ') := by
 unfold trunc;rw [h];simp only [Option.bind_some];rw [<- hl, List.take_length];split <;> rfl
theorem iu {φ : FF} {ds : List D} {μ : Mu} {d : D} (h : φ ds μ = some (d, μ)) : trunc φ ds μ = some (d, μ) := jg h rfl
theorem zX {K : PySem.W.Frag} {F : Hp} {ad : List Addr} : ∀ {ds : List D} {vs : List V} {d : D} {v : V} (j : Nat), aD K F ad ds vs -> bx K F ad d v -> aD K F ad (ds.set j d) (vs.set j v)
 | [], vs, d, v, j, r, h => by
  unfold aD at r;subst r;exact aD.nil
 | x :: ds, vs, d, v, j, r, h => by
  unfold aD at r;obtain ⟨u, us, rfl, p, r⟩ := r;cases j with
  | zero => exact aD.cons h r
  | succ j => exact aD.cons p (zX j r h)
def Ay (x o i : D) (μ : Mu) : Option Mu := match o, i with
 | .cell n, .int k => match μ[n]? with
  | some (some ds) => (ixN ds.length k).map λ j => μ.set n (some (ds.set j x))
  | _ => none
 | _, _ => none
def wk (f fo fi : EF) : SF := λ δ μ => (f δ μ).bind λ r => (fo δ r.2).bind λ o => (fi δ o.2).bind λ i => (Ay r.1 o.1 i.1 i.2).map λ μ' => (.nx, δ, μ')
theorem yV (he : PD X tb e f) (ho : PD X tb o fo) (hi : PD X tb i fi)
  (ha : ∀ v, assign (.Subscript o i pos') X.env v = (do
   let ov <- holding [v] (eval o X.env)
   let iv <- holding [v, ov] (eval i X.env)
   standAt pos'
   holding [v, ov, iv] (setItem ov iv v)
   release [v, ov, iv] []) := by intro _; rfl)
  (hs : swapsWithSole [.Subscript o i pos'] e pos.line X.env = pure false := by rfl) (hw : swappedStores [.Subscript o i pos'] e X.env = pure none := by rfl)
  (h1 : (assignEach [.Subscript o i pos'] X.env).map (·.2) = [assign (.Subscript o i pos') X.env] := by rfl) : PSD X tb (.Assign [.Subscript o i pos'] e pos) (wk f fo fi) :=
 lL (Ja he (Ry ho hi set_list ha) hs hw h1) λ E σ H zq1 => by
  obtain ⟨W, δ, fl, δ', μ', e, ok, hd, hf, h⟩ := zq1;unfold wk at hf;obtain ⟨⟨x, μ1⟩, e1, hf⟩ := Za.mp hf;obtain ⟨⟨c, μ2⟩, e2, hf⟩ := Za.mp hf;obtain ⟨⟨k, μ3⟩, e3, hf⟩ := Za.mp hf;obtain ⟨μ4, e4, e5⟩ := Zp.mp hf;cases e5;refine ⟨W, δ, x, μ1, e, ok, hd, e1, λ v W1 ok1 l1 m1 d1 => ⟨W1, δ, c, μ2, rfl, ok1, hd.mono' l1, (by rw [m1]; exact e2), λ u W2 ok2 l2 m2 d2 => ⟨W2, δ, k, μ3, rfl, ok2, hd.mono' (l1.trans l2), (by rw [m2]; exact e3), λ y W3 ok3 l3 m3 d3 => ?_⟩⟩⟩
  have d2 := Den.mono' d2 l3;have d1 := Den.mono' d1 (l2.trans l3);cases c with
  | cell n =>
   cases k with
   | int k =>
    have e4' : (match μ3[n]? with | some (some ds) => (ixN ds.length k).map λ j => μ3.set n (some (ds.set j x)) | _ => none) = some μ' := e4
    cases e6 : μ3[n]? with
    | none => rw [e6] at e4'; cases e4'
    | some oo =>
     cases oo with
     | none => rw [e6] at e4'; cases e4'
     | some ds =>
      rw [e6] at e4';obtain ⟨j, e7, e8⟩ := Zp.mp e4';obtain ⟨a, rfl, q⟩ := iH d2;have e6 : W3.mu[n]? = some (some ds) := by rw [m3]; exact e6
      obtain ⟨xs, ex, r⟩ := ok3.cont n a ds q e6;refine ⟨a, xs, k, j, rfl, bB d3, ex, by rw [<- aD.length r]; exact e7, ?_⟩
      obtain ⟨ok4, l4⟩ := ok3.write q e6 (zX j r d1);exact h _ _ ok4 (((l1.trans l2).trans l3).trans l4) (by rw [<- e8, <- m3]) (hd.mono' (((l1.trans l2).trans l3).trans l4))
   | _ => cases e4
  | _ => cases e4
def Gd (i : Nat) (f : EF) (op : O2) : SF := λ δ μ => match δ[i]? with
 | some (some x) => (f δ μ).bind λ r => (op x r.1 r.2).map λ z => (.nx, δ.set i (some z.1), z.2)
 | _ => none
def Vl : O2
 | .int i, .int j, μ => some (.int (i + j), μ)
 | _, _, _ => none
def FN : O2
 | .int i, .int j, μ => if jL i j <= 134217728 then some (.int (i * j), μ) else none
 | _, _, _ => none
theorem Mt : PIp X .Mult (λ x y H Q => ∃ i j, x = .int i /\ y = .int j /\ jL i j <= 134217728 /\ Q (.int (i * j)) H) := by
 intro pins s σ H x y v u Q I r1 r2 h;obtain ⟨i, j, e1, e2, hb, q⟩ := h;subst e1; subst e2;obtain ⟨t, rfl⟩ := r1;obtain ⟨t', rfl⟩ := r2;exact imul_int ⟨.int _, H, I.tok _, ⟨_, rfl⟩, q⟩ (IntMulOk.of_le (Zg _) (Zg _) hb)
section
variable {X : Cx} {tb : List Addr} {e : Expr} {f : EF} {pos pos' : Pos} {i : Nat} {x : Str}
theorem QL (hN : X.N.Nodup) (he : PD X tb e f) (hip : PIp X op ti) (hi : X.N[i]? = some x) (hx : Loc X.env.scope x) (hf : X.fn x = true ∨ X.env.scope.names.lookup x = some .local)
  (ho : ∀ x y μ d μ', o x y μ = some (d, μ') -> μ' = μ /\ ∃ a b c, x = .int a /\ y = .int b /\ d = .int c /\ ∀ H Q, Q (.int c) H -> ti (.int a) (.int b) H Q) : PSD X tb (.AugAssign (.Name x pos') op e pos) (Gd i f o) :=
 lL (RN hN hi hx he hip hf) λ E σ H zq2 => by
  obtain ⟨W, δ, fl, δ', μ', e, ok, hd, hf, h⟩ := zq2;unfold Gd at hf;cases e0 : δ[i]? with
  | none => rw [e0] at hf; cases hf
  | some oo =>
   cases oo with
   | none => rw [e0] at hf; cases hf
   | some z =>
    rw [e0] at hf;obtain ⟨⟨y, μ1⟩, e1, hf⟩ := Za.mp hf;obtain ⟨⟨d, μ2⟩, e2, e3⟩ := Zp.mp hf;obtain ⟨rfl, a, b, c, rfl, rfl, rfl, q⟩ := ho _ _ _ _ _ e2;cases e3;obtain ⟨v, ev, dv⟩ := hd.2 i _ e0;rw [bB dv] at ev;refine ⟨.int a, ev, W, δ, _, _, e, ok, hd, e1, λ u W1 ok1 l1 m1 d1 => ?_⟩;rw [bB d1];exact q _ _ (h _ W1 ok1 l1 m1 ((hd.mono' l1).set eO))
theorem Ea (hN : X.N.Nodup) (he : PD X tb e f) (hi : X.N[i]? = some x := by rfl) (hx : Loc X.env.scope x := by first | exact Or.inl rfl | exact Or.inr rfl) (hf : X.fn x = true ∨ X.env.scope.names.lookup x = some .local := by first | exact .inl rfl | exact .inr rfl | assumption) : PSD X tb (.AugAssign (.Name x pos') .Mult e pos) (Gd i f FN) :=
 QL hN he Mt hi hx hf λ x y μ d μ' h => by
  unfold FN at h;split at h
  .split at h
   .rename_i hb;cases h;exact ⟨rfl, _, _, _, rfl, rfl, rfl, λ H Q q => ⟨_, _, rfl, rfl, hb, q⟩⟩
   .cases h
  .cases h
end
def eqF : D -> D -> Bool
 | .non, .non => true
 | .bl a, .bl b => a == b
 | .bl a, .int b => (if a then 1 else 0) == b
 | .int a, .bl b => a == (if b then 1 else 0)
 | .int a, .int b => a == b
 | .str a, .str b => a == b
 | _, _ => false
def inF (x : D) (ds : List D) : Bool := ds.any λ y => eqF y x
open PySem.SeqAt
theorem JC (hr : eG k X.A) : OpR X (compareOp .NotEq) (λ v u H Q => ∃ a b xs ys, v = .ref a /\ u = .ref b /\ SqL X.K H a xs /\ SqL X.K H b ys /\ xs.length ≠ ys.length /\ Q (.bl true) H) := by
 intro pins s σ H v u vv uu Q I rv ru h;obtain ⟨a, b, xs, ys, rfl, rfl, hx, hy, hl, q⟩ := h;have hun := hr.un;cases rv;cases ru;obtain ⟨its0, iv0, pl0, hz0⟩ := I.list hx;obtain ⟨its1, iv1, pl1, hz1⟩ := I.list hy;have hl' : its0.length ≠ its1.length := by rw [<- iv0.length, <- iv1.length]; exact hl
 exact RcNeAt.lists_lengths (A := X.A) pl0.isList pl1.isList (by simpa using hl') (by omega) X.prog X.w X.xe _ ⟨.bl true, H, I, rfl, q⟩
def Dp : O2 := λ x y μ => match x, y with
 | .lst ds, .lst [] => some (.bl (!ds.isEmpty), μ)
 | x, y => oNe x y μ
theorem Cy : Dp x y μ = oNe x y μ ∨ ∃ d ds, x = .lst (d :: ds) /\ y = .lst [] /\ Dp x y μ = some (.bl true, μ) := by
 unfold Dp;split
 .rename_i ds;cases ds with
  | nil => left; unfold oNe rsv; simp [cN, eY, ir, jz, eqD, jd]
  | cons d ds => exact .inr ⟨d, ds, rfl, rfl, rfl⟩
 .exact .inl rfl
theorem QH {X : Cx} {tb : List Addr} {k : Nat} (hr : eG k X.A) : OpD X tb (compareOp .NotEq) Dp := ⟨_, (Jh hr).or (JC hr), λ W x y v u d μ' Q ok dx dy ho h => by
 rcases Cy (x := x) (y := y) (μ := W.mu) with e | ⟨d', ds, rfl, rfl, e⟩
 .rw [e] at ho;unfold oNe at ho;split at ho
  .rename_i hc;cases ho;rw [Zo] at hc;exact .inl ⟨_, _, nZ ok dx hc.1.1, nZ ok dy hc.1.2, hc.2, put ok h fG⟩
  .cases ho
 .rw [e] at ho;cases ho;obtain ⟨a, xs, rfl, q, r⟩ := lE dx;obtain ⟨b, ys, rfl, q2, r2⟩ := lE dy;refine .inr ⟨a, b, xs, ys, rfl, rfl, SqL.fz q, SqL.fz q2, ?_, put ok h fG⟩;have h1 := aD.length r;have h2 := aD.length r2;simp at h1 h2;omega⟩
def lSl (f : EF) (fl fh : PF) : LF := λ δ μ => (f δ μ).bind λ r => (fl δ r.2).bind λ l => (fh δ l.2).bind λ u => match r.1 with
 | .lst ds => some (L3.cutD ds l.1 u.1, u.2)
 | .ro ds => some (L3.cutD ds l.1 u.1, u.2)
 | _ => none
theorem Hy {X : Cx} {tb : List Addr} {e : Expr} {lo hi : Option Expr} {f : EF} {fl fh : PF} {pos p2 : Pos} (he : PD X tb e f) (hl : POD X tb lo fl) (hh : POD X tb hi fh) : PDN X tb (.Subscript e (.Slice lo hi none p2) pos) (lSl f fl fh) :=
 dU (Aj Ft he hl hh) λ σ H Q zq1 => by
  obtain ⟨W, δ, ds, μ', e, ok, hd, hf, h⟩ := zq1;unfold lSl at hf;obtain ⟨⟨x, μ1⟩, e1, hf⟩ := Za.mp hf;obtain ⟨⟨l, μ2⟩, e2, hf⟩ := Za.mp hf;obtain ⟨⟨u, μ3⟩, e3, hf⟩ := Za.mp hf;refine ⟨W, δ, x, μ1, e, ok, hd, e1, λ v W1 ok1 l1 m1 d1 => ⟨W1, δ, l, μ2, rfl, ok1, hd.mono' l1, (by rw [m1]; exact e2), λ W2 ok2 l2 m2 => ⟨W2, δ, u, μ3, rfl, ok2, hd.mono' (l1.trans l2), (by rw [m2]; exact e3), λ W3 ok3 l3 m3 => ?_⟩⟩⟩
  have d3 := Den.mono' d1 (l2.trans l3);cases x with
  | lst es =>
   obtain ⟨a, xs, rfl, q, r⟩ := lE d3;cases hf;exact ⟨a, xs, rfl, SqL.fz q, λ p hp => h p _ W3 ok3 ((l1.trans l2).trans l3) m3 hp (oV r)⟩
  | ro es =>
   obtain ⟨a, xs, rfl, q, r⟩ := xP d3;cases hf;exact ⟨a, xs, rfl, SqL.fz q, λ p hp => h p _ W3 ok3 ((l1.trans l2).trans l3) m3 hp (oV r)⟩
  | _ => cases hf
def zx (fa fb : EF) : LF := λ δ μ => (fa δ μ).bind λ r => (fb δ r.2).bind λ q => match r.1, q.1 with
 | .lst xs, .int k => if -(2 ^ 63) <= k /\ k < 2 ^ 63 /\ xs.length * k.toNat <= sizeLine then some ((List.replicate k.toNat xs).flatten, q.2) else none
 | _, _ => none
theorem Nb (ha : PD X tb a fa) (hb : PD X tb b fb) : PDN X tb (.BinOp a .Mult b pos) (zx fa fb) :=
 dU (Qg KC ha hb) λ σ H Q zq2 => by
  obtain ⟨W, δ, ds, μ', e, ok, hd, hf, h⟩ := zq2;unfold zx at hf;obtain ⟨⟨x, μ1⟩, e1, hf⟩ := Za.mp hf;obtain ⟨⟨y, μ2⟩, e2, hf⟩ := Za.mp hf;refine ⟨W, δ, x, μ1, e, ok, hd, e1, λ v W1 ok1 l1 m1 d1 => ⟨W1, δ, y, μ2, rfl, ok1, hd.mono' l1, (by rw [m1]; exact e2), λ u W2 ok2 l2 m2 d2 => ?_⟩⟩
  have d1 := Den.mono' d1 l2;cases x with
  | lst xs =>
   cases y with
   | int k =>
    have hf' : (if -(2 ^ 63) <= k /\ k < 2 ^ 63 /\ xs.length * k.toNat <= sizeLine then some ((List.replicate k.toNat xs).flatten, μ2) else none) = some (ds, μ') := hf;split at hf'
    .rename_i hz;cases hf';obtain ⟨c, us, rfl, q1, r1⟩ := oO d1;rw [bB d2];exact ⟨c, k, us, rfl, rfl, (dM q1).1, hz.1, hz.2.1, by rw [<- aD.length r1]; exact hz.2.2, λ p hp => h p _ W2 ok2 (l1.trans l2) m2 hp (ug r1 _)⟩
    .cases hf'
   | _ => cases hf
  | _ => cases y <;> cases hf
def vC : D -> Mu -> Option (List D)
 | .lst ds, _ => some ds
 | .cell n, μ => (μ[n]?).join
 | _, _ => none
theorem xT {K : PySem.W.Frag} {tb : List Addr} {W : Wd} {x : D} {v : V} {ds : List D} (ok : WOk K tb W) (h : Den K tb W x v) (e : vC x W.mu = some ds) : ∃ a xs, v = .ref a /\ W.H a = some (.lst xs) /\ cM K tb W ds xs := by
 cases x with
 | lst es =>
  cases e;obtain ⟨a, xs, rfl, q, r⟩ := oO h;exact ⟨a, xs, rfl, (dM q).1, r⟩
 | cell n =>
  obtain ⟨a, rfl, q⟩ := iH h;have e : (W.mu[n]?).join = some ds := e;cases e2 : W.mu[n]? with
  | none => rw [e2] at e; cases e
  | some o =>
   rw [e2] at e;have e : o = some ds := e;subst e;obtain ⟨xs, ex, r⟩ := ok.cont n a ds q e2;exact ⟨a, xs, rfl, ex, r⟩
 | _ => cases e
theorem us1 {α : Type} {P : List α -> Prop} (h : ∀ a, P [a]) : ∀ us : List α, us.length = 1 -> P us
 | [a], _ => h a
theorem us2 {α : Type} {P : List α -> Prop} (h : ∀ a b, P [a, b]) : ∀ us : List α, us.length = 2 -> P us
 | [a, b], _ => h a b
theorem us3 {α : Type} {P : List α -> Prop} (h : ∀ a b c, P [a, b, c]) : ∀ us : List α, us.length = 3 -> P us
 | [a, b, c], _ => h a b c
theorem us4 {α : Type} {P : List α -> Prop} (h : ∀ a b c d, P [a, b, c, d]) : ∀ us : List α, us.length = 4 -> P us
 | [a, b, c, d], _ => h a b c d
structure Got (K : PySem.W.Frag) (x : Str) (st : Stmt) (f c P : Addr) (fd : FuncData) : Prop where
 F : dC K x x st f fd P
 m : PySem.W.nsIn K mainGlobals x = some (some (.ref f))
 t : PySem.W.tabIn K x = some (c, P)
 e : ∃ kV dc pm an ct, fd = PySem.W.fnOf x x (lW st) (jK st) (aN st) .none kV dc pm an (.ref c) ct
theorem TV {K : PySem.W.Frag} {x : Str} {st : Stmt} {f c P : Addr} {oc : Value} {od an : Option Addr} {osl : Array (Option Value)} {kV doc pm ct : Value} {dd : Option Addr} {vs : Array Value} {sl : Array (Option Value)} (a : PySem.W.nsIn K mainGlobals x = some (some (.ref f)))
  (l : K.lookup f = some ⟨oc, od, .func (PySem.W.fnOf x x (lW st) (jK st) (aN st) .none kV doc pm an (.ref c) ct), osl⟩) (hc : PySem.W.codeIn K (.ref c) x = true) (k : PySem.W.keepIn K (.ref f) = true)
  (lc : K.lookup c = some ⟨.type "code", dd, .fields vs, sl⟩) (p : vs[11]? = some (.ref P)) (q : yz vs = true) (ne : (c != P) = true) : ∃ f c P fd, Got K x st f c P fd :=
 ⟨f, c, P, _, Ly l hc k lc p q ne, a, TJ a l rfl lc p, kV, doc, pm, an, ct, rfl⟩
end L3
namespace L2
open PySem PySem.Spec PyProof.Rows PySem.W
def wA {α : Type} (f : Nat -> Nat -> Bool) : KasT α -> α
 | .ret a => a
 | .ask i j k => wA f (k (f i j))
def dX {α : Type} (n : Nat) (R : α -> Prop) : KasT α -> Prop
 | .ret a => R a
 | .ask i j k => i < n /\ j < n /\ ∀ b, dX n R (k b)
theorem dX.bind {α β : Type} {n : Nat} {R : α -> Prop} {R' : β -> Prop} {f : α -> KasT β} (hf : ∀ a, R a -> dX n R' (f a)) : ∀ {t : KasT α}, dX n R t -> dX n R' (t.bind f)
 | .ret a, h => hf a h
 | .ask i j k, h => ⟨h.1, h.2.1, λ b => dX.bind hf (h.2.2 b)⟩
theorem dX.run {α : Type} {R : α -> Prop} : ∀ {t : KasT α}, dX n R t -> R (wA f t)
 | .ret a, h => h
 | .ask i j k, h => show R (wA f (k (f i j))) from dX.run (t := k (f i j)) (h.2.2 (f i j))
theorem dX.wp {α : Type} {R : α -> Prop} {cmp : Nat -> Nat -> (Bool -> Shared -> Prop) -> Shared -> Prop} (hc : ∀ i j (C : Bool -> Shared -> Prop), i < n -> j < n -> C (f i j) s -> cmp i j C s) {Q : α -> Shared -> Prop} :
  ∀ {t : KasT α}, dX n R t -> Q (wA f t) s -> t.kasWp cmp Q s
 | .ret a, _, q => q
 | .ask i j k, h, q => hc i j _ h.1 h.2.1 (dX.wp hc (h.2.2 (f i j)) q)
def fP (n : Nat) (p : Array Nat) : Prop := p.toList.Perm (List.range n)
theorem fP.getD (h : fP n p) (h0 : 0 < n) (k : Nat) : p.getD k 0 < n := by
 unfold Array.getD;split
 .rename_i hk;have : p.getInternal k hk ∈ p.toList := by
   show p[k] ∈ p.toList;simp
  exact List.mem_range.mp (h.mem_iff.mp this)
 .exact h0
theorem fP.of (h : fP n p) (e : q.Perm p) : fP n q := (Array.perm_iff_toList_perm.mp e).trans h
theorem fP.rev (h : fP n p) (i j : Nat) : fP n (kas_rev p i j) := h.of (mirror_perm _ _ _ _)
theorem vh (hp : fP n p) (h0 : 0 < n) : ∀ (f k : Nat), dX n (λ _ => True) (kas_asc p f k)
 | 0, k => trivial
 | f + 1, k => ⟨hp.getD h0 _, hp.getD h0 _, λ b => by
  cases b
  .exact vh hp h0 f (k + 1)
  .exact trivial⟩
theorem oN (h0 : 0 < n) : ∀ (f : Nat) (p : Array Nat) (k q : Nat), fP n p -> dX n (λ r => fP n r.1) (kas_desc f p k q)
 | 0, p, k, q, hp => hp
 | f + 1, p, k, q, hp => ⟨hp.getD h0 _, hp.getD h0 _, λ b => by
  cases b
  .refine ⟨hp.getD h0 _, hp.getD h0 _, λ c => ?_⟩;cases c
   .exact oN h0 f p (k + 1) (q + 1) hp
   .exact hp
  .show dX n _ (if true = true then (if q > 0 then kas_desc f (kas_rev p (k - (q + 1)) k) (k + 1) 0 else kas_desc f p (k + 1) 0) else _);rw [if_pos rfl];split
   .exact oN h0 f _ (k + 1) 0 (hp.rev _ _)
   .exact oN h0 f p (k + 1) 0 hp⟩
theorem vO {n : Nat} (h0 : 0 < n) {p : Array Nat} (hp : fP n p) (a b : Nat) : dX n (λ r => fP n r.2) (kas_tail3 a b p) := by
 unfold kas_tail3;refine dX.bind (R := λ _ => True) (λ m _ => ?_) (vh (hp.rev _ _) h0 _ _);exact hp.rev 0 a
theorem pK {n : Nat} (h0 : 0 < n) {p : Array Nat} (hp : fP n p) (a b : Nat) : dX n (λ r => fP n r.2) (kas_descPart a b p) :=
 dX.bind (λ r hr => by
  split
  .exact vO h0 (fP.rev hr _ _) _ _
  .exact vO h0 hr _ _) (oN h0 _ p _ _ hp)
theorem CG {n : Nat} (h0 : 0 < n) {p : Array Nat} (hp : fP n p) (a : Nat) : dX n (λ r => fP n r.2) (kas_count a p) :=
 dX.bind (λ m _ => by
  split
  .exact hp
  .split
   .refine ⟨hp.getD h0 _, hp.getD h0 _, λ c => ?_⟩;cases c
    .exact pK h0 (hp.rev _ _) _ _
    .exact hp
   .exact pK h0 hp _ _) (vh hp h0 _ _)
theorem pP (h0 : 0 < n) (hp : fP n p) (k : Nat) : ∀ (f l r : Nat), dX n (λ _ => True) (kas_place p k f l r)
 | 0, l, r => trivial
 | f + 1, l, r => by
  unfold kas_place;split
  .exact trivial
  .refine ⟨hp.getD h0 _, hp.getD h0 _, λ c => ?_⟩;cases c
   .exact pP h0 hp k f _ _
   .exact pP h0 hp k f _ _
theorem zH {n : Nat} (h0 : 0 < n) : ∀ (f : Nat) (p : Array Nat) (k : Nat), fP n p -> dX n (fP n) (kas_bin f p k)
 | 0, p, k, hp => hp
 | f + 1, p, k, hp => dX.bind (λ l _ => zH h0 f _ (k + 1) (hp.of (bubble_perm _ _ _))) (pP h0 hp k _ _ _)
theorem rG {n : Nat} (h0 : 0 < n) : dX n (fP n) (kas_sort n) :=
 dX.bind (λ r hr => by
  split
  .exact zH h0 _ _ _ hr
  .exact hr) (CG h0 (show (List.range n).Perm (List.range n) from List.Perm.refl _) n)
def lg (f : Nat -> Nat -> Bool) (n : Nat) : List Nat := if 2 <= n then (wA f (kas_sort n)).toList else List.range n
theorem rH (f : Nat -> Nat -> Bool) (n : Nat) : (lg f n).Perm (List.range n) := by
 unfold lg;split
 .exact dX.run (rG (by omega))
 .exact List.Perm.refl _
theorem lr (f : Nat -> Nat -> Bool) (n : Nat) : (lg f n).length = n := by
 rw [(rH f n).length_eq, List.length_range]
theorem range_getD {α : Type} (z : α) (vs : List α) : (List.range vs.length).map (λ i => vs.getD i z) = vs := by
 apply List.ext_getElem?;intro i;rw [List.getElem?_map];by_cases h : i < vs.length
 .rw [List.getElem?_range h];simp [h]
 .rw [List.getElem?_eq_none (by simpa using h), List.getElem?_eq_none (by simpa using h)]
  rfl
section
variable {prog : Program} {w : World} {A : Around} {E : Value -> Shared -> Prop} {s : Shared} {a : Addr} {vs : List Value} {f : Nat -> Nat -> Bool}
def Cmp (prog : Program) (w : World) (A : Around) (vs : List Value) (f : Nat -> Nat -> Bool) (s : Shared) : Prop :=
 wpAny (model prog w) A (keyKind' vs.toArray) (λ κ s' => s' = s /\ ∀ i j (C : Bool -> Shared -> Prop), i < vs.length -> j < vs.length -> C (f i j) s -> kas_ask prog w A κ vs i j C s) (λ _ _ => False) s
theorem Ge {P : PySem.Fin -> Shared -> Prop} (ho : s.heap.get? a = some (seqObj "list" vs.toArray n)) (h64 : vs.length < 64)
  (hk : 2 <= vs.length -> ∀ h', (∀ b o, b ≠ a -> s.heap.get? b = some o -> h'.get? b = some o) -> Cmp prog w A vs f { s with heap := h' })
  (h : ∀ h' c, (∀ b o, b ≠ a -> s.heap.get? b = some o -> h'.get? b = some o) -> h'.get? a = some (seqObj "list" ((lg f vs.length).map λ i => vs.getD i Value.none).toArray c) -> P (.done (.ret .none)) { s with heap := h' }) :
  wpAny (model prog w) A (Builtin.«list.sort» ⟨[.ref a], []⟩) P E s := by
 have upd1 := λ (g : Heap) (q : Array Value -> Array Value) => Heap.SameBut.update g a (Obj.mapSeq q);have e1 := get?_update_seq ho λ _ => (#[] : Array Value);generalize hc1 : (if (#[] : Array Value).size == vs.toArray.size then n else n + 1) = c1 at e1;rw [list_sort_plain];refine wpAny_bind (listItems_at ho rfl ?_);refine wpAny_bind (listUpdate_at ho rfl ?_ (by rw [Zd, sizeLine_eq]; omega) (Nat.zero_le _))
 refine wpAny_bind (seqEpoch_at e1 rfl ?_);refine wpAny_bind (wpAny_newTuple ?_ (by show vs.length <= _; rw [sizeLine_eq]; omega))
 refine wpAny_bind (wpAny_newList ?_ (Nat.zero_le _));refine wpAny_holding ?_;generalize hg : ((s.heap.update a (Obj.mapSeq λ _ => (#[] : Array Value))).push (seqObj "tuple" vs.toArray 0)).push (seqObj "list" #[] 0) = g;have kg : ∀ b o, b ≠ a -> s.heap.get? b = some o -> g.get? b = some o := λ b o hb e => by
  rw [<- hg];exact Zb _ (Zb _ (((upd1 s.heap _).2 b hb).trans e))
 have ag : g.get? a = some (seqObj "list" #[] c1) := by
  rw [<- hg];exact Zb _ (Zb _ e1)
 have fin : ∀ (out : Array Value), out.size = vs.length -> out = ((lg f vs.length).map λ i => vs.getD i Value.none).toArray -> P (.done (.ret .none)) { s with heap := g.update a (Obj.mapSeq λ _ => out) } := λ out hsz ho' => by
  have e2 := get?_update_seq ag λ _ => out;rw [ho'] at e2 ⊢;exact h _ _ (λ b o hb e => ((upd1 g _).2 b hb).trans (kg b o hb e)) e2
 show wpAny (model prog w) A _ P E { s with heap := g }
 dsimp only;by_cases h2 : vs.toArray.size < 2
 .rw [if_pos h2, if_pos h2];refine wpAny_bind (wpAny_pure ?_);rw [StateT.run_pure];refine wpAny_bind (wpAny_pure ?_);dsimp only;have hz : (vs.toArray.zip vs.toArray).map (λ p => p.2) = vs.toArray := by
   apply Array.toList_inj.mp;rw [Array.toList_map];simp [List.map_snd_zip]
  have hA : (arrOf (SortSt.mk' general' (vs.toArray.zip vs.toArray) #[] 7 none)).map (·.2) = vs.toArray := hz;rw [hA];refine wpAny_bind (seqEpoch_at ag rfl ?_);refine wpAny_bind (listUpdate_at ag rfl ?_ (Nat.zero_le _) (by rw [Zd, sizeLine_eq]; omega))
  simp only [bne_self_eq_false, Bool.false_eq_true, if_false];refine wpAny_pure (fin _ (by simp) ?_)
  rw [Zd] at h2;unfold lg;rw [if_neg (by omega), range_getD]
 .rw [if_neg h2, if_neg h2];rw [Zd] at h2;refine wpAny_bind (wpAny_mono (hk (by omega) g kg) (λ κ s' hs => ?_) λ _ _ x => x.elim)
  obtain ⟨rfl, hask⟩ := hs;have good : (kas_sort vs.length).kasWp (kas_ask prog w A κ vs) (λ p s' => p = wA f (kas_sort vs.length) /\ s' = { s with heap := g }) { s with heap := g } :=
   dX.wp (n := vs.length) (f := f) (R := fP vs.length) (λ i j C hi hj hC => hask i j C hi hj hC) (rG (by omega)) ⟨rfl, rfl⟩
  refine wpAny_bind (wpAny_mono (kat_run (Q := λ st' s' => s' = { s with heap := g } /\ failedOf st' = none /\ (arrOf st').map (·.2) = List.toArray ((wA f (kas_sort vs.length)).toList.map λ i => vs.getD i Value.none)) rfl (by omega) h64 (λ p st' s' a1 a2 a3 a4 => ⟨a4.2, a3, by rw [<- a4.1]; exact kat_snds rfl a2⟩) good) ?_ λ _ _ e => e)
  rintro ⟨⟨⟩, st'⟩ s' ⟨rfl, hf, har⟩;dsimp only;rw [har];have hlen : (List.toArray ((wA f (kas_sort vs.length)).toList.map λ i => vs.getD i Value.none)).size = vs.length := by
   have := lr f vs.length;unfold lg at this;rw [if_pos (by omega)] at this
   rw [Zd, Zu, this]
  refine wpAny_bind (seqEpoch_at ag rfl ?_);refine wpAny_bind (listUpdate_at ag rfl ?_ (Nat.zero_le _) (Zl (Nat.le_of_eq hlen) (by rw [sizeLine_eq]; omega)))
  rw [hf];simp only [bne_self_eq_false, Bool.false_eq_true, if_false];refine wpAny_pure (fin _ hlen ?_);unfold lg;rw [if_pos (by omega)]
theorem Dd {Q : Value -> Shared -> Prop} (hl : s.heap.IsList l vs.toArray) (h64 : vs.length < 64)
  (hk : 2 <= vs.length -> ∀ h', (∀ b o, s.heap.get? b = some o -> h'.get? b = some o) -> Cmp prog w A.in1.in1 vs f { s with heap := h' })
  (h : ∀ D h' c, (∀ b o, s.heap.get? b = some o -> h'.get? b = some o) -> s.heap.objs.size <= D -> h'.get? D = some (seqObj "list" ((lg f vs.length).map λ i => vs.getD i Value.none).toArray c) -> Q (.ref D) { s with heap := h' }) :
  wpAny (model prog w) A (call (.builtin "sorted") [.ref l]) Q E s := by
 refine Calls.call_function_entry kind_sorted plain_sorted entry_sorted (args_sorted1 _) ?_;unfold Builtin.«sorted»;refine wpAny_bind (m := checkCount "sorted" 1 1 _) (wpAny_pure ?_);refine wpAny_bind (collect_list hl ?_ (by rw [sizeLine_eq]; omega))
 refine wpAny_bind (wpAny_newList ?_ (by rw [sizeLine_eq]; omega))
 generalize hg1 : (s.heap.push (seqObj "list" #[] 0)).update s.heap.objs.size (Obj.mapSeq (· ++ vs.toArray)) = g1;have k1 : ∀ b o, s.heap.get? b = some o -> g1.get? b = some o := λ b o q => by
  rw [<- hg1, Heap.get?_update_ne _ _ _ _ (Zk (Ze q)), Heap.get?_push_ne _ _ _ (Zk (Ze q))];exact q
 have z1 : g1.objs.size = s.heap.objs.size + 1 := by rw [<- hg1, Heap.size_update, size_push']
 have k2 : ∀ b o, s.heap.get? b = some o -> (g1.push (seqObj "list" vs.toArray 0)).get? b = some o := λ b o q => Zb _ (k1 b o q);have o2 : (g1.push (seqObj "list" vs.toArray 0)).get? g1.objs.size = some (seqObj "list" vs.toArray 0) := Zf _ rfl;show wpAny _ _ _ _ _ { s with heap := g1.push (seqObj "list" vs.toArray 0) }
 have hle : s.heap.objs.size <= g1.objs.size := by omega
 generalize g1.push (seqObj "list" vs.toArray 0) = g2 at *
 generalize g1.objs.size = D at *
 refine wpAny_bind (wpAny_holding (wpAny_call_entry slot_list_sort ⟨_, o2, rfl⟩ entry_list_sort ?body (args_list_sort _)))
 case body =>
  have ne : ∀ b o, s.heap.get? b = some o -> b ≠ D := λ b o q => Zk (Zc (Ze q) hle);refine Ge (s := { s with heap := g2 }) (f := f) o2 h64 (λ h2 h' k' => hk h2 h' λ b o q => k' b o (ne b o q) (k2 b o q)) λ h' c k' e' => ⟨_, rfl, ?_⟩
  exact wpAny_pure ⟨_, rfl, h D h' c (λ b o q => k' b o (ne b o q) (k2 b o q)) hle e'⟩
end
theorem vK : ∀ {a b : List Int}, a.Perm b -> a.Pairwise (· <= ·) -> b.Pairwise (· <= ·) -> a = b
 | [], b, p, _, _ => (List.nil_perm.mp p).symm
 | x :: a, b, p, ha, hb => by
  cases b with
  | nil => exact absurd p.length_eq (by simp)
  | cons y b =>
   obtain ⟨hx, ha'⟩ := List.pairwise_cons.mp ha;obtain ⟨hy, hb'⟩ := List.pairwise_cons.mp hb;have e : x = y := by
    have m1 : x ∈ y :: b := p.mem_iff.mp (by simp)
    have m2 : y ∈ x :: a := p.mem_iff.mpr (by simp)
    rcases Zi.mp m1 with z | z
    .exact z
    .rcases Zi.mp m2 with w | w
     .exact w.symm
     .exact Int.le_antisymm (hx y w) (hy x z)
   subst e;rw [vK (List.Perm.cons_inv p) ha' hb']
theorem sJ : ∀ {ns : List Int} {us : List Value}, Vals (ns.map V.int) us -> IntsAre us ns
 | [], _, .nil => .nil
 | n :: ns, _, .cons ⟨t, e⟩ r => by subst e; exact .cons n t (sJ r)
theorem Ca {h : Heap} {a b : Addr} {o : Obj} {g : Obj -> Obj} (hb : b < a) (e : h.get? b = some o) : (h.update a g).get? b = some o := by
 rw [Heap.get?_update_ne _ _ _ _ (Zk hb)]; exact e
theorem uM {h : Heap} {vs : List Value} {out : Array Value} {b : Addr} {o : Obj} (e : h.get? b = some o) : (sortedAll h vs out).get? b = some o := by
 have hb := Ze e;unfold sortedAll sortedHeap;exact Ca (Nat.lt_succ_of_lt hb) (Zb _ (Zb _ (Ca (Nat.lt_succ_of_lt hb) (Zb _ (Ca hb (Zb _ e))))))
theorem sortedAll_at : ∃ c, (sortedAll h vs out).get? (h.objs.size + 1) = some (seqObj "list" out c) := by
 unfold sortedAll;generalize hg : (h.push (seqObj "list" #[] 0)).update h.objs.size (Obj.mapSeq (· ++ vs.toArray)) = g;have hz : g.objs.size = h.objs.size + 1 := by rw [<- hg, Heap.size_update, size_push']
 have e0 : (g.push (seqObj "list" vs.toArray 0)).get? (h.objs.size + 1) = some (seqObj "list" vs.toArray 0) := by rw [<- hz]; exact Zf _ rfl
 unfold sortedHeap;have e1 := get?_update_seq e0 λ _ => (#[] : Array Value);exact ⟨_, get?_update_seq (Zb _ (Zb _ e1)) λ _ => out⟩
theorem Cm : jF X (.builtin "sorted") (λ xs H Q => ∃ a ns, xs = [.ref a] /\ SqL X.K H a (ns.map V.int) /\ ns.length < 64 /\ ∀ p, H p = none -> Q (.ref p) (upd H p (.lst ((sortI ns).map V.int)))) := by
 intro pins s σ H xs us Q I r h;obtain ⟨a, ns, rfl, hq, h64, q⟩ := h;obtain ⟨u, rfl, rx⟩ := vals1 r;cases rx;obtain ⟨its, r', pl, hz⟩ := I.list hq;have hI := sJ r';have hl := r'.length;rw [Zu] at hl hz;refine sorted_ints pl.isList hI (by omega) λ out ns' i1 p1 o1 => ?_
 have e := vK (p1.trans (sortI_perm ns).symm) o1 (sortI_rises ns);subst e;obtain ⟨c, ec⟩ := sortedAll_at (h := s.heap) (vs := its) (out := out);have hlen : (sortI ns).length = ns.length := (sortI_perm ns).length_eq;refine ⟨.ref (s.heap.objs.size + 1), _, I.laid (t' := s.toks) (λ b o e => uM e) (Nat.le_succ _) (show gM X.prog X.w _ _ _ (.lst ((sortI ns).map V.int)) from ⟨by rw [Zu, hlen]; exact hz, out.toList, c, sH i1, ?_⟩), rfl, q _ (I.hok.fresh (Nat.le_succ _))⟩
 rw [ec]
def Jt (h : Heap) (v : Value) (ks : List Int) : Prop := ∃ a o its n, v = .ref a /\ h.get? a = some o /\ o.cls = .type "tuple" /\ o.data = .seq (List.toArray its) n /\ IntsAre its ks
theorem Bo {Q : Bool -> Shared -> Prop} : ∀ {xs ys : List Value} {ms ns : List Int}, IntsAre xs ms -> IntsAre ys ns -> ms.length = ns.length -> ∀ (i : Nat) (k : Bool), fin = false -> Q (HT.lexLt ms ns) s -> KatLex prog w A k fin Q (xs.zip ys) i s
 | _, _, _, _, .nil, .nil, _, i, k, hf, h => by rw [hf]; exact h
 | _, _, _, _, .nil, .cons _ _ _, hl, _, _, _, _ => by cases hl
 | _, _, _, _, .cons _ _ _, .nil, hl, _, _, _, _ => by cases hl
 | _, _, _, _, .cons (vs := xs) (ns := ms) m t h1, .cons (vs := ys) (ns := ns) n u h2, hl, i, k, hf, h => by
  refine kat_cons (wpAny_eqBool_int ?_);unfold KatGo;rw [HT.lexLt_cons] at h;by_cases e : m = n
  .rw [if_pos e] at h;rw [if_pos (by simpa using e)]
   exact Bo h1 h2 (by simpa using hl) (i + 1) k hf h
  .rw [if_neg e] at h;rw [if_neg (by simpa using e)]
   cases hb : (k && i == 0) with
   | true => exact oneLt_int h
   | false => exact kat_one _ _ (lt_int h)
theorem Kc {prog : Program} {w : World} {A : Around} {vs : List Value} {kss : List (List Int)} {s : Shared} {d : Nat} (hl : vs.length = kss.length) (h2 : 2 <= vs.length) (ht : ∀ i, i < vs.length -> Jt s.heap (vs.getD i .none) (kss.getD i [])) (hd : ∀ ks ∈ kss, ks.length = d + 1) :
  Cmp prog w A vs (λ i j => HT.lexLt (kss.getD i []) (kss.getD j [])) s := by
 have hdk : ∀ i, i < vs.length -> (kss.getD i []).length = d + 1 := λ i hi => by
  have : kss.getD i [] = kss[i] := by simp [List.getD, hl ▸ hi]
  rw [this]; exact hd _ (List.getElem_mem _)
 have firsts : ∀ (k : Nat) (us : List Value), us = vs.drop (vs.length - k) -> k <= vs.length -> ∃ fs : List Value, KatTups s.heap us fs /\ fs.length = k /\ ∀ v ∈ fs, ∃ n t, v = .int n t := by
  intro k
  induction k with
  | zero => intro us e _; subst e; exact ⟨[], by simp [KatTups], rfl, by simp⟩
  | succ k ih =>
   intro us e hk;have hlt : vs.length - (k + 1) < vs.length := by omega
   obtain ⟨fs, f1, f2, f3⟩ := ih (vs.drop (vs.length - k)) rfl (by omega)
   rw [List.drop_eq_getElem_cons hlt] at e;rw [show vs.length - (k + 1) + 1 = vs.length - k by omega] at e
   obtain ⟨a, o, its, n, ev, ho, hc, hdt, hi⟩ := ht _ hlt;have ev' : vs[vs.length - (k + 1)] = .ref a := by rw [<- ev]; simp [List.getD, hlt]
   rw [ev'] at e;subst e;have hlen := hdk _ hlt;generalize kss.getD (vs.length - (k + 1)) [] = ks at *
   cases hi with
   | nil => cases hlen
   | cons m t h1 =>
    rename_i r1 r2;exact ⟨.int m t :: fs, KatTups.cons ho hc hdt (by simp) f1, by simp [f2], λ v hv => by
     rcases Zi.mp hv with z | z
     .exact ⟨m, t, z⟩
     .exact f3 v z⟩
 obtain ⟨fs, f1, f2, f3⟩ := firsts vs.length vs (by simp) (Zg _)
 refine kat_kind (T := .type "int") f1 (by omega) (λ v hv => ?_) rfl ⟨rfl, λ i j C hi hj hC => ?_⟩
 .obtain ⟨n, t, rfl⟩ := f3 v hv;exact Looks.of_pure rfl
 .obtain ⟨a, o, its, n, ev, ho, hc, hdt, hI⟩ := ht i hi;obtain ⟨a', o', its', n', ev', ho', hc', hdt', hI'⟩ := ht j hj;have e1 := hdk i hi;have e2 := hdk j hj;have l1 := hI.length;have l2 := hI'.length;show wpAny _ _ (keyLt' _ (vs.getD i Value.none) (vs.getD j Value.none)) C _ s;rw [ev, ev'];refine kat_lt ho hdt ho' hdt' ?_;simp only [List.toList_toArray];exact Bo hI hI' (by omega) 0 _ (by rw [Zd, Zd]; exact decide_eq_false (by omega)) hC
theorem rA : ∀ {xs : List V} {us : List Value}, Vals xs us -> ∀ i, RelV (xs.getD i .non) (us.getD i .none)
 | _, _, .nil, i => by simp [RelV]
 | _, _, .cons r t, 0 => r
 | _, _, .cons r t, i + 1 => rA t i
theorem ux (r : Vals xs us) : ∀ (is : List Nat), Vals (is.map λ i => xs.getD i .non) (is.map λ i => us.getD i .none)
 | [] => .nil
 | i :: is => .cons (rA r i) (ux r is)
theorem Dv {X : Cx} : jF X (.builtin "sorted") (λ xs H Q => ∃ (a : Addr) (ys : List V) (kss : List (List Int)) (d : Nat), xs = [.ref a] /\ SqL X.K H a ys /\ ys.length < 64 /\ ys.length = kss.length /\ (∀ ks ∈ kss, ks.length = d + 1) /\ (∀ i, i < ys.length -> ∃ p, ys.getD i .non = .ref p /\ SqT X.K H p ((kss.getD i []).map V.int)) /\
  ∀ p, H p = none -> Q (.ref p) (upd H p (.lst ((lg (λ i j => HT.lexLt (kss.getD i []) (kss.getD j [])) ys.length).map λ i => ys.getD i .non)))) := by
 intro pins s σ H xs us Q I r h;obtain ⟨a, ys, kss, d, rfl, hq, h64, hl, hd, ht, q⟩ := h;obtain ⟨u, rfl, rx⟩ := vals1 r;cases rx;obtain ⟨its, r', pl, hz⟩ := I.list hq;have hlen := r'.length;have tups : ∀ i, i < its.length -> Jt s.heap (its.getD i .none) (kss.getD i []) := λ i hi => by
  obtain ⟨p, ep, hT⟩ := ht i (by omega)
  have rl := rA r' i;rw [ep] at rl;have e : its.getD i .none = .ref p := rl;obtain ⟨us, ru, ⟨o, ho, hc, n, hdt⟩, _⟩ := I.tuple hT;exact ⟨p, o, us, n, e, ho, hc, hdt, sJ ru⟩
 refine Dd (f := λ i j => HT.lexLt (kss.getD i []) (kss.getD j [])) pl.isList (by omega) (λ h2 h' k' => ?_) λ D h' c k' hD ec => ?_
 .refine Kc (d := d) (by omega) h2 (λ i hi => ?_) hd
  obtain ⟨p, o, us, n, e1, e2, e3⟩ := tups i hi;exact ⟨p, o, us, n, e1, k' _ _ e2, e3⟩
 .refine ⟨.ref D, _, I.laid (t' := s.toks) k' hD (show gM X.prog X.w _ _ _ (.lst ((lg (λ i j => HT.lexLt (kss.getD i []) (kss.getD j [])) ys.length).map λ i => ys.getD i .non)) from ⟨by rw [Zu, lr]; exact hz, _, c, ?_, ec⟩), rfl, q _ (I.hok.fresh hD)⟩
  rw [<- hlen];exact ux r' _
end L2
namespace L3
open PySem PySem.Spec PyProof.Rows L2
def sW : List D -> Option (List Int)
 | [] => some []
 | .int i :: r => (sW r).map (i :: ·)
 | _ => none
def Fz : List D -> Option (List (List Int))
 | [] => some []
 | .tup es :: r => (sW es).bind λ ks => (Fz r).map (ks :: ·)
 | _ => none
def Vz (kss : List (List Int)) : Bool := kss.all λ ks => ks.length == (kss.headD []).length - 1 + 1
def wQ (ds : List D) : Option (List D) := if ds.length < 64 then match sW ds with
  | some ns => some ((PySem.W.sortI ns).map .int)
  | none => match Fz ds with
   | some kss => if Vz kss = true then some ((lg (λ i j => HT.lexLt (kss.getD i []) (kss.getD j [])) ds.length).map λ i => ds.getD i .non) else none
   | none => none
 else none
theorem ur : ∀ {ds : List D} {ns : List Int}, sW ds = some ns -> ds = ns.map .int
 | [], ns, h => by cases h; rfl
 | d :: r, ns, h => by
  cases d with
  | int i =>
   obtain ⟨ms, e, rfl⟩ := Zp.mp (show (sW r).map (i :: ·) = some ns from h);rw [ur e]; rfl
  | _ => cases h
theorem Ad : ∀ (ns : List Int), sW (ns.map .int) = some ns
 | [] => rfl
 | n :: ns => by
  show (sW (ns.map .int)).map (n :: ·) = _;rw [Ad ns]; rfl
theorem BK : ∀ {ds : List D} {kss : List (List Int)}, Fz ds = some kss -> ds = kss.map λ ks => .tup (ks.map .int)
 | [], kss, h => by cases h; rfl
 | d :: r, kss, h => by
  cases d with
  | tup es =>
   obtain ⟨ks, e1, h⟩ := Za.mp (show (sW es).bind (λ ks => (Fz r).map (ks :: ·)) = some kss from h);obtain ⟨ms, e, rfl⟩ := Zp.mp h;rw [BK e, ur e1]; rfl
  | _ => cases h
theorem wV {K : PySem.W.Frag} {tb : List Addr} {W : Wd} : ∀ (ns : List Int), cM K tb W (ns.map .int) (ns.map V.int)
 | [] => aD.nil
 | n :: ns => aD.cons eO (wV ns)
theorem uC {K : PySem.W.Frag} {tb : List Addr} {W : Wd} : ∀ {ns : List Int} {xs : List V}, cM K tb W (ns.map .int) xs -> xs = ns.map V.int
 | [], xs, h => by
  have := aD.length h;cases xs with
  | nil => rfl
  | cons a b => cases this
 | n :: ns, xs, h => by
  cases xs with
  | nil => have := aD.length h; cases this
  | cons a b =>
   obtain ⟨u, us, e, h1, h2⟩ : ∃ u us, a :: b = u :: us /\ bx K (Wd.fz tb W) W.ad (.int n) u /\ aD K (Wd.fz tb W) W.ad (ns.map .int) us := by unfold cM aD at h; exact h
   cases e;rw [bB h1, uC h2]; rfl
def Bl (fs : AF) : LF := λ δ μ => (fs δ μ).bind λ r => match r.1 with
 | [x] => (vC x r.2).bind λ ds => (wQ ds).map λ es => (es, r.2)
 | _ => none
theorem HF {X : Cx} {tb : List Addr} {a : Expr} {fs : AF} {p pos : Pos} (hm : X.mg "sorted" = none) (ha : PAD X tb [a] fs) (hg : Gl X "sorted" := by rfl) (he : starEach [a] X.env = (false, eval a X.env) :: starEach [] X.env := by rfl) : PDN X tb (.Call (.Name "sorted" p) [a] [] pos) (Bl fs) :=
 dU (nj (Cm.or Dv) hg hm PyProof.Rows.boot_sorted ha (by decide) (by decide) he (by rfl)) λ σ H Q zq1 => by
  obtain ⟨W, δ, ds, μ', e, ok, hd, hf, k⟩ := zq1;unfold Bl at hf;obtain ⟨⟨xs, μ1⟩, e1, e2⟩ := Za.mp hf
  match xs, e1, e2 with
  | [x], e1, e2 =>
   obtain ⟨es, e3, e4⟩ := Za.mp (show (vC x μ1).bind (λ ds => (wQ ds).map λ es => (es, μ1)) = some (ds, μ') from e2);obtain ⟨os, e5, e6⟩ := Zp.mp e4;cases e6;refine ⟨W, δ, [x], _, e, ok, hd, e1, λ vs W1 ok1 l1 m1 d1 => ?_⟩;obtain ⟨v, rfl, dv⟩ := aD.one d1;obtain ⟨a, ys, rfl, q, r⟩ := xT ok1 dv (by rw [m1]; exact e3)
   have hlen := aD.length r;unfold wQ at e5;split at e5
   .rename_i h64;split at e5
    .rename_i ns hn;cases e5;have := ur hn;subst this;have hy := uC r;subst hy;exact .inl ⟨a, ns, rfl, SqL.of q, by simpa using h64, λ l hl => k l _ W1 ok1 l1 m1 hl (wV _)⟩
    .split at e5
     .rename_i kss hk;split at e5
      .rename_i hev;cases e5;have hk' := BK hk;have hkl : es.length = kss.length := by rw [hk']; simp
       refine .inr ⟨a, ys, kss, (kss.headD []).length - 1, rfl, SqL.of q, by omega, by omega, λ ks h => ?_, λ i hi => ?_, λ l hl => ?_⟩
       .have := List.all_eq_true.mp hev ks h;simpa using this
       .have hi' : i < es.length := by omega
        have hik : i < kss.length := by omega
        obtain ⟨u, eu, du⟩ := aD.get r (List.getElem?_eq_getElem hi');have e7 : es[i] = .tup ((kss.getD i []).map .int) := by
         have : kss.getD i [] = kss[i] := by simp [List.getD, hik]
         rw [this];simp [hk']
        rw [e7] at du;obtain ⟨b, zs, rfl, qb, rb⟩ := gW du;have hz := uC rb;subst hz;refine ⟨b, ?_, SqT.fz qb⟩;rw [List.getD_eq_getElem?_getD, eu]; rfl
       .rw [hlen] at k;exact k l _ W1 ok1 l1 m1 hl (um r _)
      .cases e5
     .cases e5
   .cases e5
open PySem.SeqAt
theorem Qq (hr : eG k X.A) : OpR X (compareOp .Eq) (λ v u H Q => ∃ a b xs, v = .ref a /\ u = .ref b /\ SqT X.K H a xs /\ SqT X.K H b [] /\ Q (.bl xs.isEmpty) H) := by
 intro pins s σ H v u vv uu Q I rv ru h;obtain ⟨a, b, xs, rfl, rfl, hx, hy, q⟩ := h;have hun := hr.un;cases rv;cases ru;obtain ⟨its0, iv0, pl0, hz0⟩ := I.tuple hx;obtain ⟨its1, iv1, pl1, hz1⟩ := I.tuple hy;have e1 : its1 = [] := List.eq_nil_of_length_eq_zero (by rw [<- iv1.length]; rfl)
 subst e1;have rc := RcAt.tuples (A := X.A) (e := λ _ => true) pl0 pl1 (by omega) (λ j h1 h2 => absurd h2 (by simp))
 have e2 : ((List.range (min its0.toArray.size ([] : List Value).toArray.size)).all (λ _ => true) && its0.toArray.size == ([] : List Value).toArray.size) = xs.isEmpty := by
  have hl := iv0.length;cases xs with
  | nil =>
   have : its0 = [] := List.eq_nil_of_length_eq_zero hl.symm;subst this; rfl
  | cons x xs =>
   cases its0 with
   | nil => cases hl
   | cons y ys => simp
 rw [e2] at rc;exact rc X.prog X.w X.xe _ ⟨.bl xs.isEmpty, H, I, rfl, q⟩
def Af : O2 := λ x y μ => match x, y with
 | .tup ds, .tup [] => some (.bl ds.isEmpty, μ)
 | x, y => oEq x y μ
theorem CN : Af x y μ = oEq x y μ ∨ ∃ ds, x = .tup ds /\ y = .tup [] /\ Af x y μ = some (.bl ds.isEmpty, μ) := by
 unfold Af;split
 .exact .inr ⟨_, rfl, rfl, rfl⟩
 .exact .inl rfl
theorem TQ {X : Cx} {tb : List Addr} {k : Nat} (hr : eG k X.A) : OpD X tb (compareOp .Eq) Af := ⟨_, (Jy hr).or (Qq hr), λ W x y v u d μ' Q ok dx dy ho h => by
 rcases CN (x := x) (y := y) (μ := W.mu) with e | ⟨ds, rfl, rfl, e⟩
 .rw [e] at ho;unfold oEq at ho;split at ho
  .rename_i hc;cases ho;rw [Zo] at hc;exact .inl ⟨_, _, nZ ok dx hc.1.1, nZ ok dy hc.1.2, hc.2, put ok h fG⟩
  .cases ho
 .rw [e] at ho;cases ho;obtain ⟨a, xs, rfl, q, r⟩ := gW dx;obtain ⟨b, ys, rfl, q2, r2⟩ := gW dy;have e1 : ys = [] := List.eq_nil_of_length_eq_zero (aD.length r2).symm;subst e1;have e2 : xs.isEmpty = ds.isEmpty := by
   have := aD.length r;cases ds <;> cases xs <;> first | rfl | cases this
  refine .inr ⟨a, b, xs, rfl, rfl, SqT.fz q, SqT.fz q2, ?_⟩;rw [e2];exact put ok h fG⟩
end L3
namespace L2
open PySem PySem.Spec PyProof.Rows PySem.W
abbrev Ed (X : Cx) (scope : Scope) (q : Str) (C f : Addr) (code : Value) : Env := newEnv scope C mainGlobals (cA X.env scope.names []) q (some f) code none builtinsNs
def qP (X : Cx) (A' : Around) (x : Str) (cap : List Str) (scope : Scope) (q : Str) (f : Addr) (code : Value) (s : Shared) (H : Hp) : Cx where
 prog := X.prog
 w := X.w
 K := X.K
 mg := X.mg
 base := X.base
 A := A'.deeper (Ed X scope q s.heap.objs.size f code)
 N := [x] ++ cap
 s₀ := s
 H₀ := H
 env := Ed X scope q s.heap.objs.size f code
 outer := X.stack
 stack := Ed X scope q s.heap.objs.size f code :: X.stack
 ex := []
 fn := λ y => y == x
 calm := true
 pn := []
 xe := λ _ _ => False
section
variable {X : Cx} {pins : List (Addr × Obj)} {σ : St} {H : Hp} {s : Shared} {x : Str} {cap : List Str} {capI : List Nat} {scope : Scope}
theorem Inv.lam {A' : Around} {h1 : Heap} {q : Str} {f : Addr} {code u : Value} {y : V} {tk : Nat} (I : Inv X pins σ H s) (B : eQ X [x] cap capI scope) (hx : scope.names.lookup x = some .local) (hown : (x, NameKind.free) ∉ scope.names) (hnc : ∀ y ∈ scope.names, y.2 ≠ .cell)
  (hcx : x ∉ cap) (keep : ∀ b o, s.heap.get? b = some o -> h1.get? b = some o) (hm : h1.Ns s.heap.objs.size (λ z => [(x, u)].reverse.lookup z)) (hAf : A'.frames = some X.stack) (hAh : A'.handled = none) (ry : RelV y u) :
  Inv (qP X A' x cap scope q f code s H) [] (some y :: lN σ capI) H { s with heap := h1, toks := tk } := by
 have clo_old : ∀ p ∈ cA X.env scope.names [], X.env.cells.lookup p.1 = some p.2 := λ p hp => (lR hp).elim (λ z => by simp at z) id
 have old_lt : ∀ z c, X.env.cells.lookup z = some c -> c < s.heap.objs.size := λ z c e => let ⟨v, q⟩ := I.cell z c e; q.lt;have csm : ∀ z c, (cA X.env scope.names []).lookup z = some c -> X.env.cells.lookup z = some c /\ c < s.heap.objs.size := λ z c e => by
  have q := clo_old _ (Zt e);exact ⟨q, old_lt _ _ q⟩
 have fresh : H s.heap.objs.size = none := I.hok.fresh (Zg _);have noA : ∀ b : Addr, b ∉ (qP X A' x cap scope q f code s H).ex := λ b z => absurd (show b ∈ ([] : List Addr) from z) (by simp)
 refine ⟨⟨I.ok.mod, B.kind, rfl, rfl, Zg _, ?_, ?_, ?_, λ _ => hAh, Around.frames_deeper hAf, .inr ⟨rfl, rfl⟩, λ b z => absurd z (noA b), I.bs, Zl I.ok.bsz I.sz, λ b _ _ => noA b, λ b z => absurd z (noA b), I.stack, I.stkFree⟩, rfl, GK.refl I.bare.bare, Un.kept keep, ?_, ?_, fresh, ?_, ?_, I.hok.kept keep, ?_⟩
 .intro y z c e1 e2;exact I.ok.inj y z c (csm y c e1).1 (csm z c e2).1
 .intro y hy;have hy' : scope.names.lookup y = some .cell ∨ scope.names.lookup y = some .free := hy
  rcases hy' with e | e
  .exact absurd rfl (hnc _ (Zt e))
  .have q := Zt e;obtain ⟨c, hc⟩ := B.cells I _ q rfl;exact ⟨c, jZ hc (.inl q)⟩
 .intro z c hz e
  exfalso
  have hz : z = x := by simpa [qP] using hz
  subst hz;have q : (cA X.env scope.names []).lookup z = none := by
   rw [oH λ k hk => by rintro rfl; exact hown hk]; rfl
  have e' : (cA X.env scope.names []).lookup z = some c := e;rw [q] at e'; cases e'
 .obtain ⟨m', hn, hl⟩ := I.loc;refine ⟨_, hm, λ i z v e1 e2 hv => ?_⟩;cases i with
  | zero =>
   have e1 : some x = some z := e1;cases e1;have e2 : some (some y) = some (some v) := e2;cases e2;exact ⟨u, ry, .inl ⟨hx, by simp⟩⟩
  | succ i =>
   have e1' : cap[i]? = some z := e1;have e2' : (lN σ capI)[i]? = some (some v) := e2;obtain ⟨i0, q1, q2⟩ := su e2';obtain ⟨y', q3, q4, q5⟩ := B.caps.get q1;rw [e1'] at q3;cases q3;have hxf : (z, NameKind.free) ∈ scope.names := B.cfr z (List.mem_of_getElem? e1');have vis : Vis X.env.scope z := by
    rcases q5 with q5 | q5
    .exact .inr (.inl q5)
    .exact .inr (.inr q5)
   obtain ⟨w, rw', lk⟩ := hl i0 z v q4 q2 vis;refine ⟨w, rw', .inr ⟨.inr (dB B.nd hxf), ?_⟩⟩
   rcases lk with ⟨k, _⟩ | ⟨_, c, ec, hc⟩
   .rcases q5 with q5 | q5 <;> rw [k] at q5 <;> cases q5
   .exact ⟨c, jZ ec (.inl hxf), hc.keeps keep⟩
 .intro z c e;obtain ⟨v, q⟩ := I.cell z c (csm z c e).1;exact ⟨v, q.keeps keep⟩
 .intro z c e;exact I.freeC z c (csm z c e).1
 .intro p hp;exact absurd (show p ∈ ([] : List (Addr × Obj)) from hp) (by simp)
 .show (some y :: lN σ capI).length = ([x] ++ cap).length;unfold lN;rw [List.length_cons, Zu, B.caps.length, List.length_append];simp [Nat.add_comm]
end
abbrev Qm (qual : Str) (params : Arguments) (body : Expr) (scope : Scope) (cl : List (Str × Addr)) (pm cv ct : Value) : FuncData := kla_fn "<lambda>" qual params body scope cl pm cv ct
theorem Gv {R : Result -> Shared -> Prop} (hroom : A.depth < recursionLimit) (ho : s.heap.get? a = some o) (hd' : o.data = .func fd)
  (hco : fd.scope.isCoroutine = false) (hgen : fd.scope.isGenerator = false) (hbody : fd.body = .expr body) (hc : fd.code = .ref c) (hoc : s.heap.get? c = some oc) (hdc : oc.data = .fields vs) (hu : vs[1]? = some u)
  (h : ∀ q : Str, wpAny (model prog w) A.in1 (bindArgs fd args) (λ binds s₁ =>
   wpAny (model prog w) A.in1 (newFunctionEnv fd.scope fd.globals fd.closure binds q (some a) fd.code none fd.builtins)
    (λ env s₂ => s₂.heap.NoLimit /\ codeAny (model prog w) A (.expr body env) R s₂) (λ e s' => R (.error e) s') s₁) (λ e s' => R (.error e) s') s) :
  codeAny (model prog w) A (.call (.ref a) args) R s := by
 refine codeAny_of_tree ?_;show wpAny _ A.in1 (callAny (.ref a) args) _ _ s;simp only [callAny];refine wpAny_bind (wpAny_load ho ?_);simp only [hd', callFunction, hco, hgen, hbody, hc];rw [hc] at h;refine wpAny_bind (m := field (.ref c) 1) (wpAny_field hoc hdc hu ?_);have go : ∀ q : Str, wpAny (model prog w) A.in1 (do
   let env <- newFunctionEnv fd.scope fd.globals fd.closure (<- bindArgs fd args) q (some a) (.ref c) none fd.builtins
   enterFrame
   again (.expr body env)) (λ fin s' => match fin with
    | .done f => R (.ok f) s'
    | .again c' => c'.quiet = true /\ codeAny (model prog w) A c' R s') (λ e s' => R (.error e) s') s := λ q =>
  wpAny_bind (wpAny_mono (h q) (λ binds s₁ h₁ => wpAny_bind (wpAny_mono h₁ (λ env s₂ h₂ => wpAny_bind (wpAny_enterFrame h₂.1 hroom (wpAny_pure (And.intro rfl h₂.2)))) λ _ _ h' => h')) λ _ _ h' => h')
 cases u with
 | str q t => exact wpAny_bind (wpAny_pure (go _))
 | _ => exact wpAny_bind (wpAny_pure (go _))
section
variable {X : Cx} {pins : List (Addr × Obj)} {σ : St} {H : Hp} {s : Shared} {x : Str} {cap : List Str} {capI : List Nat} {scope : Scope} {params : Arguments} {body : Expr} {te : TE} {k : Nat}
structure Ei (X : Cx) (x : Str) (cap : List Str) (capI : List Nat) (scope : Scope) (params : Arguments) (body : Expr) : Prop where
 blk : eQ X [x] cap capI scope
 par : scope.names.lookup x = some .local
 own : (x, NameKind.free) ∉ scope.names
 noc : ∀ y ∈ scope.names, y.2 ≠ .cell
 ncap : x ∉ cap
 co : scope.isCoroutine = false
 gen : scope.isGenerator = false
 dflt : defaultsOf params X.env = ([], [])
 bind : ∀ (qual : Str) (cl : List (Str × Addr)) (pm cv ct u : Value), bindArgs (Qm qual params body scope cl pm cv ct) ⟨[u], []⟩ = pure [(x, u)]
abbrev uD (X : Cx) (qual : Str) (params : Arguments) (body : Expr) (scope : Scope) (pm cv ct : Value) : Obj := { cls := .type "function", data := .func (Qm qual params body scope (cA X.env scope.names []) pm cv ct) }
theorem Nx {f : Addr} {qual : Str} {pm cv ct u : Value} {y : V} {Q : VK} (hr : eG (k + 1) X.A) (hc : X.calm = true) (L : Ei X x cap capI scope params body)
  (he : ∀ q f code s H, PE (qP X X.A.in1.in1 x cap scope q f code s H) body te) (I : Inv X pins σ H s) (ho : s.heap.get? f = some (uD X qual params body scope pm cv ct)) (hcv : yo H cv) (ry : RelV y u) (hq : te (some y :: lN σ capI) H Q) :
  wpAny (model X.prog X.w) X.A.in1.in1 (call (.ref f) [u]) (EP X pins σ Q) (λ _ _ => False) s := by
 obtain ⟨c, oc, vs, w, rfl, hc1, hc2, hc3⟩ := hcv;have hoc : s.heap.get? c = some oc := (I.hok c _ hc1).1;obtain ⟨a1, a2⟩ := vL I hc (A' := X.A.in1.in1) rfl rfl;have hdp := hr.dp;refine wpAny_call (Gv (show X.A.depth < recursionLimit by omega) ho rfl L.co L.gen rfl rfl hoc hc2 hc3 λ q => ?_)
 rw [L.bind];refine wpAny_pure (wpAny_newFunctionEnv L.noc (λ z hz => by rw [List.mem_singleton.mp hz]; exact L.par) (λ h₁ hns hsb => ?_) L.blk.kind)
 have keep : ∀ b o, s.heap.get? b = some o -> h₁.get? b = some o := λ b o e => hsb.extBut b o (Zk (Ze e)) (Zb _ e);refine ⟨I.nolimit.keeps keep, ?_⟩;have J := I.lam (A' := X.A.in1.in1) (q := q) (f := f) (code := .ref c) (tk := s.toks + [(x, u)].length) L.blk L.par L.own L.noc L.ncap keep hns a2 a1 ry;exact kla_codeExpr (wpAny_mono (he q f (.ref c) s H [] _ _ H Q J hq) (λ v s' ⟨v', H', J', rv, qv⟩ => I.after ⟨v', H', J'.os, J'.bare, J'.base, J'.hok, rv, qv⟩) λ _ _ z => z.elim)
theorem Ka {E : Value -> Shared -> Prop} {Q : Value -> Shared -> Prop} (L : Ei X x cap capI scope params body) (I : Inv X pins σ H s) (hcode : X.env.code = .ref c) (hd : CodeHd X.base c P) (hP : H P = some (.tbl ps)) (ht : TOk H ps)
  (h : ∀ f s' H' ps' pm cv ct, Cd s.heap.objs.size P ps ps' H H' -> Inv X (pins ++ [(f, uD X (X.env.qual ++ "<lambda>") params body scope pm cv ct)]) σ H' s' -> yo H' cv -> Q (.ref f) s') :
  wpAny (model X.prog X.w) A (eval (.Lambda params body scope pos) X.env) Q E s := by
 have hd' : CodeHd s.heap c P := hd.keeps I.bk;have oP : s.heap.get? P = some (tabObj ps) := I.hok P _ hP;have nb : ∀ b o, X.base.get? b = some o -> b ≠ P := λ b o e z => by
  have := (I.bs b o e).2;rw [z, hP] at this; cases this
 obtain ⟨og, es, ep, eg, edg, _⟩ := id I.mod.glob;obtain ⟨bm, ob, b1, b2, b3, b4, b5, b6⟩ := I.mod.bmain;have hbG : bm ≠ mainGlobals := λ z => by
  rw [z, eg] at b3; cases b3; rw [edg] at b6; cases b6
 have hBA : s.heap.BuiltinsAt X.mg P := ⟨bm, ob, b1, b2, hbG, nb _ _ b3, I.bk _ _ b3, b4, b5, b6⟩;have hcl := jq (L.blk.cells I);have hg := I.mod.glob.keeps I.bk;have fin : ∀ {H' : Hp} {h' : Heap} {tk : Nat} {ps' : Array Value} {pm cv ct : Value}, Cd s.heap.objs.size P ps ps' H H' -> Inv X pins σ H' { s with heap := h', toks := tk } -> yo H' cv ->
   Q (.ref h'.objs.size) { s with heap := h'.push (uD X (X.env.qual ++ "<lambda>") params body scope pm cv ct), toks := tk } := λ {H' h' tk ps' pm cv ct} hG I' hcv => by
  have I2 : Inv X pins σ H' { s with heap := h'.push (uD X (X.env.qual ++ "<lambda>") params body scope pm cv ct), toks := tk } := I'.kept (t' := tk) λ b o e => Zb _ e
  refine h _ _ H' ps' pm cv ct hG (I2.more λ p hp => ?_) hcv;rw [List.mem_singleton.mp hp];exact ⟨Zf _ rfl, I'.hok.fresh (Zg _), Nat.ne_of_gt I'.lt, I'.nofs (Zg _), λ v => by intro z; cases z⟩
 refine kla_eval L.dflt ?_;cases hnf : codeAmong pos ps.toList with
 | some cv =>
  refine kla_makeFunctionHit hcl I.ok.glob hg hcode hd' oP ht.1 hnf hBA λ ctv h' tk hk hsz => ?_;exact fin ⟨hP, ⟨#[], by simp⟩, ht, λ _ _ _ e => e, λ _ _ e => e⟩ (I.kept hk) (ht.2 _ _ hnf)
 | none =>
  refine kla_makeFunction hcl I.ok.glob hg hcode hd' oP ht.1 hnf (nb _ _ eg) hBA λ c' ctv h' tk hx hge hlt hrec htb => ?_;obtain ⟨c2, oc, vs, t, e2, hoc, hdd, hv⟩ := hrec;cases e2;refine xq I hP ht hge hoc hdd hv (λ b o hb e => hx b o hb e) htb λ hG I' => fin hG I' ⟨c', oc, vs, _, rfl, dG, hdd, hv⟩
end
theorem KZ {X : Cx} {x : Str} {cap : List Str} {scope : Scope} {q : Str} {f : Addr} {code : Value} {s : Shared} {H : Hp} : ∀ k, eG (k + 1) X.A -> eG k (qP X X.A.in1.in1 x cap scope q f code s H).A := λ k r =>
 ⟨r.hd, by have := r.dp; show X.A.depth + 1 + 3 * k + 5 < _; omega, by have := r.un; show X.A.units + 1 + 1 + 3 + 16 * k + 200 < _; omega⟩
section
variable {X : Cx} {pins : List (Addr × Obj)} {σ : St} {H : Hp} {s : Shared}
theorem Inv.trackNew (I : Inv X pins σ H s) (ho : s.heap.get? c = some o) (hn : H c = none) (hnew : X.s₀.heap.objs.size <= c) (hL : c ≠ X.env.locals) (hc : ∀ x d, X.env.cells.lookup x = some d -> d ≠ c) (hp : ∀ p ∈ X.pn ++ pins, p.1 ≠ c)
  (new : gM X.prog X.w (upd H c u) s.heap c u) : Inv X pins σ (upd H c u) s := by
 have ne : ∀ b u, H b = some u -> b ≠ c := λ b u e z => by rw [z, hn] at e; cases e
 refine ⟨I.ok, I.os, I.bare, ⟨I.base.keep, I.base.slot, λ b ob e n hx => ?_, I.base.there, λ b xs e => ?_, λ b ob u e => ?_, λ b ps e => ?_⟩, I.loc, I.cell, ?_, λ x d e => ?_, λ p hp' => ?_, λ a u e => ?_, I.len⟩
 .rw [aR (Zk (Zc (Ze e) hnew))]; exact I.base.free b ob e n hx
 .have q := I.base.tups b xs e;rw [aR (ne _ _ q)]; exact q
 .have q := I.base.frzs b ob u e;rw [aR (ne _ _ q)]; exact q
 .obtain ⟨more, q⟩ := I.base.tbls b ps e;exact ⟨more, by rw [aR (ne _ _ q)]; exact q⟩
 .rw [aR (Ne.symm hL)]; exact I.free
 .rw [aR (hc x d e)]; exact I.freeC x d e
 .obtain ⟨a, b, r⟩ := I.pin p hp';exact ⟨a, by rw [aR (hp p hp')]; exact b, r⟩
 .by_cases z : a = c
  .subst z;rw [dG] at e; cases e;exact new
  .rw [aR z] at e;exact (I.hok a u e).stay (λ b v _ q => q) (λ b q => by rw [aR (ne _ _ q)]; exact q) λ b xs q => by rw [aR (ne _ _ q)]; exact q
structure New (X : Cx) (pins : List (Addr × Obj)) (a : Addr) : Prop where
 s0 : X.s₀.heap.objs.size <= a
 loc : a ≠ X.env.locals
 fs : a ∉ X.fs
 cel : ∀ x d, X.env.cells.lookup x = some d -> d ≠ a
 pin : ∀ p ∈ X.pn ++ pins, p.1 ≠ a
theorem Inv.newA (I : Inv X pins σ H s) (h : s.heap.objs.size <= a) : New X pins a :=
 ⟨Zl I.sz h, Nat.ne_of_gt (Zc I.lt h), I.nofs h, λ x d e => by
  obtain ⟨v, o, e2, _⟩ := I.cell x d e;exact Zk (Zc (Ze e2) h), λ p hp => Zk (Zc (Ze (I.pin p hp).1) h)⟩
theorem Inv.chg (I : Inv X pins σ H s) (N : New X pins a) (hn : H a = none) (k : ∀ b o, b ≠ a -> s.heap.get? b = some o -> h'.get? b = some o) : Inv X pins σ H { s with heap := h', toks := tk } :=
 I.turned k hn N.loc (.inr N.s0) N.cel N.pin
theorem Cw {E : Value -> Shared -> Prop} {P : PySem.Fin -> Shared -> Prop} {W : Nat -> List Int -> Hp -> Prop} (hA : A = X.A.in1.in1) (I : Inv X pins σ H s) (N : New X pins D) (ho : s.heap.get? D = some (seqObj "list" vs.toArray n)) (hn : H D = none) (r : Vals xs vs) (h64 : xs.length < 64) (w0 : W 0 [] H)
  (turn : ∀ (i : Nat) (y : V) (u : Value) (kz : List Int) (Hi : Hp) (s' : Shared) (own : List (Addr × Obj)), xs[i]? = some y -> RelV y u -> W i kz Hi -> Inv X (pins ++ own) σ Hi s' -> wpAny (model X.prog X.w) X.A.in1.in1 (call (.ref f) [u]) (EP X (pins ++ own) σ λ v H' => ∃ k, v = .int k /\ W (i + 1) (kz ++ [k]) H') (λ _ _ => False) s')
  (h : ∀ kz H' s', W xs.length kz H' -> H' D = none -> Inv X pins σ (upd H' D (.lst ((lg (λ i j => decide (kz.getD i 0 < kz.getD j 0)) xs.length).map λ i => xs.getD i .non))) s' -> P (.done (.ret .none)) s') :
  wpAny (model X.prog X.w) A (ksk_tree D (.ref f) false) P E s := by
 subst hA;have hl := r.length;have e1 := get?_update_seq ho λ _ => (#[] : Array Value);generalize hc1 : (if (#[] : Array Value).size == vs.toArray.size then n else n + 1) = c1 at e1;have upd1 := λ (a : Addr) (g : Heap) (q : Array Value -> Array Value) => Heap.SameBut.update g a (Obj.mapSeq q);unfold ksk_tree;refine wpAny_bind (listItems_at ho rfl ?_);refine wpAny_bind (listUpdate_at ho rfl ?_ (by rw [Zd, sizeLine_eq]; omega) (Nat.zero_le _))
 refine wpAny_bind (seqEpoch_at e1 rfl ?_);refine wpAny_bind (wpAny_newTuple ?_ (by show vs.length <= _; rw [sizeLine_eq]; omega))
 refine wpAny_bind (wpAny_newList ?_ (Nat.zero_le _));refine wpAny_holding ?_;have I1 : Inv X pins σ H { s with heap := s.heap.update D (Obj.mapSeq λ _ => (#[] : Array Value)), toks := s.toks } := I.chg N hn λ b o hb e => ((upd1 D s.heap _).2 b hb).trans e
 generalize hg4 : (s.heap.update D (Obj.mapSeq λ _ => (#[] : Array Value))).push (seqObj "tuple" vs.toArray 0) = g4;have I4 : Inv X pins σ H { s with heap := g4, toks := s.toks } := I1.kept (h' := g4) λ b o e => by rw [<- hg4]; exact Zb _ e
 have o4 : g4.get? D = some (seqObj "list" #[] c1) := by rw [<- hg4]; exact Zb _ e1
 show wpAny (model X.prog X.w) X.A.in1.in1 (ksk_rest D (.ref f) false vs.toArray c1 (.ref g4.objs.size)) P E { s with heap := g4.push (seqObj "list" #[] 0) }
 have NK : New X pins g4.objs.size := I4.newA (Zg _);have hDK : D ≠ g4.objs.size := Zk (Ze o4);have nK : H g4.objs.size = none := I4.hok.fresh (Zg _);have I5 : Inv X pins σ H { s with heap := g4.push (seqObj "list" #[] 0), toks := s.toks } := I4.kept (h' := g4.push (seqObj "list" #[] 0)) λ b o e => Zb _ e
 have o5 : (g4.push (seqObj "list" #[] 0)).get? D = some (seqObj "list" #[] c1) := Zb _ o4;have k5 : (g4.push (seqObj "list" #[] 0)).get? g4.objs.size = some (seqObj "list" #[] 0) := Zf _ rfl;generalize g4.objs.size = kS at *
 generalize g4.push (seqObj "list" #[] 0) = g5 at *
 have pinIt : ∀ {Hi : Hp} {s' : Shared} {kA : Array Value} {e : Nat}, Inv X pins σ Hi s' -> s'.heap.get? kS = some (seqObj "list" kA e) -> s'.heap.get? D = some (seqObj "list" #[] c1) -> Hi kS = none -> Hi D = none -> Inv X (pins ++ [(kS, seqObj "list" kA e), (D, seqObj "list" #[] c1)]) σ Hi s' := λ {Hi s' kA e} J q1 q2 q3 q4 => J.more λ p hp => by
  rcases Zi.mp hp with z | z
  .rw [z]; exact ⟨q1, q3, NK.loc, NK.fs, λ v => by intro z; cases z⟩
  .rw [List.mem_singleton.mp z]; exact ⟨q2, q4, N.loc, N.fs, λ v => by intro z; cases z⟩
 unfold ksk_rest;refine wpAny_bind (wpAny_rule ?_);rw [List.forIn_toArray];refine wpAny_bind (ksk_fold (λ i s' => ∃ Hi kz kA e, Inv X (pins ++ [(kS, seqObj "list" kA e), (D, seqObj "list" #[] c1)]) σ Hi s' /\ W i kz Hi /\ IntsAre kA.toList kz /\ kz.length = i) vs 0 _ ⟨H, [], #[], 0, pinIt I5 k5 o5 nK hn, w0, .nil, rfl⟩ ?step ?done)
 case step =>
  rintro j v s' hv ⟨Hi, kz, kA, e, J, w, hk, hkl⟩;simp only [Nat.zero_add] at w hkl ⊢;obtain ⟨y, hy, ry⟩ : ∃ y, xs[j]? = some y /\ RelV y v := by
   have hj : j < vs.length := (Zh.mp hv).1;have hj' : j < xs.length := by omega
   have rl := rA r j;refine ⟨xs[j], List.getElem?_eq_getElem hj', ?_⟩;have a1 : xs.getD j V.non = xs[j] := by simp [List.getD, hj']
   have a2 : vs.getD j Value.none = v := by simp [List.getD, hv]
   rw [a1, a2] at rl;exact rl
  have hj : j < xs.length := (Zh.mp hy).1;refine wpAny_bind (wpAny_attempt (wpAny_mono (turn j y v kz Hi s' _ hy ry w J) (λ u s2 hu => ?_) λ _ _ z => z.elim));obtain ⟨z, H2, J2, rz, m, hz, w2⟩ := hu;subst hz;obtain ⟨t, rfl⟩ := rz;have pk := J2.pin (kS, seqObj "list" kA e) (by simp)
  have pd := J2.pin (D, seqObj "list" #[] c1) (by simp)
  have hkA : kA.size <= 64 := by
   have := hk.length;rw [Array.length_toList] at this;omega
  have s1 := upd1 kS s2.heap (·.push (.int m t));have q1 := get?_update_seq pk.1 (·.push (.int m t))
  try dsimp only
  refine wpAny_bind (listUpdate_at pk.1 rfl ?_ (by rw [sizeLine_eq]; omega) (Zl (Nat.le_of_eq (Array.size_push ..)) (by rw [sizeLine_eq]; omega)))
  have ea : (kA.push (Value.int m t)).toList = kA.toList ++ [Value.int m t] := by simp
  have J3 : Inv X pins σ H2 s2 := J2.unpinned;refine wpAny_pure ⟨rfl, H2, kz ++ [m], kA.push (.int m t), _, pinIt (J3.chg (tk := s2.toks) NK pk.2.1 λ b o hb e => (s1.2 b hb).trans e) q1 ((s1.2 D hDK).trans pd.1) pk.2.1 pd.2.1, w2, by rw [ea]; exact ksk_snoc hk, by simp [hkl]⟩
 case done =>
  rintro s' ⟨Hi, kz, kA, e, J, w, hk, hkl⟩;rw [Nat.zero_add, <- hl] at w;have hkl : kz.length = xs.length := by omega
  have pk := J.pin (kS, seqObj "list" kA e) (by simp)
  have pd := J.pin (D, seqObj "list" #[] c1) (by simp)
  have J3 : Inv X pins σ Hi s' := J.unpinned;have hkA : kA.size = vs.length := by
   have := hk.length;rw [Array.length_toList] at this;omega
  try dsimp only
  refine wpAny_bind (listItems_at pk.1 rfl ?_);have tail : ∀ st : SortSt, failedOf st = none -> (arrOf st).map (·.2) = (((lg (λ i j => decide (kz.getD i 0 < kz.getD j 0)) xs.length).map λ i => vs.getD i Value.none).toArray) -> wpAny (model X.prog X.w) X.A.in1.in1 (ksk_tail D false c1 (.ref kS) st) P E s' := λ st hf har => by
   have s1 := upd1 kS s'.heap λ _ => (#[] : Array Value);have q1 := (s1.2 D hDK).trans pd.1;have hsz : ((lg (λ i j => decide (kz.getD i 0 < kz.getD j 0)) xs.length).map λ i => vs.getD i Value.none).toArray.size = vs.length := by rw [Zd, Zu, lr, hl]
   unfold ksk_tail;rw [har]
   try dsimp only
   refine wpAny_bind (listUpdate_at pk.1 rfl ?_ (by rw [hkA, sizeLine_eq]; omega) (Nat.zero_le _))
   refine wpAny_bind (wpAny_letGo ?_);refine wpAny_bind (seqEpoch_at q1 rfl ?_);have s2 := upd1 D (s'.heap.update kS (Obj.mapSeq λ _ => (#[] : Array Value))) λ _ => ((lg (λ i j => decide (kz.getD i 0 < kz.getD j 0)) xs.length).map λ i => vs.getD i Value.none).toArray;have q2 := get?_update_seq q1 λ _ => ((lg (λ i j => decide (kz.getD i 0 < kz.getD j 0)) xs.length).map λ i => vs.getD i Value.none).toArray;refine wpAny_bind (listUpdate_at q1 rfl ?_ (Nat.zero_le _) (Zl (Nat.le_of_eq hsz) (by rw [sizeLine_eq]; omega)))
   rw [hf];simp only [bne_self_eq_false, Bool.false_eq_true, if_false];have J4 : Inv X pins σ Hi { s' with heap := s'.heap.update kS (Obj.mapSeq λ _ => (#[] : Array Value)), toks := s'.toks } := J3.chg NK pk.2.1 λ b o hb e => (s1.2 b hb).trans e
   have J5 := J4.chg (tk := s'.toks) N pd.2.1 λ b o hb e => (s2.2 b hb).trans e;refine wpAny_pure (h kz Hi _ w pd.2.1 (J5.trackNew q2 pd.2.1 N.s0 N.loc N.cel N.pin ⟨by rw [Zu, lr, sizeLine_eq]; omega, _, _, ux r _, q2⟩))
  unfold ksk_end
  try dsimp only
  simp only [Bool.false_eq_true, if_false];by_cases h2 : vs.toArray.size < 2
  .rw [if_pos h2, if_pos h2];refine wpAny_bind (wpAny_pure ?_);rw [StateT.run_pure];refine wpAny_bind (wpAny_pure ?_)
   try dsimp only
   refine tail _ rfl ?_;rw [Zd] at h2;unfold lg;rw [if_neg (by omega), hl, range_getD]
   show (kA.zip vs.toArray).map (λ p => p.2) = vs.toArray;apply Array.toList_inj.mp;rw [Array.toList_map, ksk_zip, List.map_snd_zip (by simp [hkA])]
  .rw [if_neg h2, if_neg h2];rw [Zd] at h2;rw [ksk_kind hk (by omega)]
   refine wpAny_bind (wpAny_pure ?_);have hkt : kA.toList.length = vs.length := by rw [Array.length_toList, hkA]
   have good : (kas_sort vs.length).kasWp (kas_ask X.prog X.w X.A.in1.in1 oneType' kA.toList) (λ p s'' => p = wA (λ i j => decide (kz.getD i 0 < kz.getD j 0)) (kas_sort vs.length) /\ s'' = s') s' :=
    dX.wp (n := vs.length) (R := fP vs.length) (λ i j C hi hj hC => by
     obtain ⟨t1, g1⟩ := hk.get i (kz.getD i 0) (by simp [List.getD, hkl, <- hl, show i < xs.length by omega])
     obtain ⟨t2, g2⟩ := hk.get j (kz.getD j 0) (by simp [List.getD, hkl, <- hl, show j < xs.length by omega])
     show wpAny _ _ (keyLt' _ (kA.toList.getD i Value.none) (kA.toList.getD j Value.none)) C _ s';have f1 : kA.toList.getD i Value.none = .int (kz.getD i 0) t1 := by
      show (kA.toList[i]?).getD Value.none = _;rw [g1]; rfl
     have f2 : kA.toList.getD j Value.none = .int (kz.getD j 0) t2 := by
      show (kA.toList[j]?).getD Value.none = _;rw [g2]; rfl
     rw [f1, f2];exact kat_lt_int hC) (rG (by omega)) ⟨rfl, rfl⟩
   have run := kat_run (E := E) (Q := λ st' s'' => s'' = s' /\ failedOf st' = none /\ (arrOf st').map (·.2) = List.toArray ((wA (λ i j => decide (kz.getD i 0 < kz.getD j 0)) (kas_sort vs.length)).toList.map λ i => vs.getD i Value.none)) hkt (by omega) (by omega) (λ p st' s'' a1 a2 a3 a4 => ⟨a4.2, a3, by rw [<- a4.1]; exact kat_snds hkt a2⟩) good
   rw [Array.toArray_toList] at run;refine wpAny_bind (wpAny_mono run ?_ λ _ _ e => e);rintro ⟨⟨⟩, st'⟩ s'' ⟨rfl, hf, har⟩
   try dsimp only
   refine tail st' hf ?_;rw [har];unfold lg;rw [if_pos (by omega), hl]
end
def Dm (kz : List Int) (xs : List V) : List V := (lg (λ i j => decide (kz.getD i 0 < kz.getD j 0)) xs.length).map λ i => xs.getD i .non
def Ri (P : Addr) (capI : List Nat) (ta te : TE) : TE := λ σ H Q => ta σ H λ v H1 => ∃ (a : Addr) (xs : List V) (ps : Array Value), v = .ref a /\ H1 a = some (.lst xs) /\ xs.length < 64 /\ H1 P = some (.tbl ps) /\ TOk H1 ps /\
 ∀ lo H2 ps', Cd lo P ps ps' H1 H2 -> ∃ W : Nat -> List Int -> Hp -> Prop, W 0 [] H2 /\ (∀ i kz Hi, W i kz Hi -> (∀ c o, H2 c = some (.frz o (.own 0)) -> Hi c = some (.frz o (.own 0))) /\ ∀ y, xs[i]? = some y -> te (some y :: lN σ capI) Hi λ v H' => ∃ k, v = .int k /\ W (i + 1) (kz ++ [k]) H') /\
  ∀ kz H', W xs.length kz H' -> ∀ p, H' p = none -> Q (.ref p) (upd H' p (.lst (Dm kz xs)))
theorem HY (hc : X.calm = true) (hr : eG (k + 1) X.A) (hm : X.mg "sorted" = none) (L : Ei X x cap capI scope params body) (htb : ∃ c, X.env.code = .ref c /\ CodeHd X.base c P) (ha : PE X e ta)
  (he : ∀ q f code s H, (∀ k, eG (k + 1) X.A -> eG k (qP X X.A.in1.in1 x cap scope q f code s H).A) -> PE (qP X X.A.in1.in1 x cap scope q f code s H) body te) (hg : Gl X "sorted" := by rfl) (hs : starEach [e] X.env = (false, eval e X.env) :: starEach [] X.env := by rfl) :
  PE X (.Call (.Name "sorted" p) [e] [⟨some "key", .Lambda params body scope lpos, kpos⟩] pos) (Ri P capI ta te) := by
 intro pins s σ H Q I h;obtain ⟨c, hcode, hhd⟩ := htb;refine wpAny_Call_Name_kw (lD I hg hm PyProof.Rows.boot_sorted ?_ (by decide) (by decide))
 refine PyProof.Rows.callWith_kw (qO (thn (ha pins s σ H _ I h) λ u s1 hu => ?_) hs) (by rw [hs]; rfl) (by rw [hs]; rfl)
 obtain ⟨v, H1, I1, r1, a, xs, ps, rfl, hal, h64, hP, ht, hW⟩ := hu;cases r1;show wpAny _ _ (evalAll [(do let v <- eval (.Lambda params body scope lpos) X.env; standAt pos; pure v)]) _ _ s1
 refine wpAny_evalAll_cons (wpAny_bind (Ka L I1 hcode hhd hP ht λ f s2 H2 ps' pm cv ct hG I2 hcv => wpAny_bind (wpAny_standAt (wpAny_pure (wpAny_evalAll_nil ?_)))));show wpAny _ _ (call (.builtin "sorted") [.ref a] [(Str.ofString "key", .ref f)]) _ _ s2;obtain ⟨W, w0, wt, wf⟩ := hW _ H2 ps' hG;have hal2 : H2 a = some (.lst xs) := hG.keep a _ (Ao hal hP (by intro z; cases z)) hal
 obtain ⟨hz, its, n, r, hlen, hobj⟩ := I2.lstM hal2;refine call_function_entry_kw kind_sorted plain_sorted entry_sorted (ksk_s1 _ _) ?_;unfold Builtin.«sorted»;refine wpAny_bind (m := checkCount "sorted" 1 1 _) (wpAny_pure ?_);refine wpAny_bind (collect_list (vs := its) ⟨_, hobj, rfl, n, rfl⟩ ?_ (by rw [sizeLine_eq]; omega))
 refine wpAny_bind (wpAny_newList ?_ (by rw [sizeLine_eq]; omega))
 generalize hg1 : (s2.heap.push (seqObj "list" #[] 0)).update s2.heap.objs.size (Obj.mapSeq (· ++ its.toArray)) = g1;have k1 : ∀ b o, s2.heap.get? b = some o -> g1.get? b = some o := λ b o q => by
  rw [<- hg1, Heap.get?_update_ne _ _ _ _ (Zk (Ze q)), Heap.get?_push_ne _ _ _ (Zk (Ze q))];exact q
 have z1 : g1.objs.size = s2.heap.objs.size + 1 := by rw [<- hg1, Heap.size_update, size_push']
 have k2 : ∀ b o, s2.heap.get? b = some o -> (g1.push (seqObj "list" its.toArray 0)).get? b = some o := λ b o q => Zb _ (k1 b o q);have o2 : (g1.push (seqObj "list" its.toArray 0)).get? g1.objs.size = some (seqObj "list" its.toArray 0) := Zf _ rfl;show wpAny _ _ _ _ _ { s2 with heap := g1.push (seqObj "list" its.toArray 0) }
 have hle : s2.heap.objs.size <= g1.objs.size := by omega
 generalize g1.push (seqObj "list" its.toArray 0) = g2 at *
 generalize g1.objs.size = D at *
 have I3 := I2.kept (t' := s2.toks) k2;refine wpAny_bind (wpAny_holding (wpAny_call_entry_kw slot_list_sort ⟨_, o2, rfl⟩ entry_list_sort ?body (ksk_l1 _ _)))
 case body =>
  show wpAny (model X.prog X.w) X.A.in1.in1 (Builtin.«list.sort» ⟨[.ref D], [(Str.ofString "key", .ref f)]⟩) _ _ _;rw [ksk_t1];refine Cw (W := W) rfl I3 (I2.newA hle) o2 (I2.hok.fresh hle) r h64 w0 (λ i y u kz Hi s' own hy ry w J => ?_) λ kz H' s' w hD J => ⟨_, rfl, ?_⟩
  .obtain ⟨hfz, hte⟩ := wt i kz Hi w;obtain ⟨c', oc, vs', w', e1, e2, e3⟩ := id hcv;exact Nx hr hc L (λ q f code s H => he q f code s H KZ) J (J.pin (f, uD X (X.env.qual ++ "<lambda>") params body scope pm cv ct) (by simp)).1 ⟨c', oc, vs', w', e1, hfz _ _ e2, e3⟩ ry (hte y hy)
  .exact wpAny_pure ⟨_, rfl, .ref D, _, J.unpinned, rfl, wf kz H' w D hD⟩
end L2
namespace L3
open PySem PySem.Spec PyProof.Rows L2
def qM : List gJ -> Mu -> Option (List Int × Mu)
 | [], μ => some ([], μ)
 | t :: r, μ => (t μ).bind λ x => match x.1 with
  | .int j => (qM r x.2).map λ q => (j :: q.1, q.2)
  | _ => none
def oJ (kz : List Int) (ds : List D) : List D := (lg (λ i j => decide (kz.getD i 0 < kz.getD j 0)) ds.length).map λ i => ds.getD i .non
def vP (own : List Str) (capI : List Nat) (f fe : EF) : LF := λ δ μ => (f δ μ).bind λ r => (vC r.1 r.2).bind λ ds => if ds.length < 64 then (qM (ds.map (thG (hName 0) fe (dg own δ capI))) r.2).map λ q => (oJ q.1 ds, q.2) else none
theorem Ha {X : Cx} {tb : List Addr} {x : Str} {cap : List Str} {capI : List Nat} {scope : Scope} {params : Arguments} {body e : Expr} {f fe : EF} {k : Nat} {P : Addr} {p pos lpos kpos : Pos} (hc : X.calm = true) (hr : eG (k + 1) X.A) (hm : X.mg "sorted" = none) (L : Ei X x cap capI scope params body) (hP : P ∈ tb) (htb : ∃ c, X.env.code = .ref c /\ PySem.W.CodeHd X.base c P) (ha : PD X tb e f)
  (he : ∀ q f code s H, (∀ k, eG (k + 1) X.A -> eG k (qP X X.A.in1.in1 x cap scope q f code s H).A) -> PD (qP X X.A.in1.in1 x cap scope q f code s H) tb body fe) (hg : Gl X "sorted" := by rfl) (hs : starEach [e] X.env = (false, eval e X.env) :: starEach [] X.env := by rfl) :
  PDN X tb (.Call (.Name "sorted" p) [e] [⟨some "key", .Lambda params body scope lpos, kpos⟩] pos) (vP [x] capI f fe) :=
 dU (HY (te := tD X.K tb fe) hc hr hm L htb ha he hg hs) λ σ H Q zq1 => by
  obtain ⟨W, δ, ds, μ', e, ok, hd, hf, kk⟩ := zq1;unfold vP at hf;obtain ⟨⟨v0, μ1⟩, e1, hf⟩ := Za.mp hf;obtain ⟨es, e2, hf⟩ := Za.mp hf;split at hf
  .rename_i h64;obtain ⟨⟨kz, μ2⟩, e3, e4⟩ := Zp.mp hf;cases e4;refine ⟨W, δ, v0, μ1, e, ok, hd, e1, λ v W1 ok1 l1 m1 d1 => ?_⟩;obtain ⟨a, xs, rfl, q, r⟩ := xT ok1 d1 (by rw [m1]; exact e2)
   have hlen := aD.length r;obtain ⟨ps, ep, tp⟩ := ok1.tab P hP;refine ⟨a, xs, ps, rfl, q, by omega, ep, tp, λ lo H2 ps' hG => ?_⟩
   obtain ⟨ok2, l2⟩ := ok1.tbl hP ep hG;refine ⟨λ i zs Hi => ∃ W3, W3.H = Hi /\ WOk X.K tb W3 /\ Le tb ⟨H2, W1.ad, W1.mu⟩ W3 /\ ∃ rest, qM ((es.drop i).map (thG (hName 0) fe (dg [x] δ capI))) W3.mu = some (rest, μ2) /\ zs ++ rest = kz, ⟨⟨H2, W1.ad, W1.mu⟩, rfl, ok2, Le.refl _, kz, by rw [List.drop_zero, <- e3, <- m1], rfl⟩, ?_, ?_⟩
   .rintro i zs Hi ⟨W3, rfl, ok3, l3, rest, ek, hz⟩;refine ⟨λ c o hco => ?_, λ y hy => ?_⟩
    .have nl : ¬ ni W1.ad W1.mu c := λ z => by
      obtain ⟨ys, e⟩ := ok2.live z;have e : H2 c = some (.lst ys) := e;rw [hco] at e; cases e
     have nt : c ∉ tb := λ z => by
      obtain ⟨qs, e, _⟩ := ok2.tab c z;have e : H2 c = some (.tbl qs) := e;rw [hco] at e; cases e
     have q1 : Wd.fz tb ⟨H2, W1.ad, W1.mu⟩ c = some (.frz o (.own 0)) := (pH (W := ⟨H2, W1.ad, W1.mu⟩) nl nt).trans hco;exact (dM (l3.same c _ q1)).1
    .obtain ⟨d0, ed, dd⟩ := aD.get' r hy;have hi : i < es.length := (Zh.mp ed).1;have ed' : es[i] = d0 := (Zh.mp ed).2;rw [List.drop_eq_getElem_cons hi, Zj, ed'] at ek;unfold qM at ek;obtain ⟨⟨w, μ3⟩, e5, e6⟩ := Za.mp ek;unfold thG at e5;obtain ⟨δ1, e7, e8⟩ := Za.mp e5;cases e7;cases w with
     | int j =>
      obtain ⟨⟨rs, μ4⟩, e9, e10⟩ := Zp.mp (show (qM _ μ3).map (λ q => (j :: q.1, q.2)) = some (rest, μ2) from e6);cases e10;have l13 : Le tb W1 W3 := l2.trans l3;refine ⟨W3, (dg [x] δ capI).set 0 (some d0), .int j, μ3, rfl, ok3, ((uf (own := [x]) (capI := capI) hd).mono' (l1.trans l13)).set (i := 0) (Den.mono' dd l13), e8, λ v W4 ok4 l4 m4 d4 => ⟨j, bB d4, W4, rfl, ok4, l3.trans l4, rs, by rw [m4]; exact e9, by rw [List.append_assoc]; exact hz⟩⟩
     | _ => cases e6
   .rintro zs Hi ⟨W3, rfl, ok3, l3, rest, ek, hz⟩ p hp;rw [List.drop_of_length_le (by omega)] at ek
    cases ek;rw [List.append_nil] at hz;subst hz;have l13 : Le tb W1 W3 := l2.trans l3;have hb : cM X.K tb W3 (oJ zs es) (Dm zs xs) := by
     unfold oJ Dm;rw [hlen];exact um (cM.mono' r l13) _
    exact kk p _ W3 ok3 (l1.trans l13) rfl hp hb
  .cases hf
end L3
set_option maxHeartbeats 4000000
namespace LG
open PySem PySem.Spec PyProof.Rows L2 L3
noncomputable def fj : SF := bh (jG (M1 (aq 0) (gm "int")) (oh (M1 (aq 0) (gm "bool"))))
noncomputable def dm (bY : FF) : SF := bh (jG (M1 (aq 0) (gm "tuple")) (Bw (pC ["part"] [] (fL (aq 0)) (hName 0) (MC (ao (aq 0) (aB)) bY))))
noncomputable def cI : SF := aO (wz 0 1 (ao (MC (ao (aq 0) (aB)) (aX pQ)) (ao (MC (ao (aq 1) (aB)) (aX pQ)) (aB)))) (aO (lV (toB (M2 (aq 1) (mC (.int 0)) oNe)) (wz 0 1 (ao (aq 1) (ao (M2 (aq 0) (aq 1) oMod) (aB))))) (bh (aq 0)))
noncomputable def dD (bc : FF) : SF := aO (bf 1 (mC (.int 0))) (aO (gn (fL (aq 0)) (hName 2) (aO (bf 1 (MC (ao (aq 1) (ao (aq 2) (aB))) bc)) (sIf (toB (M2 (aq 1) (mC (.int 1)) oEq)) (vM) (bH)))) (bh (aq 1)))
noncomputable def jx : SF := aO (bf 2 (M2 (M2 (M2 (M2 (M2 (aq 0) (mC (.int 2147483647)) oMod) (mC (.int 48271)) cU) (M2 (M2 (mC (.int 7919)) (aq 1) cU) (aq 1) cU) cu) (mC (.int 104729)) cu) (mC (.int 2147483647)) oMod)) (bh (M2 (M2 (aq 2) (aq 2) cU) (mC (.int 2147483629)) oMod))
noncomputable def mZ (bF : FF) : SF := aO (bf 1 (mD (vR (aB)))) (aO (gn (cg (ao (MC (ao (MC (ao (aq 0) (aB)) (aX bC)) (ao (mC (.int 63)) (aB))) (nA pB)) (aB))) (hName 2) (aO (bf 3 (MC (ao (M2 (aq 0) (aq 2) oIx) (aB)) (aX pQ))) (aO (sIf (toB (M2 (aq 3) (M2 (mC (.int 10)) (mC (.int 18)) vZ) oLt)) (gn (cg (ao (mC (.int 12)) (aB))) (hName 4) (gK (iQ (aq 1) (ao (MC (ao (MC (ao (aq 3) (ao (M2 (M2 (mC (.int 3)) (aq 4) cU) (mC (.int 1)) cu) (aB))) bF) (ao (M2 (M2 (aq 4) (aq 2) cu) (mC (.int 2)) cu) (aB))) bF) (aB))))) (bH)) (aO (lV (ou (toB (M2 (aq 3) (M2 (mC (.int 10)) (mC (.int 18)) vZ) oGe)) (toB (M2 (MC (ao (aq 1) (aB)) (aX bC)) (mC (.int 900)) oLt))) (aO (gK (iQ (aq 1) (ao (M2 (aq 3) (mC (.int 2147483629)) oMod) (aB)))) (bf 3 (M2 (aq 3) (mC (.int 2147483629)) oDiv)))) (sIf (toB (M2 (aq 3) (mC (.int 2147483629)) oGe)) (gK (iQ (aq 1) (ao (M2 (aq 3) (mC (.int 2147483629)) oMod) (aB)))) (bH)))))) (bh (aq 1)))
noncomputable def gk : SF := aO (sIf (toB (M2 (aq 0) (MC (aB) oLst) oEq)) (bh (mC (.int 0))) (bH)) (bh (EY (aq 0)))
noncomputable def qi : SF := aO (lV (toB (M2 (aq 1) (mC (.int 0)) oNe)) (wz 0 1 (ao (aq 1) (ao (M2 (aq 0) (aq 1) oMod) (aB))))) (bh (MC (ao (aq 0) (aB)) (aX pQ)))
noncomputable def fJ (eN : FF) : SF := aO (bf 2 (aq 1)) (aO (gn (fL (aq 0)) (hName 3) (bf 2 (MC (ao (aq 2) (ao (aq 3) (aB))) eN))) (aO (sIf (toB (M2 (aq 1) (mC (.int 0)) oLt)) (bf 2 (M2 (mC (.int 0)) (MC (ao (aq 2) (aB)) (aX pQ)) iG)) (bH)) (bh (M2 (MC (ao (mFz (lLC ["_law_number"] [2] (fL (aq 0)) (hName 0) (cT) (M2 (aq 0) (aq 1) oDiv))) (aB)) lX) (MC (ao (M2 (aq 1) (aq 2) oDiv) (aB)) oTup) cu))))
noncomputable def rn : SF := bh (jG (M1 (aq 0) (gm "int")) (oh (M1 (aq 0) (gm "bool"))))
noncomputable def oM : SF := bh (jG (M1 (aq 0) (gm "bool")) (M2 (aq 0) (aq 1) oEq))
noncomputable def Jv : SF := aO (bf 1 (MC (ao (mC .non) (ao (mC (.bl true)) (ao (mC (.bl false)) (ao (mC (.int 0)) (ao (mC (.int 1)) (ao (M1 (mC (.int 1)) gG) (ao (mC (.int 7)) (ao (mC (.str "")) (ao (mC (.str "1")) (ao (mC (.str "spot")) (ao (MC (aB) oTup) (ao (MC (aB) oLst) (ao (Ek) (ao (MC (ao (mC (.int 1)) (aB)) oTup) (ao (MC (ao (mC (.int 1)) (aB)) oLst) (ao (MC (ao (mC (.int 0)) (ao (mC (.int 1)) (aB))) oTup) (ao (MC (ao (mC (.int 0)) (ao (mC (.int 1)) (aB))) oLst) (ao (MC (ao (MC (ao (mC (.int 0)) (ao (mC (.int 1)) (aB))) oTup) (aB)) oTup) (ao (M2 (mC (.int 10)) (mC (.int 30)) vZ) (aB)))))))))))))))))))) oLst)) (aO (bf 1 (M2 (aq 1) (MC (ao (MC (ao (mC (.int 1)) (ao (mC (.int 1)) (aB))) oTup) (ao (MC (ao (mC (.bl true)) (ao (mC (.int 1)) (aB))) oTup) (ao (MC (ao (mC (.int 0)) (ao (mC (.bl true)) (aB))) oTup) (ao (uK (mC (.int 0)) (mC (.int 1))) (ao (MC (ao (mC .non) (ao (mC (.int 1)) (aB))) oTup) (ao (MC (ao (mC (.str "0")) (ao (mC (.int 1)) (aB))) oTup) (ao (MC (ao (mC (.int 0)) (ao (mC (.int 0)) (ao (mC (.int 1)) (aB)))) oTup) (ao (MC (ao (MC (ao (mC (.int 0)) (ao (mC (.int 1)) (aB))) oTup) (aB)) oLst) (ao (M2 (mC (.int 10)) (mC (.int 64)) vZ) (ao (MC (ao (mC (.int 2)) (ao (mC (.int 2)) (aB))) oTup) (aB))))))))))) oLst) cu)) (bh (M2 (aq 1) (M2 (aq 0) (MC (ao (aq 1) (aB)) (aX bC)) oMod) oIx)))
noncomputable def gO : SF := aO (sIf (toB (M2 (aq 1) (mC (.int 0)) oEq)) (bh (MC (ao (M2 (M2 (aq 0) (mC (.int 20001)) oMod) (mC (.int 10000)) iG) (ao (M2 (mC (.int 1)) (M2 (M2 (aq 0) (mC (.int 20001)) oDiv) (mC (.int 60)) oMod) cu) (aB))) oTup)) (bH)) (aO (sIf (toB (M2 (aq 1) (mC (.int 1)) oEq)) (bh (MC (ao (M2 (M2 (aq 0) (mC (.int 5)) oMod) (mC (.int 2)) iG) (ao (mC (.int 1)) (aB))) oTup)) (bH)) (aO (sIf (toB (M2 (aq 1) (mC (.int 2)) oEq)) (bh (MC (ao (M2 (M2 (aq 0) (mC (.int 11)) oMod) (mC (.int 5)) iG) (ao (M2 (mC (.int 1)) (M2 (M2 (aq 0) (mC (.int 11)) oDiv) (mC (.int 3)) oMod) cu) (aB))) oTup)) (bH)) (aO (sIf (toB (M2 (aq 1) (mC (.int 3)) oEq)) (bh (MC (ao (M2 (aq 2) (M2 (MC (ao (mC (.int 0)) (ao (mC (.int 0)) (ao (mC (.int 1)) (ao (mC (.int 40)) (aB))))) oLst) (M2 (aq 0) (mC (.int 4)) oMod) oIx) cu) (ao (mC (.int 1)) (aB))) oTup)) (bH)) (bh (MC (ao (M2 (M2 (aq 0) (mC (.int 2)) oMod) (M2 (mC (.int 1)) (M2 (aq 2) (mC (.int 7)) oMod) cu) cU) (ao (mC (.int 1)) (aB))) oTup)))))
noncomputable def jw (bF jV aV : FF) : SF := aO (bf 4 (mD (vR (aB)))) (aO (bf 5 (mC (.int 1))) (aO (gn (cg (ao (aq 1) (aB))) (hName 6) (aO (Gi (MC (ao (MC (ao (aq 0) (ao (M2 (aq 6) (mC (.int 1)) cu) (aB))) bF) (ao (aq 2) (ao (M2 (aq 3) (aq 6) cu) (aB)))) jV) (jD 2 (bN (hName 7) (bN (hName 8) (jB))))) (aO (sIf (toB (M2 (aq 6) (mC (.int 0)) oEq)) (bf 5 (aq 8)) (bH)) (gK (iQ (aq 4) (ao (aq 7) (aB))))))) (bh (MC (ao (rF (aq 4)) (ao (aq 5) (aB))) aV))))
noncomputable def jb (aP aV : FF) : SF := aO (bf 3 (mFz (lLC ["_law_k"] [0] (cg (ao (aq 1) (aB))) (hName 0) (cT) (M2 (M2 (MC (ao (aq 1) (aB)) aP) (mC (.int 41)) oMod) (mC (.int 20)) iG)))) (aO (bf 4 (mFz (lLC ["_law_k"] [0] (cg (ao (aq 1) (aB))) (hName 0) (cT) (M2 (M2 (MC (ao (aq 1) (aB)) aP) (mC (.int 7)) oMod) (mC (.int 3)) iG)))) (aO (bf 5 (mD (vR (aB)))) (aO (gn (cg (ao (aq 2) (aB))) (hName 6) (aO (bf 7 (M2 (M2 (MC (ao (aq 0) (aB)) aP) (mC (.int 13)) oMod) (mC (.int 6)) iG)) (gK (iQ (aq 5) (ao (MC (ao (mFz (lLC ["_law_k"] [3, 7, 4] (cg (ao (aq 1) (aB))) (hName 0) (cT) (M2 (M2 (aq 1) (aq 0) oIx) (M2 (aq 2) (M2 (aq 3) (aq 0) oIx) cU) cu))) (ao (mC (.int 1)) (aB))) aV) (aB)))))) (bh (rF (aq 5))))))
noncomputable def oG (aP aV : FF) : SF := aO (wz 3 4 (ao (M2 (M2 (MC (ao (aq 0) (aB)) aP) (mC (.int 5)) oMod) (mC (.int 2)) iG) (ao (M2 (M2 (MC (ao (aq 0) (aB)) aP) (mC (.int 5)) oMod) (mC (.int 2)) iG) (aB)))) (aO (bf 5 (mD (vR (aB)))) (aO (gn (cg (ao (aq 2) (aB))) (hName 6) (aO (bf 7 (MC (ao (aq 0) (aB)) aP)) (aO (bf 8 (mD (lSl (MC (ao (M2 (M2 (aq 7) (mC (.int 9)) oMod) (mC (.int 4)) iG) (ao (M2 (M2 (M2 (aq 7) (mC (.int 9)) oDiv) (mC (.int 9)) oMod) (mC (.int 4)) iG) (ao (M2 (M2 (M2 (aq 7) (mC (.int 81)) oDiv) (mC (.int 9)) oMod) (mC (.int 4)) iG) (aB)))) oLst) (fNo) (fAt (aq 1))))) (aO (sIf (toB (M2 (aq 1) (mC (.int 1)) oGt)) (wk (M2 (M2 (aq 3) (M2 (aq 8) (mC (.int 0)) oIx) cU) (M2 (aq 4) (M2 (aq 8) (M2 (aq 1) (mC (.int 2)) iG) oIx) cU) cu) (aq 8) (M1 (mC (.int 1)) gG)) (bH)) (gK (iQ (aq 5) (ao (MC (ao (rF (aq 8)) (ao (mC (.int 1)) (aB))) aV) (aB)))))))) (bh (rF (aq 5)))))
noncomputable def jO (aP iy lJ bU : FF) : SF := aO (bf 3 (MC (ao (aq 0) (aB)) aP)) (aO (bf 4 (M2 (M2 (aq 3) (mC (.int 9)) oDiv) (M2 (aq 2) (mC (.int 1)) cu) oMod)) (aO (bf 5 (M2 (aq 3) (mC (.int 9)) oMod)) (aO (sIf (toB (M2 (aq 5) (mC (.int 5)) oEq)) (bh (MC (ao (aq 0) (ao (aq 1) (ao (aq 4) (aB)))) iy)) (bH)) (aO (sIf (toB (M2 (aq 5) (mC (.int 6)) oEq)) (bh (MC (ao (aq 0) (ao (aq 1) (ao (aq 4) (aB)))) lJ)) (bH)) (aO (sIf (toB (M2 (aq 5) (mC (.int 7)) oEq)) (bh (M2 (MC (ao (MC (ao (aq 3) (ao (aq 1) (ao (mC (.int 2)) (ao (mC (.int 0)) (aB))))) bU) (aB)) oLst) (aq 4) cU)) (bH)) (aO (bf 6 (mD (vR (aB)))) (aO (gn (cg (ao (aq 4) (aB))) (hName 7) (aO (bf 8 (MC (ao (aq 0) (aB)) aP)) (sIf (ou (toB (M2 (aq 5) (mC (.int 8)) oEq)) (ou (toB (M2 (aq 6) (MC (aB) oLst) Dp)) (toB (M2 (M2 (aq 8) (mC (.int 3)) oMod) (mC (.int 0)) oEq)))) (gK (iQ (aq 6) (ao (M2 (aq 6) (M2 (M2 (aq 8) (mC (.int 3)) oDiv) (MC (ao (aq 6) (aB)) (aX bC)) oMod) oIx) (aB)))) (gK (iQ (aq 6) (ao (MC (ao (M2 (aq 8) (mC (.int 7)) oDiv) (ao (aq 1) (ao (M2 (M2 (aq 5) (mC (.int 8)) oMod) (mC (.int 5)) oMod) (ao (M2 (M2 (aq 8) (mC (.int 5)) oMod) (mC (.int 30)) cU) (aB))))) bU) (aB))))))) (bh (rF (aq 6))))))))))
noncomputable def iW (cB : FF) : SF := aO (bf 1 (MC (ao (aq 0) (aB)) cB)) (bh (zV (pC ["number"] [1] (fL (aq 0)) (hName 0) (M2 (aq 0) (aq 1) oDiv))))
noncomputable def dZ (bQ : FF) : SF := aO (sIf (gV (dN (iC (MC (ao (aq 1) (aB)) bQ))) (toB (M2 (MC (ao (aq 1) (aB)) (aX bC)) (mC (.int 2)) oNe))) (bh (mC (.bl false))) (bH)) (bh (jG (MCh (mC (.int 0)) (M2 (aq 1) (mC (.int 0)) oIx) (aq 0) oLe oLt) (M2 (M2 (aq 1) (mC (.int 1)) oIx) (mC (.int 1)) oGe)))
noncomputable def dw (fW : FF) : SF := aO (sIf (gV (dN (iC (M1 (aq 1) (gm "tuple")))) (toB (M2 (MC (ao (aq 1) (aB)) (aX bC)) (mC (.int 0)) oEq))) (bh (mC (.bl false))) (bH)) (aO (sIf (dN (iC (Bw (pC ["part"] [0] (fL (aq 1)) (hName 0) (MC (ao (aq 1) (ao (aq 0) (aB))) fW))))) (bh (mC (.bl false))) (bH)) (bh (Bw (pC ["one", "other"] [] (tE (ao (aq 1) (ao (mSl (aq 1) (fAt (mC (.int 1))) (fNo)) (aB)))) (jD 2 (bN (hName 0) (bN (hName 1) (jB)))) (M2 (M2 (aq 0) (mC (.int 0)) oIx) (M2 (aq 1) (mC (.int 0)) oIx) oLt)))))
noncomputable def xQ (aP bF : FF) : SF := aO (bf 2 (MC (ao (aq 0) (aB)) aP)) (aO (bf 3 (mFz (vP ["_law_k"] [2] (aq 1) (MC (ao (aq 1) (ao (M2 (aq 0) (mC (.int 3)) cu) (aB))) bF)))) (aO (bf 4 (mFz (Bl (ao (mSl (aq 3) (fNo) (fAt (M2 (mC (.int 1)) (M2 (aq 2) (MC (ao (mC (.int 4)) (ao (MC (ao (aq 3) (aB)) (aX bC)) (aB))) (nA pB)) oMod) cu))) (aB))))) (bh (MC (ao (mFz (lLC ["_law_k"] [2] (fL (aq 4)) (hName 0) (cT) (MC (ao (aq 0) (ao (M2 (mC (.int 1)) (M2 (MC (ao (aq 1) (ao (M2 (aq 0) (mC (.int 60)) cu) (aB))) bF) (M2 (MC (ao (mC (.int 3)) (ao (mC (.int 7)) (ao (mC (.int 1000)) (aB)))) oLst) (M2 (M2 (aq 1) (mC (.int 4)) oDiv) (mC (.int 3)) oMod) oIx) oMod) cu) (aB))) oTup))) (aB)) lX))))
noncomputable def cW (bc : FF) : SF := aO (bf 1 (mC (.int 1))) (aO (gn (fL (aq 0)) (hName 2) (Gd 1 (M2 (aq 2) (MC (ao (aq 1) (ao (aq 2) (aB))) bc) oDiv) FN)) (bh (aq 1)))
noncomputable def bL : SF := bh (Hu (pC ["one", "other"] [] (tE (ao (aq 0) (ao (aq 1) (aB)))) (jD 2 (bN (hName 0) (bN (hName 1) (jB)))) (M2 (aq 0) (aq 1) cU)))
noncomputable def jQ (bu : FF) : SF := bh (mFz (lLC ["at"] [1, 0] (cg (ao (MC (ao (M2 (aq 0) (mC (.int 0)) oIx) (aB)) (aX bC)) (aB))) (hName 0) (cT) (MC (ao (aq 1) (ao (mFz (lLC ["row"] [0] (fL (aq 2)) (hName 0) (cT) (M2 (aq 0) (aq 1) oIx))) (aB))) bu)))
noncomputable def eZ (cL : FF) : SF := aO (bf 2 (MC (ao (mFz (lLC ["point"] [] (fL (aq 0)) (hName 0) (cT) (M2 (aq 0) (M1 (mC (.int 1)) gG) oIx))) (aB)) cL)) (bh (mFz (lLC ["number", "point"] [2] (tE (ao (aq 1) (ao (aq 0) (aB)))) (jD 2 (bN (hName 0) (bN (hName 1) (jB)))) (cT) (M2 (aq 0) (M2 (aq 2) (M2 (aq 1) (M1 (mC (.int 1)) gG) oIx) oDiv) cU))))
noncomputable def oR (dR iZ fX : FF) : SF := aO (bf 2 (mFz (lLC ["k", "share"] [0] (fL (aq 1)) (jD 2 (bN (hName 0) (bN (hName 1) (jB)))) (cT) (M2 (aq 2) (aq 0) oIx)))) (aO (bf 3 (MC (ao (aq 2) (ao (mFz (lLC ["k", "share"] [] (fL (aq 1)) (jD 2 (bN (hName 0) (bN (hName 1) (jB)))) (cT) (aq 1))) (aB))) dR)) (bh (MC (ao (MC (ao (aq 2) (ao (aq 3) (aB))) iZ) (aB)) fX)))
noncomputable def Dy (eN aV : FF) : SF := aO (bf 2 (mC (.int 1))) (aO (gn (fL (aq 1)) (jD 2 (bN (hName 3) (bN (hName 4) (jB)))) (bf 2 (M2 (M2 (aq 2) (M2 (M2 (aq 0) (aq 3) oIx) (M1 (mC (.int 1)) gG) oIx) cU) (MC (ao (aq 2) (ao (M2 (M2 (aq 0) (aq 3) oIx) (M1 (mC (.int 1)) gG) oIx) (aB))) eN) oDiv))) (aO (bf 5 (mD (zx (MC (ao (mC (.int 0)) (aB)) oLst) (M2 (MC (ao (M2 (aq 0) (M2 (M2 (aq 1) (mC (.int 0)) oIx) (mC (.int 0)) oIx) oIx) (aB)) (aX bC)) (mC (.int 1)) iG)))) (aO (bf 6 (mC (.int 0))) (aO (gn (fL (aq 1)) (jD 2 (bN (hName 3) (bN (hName 4) (jB)))) (aO (bf 6 (M2 (aq 6) (aq 4) cu)) (gn (cg (ao (MC (ao (aq 5) (aB)) (aX bC)) (aB))) (hName 7) (aO (bf 8 (M2 (M2 (aq 4) (M2 (M2 (aq 0) (aq 3) oIx) (aq 7) oIx) cU) (M2 (aq 2) (M2 (M2 (aq 0) (aq 3) oIx) (M1 (mC (.int 1)) gG) oIx) oDiv) cU)) (wk (M2 (M2 (aq 5) (aq 7) oIx) (aq 8) cu) (aq 5) (aq 7)))))) (bh (MC (ao (rF (aq 5)) (ao (M2 (aq 2) (aq 6) cU) (aB))) aV))))))
noncomputable def kY : SF := bh (jG (M1 (aq 1) (gm "tuple")) (M2 (MC (ao (aq 1) (aB)) (aX bC)) (aq 0) oEq))
noncomputable def cQ (fD jW : FF) : SF := aO (sIf (gV (dN (iC (MC (ao (MC (ao (aq 0) (aB)) (aX bC)) (ao (aq 2) (aB))) fD))) (toB (M2 (MC (ao (aq 2) (aB)) (aX bC)) (MC (ao (aq 1) (aB)) (aX bC)) oGt))) (bh (mC (.bl false))) (bH)) (bh (M2 (MC (ao (aq 0) (ao (aq 2) (aB))) jW) (aq 1) oEq))
noncomputable def jT (jR bQ bY : FF) : SF := aO (sIf (dN (iC (MC (ao (mC (.int 2)) (ao (aq 1) (aB))) jR))) (bh (mC (.bl false))) (bH)) (aO (Gi (aq 1) (jD 2 (bN (hName 2) (bN (hName 3) (jB))))) (bh (jG (MC (ao (aq 2) (aB)) bQ) (jG (M2 (MC (ao (aq 2) (aB)) (aX bC)) (aq 0) oEq) (MC (ao (aq 3) (aB)) bY)))))
noncomputable def jM (jh : FF) : SF := bh (jG (MC (ao (aq 0) (ao (aq 1) (aB))) jh) (An (oF (M2 (aq 1) (mC (.int 0)) oIx))))
noncomputable def iz (bu : FF) : SF := aO (Gi (aq 0) (jD 2 (bN (hName 2) (bN (hName 3) (jB))))) (bh (M2 (MC (ao (aq 2) (ao (mSl (aq 1) (fNo) (fAt (M1 (mC (.int 1)) gG))) (aB))) bu) (M2 (aq 3) (M2 (aq 1) (M1 (mC (.int 1)) gG) oIx) cU) oGt))
noncomputable def dO (gY fB : FF) : SF := aO (sIf (gV (dN (iC (MC (ao (M2 (MC (ao (aq 1) (aB)) (aX bC)) (mC (.int 1)) iG) (ao (aq 2) (aB))) gY))) (dN (iC (MC (ao (aq 2) (ao (aq 1) (aB))) fB)))) (bh (mC (.bl false))) (bH)) (bh (oh (An (pC ["point"] [2] (fL (aq 0)) (hName 0) (MC (ao (aq 1) (ao (aq 0) (aB))) fB)))))
noncomputable def uQ (eN aV : FF) : SF := aO (bf 2 (mC (.int 1))) (aO (gn (fL (aq 1)) (jD 2 (bN (hName 3) (bN (hName 4) (jB)))) (bf 2 (M2 (M2 (aq 2) (M2 (M2 (aq 0) (aq 3) oIx) (M1 (mC (.int 1)) gG) oIx) cU) (MC (ao (aq 2) (ao (M2 (M2 (aq 0) (aq 3) oIx) (M1 (mC (.int 1)) gG) oIx) (aB))) eN) oDiv))) (aO (bf 5 (mD (zx (MC (ao (mC (.int 0)) (aB)) oLst) (M2 (MC (ao (M2 (aq 0) (M2 (M2 (aq 1) (mC (.int 0)) oIx) (mC (.int 0)) oIx) oIx) (aB)) (aX bC)) (mC (.int 1)) iG)))) (aO (bf 6 (mC (.int 0))) (aO (gn (fL (aq 1)) (jD 2 (bN (hName 3) (bN (hName 4) (jB)))) (aO (bf 6 (M2 (aq 6) (aq 4) cu)) (gn (cg (ao (MC (ao (aq 5) (aB)) (aX bC)) (aB))) (hName 7) (aO (bf 8 (M2 (aq 4) (M2 (M2 (aq 0) (aq 3) oIx) (aq 7) oIx) cU)) (wk (M2 (M2 (aq 5) (aq 7) oIx) (M2 (aq 8) (M2 (aq 2) (M2 (M2 (aq 0) (aq 3) oIx) (M1 (mC (.int 1)) gG) oIx) oDiv) cU) cu) (aq 5) (aq 7)))))) (bh (MC (ao (rF (aq 5)) (ao (M2 (aq 2) (aq 6) cU) (aB))) aV))))))
noncomputable def gR (aP bF : FF) : SF := aO (bf 2 (MC (ao (aq 0) (aB)) aP)) (aO (bf 3 (mFz (vP ["_law_k"] [2] (aq 1) (MC (ao (aq 1) (ao (M2 (aq 0) (mC (.int 3)) cu) (aB))) bF)))) (aO (bf 4 (mFz (Bl (ao (mSl (aq 3) (fNo) (fAt (M2 (mC (.int 1)) (M2 (aq 2) (MC (ao (mC (.int 4)) (ao (MC (ao (aq 3) (aB)) (aX bC)) (aB))) (nA pB)) oMod) cu))) (aB))))) (aO (bf 5 (M2 (MC (ao (mC (.int 3)) (ao (mC (.int 7)) (ao (mC (.int 1000)) (aB)))) oLst) (M2 (M2 (aq 2) (mC (.int 4)) oDiv) (mC (.int 3)) oMod) oIx)) (bh (MC (ao (mFz (lLC ["_law_k"] [2, 5] (fL (aq 4)) (hName 0) (cT) (MC (ao (aq 0) (ao (M2 (mC (.int 1)) (M2 (MC (ao (aq 1) (ao (M2 (aq 0) (mC (.int 60)) cu) (aB))) bF) (aq 2) oMod) cu) (aB))) oTup))) (aB)) lX)))))
noncomputable def nW (aV : FF) : SF := aO (bf 2 (M2 (aq 1) (M2 (MC (ao (aq 0) (aB)) (aX bC)) (mC (.int 1)) iG) oMod)) (aO (bf 3 (M2 (MC (ao (mC (.int 1000)) (ao (mC (.int 1)) (ao (mC (.int 3)) (ao (mC (.int 1000000)) (aB))))) oLst) (M2 (M2 (aq 1) (mC (.int 3)) oDiv) (mC (.int 4)) oMod) oIx)) (aO (bf 4 (mD (lLC ["_law_one"] [3] (fL (mSl (aq 0) (fNo) (fAt (M1 (mC (.int 1)) gG)))) (hName 0) (cT) (M2 (aq 0) (aq 1) cU)))) (aO (wk (M2 (M2 (aq 4) (aq 2) oIx) (M2 (M2 (MC (ao (mC (.int 1)) (ao (M1 (mC (.int 1)) gG) (aB))) oLst) (M2 (M2 (aq 1) (mC (.int 12)) oDiv) (mC (.int 2)) oMod) oIx) (M2 (aq 0) (M1 (mC (.int 1)) gG) oIx) cU) cu) (aq 4) (aq 2)) (bh (MC (ao (rF (aq 4)) (ao (M2 (M2 (aq 0) (M1 (mC (.int 1)) gG) oIx) (aq 3) cU) (aB))) aV)))))
noncomputable def dF (ik aP bU : FF) : SF := aO (bf 3 (MC (ao (aq 0) (ao (aq 1) (ao (aq 2) (aB)))) ik)) (aO (sIf (toB (M2 (aq 3) (MC (aB) oLst) oEq)) (bh (MC (ao (MC (ao (MC (ao (aq 0) (aB)) aP) (ao (aq 1) (ao (mC (.int 2)) (ao (mC (.int 0)) (aB))))) bU) (aB)) oLst)) (bH)) (bh (aq 3)))
noncomputable def iR (bO fQ : FF) : SF := aO (sIf (gV (dN (iC (M1 (aq 2) (gm "tuple")))) (gV (toB (M2 (aq 2) (MC (aB) oTup) Af)) (toB (M2 (MC (ao (aq 2) (aB)) (aX bC)) (MC (ao (aq 1) (aB)) (aX bC)) oGt)))) (bh (mC (.bl false))) (bH)) (aO (bf 3 (M1 (mC (.int 1)) gG)) (aO (gn (fL (aq 2)) (hName 4) (aO (sIf (gV (dN (iC (M1 (aq 4) (gm "tuple")))) (gV (toB (M2 (MC (ao (aq 4) (aB)) (aX bC)) (mC (.int 2)) oNe)) (gV (dN (iC (MC (ao (M2 (aq 4) (mC (.int 0)) oIx) (aB)) bO))) (dN (iC (MC (ao (M2 (aq 4) (mC (.int 1)) oIx) (aB)) bO)))))) (bh (mC (.bl false))) (bH)) (aO (sIf (gV (toB (M2 (M2 (aq 4) (mC (.int 0)) oIx) (aq 3) oLe)) (gV (toB (M2 (M2 (aq 4) (mC (.int 0)) oIx) (MC (ao (aq 0) (aB)) (aX bC)) oGe)) (toB (M2 (M2 (aq 4) (mC (.int 1)) oIx) (mC (.int 1)) oLt)))) (bh (mC (.bl false))) (bH)) (bf 3 (M2 (aq 4) (mC (.int 0)) oIx))))) (bh (M2 (MC (ao (aq 0) (ao (aq 2) (aB))) fQ) (aq 1) oEq))))
noncomputable def qz (aV : FF) : SF := aO (bf 2 (M2 (aq 1) (M2 (MC (ao (aq 0) (aB)) (aX bC)) (mC (.int 1)) iG) oMod)) (aO (bf 3 (M2 (MC (ao (mC (.int 1000)) (ao (mC (.int 1)) (ao (mC (.int 3)) (ao (mC (.int 1000000)) (aB))))) oLst) (M2 (M2 (aq 1) (mC (.int 3)) oDiv) (mC (.int 4)) oMod) oIx)) (aO (bf 4 (mD (lLC ["_law_one"] [3] (fL (mSl (aq 0) (fNo) (fAt (M1 (mC (.int 1)) gG)))) (hName 0) (cT) (M2 (aq 0) (aq 1) cU)))) (aO (wk (M2 (M2 (aq 4) (aq 2) oIx) (M2 (M2 (MC (ao (mC (.int 1)) (ao (M1 (mC (.int 1)) gG) (aB))) oLst) (M2 (M2 (aq 1) (mC (.int 12)) oDiv) (mC (.int 2)) oMod) oIx) (M2 (aq 0) (M1 (mC (.int 1)) gG) oIx) cU) cu) (aq 4) (aq 2)) (bh (MC (ao (rF (aq 4)) (ao (M2 (M2 (aq 0) (M1 (mC (.int 1)) gG) oIx) (aq 3) cU) (aB))) aV)))))
noncomputable def iT (aP bU il fQ je : FF) : SF := aO (bf 3 (MC (ao (aq 0) (aB)) aP)) (aO (sIf (gV (toB (M2 (aq 1) (MC (aB) oLst) oEq)) (toB (M2 (M2 (aq 3) (mC (.int 6)) oMod) (mC (.int 0)) oEq))) (bh (MC (ao (M2 (aq 3) (mC (.int 6)) oDiv) (ao (aq 2) (ao (M2 (M2 (aq 3) (mC (.int 6)) oDiv) (mC (.int 3)) oMod) (ao (mC (.int 0)) (aB))))) bU)) (bH)) (aO (sIf (toB (M2 (M2 (aq 3) (mC (.int 6)) oMod) (mC (.int 1)) oEq)) (bh (M2 (aq 1) (M2 (M2 (aq 3) (mC (.int 6)) oDiv) (MC (ao (aq 1) (aB)) (aX bC)) oMod) oIx)) (bH)) (aO (bf 4 (MC (ao (aq 1) (ao (MC (ao (aq 0) (ao (mFz (Et (ao (MC (ao (aq 1) (aB)) (aX bC)) (aB)))) (aB))) il) (aB))) fQ)) (aO (sIf (toB (M2 (M2 (aq 3) (mC (.int 6)) oMod) (mC (.int 4)) oLt)) (bh (aq 4)) (bH)) (bh (MC (ao (aq 4) (ao (M2 (aq 3) (mC (.int 6)) oDiv) (aB))) je))))))
noncomputable def yp : SF := bh (MC (ao (Hu (oF (mFz (lLC ["_law_one", "_law_other"] [] (tE (ao (aq 0) (ao (aq 1) (aB)))) (jD 2 (bN (hName 0) (bN (hName 1) (jB)))) (cT) (M2 (aq 0) (aq 1) cU))))) (ao (M2 (aq 1) (M1 (mC (.int 1)) gG) oIx) (aB))) oTup)
noncomputable def lM : SF := bh (M2 (M2 (M2 (aq 0) (mC (.int 0)) oIx) (M2 (aq 1) (mC (.int 1)) oIx) cU) (M2 (M2 (aq 1) (mC (.int 0)) oIx) (M2 (aq 0) (mC (.int 1)) oIx) cU) oLt)
noncomputable def mK (bO : FF) : SF := aO (sIf (gV (dN (iC (M1 (aq 1) (gm "tuple")))) (gV (toB (M2 (MC (ao (aq 1) (aB)) (aX bC)) (mC (.int 2)) oNe)) (dN (iC (MC (ao (M2 (aq 1) (mC (.int 1)) oIx) (aB)) bO))))) (bh (mC (.bl false))) (bH)) (aO (sIf (gV (dN (iC (M1 (M2 (aq 1) (mC (.int 0)) oIx) (gm "tuple")))) (toB (M2 (MC (ao (M2 (aq 1) (mC (.int 0)) oIx) (aB)) (aX bC)) (aq 0) oNe))) (bh (mC (.bl false))) (bH)) (bh (Bw (oF (mFz (lLC ["_law_number"] [] (fL (M2 (aq 1) (mC (.int 0)) oIx)) (hName 0) (cT) (MC (ao (aq 0) (aB)) bO)))))))
noncomputable def jU (oU jN : FF) : SF := bh (oh (An (oF (mFz (lLC ["_law_spot_here"] [0] (fL (aq 1)) (hName 0) (cT) (MC (ao (MC (ao (M2 (aq 1) (mC (.int 1)) oIx) (ao (mC (.int 1)) (aB))) oTup) (ao (MC (ao (M2 (aq 1) (mC (.int 0)) oIx) (ao (aq 0) (aB))) oU) (aB))) jN))))))
noncomputable def qp (fu eF : FF) : SF := aO (sIf (gV (dN (iC (MC (ao (M2 (MC (ao (aq 1) (aB)) (aX bC)) (mC (.int 1)) iG) (ao (aq 2) (aB))) fu))) (dN (iC (An (oF (mFz (lLC ["_law_number"] [] (fL (M2 (aq 2) (mC (.int 0)) oIx)) (hName 0) (cT) (M2 (aq 0) (mC (.int 0)) oNe)))))))) (bh (mC (.bl false))) (bH)) (bh (jG (MC (ao (aq 2) (ao (aq 0) (aB))) eF) (oh (MC (ao (aq 2) (ao (MC (ao (aq 1) (aB)) oLst) (aB))) eF))))
noncomputable def vq : SF := bh (MC (ao (Hu (oF (mFz (lLC ["_law_one", "_law_other"] [] (tE (ao (aq 0) (ao (aq 1) (aB)))) (jD 2 (bN (hName 0) (bN (hName 1) (jB)))) (cT) (M2 (aq 0) (aq 1) cU))))) (ao (M2 (aq 1) (M1 (mC (.int 1)) gG) oIx) (aB))) oTup)
noncomputable def qH : SF := bh (jG (M1 (aq 0) (gm "int")) (oh (M1 (aq 0) (gm "bool"))))
noncomputable def pZ : SF := aO (bf 1 (MC (ao (mC .non) (ao (mC (.bl true)) (ao (mC (.bl false)) (ao (mC (.int 0)) (ao (mC (.int 1)) (ao (M1 (mC (.int 1)) gG) (ao (mC (.str "")) (ao (mC (.str "0 1")) (ao (MC (aB) oTup) (ao (MC (aB) oLst) (ao (Ek) (ao (MC (ao (MC (aB) oTup) (aB)) oTup) (ao (MC (ao (MC (aB) oTup) (aB)) oLst) (ao (MC (ao (mC .non) (aB)) oTup) (ao (MC (ao (MC (ao (mC (.int 0)) (ao (mC (.int 1)) (aB))) oTup) (aB)) oTup) (ao (MC (ao (MC (ao (mC (.int 0)) (ao (mC (.int 1)) (aB))) oTup) (aB)) oLst) (aB))))))))))))))))) oLst)) (aO (bf 1 (M2 (aq 1) (MC (ao (MC (ao (MC (ao (mC (.int 0)) (ao (mC (.int 1)) (aB))) oLst) (aB)) oTup) (ao (uK (mC (.int 0)) (mC (.int 1))) (ao (MC (ao (MC (ao (mC (.int 0)) (ao (mC (.int 1)) (ao (mC (.int 2)) (aB)))) oTup) (aB)) oTup) (ao (MC (ao (MC (ao (mC (.int 0)) (ao (mC (.bl true)) (aB))) oTup) (aB)) oTup) (ao (MC (ao (MC (ao (mC (.bl false)) (ao (mC (.int 1)) (aB))) oTup) (aB)) oTup) (ao (MC (ao (MC (ao (mC (.str "0")) (ao (mC (.int 1)) (aB))) oTup) (aB)) oTup) (ao (MC (ao (MC (ao (MC (ao (mC (.int 0)) (aB)) oTup) (ao (mC (.int 0)) (aB))) oTup) (aB)) oTup) (aB)))))))) oLst) cu)) (aO (bf 1 (M2 (aq 1) (MC (ao (MC (ao (MC (ao (mC (.int 0)) (ao (mC (.int 0)) (aB))) oTup) (ao (mC (.int 0)) (aB))) oTup) (ao (MC (ao (MC (ao (mC (.int 0)) (ao (mC (.int 1)) (aB))) oTup) (ao (mC .non) (aB))) oTup) (ao (MC (ao (MC (ao (mC (.int 1)) (ao (mC (.int 0)) (aB))) oTup) (ao (mC (.int 0)) (aB))) oTup) (ao (MC (ao (MC (ao (mC (.int 1)) (ao (mC (.int 0)) (aB))) oLst) (ao (mC (.int 0)) (aB))) oTup) (ao (MC (ao (MC (ao (mC (.bl true)) (ao (mC (.int 0)) (aB))) oTup) (ao (mC (.int 1)) (aB))) oTup) (ao (MC (ao (MC (ao (mC (.int 1)) (aB)) oTup) (ao (mC (.int 0)) (aB))) oTup) (ao (MC (ao (mC (.int 1)) (ao (mC (.int 0)) (aB))) oTup) (aB)))))))) oLst) cu)) (aO (bf 1 (M2 (aq 1) (MC (ao (MC (ao (mC (.int 0)) (ao (mC (.int 0)) (ao (mC (.int 0)) (aB)))) oTup) (ao (MC (ao (MC (ao (mC (.int 0)) (ao (mC (.int 1)) (aB))) oTup) (ao (MC (ao (mC (.int 1)) (ao (mC (.int 1)) (aB))) oTup) (aB))) oTup) (ao (MC (ao (MC (aB) oTup) (ao (MC (aB) oTup) (aB))) oTup) (ao (MC (ao (MC (aB) oTup) (ao (mC (.int 0)) (aB))) oTup) (aB))))) oLst) cu)) (bh (M2 (aq 1) (M2 (aq 0) (MC (ao (aq 1) (aB)) (aX bC)) oMod) oIx)))))
noncomputable def qJ (bO fQ : FF) : SF := aO (sIf (gV (dN (iC (M1 (aq 2) (gm "tuple")))) (gV (toB (M2 (aq 2) (MC (aB) oTup) Af)) (toB (M2 (MC (ao (aq 2) (aB)) (aX bC)) (MC (ao (aq 1) (aB)) (aX bC)) oGt)))) (bh (mC (.bl false))) (bH)) (aO (bf 3 (M1 (mC (.int 1)) gG)) (aO (gn (fL (aq 2)) (hName 4) (aO (sIf (gV (dN (iC (M1 (aq 4) (gm "tuple")))) (gV (toB (M2 (MC (ao (aq 4) (aB)) (aX bC)) (mC (.int 2)) oNe)) (gV (dN (iC (MC (ao (M2 (aq 4) (mC (.int 0)) oIx) (aB)) bO))) (dN (iC (MC (ao (M2 (aq 4) (mC (.int 1)) oIx) (aB)) bO)))))) (bh (mC (.bl false))) (bH)) (aO (sIf (gV (toB (M2 (M2 (aq 4) (mC (.int 0)) oIx) (aq 3) oLe)) (gV (toB (M2 (M2 (aq 4) (mC (.int 0)) oIx) (MC (ao (aq 0) (aB)) (aX bC)) oGe)) (toB (M2 (M2 (aq 4) (mC (.int 1)) oIx) (mC (.int 1)) oLt)))) (bh (mC (.bl false))) (bH)) (bf 3 (M2 (aq 4) (mC (.int 0)) oIx))))) (bh (M2 (MC (ao (aq 0) (ao (aq 2) (aB))) fQ) (aq 1) oEq))))
noncomputable def nG (bO : FF) : SF := aO (sIf (gV (dN (iC (M1 (aq 1) (gm "tuple")))) (gV (toB (M2 (MC (ao (aq 1) (aB)) (aX bC)) (mC (.int 2)) oNe)) (dN (iC (MC (ao (M2 (aq 1) (mC (.int 1)) oIx) (aB)) bO))))) (bh (mC (.bl false))) (bH)) (aO (sIf (gV (dN (iC (M1 (M2 (aq 1) (mC (.int 0)) oIx) (gm "tuple")))) (toB (M2 (MC (ao (M2 (aq 1) (mC (.int 0)) oIx) (aB)) (aX bC)) (aq 0) oNe))) (bh (mC (.bl false))) (bH)) (bh (Bw (oF (mFz (lLC ["_law_number"] [] (fL (M2 (aq 1) (mC (.int 0)) oIx)) (hName 0) (cT) (MC (ao (aq 0) (aB)) bO)))))))
noncomputable def qK (fu eF : FF) : SF := aO (sIf (gV (dN (iC (MC (ao (M2 (MC (ao (aq 1) (aB)) (aX bC)) (mC (.int 1)) iG) (ao (aq 2) (aB))) fu))) (dN (iC (An (oF (mFz (lLC ["_law_number"] [] (fL (M2 (aq 2) (mC (.int 0)) oIx)) (hName 0) (cT) (M2 (aq 0) (mC (.int 0)) oNe)))))))) (bh (mC (.bl false))) (bH)) (bh (jG (MC (ao (aq 2) (ao (aq 0) (aB))) eF) (oh (MC (ao (aq 2) (ao (MC (ao (aq 1) (aB)) oLst) (aB))) eF))))
noncomputable def lK (aP jJ : FF) : SF := aO (bf 1 (MC (ao (aq 0) (aB)) aP)) (aO (bf 2 (MC (ao (M2 (aq 1) (mC (.int 8)) oDiv) (aB)) jJ)) (aO (bf 3 (MC (ao (MC (ao (aq 0) (aB)) aP) (aB)) jJ)) (bh (M2 (MC (ao (aq 2) (ao (MC (ao (aq 2) (aB)) oTup) (ao (MC (ao (aq 2) (aB)) oLst) (ao (MC (ao (aq 2) (ao (aq 3) (aB))) oTup) (ao (MC (ao (aq 2) (ao (aq 3) (aB))) oLst) (ao (uK (mC (.int 0)) (aq 2)) (ao (MC (ao (MC (ao (aq 2) (ao (aq 3) (aB))) oTup) (aB)) oTup) (ao (MC (ao (aq 3) (ao (aq 2) (ao (aq 3) (aB)))) oTup) (aB))))))))) oLst) (M2 (aq 1) (mC (.int 8)) oMod) oIx))))
noncomputable def rT (jk aP cY jY iY jc dh jy jf cJ : FF) : SF := aO (bf 1 (MC (ao (aq 0) (aB)) jk)) (aO (gn (cg (ao (mC (.int 3)) (aB))) (hName 2) (aO (bf 3 (M2 (mC (.int 1)) (M2 (MC (ao (aq 1) (aB)) aP) (mC (.int 3)) oMod) cu)) (aO (bf 4 (MC (ao (aq 1) (ao (aq 3) (ao (mC (.int 8)) (aB)))) cY)) (aO (bf 5 (MC (ao (aq 1) (ao (aq 4) (ao (aq 3) (aB)))) jY)) (gn (cg (ao (mC (.int 12)) (aB))) (hName 6) (aO (bf 7 (MC (ao (aq 1) (aB)) iY)) (aO (sIf (dN (iC (MC (ao (MC (ao (aq 4) (ao (aq 5) (ao (aq 7) (aB)))) dh) (ao (MC (ao (aq 4) (ao (aq 5) (ao (aq 7) (aB)))) jc) (aB))) jy))) (bh (mC (.bl false))) (bH)) (sIf (dN (iC (MC (ao (MC (ao (aq 4) (ao (aq 5) (ao (aq 7) (aB)))) cJ) (ao (MC (ao (aq 4) (ao (aq 5) (ao (aq 7) (aB)))) jf) (aB))) jy))) (bh (mC (.bl false))) (bH))))))))) (bh (mC (.bl true))))
noncomputable def pM (eN aV : FF) : SF := aO (bf 2 (mC (.int 1))) (aO (gn (fL (aq 1)) (jD 2 (bN (hName 3) (bN (hName 4) (jB)))) (bf 2 (M2 (M2 (aq 2) (M2 (M2 (aq 0) (aq 3) oIx) (M1 (mC (.int 1)) gG) oIx) cU) (MC (ao (aq 2) (ao (M2 (M2 (aq 0) (aq 3) oIx) (M1 (mC (.int 1)) gG) oIx) (aB))) eN) oDiv))) (aO (bf 5 (mD (zx (MC (ao (mC (.int 0)) (aB)) oLst) (M2 (MC (ao (M2 (aq 0) (M2 (M2 (aq 1) (mC (.int 0)) oIx) (mC (.int 0)) oIx) oIx) (aB)) (aX bC)) (mC (.int 1)) iG)))) (aO (bf 6 (mC (.int 0))) (aO (gn (fL (aq 1)) (jD 2 (bN (hName 3) (bN (hName 4) (jB)))) (aO (bf 6 (M2 (aq 6) (aq 4) cu)) (gn (cg (ao (MC (ao (aq 5) (aB)) (aX bC)) (aB))) (hName 7) (aO (bf 8 (M2 (aq 4) (M2 (M2 (aq 0) (aq 3) oIx) (aq 7) oIx) cU)) (wk (M2 (M2 (aq 5) (aq 7) oIx) (M2 (aq 8) (M2 (aq 2) (M2 (M2 (aq 0) (aq 3) oIx) (M1 (mC (.int 1)) gG) oIx) oDiv) cU) cu) (aq 5) (aq 7)))))) (bh (MC (ao (rF (aq 5)) (ao (M2 (aq 2) (aq 6) cU) (aB))) aV))))))
end LG
namespace Lk25
open PySem PySem.Spec PyProof.Rows L2 L3 LG
def top (i : Nat) : Stmt := PySem.Challenge.pw_heapsmeet_k25_no_papers.main.body.getD i (.Pass ⟨0, 0, 0, 0⟩)
structure BI (K : PySem.W.Frag) (mg : Str -> Option Value) : Prop where
 b_abs : mg "abs" = none
 b_all : mg "all" = none
 b_any : mg "any" = none
 b_bool : mg "bool" = none
 b_int : mg "int" = none
 b_isinstance : mg "isinstance" = none
 b_len : mg "len" = none
 b_list : mg "list" = none
 b_min : mg "min" = none
 b_range : mg "range" = none
 b_sorted : mg "sorted" = none
 b_sum : mg "sum" = none
 b_tuple : mg "tuple" = none
 b_zip : mg "zip" = none
variable {P : Program} {w : World} {K : PySem.W.Frag} {mg : Str -> Option Value} {base : Heap} {tb : List Addr} {f Tb : Addr} {fd : FuncData}
abbrev ut : Stmt := top 22
theorem wK : aW ["_law_cell", "_law_k", "_law_number"] ["_law_cell", "_law_k"] (aN ut) := by constructor<;>first|rfl|decide +kernel
theorem GP (T : BI K mg) (F : dC K "_law_mixed" "_law_mixed" ut f fd Tb) (KB : K.In base) (hmg : mg "_law_mixed" = some (.ref f)) : FI P w K mg base tb "_law_mixed" 2 (0 + 1) (aH 3 (jx)) :=
 bV F KB hmg wK rfl (λ _ _ _ _ _ _ => us2 λ _ _ => rfl) λ c A outer s H E hcd hr => by
  have nd := wK.nd;refine aC ?_ (aF (aM (aG bz (aG dq (pdv 2) (pdv 2)) az)));refine aU (i := 2) nd ?_;refine aG bz ?_ az;refine aG cR ?_ az;exact aG cR (aG dq (aG bz (pdv 0) az) az) (aG dq (aG dq az (pdv 1)) (pdv 1))
abbrev uw : Stmt := top 23
theorem xj : aW ["_law_script", "_law_drawn", "_law_k", "_law_cell", "_law_j"] ["_law_script"] (aN uw) := by constructor<;>first|rfl|decide +kernel
theorem Gw (T : BI K mg) (F : dC K "_law_draws" "_law_draws" uw f fd Tb) (KB : K.In base) (hmg : mg "_law_draws" = some (.ref f)) (F_Lmixed : FI P w K mg base tb "_law_mixed" 2 1 bF) : FI P w K mg base tb "_law_draws" 1 (1 + 1) (aH 5 (mZ bF)) :=
 bV F KB hmg xj rfl (λ _ _ _ _ _ _ => us1 λ _ => rfl) λ c A outer s H E hcd hr => by
  have nd := xj.nd;refine aC (aU (i := 1) nd (mq (qj au))) ?_;refine aC ?_ (aF (aM (pdv 1)));refine fH (ts := [2]) PassesOwn.never rfl ?_ (aQ (i := 2) nd) ?_;refine cH T.b_range ?_;refine aa ?_ au;refine Fg rfl T.b_min ?_;exact aa (cO T.b_len (aa (pdv 0) au)) (aa az au);refine aC (aU (i := 3) nd (uZ T.b_abs (aa (bA (pdv 0) (pdv 2)) au))) ?_;refine aC ?_ ?_;refine bT (bw sZ (pdv 3) (aG Kv az az)) ?_ bj;refine aF ?_;refine fH (ts := [4]) PassesOwn.never rfl (cH T.b_range (aa az au)) (aQ (i := 4) nd) ?_;refine aF ?_;refine jt ?_;refine iw (pdv 1) ?_;refine aa ?_ au;refine aK F_Lmixed (hr.mono (by decide)) ?_ (aA (aA aL))
  refine aa ?_ (aa (aG cR (aG cR (pdv 4) (pdv 2)) az) au);refine aK F_Lmixed (hr.mono (by decide)) ?_ (aA (aA aL))
  exact aa (pdv 3) (aa (aG cR (aG dq az (pdv 4)) az) au);refine aC ?_ ?_;refine rQ PassesOwn.never ?_ ?_;refine ji ?_;exact yW (bw Fd (pdv 3) (aG Kv az az)) (zB (bw sZ (cO T.b_len (aa (pdv 1) au)) az));refine aC ?_ (aF (aU (i := 3) nd (aG dH (pdv 3) az)));exact jt (iw (pdv 1) (aa (aG bz (pdv 3) az) au));refine aF ?_;refine bT (bw Fd (pdv 3) az) ?_ bj;refine aF ?_;exact jt (iw (pdv 1) (aa (aG bz (pdv 3) az) au))
abbrev yu : Stmt := top 24
theorem zJ : aW ["_law_drawn"] ["_law_drawn"] (aN yu) := by constructor<;>first|rfl|decide +kernel
theorem Jg (T : BI K mg) (F : dC K "_law_next" "_law_next" yu f fd Tb) (KB : K.In base) (hmg : mg "_law_next" = some (.ref f)) : FI P w K mg base tb "_law_next" 1 (0 + 1) (aH 1 (gk)) :=
 bV F KB hmg zJ rfl (λ _ _ _ _ _ _ => us1 λ _ => rfl) λ c A outer s H E hcd hr => by
  have nd := zJ.nd;refine aC ?_ (aF (aM (Ow (pdv 0))));exact bT (bw (gB hr) (pdv 0) (cZ au)) (aF (aM az)) bj
abbrev Cu : Stmt := top 25
theorem El : aW ["_law_one", "_law_other"] ["_law_one", "_law_other"] (aN Cu) := by constructor<;>first|rfl|decide +kernel
theorem PB (T : BI K mg) (F : dC K "_law_gcd" "_law_gcd" Cu f fd Tb) (KB : K.In base) (hmg : mg "_law_gcd" = some (.ref f)) : FI P w K mg base tb "_law_gcd" 2 (0 + 1) (aH 2 (qi)) :=
 bV F KB hmg El rfl (λ _ _ _ _ _ _ => us2 λ _ _ => rfl) λ c A outer s H E hcd hr => by
  have nd := El.nd;refine aC ?_ (aF (aM (uZ T.b_abs (aa (pdv 0) au))));refine rQ PassesOwn.never (bw (vJ hr) (pdv 1) az) ?_;refine aF ?_;exact tZ (i := 0) (j := 1) rfl nd (aa (pdv 1) (aa (aG bz (pdv 0) (pdv 1)) au))
abbrev rP : Stmt := top 26
theorem uT : aW ["_law_numbers", "_law_bottom", "_law_common", "_law_number"] ["_law_numbers", "_law_bottom"] (aN rP) := by constructor<;>first|rfl|decide +kernel
theorem Ds (T : BI K mg) (F : dC K "_law_lowest" "_law_lowest" rP f fd Tb) (KB : K.In base) (hmg : mg "_law_lowest" = some (.ref f)) (F_Lgcd : FI P w K mg base tb "_law_gcd" 2 1 eN) : FI P w K mg base tb "_law_lowest" 2 (1 + 1) (aH 4 (fJ eN)) :=
 bV F KB hmg uT rfl (λ _ _ _ _ _ _ => us2 λ _ _ => rfl) λ c A outer s H E hcd hr => by
  have nd := uT.nd;refine aC (aU (i := 2) nd (pdv 1)) ?_;refine aC ?_ ?_;refine fH (ts := [3]) PassesOwn.never rfl (cV (pdv 0)) (aQ (i := 3) nd) ?_;refine aF ?_;exact aU (i := 2) nd (aK F_Lgcd (hr.mono (by decide)) (aa (pdv 2) (aa (pdv 3) au)) (aA (aA aL)))
  refine aC ?_ ?_;refine bT (bw sZ (pdv 1) az) ?_ bj;exact aF (aU (i := 2) nd (aG gf az (uZ T.b_abs (aa (pdv 2) au))));refine aF ?_;refine aM ?_;refine aG cR ?_ (aZ (aa (aG dH (pdv 1) (pdv 2)) au));refine Bs T.b_tuple ?_;refine aa ?_ au;refine fZ ?_;refine iM (own := ["_law_number"]) (cap := ["_law_common"]) (capI := [2]) (ts := [0]) rfl ⟨rfl, by decide +kernel, ⟨⟨rfl, by first | exact Or.inl rfl | exact Or.inr rfl⟩, trivial⟩, by decide +kernel, by decide +kernel⟩ (by decide +kernel) (cV (pdv 0)) (λ cs C fp s2 H2 => aQ (i := 0) (show (["_law_number", "_law_common"] : List Str).Nodup by decide +kernel)) ?_ ?_
  intro cs C fp s2 H2;exact di;intro cs C fp s2 H2;exact aG dH (pdv 0) (pdv 1)
abbrev qe : Stmt := top 29
theorem tM : aW ["_law_drawn", "_law_directions", "_law_many", "_law_start", "_law_step", "_law_found", "_law_j", "_law_turn"] ["_law_drawn", "_law_directions", "_law_many"] (aN qe) := by constructor<;>first|rfl|decide +kernel
theorem Ab (T : BI K mg) (F : dC K "_law_on_line" "_law_on_line" qe f fd Tb) (KB : K.In base) (hmg : mg "_law_on_line" = some (.ref f)) (F_Lnext : FI P w K mg base tb "_law_next" 1 1 aP) (F_Llowest : FI P w K mg base tb "_law_lowest" 2 2 aV) : FI P w K mg base tb "_law_on_line" 3 (2 + 1) (aH 8 (jb aP aV)) :=
 bV F KB hmg tM rfl (λ _ _ _ _ _ _ => us3 λ _ _ _ => rfl) λ c A outer s H E hcd hr => by
  have nd := tM.nd;refine aC ?_ ?_;refine aU (i := 3) nd ?_;refine fZ ?_;refine iM (own := ["_law_k"]) (cap := ["_law_drawn"]) (capI := [0]) (ts := [0]) rfl ⟨rfl, by decide +kernel, ⟨⟨rfl, by first | exact Or.inl rfl | exact Or.inr rfl⟩, trivial⟩, by decide +kernel, by decide +kernel⟩ (by decide +kernel) (cH T.b_range (aa (pdv 1) au)) (λ cs C fp s2 H2 => aQ (i := 0) (show (["_law_k", "_law_drawn"] : List Str).Nodup by decide +kernel)) ?_ ?_
  intro cs C fp s2 H2;exact di;intro cs C fp s2 H2;refine aG gf ?_ az;exact aG bz (aK F_Lnext (hr.mono (by decide)) (aa (pdv 1) au) (aA aL)) az
  refine aC ?_ ?_;refine aU (i := 4) nd ?_;refine fZ ?_;refine iM (own := ["_law_k"]) (cap := ["_law_drawn"]) (capI := [0]) (ts := [0]) rfl ⟨rfl, by decide +kernel, ⟨⟨rfl, by first | exact Or.inl rfl | exact Or.inr rfl⟩, trivial⟩, by decide +kernel, by decide +kernel⟩ (by decide +kernel) (cH T.b_range (aa (pdv 1) au)) (λ cs C fp s2 H2 => aQ (i := 0) (show (["_law_k", "_law_drawn"] : List Str).Nodup by decide +kernel)) ?_ ?_
  intro cs C fp s2 H2;exact di;intro cs C fp s2 H2;refine aG gf ?_ az;exact aG bz (aK F_Lnext (hr.mono (by decide)) (aa (pdv 1) au) (aA aL)) az
  refine aC (aU (i := 5) nd (mq (qj au))) ?_;refine aC ?_ (aF (aM (qg (pdv 5))));refine fH (ts := [6]) PassesOwn.never rfl (cH T.b_range (aa (pdv 2) au)) (aQ (i := 6) nd) ?_;refine aC ?_ ?_;refine aU (i := 7) nd ?_;refine aG gf ?_ az;exact aG bz (aK F_Lnext (hr.mono (by decide)) (aa (pdv 0) au) (aA aL)) az
  refine aF ?_;refine jt ?_;refine iw (pdv 5) ?_;refine aa ?_ au;refine aK F_Llowest (hr.mono (by decide)) ?_ (aA (aA aL))
  refine aa ?_ (aa az au);refine fZ ?_;refine iM (own := ["_law_k"]) (cap := ["_law_start", "_law_turn", "_law_step"]) (capI := [3, 7, 4]) (ts := [0]) rfl ⟨rfl, by decide +kernel, ⟨⟨rfl, by first | exact Or.inl rfl | exact Or.inr rfl⟩, ⟨⟨rfl, by first | exact Or.inl rfl | exact Or.inr rfl⟩, ⟨⟨rfl, by first | exact Or.inl rfl | exact Or.inr rfl⟩, trivial⟩⟩⟩, by decide +kernel, by decide +kernel⟩ (by decide +kernel) (cH T.b_range (aa (pdv 1) au)) (λ cs C fp s2 H2 => aQ (i := 0) (show (["_law_k", "_law_start", "_law_turn", "_law_step"] : List Str).Nodup by decide +kernel)) ?_ ?_
  intro cs C fp s2 H2;exact di;intro cs C fp s2 H2;exact aG cR (bA (pdv 1) (pdv 0)) (aG dq (pdv 2) (bA (pdv 3) (pdv 0)))
abbrev yM : Stmt := top 30
theorem zK : aW ["_law_drawn", "_law_directions", "_law_many", "_law_first", "_law_second", "_law_found", "_law_j", "_law_number", "_law_row"] ["_law_drawn", "_law_directions", "_law_many"] (aN yM) := by constructor<;>first|rfl|decide +kernel
theorem JZ (T : BI K mg) (F : dC K "_law_flat" "_law_flat" yM f fd Tb) (KB : K.In base) (hmg : mg "_law_flat" = some (.ref f)) (F_Lnext : FI P w K mg base tb "_law_next" 1 1 aP) (F_Llowest : FI P w K mg base tb "_law_lowest" 2 2 aV) : FI P w K mg base tb "_law_flat" 3 (2 + 1) (aH 9 (oG aP aV)) :=
 bV F KB hmg zK rfl (λ _ _ _ _ _ _ => us3 λ _ _ _ => rfl) λ c A outer s H E hcd hr => by
  have nd := zK.nd;refine aC ?_ ?_;refine tZ (i := 3) (j := 4) rfl nd ?_;refine aa ?_ ?_;refine aG gf ?_ az;exact aG bz (aK F_Lnext (hr.mono (by decide)) (aa (pdv 0) au) (aA aL)) az
  refine aa ?_ au;refine aG gf ?_ az;exact aG bz (aK F_Lnext (hr.mono (by decide)) (aa (pdv 0) au) (aA aL)) az
  refine aC (aU (i := 5) nd (mq (qj au))) ?_;refine aC ?_ (aF (aM (qg (pdv 5))));refine fH (ts := [6]) PassesOwn.never rfl (cH T.b_range (aa (pdv 2) au)) (aQ (i := 6) nd) ?_;refine aC ?_ ?_;exact aU (i := 7) nd (aK F_Lnext (hr.mono (by decide)) (aa (pdv 0) au) (aA aL))
  refine aC ?_ ?_;refine aU (i := 8) nd ?_;refine mq ?_;refine Hy ?_ oE (nF (pdv 1));refine cZ ?_;refine aa (aG gf (aG bz (pdv 7) az) az) ?_;refine aa (aG gf (aG bz (aG dH (pdv 7) az) az) az) ?_;exact aa (aG gf (aG bz (aG dH (pdv 7) az) az) az) au;refine aC ?_ ?_;refine bT (bw Ew (pdv 1) az) ?_ bj;refine aF ?_;refine yV ?_ (pdv 8) (ie az);exact aG cR (aG dq (pdv 3) (bA (pdv 8) az)) (aG dq (pdv 4) (bA (pdv 8) (aG gf (pdv 1) az)));refine aF ?_;refine jt ?_;refine iw (pdv 5) ?_;exact aa (aK F_Llowest (hr.mono (by decide)) (aa (qg (pdv 8)) (aa az au)) (aA (aA aL))) au
abbrev vg : Stmt := top 27
theorem wZ : aW ["_law_number", "_law_kind", "_law_base"] ["_law_number", "_law_kind", "_law_base"] (aN vg) := by constructor<;>first|rfl|decide +kernel
theorem Hf (T : BI K mg) (F : dC K "_law_place" "_law_place" vg f fd Tb) (KB : K.In base) (hmg : mg "_law_place" = some (.ref f)) : FI P w K mg base tb "_law_place" 3 (0 + 1) (aH 3 (gO)) :=
 bV F KB hmg wZ rfl (λ _ _ _ _ _ _ => us3 λ _ _ _ => rfl) λ c A outer s H E hcd hr => by
  have nd := wZ.nd;refine aC ?_ ?_;refine bT (bw (gB hr) (pdv 1) az) ?_ bj;refine aF ?_;refine aM ?_;refine aZ ?_;refine aa (aG gf (aG bz (pdv 0) az) az) ?_;exact aa (aG cR az (aG bz (aG dH (pdv 0) az) az)) au;refine aC ?_ ?_;refine bT (bw (gB hr) (pdv 1) az) ?_ bj;refine aF ?_;refine aM ?_;refine aZ ?_;exact aa (aG gf (aG bz (pdv 0) az) az) (aa az au);refine aC ?_ ?_;refine bT (bw (gB hr) (pdv 1) az) ?_ bj;refine aF ?_;refine aM ?_;refine aZ ?_;refine aa (aG gf (aG bz (pdv 0) az) az) ?_;exact aa (aG cR az (aG bz (aG dH (pdv 0) az) az)) au;refine aC ?_ ?_;refine bT (bw (gB hr) (pdv 1) az) ?_ bj;refine aF ?_;refine aM ?_;refine aZ ?_;refine aa ?_ (aa az au);refine aG cR (pdv 2) ?_;refine bA ?_ (aG bz (pdv 0) az);refine cZ ?_;exact aa az (aa az (aa az (aa az au)));refine aF ?_;refine aM ?_;refine aZ ?_;refine aa ?_ (aa az au);exact aG dq (aG bz (pdv 0) az) (aG cR az (aG bz (pdv 2) az))
abbrev vo : Stmt := top 28
theorem wW : aW ["_law_number", "_law_directions", "_law_kind", "_law_base", "_law_numbers", "_law_bottom", "_law_k", "_law_top", "_law_under"] ["_law_number", "_law_directions", "_law_kind", "_law_base"] (aN vo) := by constructor<;>first|rfl|decide +kernel
theorem Hg (T : BI K mg) (F : dC K "_law_point" "_law_point" vo f fd Tb) (KB : K.In base) (hmg : mg "_law_point" = some (.ref f)) (F_Lmixed : FI P w K mg base tb "_law_mixed" 2 1 bF) (F_Lplace : FI P w K mg base tb "_law_place" 3 1 jV) (F_Llowest : FI P w K mg base tb "_law_lowest" 2 2 aV) : FI P w K mg base tb "_law_point" 4 (2 + 1) (aH 9 (jw bF jV aV)) :=
 bV F KB hmg wW rfl (λ _ _ _ _ _ _ => us4 λ _ _ _ _ => rfl) λ c A outer s H E hcd hr => by
  have nd := wW.nd;refine aC (aU (i := 4) nd (mq (qj au))) ?_;refine aC (aU (i := 5) nd az) ?_;refine aC ?_ ?_;refine fH (ts := [6]) PassesOwn.never rfl (cH T.b_range (aa (pdv 1) au)) (aQ (i := 6) nd) ?_;refine aC ?_ ?_;refine yc (ts := [7, 8]) ?_ (iJ rfl (bG (aQ (i := 7) nd) (bG (aQ (i := 8) nd) gh)));refine aK F_Lplace (hr.mono (by decide)) ?_ (aA (aA (aA aL)))
  refine aa ?_ (aa (pdv 2) (aa (aG cR (pdv 3) (pdv 6)) au));exact aK F_Lmixed (hr.mono (by decide)) (aa (pdv 0) (aa (aG cR (pdv 6) az) au)) (aA (aA aL))
  refine aC ?_ (aF (jt (iw (pdv 4) (aa (pdv 7) au))));exact bT (bw (gB hr) (pdv 6) az) (aF (aU (i := 5) nd (pdv 8))) bj;refine aF ?_;exact aM (aK F_Llowest (hr.mono (by decide)) (aa (qg (pdv 4)) (aa (pdv 5) au)) (aA (aA aL)))
abbrev rK : Stmt := top 31
theorem vW : aW ["_law_drawn", "_law_directions", "_law_most", "_law_number", "_law_many", "_law_kind", "_law_found", "_law_j", "_law_one"] ["_law_drawn", "_law_directions", "_law_most"] (aN rK) := by constructor<;>first|rfl|decide +kernel
theorem DW (T : BI K mg) (F : dC K "_law_points" "_law_points" rK f fd Tb) (KB : K.In base) (hmg : mg "_law_points" = some (.ref f)) (F_Lnext : FI P w K mg base tb "_law_next" 1 1 aP) (F_Lon_line : FI P w K mg base tb "_law_on_line" 3 3 iy) (F_Lflat : FI P w K mg base tb "_law_flat" 3 3 lJ) (F_Lpoint : FI P w K mg base tb "_law_point" 4 3 bU) : FI P w K mg base tb "_law_points" 3 (3 + 1) (aH 9 (jO aP iy lJ bU)) :=
 bV F KB hmg vW rfl (λ _ _ _ _ _ _ => us3 λ _ _ _ => rfl) λ c A outer s H E hcd hr => by
  have nd := vW.nd;refine aC ?_ ?_;exact aU (i := 3) nd (aK F_Lnext (hr.mono (by decide)) (aa (pdv 0) au) (aA aL))
  refine aC ?_ ?_;exact aU (i := 4) nd (aG bz (aG dH (pdv 3) az) (aG cR (pdv 2) az));refine aC (aU (i := 5) nd (aG bz (pdv 3) az)) ?_;refine aC ?_ ?_;refine bT (bw (gB hr) (pdv 5) az) ?_ bj;refine aF ?_;refine aM ?_;exact aK F_Lon_line (hr.mono (by decide)) (aa (pdv 0) (aa (pdv 1) (aa (pdv 4) au))) (aA (aA (aA aL)))
  refine aC ?_ ?_;refine bT (bw (gB hr) (pdv 5) az) ?_ bj;refine aF ?_;refine aM ?_;exact aK F_Lflat (hr.mono (by decide)) (aa (pdv 0) (aa (pdv 1) (aa (pdv 4) au))) (aA (aA (aA aL)))
  refine aC ?_ ?_;refine bT (bw (gB hr) (pdv 5) az) ?_ bj;refine aF ?_;refine aM ?_;refine aG dq ?_ (pdv 4);refine cZ ?_;refine aa ?_ au;refine aK F_Lpoint (hr.mono (by decide)) ?_ (aA (aA (aA (aA aL))))
  exact aa (pdv 3) (aa (pdv 1) (aa az (aa az au)));refine aC (aU (i := 6) nd (mq (qj au))) ?_;refine aC ?_ (aF (aM (qg (pdv 6))));refine fH (ts := [7]) PassesOwn.never rfl (cH T.b_range (aa (pdv 4) au)) (aQ (i := 7) nd) ?_;refine aC ?_ ?_;exact aU (i := 8) nd (aK F_Lnext (hr.mono (by decide)) (aa (pdv 0) au) (aA aL))
  refine aF ?_;refine bT ?_ ?_ ?_;refine ji ?_;refine yW (bw (gB hr) (pdv 5) az) ?_;exact yW (bw (QH hr) (pdv 6) (cZ au)) (zB (bw (gB hr) (aG bz (pdv 8) az) az));refine aF ?_;refine jt ?_;refine iw (pdv 6) ?_;refine aa ?_ au;refine bA (pdv 6) ?_;exact aG bz (aG dH (pdv 8) az) (cO T.b_len (aa (pdv 6) au));refine aF ?_;refine jt ?_;refine iw (pdv 6) ?_;refine aa ?_ au;refine aK F_Lpoint (hr.mono (by decide)) ?_ (aA (aA (aA (aA aL))))
  refine aa (aG dH (pdv 8) az) ?_;refine aa (pdv 1) ?_;exact aa (aG bz (aG bz (pdv 5) az) az) (aa (aG dq (aG bz (pdv 8) az) az) au)
abbrev kI : Stmt := top 41
theorem mR : aW ["_law_drawn", "_law_directions", "_law_most", "_law_found"] ["_law_drawn", "_law_directions", "_law_most"] (aN kI) := by constructor<;>first|rfl|decide +kernel
theorem tX (T : BI K mg) (F : dC K "_law_some_points" "_law_some_points" kI f fd Tb) (KB : K.In base) (hmg : mg "_law_some_points" = some (.ref f)) (F_Lpoints : FI P w K mg base tb "_law_points" 3 4 ik) (F_Lnext : FI P w K mg base tb "_law_next" 1 1 aP) (F_Lpoint : FI P w K mg base tb "_law_point" 4 3 bU) : FI P w K mg base tb "_law_some_points" 3 (4 + 1) (aH 4 (dF ik aP bU)) :=
 bV F KB hmg mR rfl (λ _ _ _ _ _ _ => us3 λ _ _ _ => rfl) λ c A outer s H E hcd hr => by
  have nd := mR.nd;refine aC ?_ ?_;refine aU (i := 3) nd ?_;exact aK F_Lpoints (hr.mono (by decide)) (aa (pdv 0) (aa (pdv 1) (aa (pdv 2) au))) (aA (aA (aA aL)))
  refine aC ?_ (aF (aM (pdv 3)));refine bT (bw (gB hr) (pdv 3) (cZ au)) ?_ bj;refine aF ?_;refine aM ?_;refine cZ ?_;refine aa ?_ au;refine aK F_Lpoint (hr.mono (by decide)) ?_ (aA (aA (aA (aA aL))))
  exact aa (aK F_Lnext (hr.mono (by decide)) (aa (pdv 0) au) (aA aL)) (aa (pdv 1) (aa az (aa az au)))
abbrev sy : Stmt := top 33
theorem uL : aW ["_law_drawn", "_law_numbers", "_law_number", "_law_turn", "_law_some", "_law_size"] ["_law_drawn", "_law_numbers"] (aN sy) := by constructor<;>first|rfl|decide +kernel
theorem CZ (T : BI K mg) (F : dC K "_law_shares" "_law_shares" sy f fd Tb) (KB : K.In base) (hmg : mg "_law_shares" = some (.ref f)) (F_Lnext : FI P w K mg base tb "_law_next" 1 1 aP) (F_Lmixed : FI P w K mg base tb "_law_mixed" 2 1 bF) (hT : Tb ∈ tb) : FI P w K mg base tb "_law_shares" 2 (2 + 1) (aH 6 (gR aP bF)) :=
 bV F KB hmg uL rfl (λ _ _ _ _ _ _ => us2 λ _ _ => rfl) λ c A outer s H E hcd hr => by
  have nd := uL.nd;refine aC ?_ ?_;exact aU (i := 2) nd (aK F_Lnext (hr.mono (by decide)) (aa (pdv 0) au) (aA aL))
  refine aC ?_ ?_;refine aU (i := 3) nd ?_;refine fZ ?_;refine Ha (x := "_law_k") (cap := ["_law_number"]) (capI := [2]) rfl hr T.b_sorted ⟨⟨rfl, by decide +kernel, ⟨⟨rfl, by first | exact Or.inl rfl | exact Or.inr rfl⟩, trivial⟩, by decide +kernel, by decide +kernel⟩, rfl, by decide +kernel, by decide +kernel, by decide +kernel, rfl, rfl, rfl, λ _ _ _ _ _ _ => rfl⟩ hT ⟨c, rfl, hcd⟩ (pdv 1) ?_
  intro q f code s H hm;have hg1 := hm _ hr;exact aK F_Lmixed (hg1.mono (by decide)) (aa (pdv 1) (aa (aG cR (pdv 0) az) au)) (aA (aA aL))
  refine aC ?_ ?_;refine aU (i := 4) nd ?_;refine fZ ?_;refine HF T.b_sorted ?_;refine aa ?_ au;refine qD (pdv 3) oE ?_;refine nF ?_;refine aG cR az ?_;refine aG bz (pdv 2) ?_;refine Fg rfl T.b_min ?_;exact aa az (aa (cO T.b_len (aa (pdv 3) au)) au);refine aC ?_ ?_;refine aU (i := 5) nd ?_;refine bA ?_ (aG bz (aG dH (pdv 2) az) az);exact cZ (aa az (aa az (aa az au)));refine aF ?_;refine aM ?_;refine Bs T.b_tuple ?_;refine aa ?_ au;refine fZ ?_;refine iM (own := ["_law_k"]) (cap := ["_law_number", "_law_size"]) (capI := [2, 5]) (ts := [0]) rfl ⟨rfl, by decide +kernel, ⟨⟨rfl, by first | exact Or.inl rfl | exact Or.inr rfl⟩, ⟨⟨rfl, by first | exact Or.inl rfl | exact Or.inr rfl⟩, trivial⟩⟩, by decide +kernel, by decide +kernel⟩ (by decide +kernel) (cV (pdv 4)) (λ cs C fp s2 H2 => aQ (i := 0) (show (["_law_k", "_law_number", "_law_size"] : List Str).Nodup by decide +kernel)) ?_ ?_
  intro cs C fp s2 H2;exact di;intro cs C fp s2 H2;refine aZ ?_;refine aa (pdv 0) ?_;refine aa ?_ au;refine aG cR az ?_;refine aG bz ?_ (pdv 2);exact aK F_Lmixed (hr.mono (by decide)) (aa (pdv 1) (aa (aG cR (pdv 0) az) au)) (aA (aA aL))
abbrev Du : Stmt := top 32
theorem Fb : aW ["_law_points_here", "_law_shares_here", "_law_bottom", "_law_k", "_law_share", "_law_numbers", "_law_total", "_law_i", "_law_more"] ["_law_points_here", "_law_shares_here"] (aN Du) := by constructor<;>first|rfl|decide +kernel
theorem Pn (T : BI K mg) (F : dC K "_law_mix" "_law_mix" Du f fd Tb) (KB : K.In base) (hmg : mg "_law_mix" = some (.ref f)) (F_Lgcd : FI P w K mg base tb "_law_gcd" 2 1 eN) (F_Llowest : FI P w K mg base tb "_law_lowest" 2 2 aV) : FI P w K mg base tb "_law_mix" 2 (2 + 1) (aH 9 (uQ eN aV)) :=
 bV F KB hmg Fb rfl (λ _ _ _ _ _ _ => us2 λ _ _ => rfl) λ c A outer s H E hcd hr => by
  have nd := Fb.nd;refine aC (aU (i := 2) nd az) ?_;refine aC ?_ ?_;refine fH (ts := [3, 4]) PassesOwn.never rfl (cV (pdv 1)) (iJ rfl (bG (aQ (i := 3) nd) (bG (aQ (i := 4) nd) gh))) ?_;refine aF ?_;refine aU (i := 2) nd ?_;refine aG dH ?_ ?_;exact aG dq (pdv 2) (bA (bA (pdv 0) (pdv 3)) (ie az));refine aK F_Lgcd (hr.mono (by decide)) ?_ (aA (aA aL))
  refine aa (pdv 2) ?_;exact aa (bA (bA (pdv 0) (pdv 3)) (ie az)) au;refine aC ?_ ?_;refine aU (i := 5) nd ?_;refine mq ?_;refine Nb (cZ (aa az au)) ?_;refine aG gf ?_ az;refine cO T.b_len ?_;exact aa (bA (pdv 0) (bA (bA (pdv 1) az) az)) au;refine aC (aU (i := 6) nd az) ?_;refine aC ?_ ?_;refine fH (ts := [3, 4]) PassesOwn.never rfl (cV (pdv 1)) (iJ rfl (bG (aQ (i := 3) nd) (bG (aQ (i := 4) nd) gh))) ?_;refine aC (aU (i := 6) nd (aG cR (pdv 6) (pdv 4))) ?_;refine aF ?_;refine fH (ts := [7]) PassesOwn.never rfl (cH T.b_range (aa (cO T.b_len (aa (pdv 5) au)) au)) (aQ (i := 7) nd) ?_;refine aC ?_ ?_;exact aU (i := 8) nd (aG dq (pdv 4) (bA (bA (pdv 0) (pdv 3)) (pdv 7)));refine aF ?_;refine yV ?_ (pdv 5) (pdv 7);refine aG cR (bA (pdv 5) (pdv 7)) ?_;refine aG dq (pdv 8) ?_;exact aG dH (pdv 2) (bA (bA (pdv 0) (pdv 3)) (ie az));refine aF ?_;refine aM ?_;refine aK F_Llowest (hr.mono (by decide)) ?_ (aA (aA aL))
  exact aa (qg (pdv 5)) (aa (aG dq (pdv 2) (pdv 6)) au)
abbrev uI : Stmt := top 34
theorem xU : aW ["_law_spot_here", "_law_number", "_law_at", "_law_size", "_law_numbers"] ["_law_spot_here", "_law_number"] (aN uI) := by constructor<;>first|rfl|decide +kernel
theorem Gn (T : BI K mg) (F : dC K "_law_moved" "_law_moved" uI f fd Tb) (KB : K.In base) (hmg : mg "_law_moved" = some (.ref f)) (F_Llowest : FI P w K mg base tb "_law_lowest" 2 2 aV) : FI P w K mg base tb "_law_moved" 2 (2 + 1) (aH 5 (qz aV)) :=
 bV F KB hmg xU rfl (λ _ _ _ _ _ _ => us2 λ _ _ => rfl) λ c A outer s H E hcd hr => by
  have nd := xU.nd;refine aC ?_ ?_;refine aU (i := 2) nd ?_;exact aG bz (pdv 1) (aG gf (cO T.b_len (aa (pdv 0) au)) az);refine aC ?_ ?_;refine aU (i := 3) nd ?_;refine bA ?_ (aG bz (aG dH (pdv 1) az) az);refine cZ ?_;exact aa az (aa az (aa az (aa az au)));refine aC ?_ ?_;refine My (i := 4) nd (own := ["_law_one"]) (cap := ["_law_size"]) (capI := [3]) (ts := [0]) rfl ⟨rfl, by decide +kernel, ⟨⟨rfl, by first | exact Or.inl rfl | exact Or.inr rfl⟩, trivial⟩, by decide +kernel, by decide +kernel⟩ (by decide +kernel) (cV (qD (pdv 0) oE (nF (ie az)))) (λ cs C fp s2 H2 => aQ (i := 0) (show (["_law_one", "_law_size"] : List Str).Nodup by decide +kernel)) ?_ ?_
  intro cs C fp s2 H2;exact di;intro cs C fp s2 H2;exact aG dq (pdv 0) (pdv 1);refine aC ?_ ?_;refine yV ?_ (pdv 4) (pdv 2);refine aG cR (bA (pdv 4) (pdv 2)) ?_;refine aG dq ?_ (bA (pdv 0) (ie az));exact bA (cZ (aa az (aa (ie az) au))) (aG bz (aG dH (pdv 1) az) az);refine aF ?_;refine aM ?_;refine aK F_Llowest (hr.mono (by decide)) ?_ (aA (aA aL))
  refine aa (qg (pdv 4)) ?_;exact aa (aG dq (bA (pdv 0) (ie az)) (pdv 3)) au
abbrev yR : Stmt := top 35
theorem zP : aW ["_law_drawn", "_law_points_here", "_law_directions", "_law_number", "_law_spot_here"] ["_law_drawn", "_law_points_here", "_law_directions"] (aN yR) := by constructor<;>first|rfl|decide +kernel
theorem Jd (T : BI K mg) (F : dC K "_law_spot" "_law_spot" yR f fd Tb) (KB : K.In base) (hmg : mg "_law_spot" = some (.ref f)) (F_Lnext : FI P w K mg base tb "_law_next" 1 1 aP) (F_Lpoint : FI P w K mg base tb "_law_point" 4 3 bU) (F_Lshares : FI P w K mg base tb "_law_shares" 2 3 il) (F_Lmix : FI P w K mg base tb "_law_mix" 2 3 fQ) (F_Lmoved : FI P w K mg base tb "_law_moved" 2 3 je) : FI P w K mg base tb "_law_spot" 3 (3 + 1) (aH 5 (iT aP bU il fQ je)) :=
 bV F KB hmg zP rfl (λ _ _ _ _ _ _ => us3 λ _ _ _ => rfl) λ c A outer s H E hcd hr => by
  have nd := zP.nd;refine aC ?_ ?_;exact aU (i := 3) nd (aK F_Lnext (hr.mono (by decide)) (aa (pdv 0) au) (aA aL))
  refine aC ?_ ?_;refine bT ?_ ?_ bj;refine ji ?_;exact gF (bw (gB hr) (pdv 1) (cZ au)) (iU (bw (gB hr) (aG bz (pdv 3) az) az));refine aF ?_;refine aM ?_;refine aK F_Lpoint (hr.mono (by decide)) ?_ (aA (aA (aA (aA aL))))
  refine aa (aG dH (pdv 3) az) ?_;refine aa (pdv 2) ?_;exact aa (aG bz (aG dH (pdv 3) az) az) (aa az au);refine aC ?_ ?_;refine bT (bw (gB hr) (aG bz (pdv 3) az) az) ?_ bj;refine aF ?_;refine aM ?_;refine bA (pdv 1) ?_;exact aG bz (aG dH (pdv 3) az) (cO T.b_len (aa (pdv 1) au));refine aC ?_ ?_;refine aU (i := 4) nd ?_;refine aK F_Lmix (hr.mono (by decide)) ?_ (aA (aA aL))
  refine aa (pdv 1) ?_;refine aa ?_ au;refine aK F_Lshares (hr.mono (by decide)) ?_ (aA (aA aL))
  refine aa (pdv 0) ?_;refine aa ?_ au;exact fZ (Kr rfl T.b_list T.b_range (aa (cO T.b_len (aa (pdv 1) au)) au));refine aC ?_ ?_;exact bT (bw sZ (aG bz (pdv 3) az) az) (aF (aM (pdv 4))) bj;refine aF ?_;refine aM ?_;exact aK F_Lmoved (hr.mono (by decide)) (aa (pdv 4) (aa (aG dH (pdv 3) az) au)) (aA (aA aL))
abbrev DP : Stmt := top 40
theorem FT : aW ["_law_number", "_law_things"] ["_law_number"] (aN DP) := by constructor<;>first|rfl|decide +kernel
theorem Ln (T : BI K mg) (F : dC K "_law_odd" "_law_odd" DP f fd Tb) (KB : K.In base) (hmg : mg "_law_odd" = some (.ref f)) : FI P w K mg base tb "_law_odd" 1 (0 + 1) (aH 2 (pZ)) :=
 bV F KB hmg FT rfl (λ _ _ _ _ _ _ => us1 λ _ => rfl) λ c A outer s H E hcd hr => by
  have nd := FT.nd;refine aC ?_ ?_;refine aU (i := 1) nd ?_;refine cZ ?_;refine aa ?_ ?_;exact DG;refine aa ?_ ?_;exact iB;refine aa ?_ ?_;exact iB;refine aa ?_ ?_;exact az;refine aa ?_ ?_;exact az;refine aa ?_ ?_;refine ie ?_;exact az;refine aa ?_ ?_;exact DR;refine aa ?_ ?_;exact DR;refine aa ?_ ?_;exact aZ au;refine aa ?_ ?_;exact cZ au;refine aa ?_ ?_;exact Oh;refine aa ?_ ?_;refine aZ ?_;refine aa ?_ au;exact aZ au;refine aa ?_ ?_;refine cZ ?_;refine aa ?_ au;exact aZ au;refine aa ?_ ?_;refine aZ ?_;refine aa ?_ au;exact DG;refine aa ?_ ?_;refine aZ ?_;refine aa ?_ au;refine aZ ?_;refine aa ?_ ?_;exact az;refine aa ?_ au;exact az;refine aa ?_ au;refine cZ ?_;refine aa ?_ au;refine aZ ?_;refine aa ?_ ?_;exact az;refine aa ?_ au;exact az;refine aC ?_ ?_;refine aU (i := 1) nd ?_;refine aG cR (pdv 1) ?_;refine cZ ?_;refine aa ?_ ?_;refine aZ ?_;refine aa ?_ au;refine cZ ?_;refine aa ?_ ?_;exact az;refine aa ?_ au;exact az;refine aa ?_ ?_;refine Eo ?_ ?_;exact az;exact az;refine aa ?_ ?_;refine aZ ?_;refine aa ?_ au;refine aZ ?_;refine aa ?_ ?_;exact az;refine aa ?_ ?_;exact az;refine aa ?_ au;exact az;refine aa ?_ ?_;refine aZ ?_;refine aa ?_ au;refine aZ ?_;refine aa ?_ ?_;exact az;refine aa ?_ au;exact iB;refine aa ?_ ?_;refine aZ ?_;refine aa ?_ au;refine aZ ?_;refine aa ?_ ?_;exact iB;refine aa ?_ au;exact az;refine aa ?_ ?_;refine aZ ?_;refine aa ?_ au;refine aZ ?_;refine aa ?_ ?_;exact DR;refine aa ?_ au;exact az;refine aa ?_ au;refine aZ ?_;refine aa ?_ au;refine aZ ?_;refine aa ?_ ?_;refine aZ ?_;refine aa ?_ au;exact az;refine aa ?_ au;exact az;refine aC ?_ ?_;refine aU (i := 1) nd ?_;refine aG cR (pdv 1) ?_;refine cZ ?_;refine aa ?_ ?_;refine aZ ?_;refine aa ?_ ?_;refine aZ ?_;refine aa ?_ ?_;exact az;refine aa ?_ au;exact az;refine aa ?_ au;exact az;refine aa ?_ ?_;refine aZ ?_;refine aa ?_ ?_;refine aZ ?_;refine aa ?_ ?_;exact az;refine aa ?_ au;exact az;refine aa ?_ au;exact DG;refine aa ?_ ?_;refine aZ ?_;refine aa ?_ ?_;refine aZ ?_;refine aa ?_ ?_;exact az;refine aa ?_ au;exact az;refine aa ?_ au;exact az;refine aa ?_ ?_;refine aZ ?_;refine aa ?_ ?_;refine cZ ?_;refine aa ?_ ?_;exact az;refine aa ?_ au;exact az;refine aa ?_ au;exact az;refine aa ?_ ?_;refine aZ ?_;refine aa ?_ ?_;refine aZ ?_;refine aa ?_ ?_;exact iB;refine aa ?_ au;exact az;refine aa ?_ au;exact az;refine aa ?_ ?_;refine aZ ?_;refine aa ?_ ?_;refine aZ ?_;refine aa ?_ au;exact az;refine aa ?_ au;exact az;refine aa ?_ au;refine aZ ?_;refine aa ?_ ?_;exact az;refine aa ?_ au;exact az;refine aC ?_ ?_;refine aU (i := 1) nd ?_;refine aG cR (pdv 1) ?_;refine cZ ?_;refine aa ?_ ?_;refine aZ ?_;refine aa ?_ ?_;exact az;refine aa ?_ ?_;exact az;refine aa ?_ au;exact az;refine aa ?_ ?_;refine aZ ?_;refine aa ?_ ?_;refine aZ ?_;refine aa ?_ ?_;exact az;refine aa ?_ au;exact az;refine aa ?_ au;refine aZ ?_;refine aa ?_ ?_;exact az;refine aa ?_ au;exact az;refine aa ?_ ?_;refine aZ ?_;refine aa ?_ ?_;exact aZ au;refine aa ?_ au;exact aZ au;refine aa ?_ au;refine aZ ?_;refine aa ?_ ?_;exact aZ au;refine aa ?_ au;exact az;refine aF ?_;refine aM ?_;refine bA (pdv 1) ?_;refine aG bz (pdv 0) ?_;refine cO T.b_len ?_;exact aa (pdv 1) au
abbrev vQ : Stmt := top 46
theorem xF : aW ["_law_drawn", "_law_number", "_law_one", "_law_other"] ["_law_drawn"] (aN vQ) := by constructor<;>first|rfl|decide +kernel
theorem Hv (T : BI K mg) (F : dC K "_law_thing" "_law_thing" vQ f fd Tb) (KB : K.In base) (hmg : mg "_law_thing" = some (.ref f)) (F_Lnext : FI P w K mg base tb "_law_next" 1 1 aP) (F_Lodd : FI P w K mg base tb "_law_odd" 1 1 jJ) : FI P w K mg base tb "_law_thing" 1 (1 + 1) (aH 4 (lK aP jJ)) :=
 bV F KB hmg xF rfl (λ _ _ _ _ _ _ => us1 λ _ => rfl) λ c A outer s H E hcd hr => by
  have nd := xF.nd;refine aC ?_ ?_;exact aU (i := 1) nd (aK F_Lnext (hr.mono (by decide)) (aa (pdv 0) au) (aA aL))
  refine aC ?_ ?_;exact aU (i := 2) nd (aK F_Lodd (hr.mono (by decide)) (aa (aG dH (pdv 1) az) au) (aA aL))
  refine aC ?_ ?_;refine aU (i := 3) nd ?_;refine aK F_Lodd (hr.mono (by decide)) ?_ (aA aL)
  exact aa (aK F_Lnext (hr.mono (by decide)) (aa (pdv 0) au) (aA aL)) au
  refine aF ?_;refine aM ?_;refine bA ?_ (aG bz (pdv 1) az);refine cZ ?_;refine aa (pdv 2) ?_;refine aa (aZ (aa (pdv 2) au)) ?_;refine aa (cZ (aa (pdv 2) au)) ?_;refine aa (aZ (aa (pdv 2) (aa (pdv 3) au))) ?_;refine aa (cZ (aa (pdv 2) (aa (pdv 3) au))) ?_;refine aa (Eo az (pdv 2)) ?_;refine aa ?_ ?_;refine aZ ?_;exact aa (aZ (aa (pdv 2) (aa (pdv 3) au))) au;refine aa ?_ au;exact aZ (aa (pdv 3) (aa (pdv 2) (aa (pdv 3) au)))
abbrev vN : Stmt := top 38
theorem wR : aW ["_law_thing_here"] ["_law_thing_here"] (aN vN) := by constructor<;>first|rfl|decide +kernel
theorem Gr (T : BI K mg) (F : dC K "_law_whole" "_law_whole" vN f fd Tb) (KB : K.In base) (hmg : mg "_law_whole" = some (.ref f)) : FI P w K mg base tb "_law_whole" 1 (0 + 1) (aH 1 (qH)) :=
 bV F KB hmg wR rfl (λ _ _ _ _ _ _ => us1 λ _ => rfl) λ c A outer s H E hcd hr => by
  have nd := wR.nd;refine aF ?_;refine aM ?_;refine lB ?_ ?_;exact jE T.b_isinstance T.b_int PyProof.Rows.boot_int (by decide) (pdv 0)
  refine jH ?_;refine ul ?_;exact jE T.b_isinstance T.b_bool PyProof.Rows.boot_bool (by decide) (pdv 0)
abbrev vp : Stmt := top 42
theorem xx : aW ["_law_points_here", "_law_spot_here", "_law_thing_here", "_law_before", "_law_row"] ["_law_points_here", "_law_spot_here", "_law_thing_here"] (aN vp) := by constructor<;>first|rfl|decide +kernel
theorem Gj (T : BI K mg) (F : dC K "_law_mixes" "_law_mixes" vp f fd Tb) (KB : K.In base) (hmg : mg "_law_mixes" = some (.ref f)) (F_Lwhole : FI P w K mg base tb "_law_whole" 1 1 bO) (F_Lmix : FI P w K mg base tb "_law_mix" 2 3 fQ) : FI P w K mg base tb "_law_mixes" 3 (3 + 1) (aH 5 (qJ bO fQ)) :=
 bV F KB hmg xx rfl (λ _ _ _ _ _ _ => us3 λ _ _ _ => rfl) λ c A outer s H E hcd hr => by
  have nd := xx.nd;refine aC ?_ ?_;refine bT ?_ (aF (aM iB)) bj;refine ji ?_;refine gF ?_ ?_;refine dI ?_;refine dJ ?_;exact jE T.b_isinstance T.b_tuple PyProof.Rows.boot_tuple (by decide) (pdv 2)
  refine gF (bw (TQ hr) (pdv 2) (aZ au)) ?_;refine iU ?_;exact bw Ew (cO T.b_len (aa (pdv 2) au)) (cO T.b_len (aa (pdv 1) au));refine aC (aU (i := 3) nd (ie az)) ?_;refine aC ?_ ?_;refine fH (ts := [4]) PassesOwn.never rfl (cV (pdv 2)) (aQ (i := 4) nd) ?_;refine aC ?_ ?_;refine bT ?_ (aF (aM iB)) bj;refine ji ?_;refine gF ?_ ?_;refine dI ?_;refine dJ ?_;exact jE T.b_isinstance T.b_tuple PyProof.Rows.boot_tuple (by decide) (pdv 4)
  refine gF (bw (vJ hr) (cO T.b_len (aa (pdv 4) au)) az) ?_;refine gF ?_ ?_;refine dI ?_;exact dJ (aK F_Lwhole (hr.mono (by decide)) (aa (bA (pdv 4) az) au) (aA aL))
  refine iU ?_;refine dI ?_;exact dJ (aK F_Lwhole (hr.mono (by decide)) (aa (bA (pdv 4) az) au) (aA aL))
  refine aC ?_ (aF (aU (i := 3) nd (bA (pdv 4) az)));refine bT ?_ (aF (aM iB)) bj;refine ji ?_;refine gF (bw Qk (bA (pdv 4) az) (pdv 3)) ?_;refine gF ?_ (iU (bw sZ (bA (pdv 4) az) az));exact bw Fd (bA (pdv 4) az) (cO T.b_len (aa (pdv 0) au));refine aF ?_;refine aM ?_;exact lA (gB hr) (aK F_Lmix (hr.mono (by decide)) (aa (pdv 0) (aa (pdv 2) au)) (aA (aA aL))) (pdv 1)
abbrev nH : Stmt := top 1
theorem qt : aW ["thing"] ["thing"] (aN nH) := by constructor<;>first|rfl|decide +kernel
theorem yX (T : BI K mg) (F : dC K "is_number" "is_number" nH f fd Tb) (KB : K.In base) (hmg : mg "is_number" = some (.ref f)) : FI P w K mg base tb "is_number" 1 (0 + 1) (aH 1 (fj)) :=
 bV F KB hmg qt rfl (λ _ _ _ _ _ _ => us1 λ _ => rfl) λ c A outer s H E hcd hr => by
  have nd := qt.nd;refine aF ?_;refine aM ?_;refine lB ?_ ?_;exact jE T.b_isinstance T.b_int PyProof.Rows.boot_int (by decide) (pdv 0)
  refine jH ?_;refine ul ?_;exact jE T.b_isinstance T.b_bool PyProof.Rows.boot_bool (by decide) (pdv 0)
abbrev mJ : Stmt := top 3
theorem pq : aW ["thing"] ["thing"] (aN mJ) := by constructor<;>first|rfl|decide +kernel
theorem wg (T : BI K mg) (F : dC K "is_numbers" "is_numbers" mJ f fd Tb) (KB : K.In base) (hmg : mg "is_numbers" = some (.ref f)) (F_is_number : FI P w K mg base tb "is_number" 1 1 bY) (hT : Tb ∈ tb) : FI P w K mg base tb "is_numbers" 1 (2 + 1) (aH 1 (dm bY)) :=
 bV F KB hmg pq rfl (λ _ _ _ _ _ _ => us1 λ _ => rfl) λ c A outer s H E hcd hr => by
  have nd := pq.nd;refine aF ?_;refine aM ?_;refine lB ?_ ?_;exact jE T.b_isinstance T.b_tuple PyProof.Rows.boot_tuple (by decide) (pdv 0)
  refine jH ?_;refine yL rfl T.b_all ?_;refine nU ?_;refine jP (own := ["part"]) (cap := []) (capI := []) (ts := [0]) rfl hr ⟨rfl, by decide +kernel, trivial, by decide +kernel, by decide +kernel⟩ (by decide +kernel) (by decide +kernel) hT ⟨c, rfl, hcd⟩ (cV (pdv 0)) (λ AG cs C code fp s2 H2 => aQ (i := 0) (show (["part"] : List Str).Nodup by decide +kernel)) ?_
  intro AG cs C code fp s2 H2 hm;have hg1 := hm _ hr;exact aK F_is_number (hg1.mono (by decide)) (aa (pdv 0) au) (aA aL)
abbrev qd : Stmt := top 11
theorem sY : aW ["many", "thing"] ["many", "thing"] (aN qd) := by constructor<;>first|rfl|decide +kernel
theorem Aa (T : BI K mg) (F : dC K "is_share" "is_share" qd f fd Tb) (KB : K.In base) (hmg : mg "is_share" = some (.ref f)) (F_is_numbers : FI P w K mg base tb "is_numbers" 1 3 bQ) : FI P w K mg base tb "is_share" 2 (3 + 1) (aH 2 (dZ bQ)) :=
 bV F KB hmg sY rfl (λ _ _ _ _ _ _ => us2 λ _ _ => rfl) λ c A outer s H E hcd hr => by
  have nd := sY.nd;refine aC ?_ ?_;refine bT ?_ (aF (aM iB)) bj;refine ji ?_;refine gF ?_ (iU (bw (vJ hr) (cO T.b_len (aa (pdv 1) au)) az));refine dI ?_;exact dJ (aK F_is_numbers (hr.mono (by decide)) (aa (pdv 1) au) (aA aL))
  refine aF ?_;refine aM ?_;exact lB (KJ Qk sZ az (bA (pdv 1) az) (pdv 0)) (jH (lA Fd (bA (pdv 1) az) az))
abbrev nQ : Stmt := top 12
theorem qR : aW ["many", "thing"] ["many", "thing"] (aN nQ) := by constructor<;>first|rfl|decide +kernel
theorem yg (T : BI K mg) (F : dC K "is_shares" "is_shares" nQ f fd Tb) (KB : K.In base) (hmg : mg "is_shares" = some (.ref f)) (F_is_share : FI P w K mg base tb "is_share" 2 4 fW) (hT : Tb ∈ tb) : FI P w K mg base tb "is_shares" 2 (5 + 1) (aH 2 (dw fW)) :=
 bV F KB hmg qR rfl (λ _ _ _ _ _ _ => us2 λ _ _ => rfl) λ c A outer s H E hcd hr => by
  have nd := qR.nd;refine aC ?_ ?_;refine bT ?_ (aF (aM iB)) bj;refine ji ?_;refine gF ?_ (iU (bw (gB hr) (cO T.b_len (aa (pdv 1) au)) az));refine dI ?_;refine dJ ?_;exact jE T.b_isinstance T.b_tuple PyProof.Rows.boot_tuple (by decide) (pdv 1)
  refine aC ?_ ?_;refine bT ?_ (aF (aM iB)) bj;refine dI ?_;refine dJ ?_;refine yL rfl T.b_all ?_;refine nU ?_;refine jP (own := ["part"]) (cap := ["many"]) (capI := [0]) (ts := [0]) rfl hr ⟨rfl, by decide +kernel, ⟨⟨rfl, by first | exact Or.inl rfl | exact Or.inr rfl⟩, trivial⟩, by decide +kernel, by decide +kernel⟩ (by decide +kernel) (by decide +kernel) hT ⟨c, rfl, hcd⟩ (cV (pdv 1)) (λ AG cs C code fp s2 H2 => aQ (i := 0) (show (["part", "many"] : List Str).Nodup by decide +kernel)) ?_
  intro AG cs C code fp s2 H2 hm;have hg1 := hm _ hr;exact aK F_is_share (hg1.mono (by decide)) (aa (pdv 1) (aa (pdv 0) au)) (aA (aA aL))
  refine aF ?_;refine aM ?_;refine yL rfl T.b_all ?_;refine nU ?_;refine jP (own := ["one", "other"]) (cap := []) (capI := []) (ts := [0, 1]) rfl hr ⟨rfl, by decide +kernel, trivial, by decide +kernel, by decide +kernel⟩ (by decide +kernel) (by decide +kernel) hT ⟨c, rfl, hcd⟩ ?_ (λ AG cs C code fp s2 H2 => iJ rfl (bG (aQ (i := 0) (show (["one", "other"] : List Str).Nodup by decide +kernel)) (bG (aQ (i := 1) (show (["one", "other"] : List Str).Nodup by decide +kernel)) gh))) ?_
  refine uc T.b_zip ?_;exact aa (pdv 1) (aa (qD (pdv 1) (nF az) oE) au);intro AG cs C code fp s2 H2 hm;have hg1 := hm _ hr;exact lA sZ (bA (pdv 0) az) (bA (pdv 1) az)
abbrev jj : Stmt := top 4
theorem lu : aW ["one", "other"] ["one", "other"] (aN jj) := by constructor<;>first|rfl|decide +kernel
theorem ql (T : BI K mg) (F : dC K "divisor_of_two" "divisor_of_two" jj f fd Tb) (KB : K.In base) (hmg : mg "divisor_of_two" = some (.ref f)) : FI P w K mg base tb "divisor_of_two" 2 (0 + 1) (aH 2 (cI)) :=
 bV F KB hmg lu rfl (λ _ _ _ _ _ _ => us2 λ _ _ => rfl) λ c A outer s H E hcd hr => by
  have nd := lu.nd;refine aC ?_ ?_;refine tZ (i := 0) (j := 1) rfl nd ?_;exact aa (uZ T.b_abs (aa (pdv 0) au)) (aa (uZ T.b_abs (aa (pdv 1) au)) au);refine aC ?_ (aF (aM (pdv 0)));refine rQ PassesOwn.never (bw (vJ hr) (pdv 1) az) ?_;refine aF ?_;exact tZ (i := 0) (j := 1) rfl nd (aa (pdv 1) (aa (aG bz (pdv 0) (pdv 1)) au))
abbrev iK : Stmt := top 6
theorem km : aW ["numbers", "found", "number"] ["numbers"] (aN iK) := by constructor<;>first|rfl|decide +kernel
theorem pW {bc : FF} (T : BI K mg) (F : dC K "common_multiple" "common_multiple" iK f fd Tb) (KB : K.In base) (hmg : mg "common_multiple" = some (.ref f)) (F_divisor_of_two : FI P w K mg base tb "divisor_of_two" 2 1 bc) : FI P w K mg base tb "common_multiple" 1 (1 + 1) (aH 3 (cW bc)) :=
 bV F KB hmg km rfl (λ _ _ _ _ _ _ => us1 λ _ => rfl) λ c A outer s H E hcd hr => by
  have nd := km.nd;refine aC (aU (i := 1) nd az) ?_;refine aC ?_ (aF (aM (pdv 1)));refine fH (ts := [2]) PassesOwn.never rfl (cV (pdv 0)) (aQ (i := 2) nd) ?_;refine aF ?_;refine Ea (i := 1) nd ?_;exact aG dH (pdv 2) (aK F_divisor_of_two (hr.mono (by decide)) (aa (pdv 1) (aa (pdv 2) au)) (aA (aA aL)))
abbrev kE : Stmt := top 13
theorem mV : aW ["points", "numbers", "whole"] ["points", "numbers"] (aN kE) := by constructor<;>first|rfl|decide +kernel
theorem tY (T : BI K mg) (F : dC K "over_bottoms" "over_bottoms" kE f fd Tb) (KB : K.In base) (hmg : mg "over_bottoms" = some (.ref f)) (F_common_multiple : FI P w K mg base tb "common_multiple" 1 2 cL) : FI P w K mg base tb "over_bottoms" 2 (2 + 1) (aH 3 (eZ cL)) :=
 bV F KB hmg mV rfl (λ _ _ _ _ _ _ => us2 λ _ _ => rfl) λ c A outer s H E hcd hr => by
  have nd := mV.nd;refine aC ?_ ?_;refine aU (i := 2) nd ?_;refine aK F_common_multiple (hr.mono (by decide)) ?_ (aA aL)
  refine aa ?_ au;refine fZ ?_;refine iM (own := ["point"]) (cap := []) (capI := []) (ts := [0]) rfl ⟨rfl, by decide +kernel, trivial, by decide +kernel, by decide +kernel⟩ (by decide +kernel) (cV (pdv 0)) (λ cs C fp s2 H2 => aQ (i := 0) (show (["point"] : List Str).Nodup by decide +kernel)) ?_ ?_
  intro cs C fp s2 H2;exact di;intro cs C fp s2 H2;exact bA (pdv 0) (ie az);refine aF ?_;refine aM ?_;refine fZ ?_;refine iM (own := ["number", "point"]) (cap := ["whole"]) (capI := [2]) (ts := [0, 1]) rfl ⟨rfl, by decide +kernel, ⟨⟨rfl, by first | exact Or.inl rfl | exact Or.inr rfl⟩, trivial⟩, by decide +kernel, by decide +kernel⟩ (by decide +kernel) (uc T.b_zip (aa (pdv 1) (aa (pdv 0) au))) (λ cs C fp s2 H2 => iJ rfl (bG (aQ (i := 0) (show (["number", "point", "whole"] : List Str).Nodup by decide +kernel)) (bG (aQ (i := 1) (show (["number", "point", "whole"] : List Str).Nodup by decide +kernel)) gh))) ?_ ?_
  intro cs C fp s2 H2;exact di;intro cs C fp s2 H2;exact aG dq (pdv 0) (aG dH (pdv 2) (bA (pdv 1) (ie az)))
abbrev iI : Stmt := top 8
theorem kJ : aW ["ones", "others"] ["ones", "others"] (aN iI) := by constructor<;>first|rfl|decide +kernel
theorem pL (T : BI K mg) (F : dC K "sum_of_products" "sum_of_products" iI f fd Tb) (KB : K.In base) (hmg : mg "sum_of_products" = some (.ref f)) (hT : Tb ∈ tb) : FI P w K mg base tb "sum_of_products" 2 (1 + 1) (aH 2 (bL)) :=
 bV F KB hmg kJ rfl (λ _ _ _ _ _ _ => us2 λ _ _ => rfl) λ c A outer s H E hcd hr => by
  have nd := kJ.nd;refine aF ?_;refine aM ?_;refine Jb rfl T.b_sum ?_;refine nU ?_;refine jP (own := ["one", "other"]) (cap := []) (capI := []) (ts := [0, 1]) rfl hr ⟨rfl, by decide +kernel, trivial, by decide +kernel, by decide +kernel⟩ (by decide +kernel) (by decide +kernel) hT ⟨c, rfl, hcd⟩ (uc T.b_zip (aa (pdv 0) (aa (pdv 1) au))) (λ AG cs C code fp s2 H2 => iJ rfl (bG (aQ (i := 0) (show (["one", "other"] : List Str).Nodup by decide +kernel)) (bG (aQ (i := 1) (show (["one", "other"] : List Str).Nodup by decide +kernel)) gh))) ?_
  intro AG cs C code fp s2 H2 hm;have hg1 := hm _ hr;exact aG dq (pdv 0) (pdv 1)
abbrev sS : Stmt := top 9
theorem uo : aW ["rows", "weights"] ["rows", "weights"] (aN sS) := by constructor<;>first|rfl|decide +kernel
theorem Dh (T : BI K mg) (F : dC K "weighed" "weighed" sS f fd Tb) (KB : K.In base) (hmg : mg "weighed" = some (.ref f)) (F_sum_of_products : FI P w K mg base tb "sum_of_products" 2 2 bu) : FI P w K mg base tb "weighed" 2 (2 + 1) (aH 2 (jQ bu)) :=
 bV F KB hmg uo rfl (λ _ _ _ _ _ _ => us2 λ _ _ => rfl) λ c A outer s H E hcd hr => by
  have nd := uo.nd;refine aF ?_;refine aM ?_;refine fZ ?_;refine iM (own := ["at"]) (cap := ["weights", "rows"]) (capI := [1, 0]) (ts := [0]) rfl ⟨rfl, by decide +kernel, ⟨⟨rfl, by first | exact Or.inl rfl | exact Or.inr rfl⟩, ⟨⟨rfl, by first | exact Or.inl rfl | exact Or.inr rfl⟩, trivial⟩⟩, by decide +kernel, by decide +kernel⟩ (by decide +kernel) ?_ (λ cs C fp s2 H2 => aQ (i := 0) (show (["at", "weights", "rows"] : List Str).Nodup by decide +kernel)) ?_ ?_
  refine cH T.b_range ?_;exact aa (cO T.b_len (aa (bA (pdv 0) az) au)) au;intro cs C fp s2 H2;exact di;intro cs C fp s2 H2;refine aK F_sum_of_products (hr.mono (by decide)) ?_ (aA (aA aL))
  refine aa (pdv 1) ?_;refine aa ?_ au;refine fZ ?_;refine iM (own := ["row"]) (cap := ["at"]) (capI := [0]) (ts := [0]) rfl ⟨rfl, by decide +kernel, ⟨⟨rfl, by first | exact Or.inl rfl | exact Or.inr rfl⟩, trivial⟩, by decide +kernel, by decide +kernel⟩ (by decide +kernel) (cV (pdv 2)) (λ cs C fp s2 H2 => aQ (i := 0) (show (["row", "at"] : List Str).Nodup by decide +kernel)) ?_ ?_
  intro cs C fp s2 H2;exact di;intro cs C fp s2 H2;exact bA (pdv 0) (pdv 1)
abbrev jl : Stmt := top 5
theorem lz : aW ["numbers", "found", "number"] ["numbers"] (aN jl) := by constructor<;>first|rfl|decide +kernel
theorem qI {bc : FF} (T : BI K mg) (F : dC K "common_divisor" "common_divisor" jl f fd Tb) (KB : K.In base) (hmg : mg "common_divisor" = some (.ref f)) (F_divisor_of_two : FI P w K mg base tb "divisor_of_two" 2 1 bc) : FI P w K mg base tb "common_divisor" 1 (1 + 1) (aH 3 (dD bc)) :=
 bV F KB hmg lz rfl (λ _ _ _ _ _ _ => us1 λ _ => rfl) λ c A outer s H E hcd hr => by
  have nd := lz.nd;refine aC (aU (i := 1) nd az) ?_;refine aC ?_ (aF (aM (pdv 1)));refine fH (ts := [2]) PassesOwn.never rfl (cV (pdv 0)) (aQ (i := 2) nd) ?_;refine aC ?_ ?_;exact aU (i := 1) nd (aK F_divisor_of_two (hr.mono (by decide)) (aa (pdv 1) (aa (pdv 2) au)) (aA (aA aL)))
  exact aF (bT (bw (gB hr) (pdv 1) az) (aF GC) bj)
abbrev pR : Stmt := top 7
theorem tG : aW ["numbers", "common"] ["numbers"] (aN pR) := by constructor<;>first|rfl|decide +kernel
theorem Al (T : BI K mg) (F : dC K "lessened" "lessened" pR f fd Tb) (KB : K.In base) (hmg : mg "lessened" = some (.ref f)) (F_common_divisor : FI P w K mg base tb "common_divisor" 1 2 cB) (hT : Tb ∈ tb) : FI P w K mg base tb "lessened" 1 (3 + 1) (aH 2 (iW cB)) :=
 bV F KB hmg tG rfl (λ _ _ _ _ _ _ => us1 λ _ => rfl) λ c A outer s H E hcd hr => by
  have nd := tG.nd;refine aC ?_ ?_;exact aU (i := 1) nd (aK F_common_divisor (hr.mono (by decide)) (aa (pdv 0) au) (aA aL))
  refine aF ?_;refine aM ?_;refine Nz rfl T.b_tuple ?_;refine jP (own := ["number"]) (cap := ["common"]) (capI := [1]) (ts := [0]) rfl hr ⟨rfl, by decide +kernel, ⟨⟨rfl, by first | exact Or.inl rfl | exact Or.inr rfl⟩, trivial⟩, by decide +kernel, by decide +kernel⟩ (by decide +kernel) (by decide +kernel) hT ⟨c, rfl, hcd⟩ (cV (pdv 0)) (λ AG cs C code fp s2 H2 => aQ (i := 0) (show (["number", "common"] : List Str).Nodup by decide +kernel)) ?_
  intro AG cs C code fp s2 H2 hm;have hg1 := hm _ hr;exact aG dH (pdv 0) (pdv 1)
abbrev yj : Stmt := top 14
theorem zr : aW ["points", "shares", "shared", "weights"] ["points", "shares"] (aN yj) := by constructor<;>first|rfl|decide +kernel
theorem Ii (T : BI K mg) (F : dC K "mixed" "mixed" yj f fd Tb) (KB : K.In base) (hmg : mg "mixed" = some (.ref f)) (F_over_bottoms : FI P w K mg base tb "over_bottoms" 2 3 dR) (F_weighed : FI P w K mg base tb "weighed" 2 3 iZ) (F_lessened : FI P w K mg base tb "lessened" 1 4 fX) : FI P w K mg base tb "mixed" 2 (4 + 1) (aH 4 (oR dR iZ fX)) :=
 bV F KB hmg zr rfl (λ _ _ _ _ _ _ => us2 λ _ _ => rfl) λ c A outer s H E hcd hr => by
  have nd := zr.nd;refine aC ?_ ?_;refine Nr (i := 2) nd (own := ["k", "share"]) (cap := ["points"]) (capI := [0]) (ts := [0, 1]) rfl ⟨rfl, by decide +kernel, ⟨⟨rfl, by first | exact Or.inl rfl | exact Or.inr rfl⟩, trivial⟩, by decide +kernel, by decide +kernel⟩ (by decide +kernel) (cV (pdv 1)) (λ cs C fp s2 H2 => iJ rfl (bG (aQ (i := 0) (show (["k", "share", "points"] : List Str).Nodup by decide +kernel)) (bG (aQ (i := 1) (show (["k", "share", "points"] : List Str).Nodup by decide +kernel)) gh))) ?_ ?_
  intro cs C fp s2 H2;exact di;intro cs C fp s2 H2;exact bA (pdv 2) (pdv 0);refine aC ?_ ?_;refine aU (i := 3) nd ?_;refine aK F_over_bottoms (hr.mono (by decide)) ?_ (aA (aA aL))
  refine aa (pdv 2) ?_;refine aa ?_ au;refine fZ ?_;refine iM (own := ["k", "share"]) (cap := []) (capI := []) (ts := [0, 1]) rfl ⟨rfl, by decide +kernel, trivial, by decide +kernel, by decide +kernel⟩ (by decide +kernel) (cV (pdv 1)) (λ cs C fp s2 H2 => iJ rfl (bG (aQ (i := 0) (show (["k", "share"] : List Str).Nodup by decide +kernel)) (bG (aQ (i := 1) (show (["k", "share"] : List Str).Nodup by decide +kernel)) gh))) ?_ ?_
  intro cs C fp s2 H2;exact di;intro cs C fp s2 H2;exact pdv 1;refine aF ?_;refine aM ?_;refine aK F_lessened (hr.mono (by decide)) ?_ (aA aL)
  exact aa (aK F_weighed (hr.mono (by decide)) (aa (pdv 2) (aa (pdv 3) au)) (aA (aA aL))) au
abbrev kO : Stmt := top 16
theorem mU : aW ["points", "spot", "thing"] ["points", "spot", "thing"] (aN kO) := by constructor<;>first|rfl|decide +kernel
theorem tR (T : BI K mg) (F : dC K "within_holds" "within_holds" kO f fd Tb) (KB : K.In base) (hmg : mg "within_holds" = some (.ref f)) (F_is_shares : FI P w K mg base tb "is_shares" 2 6 fD) (F_mixed : FI P w K mg base tb "mixed" 2 5 jW) : FI P w K mg base tb "within_holds" 3 (6 + 1) (aH 3 (cQ fD jW)) :=
 bV F KB hmg mU rfl (λ _ _ _ _ _ _ => us3 λ _ _ _ => rfl) λ c A outer s H E hcd hr => by
  have nd := mU.nd;refine aC ?_ ?_;refine bT ?_ (aF (aM iB)) bj;refine ji ?_;refine gF ?_ ?_;refine dI ?_;refine dJ ?_;refine aK F_is_shares (hr.mono (by decide)) ?_ (aA (aA aL))
  exact aa (cO T.b_len (aa (pdv 0) au)) (aa (pdv 2) au);refine iU ?_;exact bw Ew (cO T.b_len (aa (pdv 2) au)) (cO T.b_len (aa (pdv 1) au));refine aF ?_;refine aM ?_;exact lA (gB hr) (aK F_mixed (hr.mono (by decide)) (aa (pdv 0) (aa (pdv 2) au)) (aA (aA aL))) (pdv 1)
abbrev yh : Stmt := top 39
theorem Br : aW ["_law_found", "_law_due"] ["_law_found", "_law_due"] (aN yh) := by constructor<;>first|rfl|decide +kernel
theorem Iw (T : BI K mg) (F : dC K "_law_says" "_law_says" yh f fd Tb) (KB : K.In base) (hmg : mg "_law_says" = some (.ref f)) : FI P w K mg base tb "_law_says" 2 (0 + 1) (aH 2 (oM)) :=
 bV F KB hmg Br rfl (λ _ _ _ _ _ _ => us2 λ _ _ => rfl) λ c A outer s H E hcd hr => by
  have nd := Br.nd;refine aF ?_;refine aM ?_;refine lB ?_ (jH (lA (gB hr) (pdv 0) (pdv 1)));exact jE T.b_isinstance T.b_bool PyProof.Rows.boot_bool (by decide) (pdv 0)
abbrev pN : Stmt := top 43
theorem tH : aW ["_law_directions", "_law_thing_here"] ["_law_directions", "_law_thing_here"] (aN pN) := by constructor<;>first|rfl|decide +kernel
theorem BR (T : BI K mg) (F : dC K "_law_is_pair" "_law_is_pair" pN f fd Tb) (KB : K.In base) (hmg : mg "_law_is_pair" = some (.ref f)) (F_Lwhole : FI P w K mg base tb "_law_whole" 1 1 bO) : FI P w K mg base tb "_law_is_pair" 2 (1 + 1) (aH 2 (nG bO)) :=
 bV F KB hmg tH rfl (λ _ _ _ _ _ _ => us2 λ _ _ => rfl) λ c A outer s H E hcd hr => by
  have nd := tH.nd;refine aC ?_ ?_;refine bT ?_ (aF (aM iB)) bj;refine ji ?_;refine gF ?_ ?_;refine dI ?_;refine dJ ?_;exact jE T.b_isinstance T.b_tuple PyProof.Rows.boot_tuple (by decide) (pdv 1)
  refine gF (bw (vJ hr) (cO T.b_len (aa (pdv 1) au)) az) ?_;refine iU ?_;refine dI ?_;exact dJ (aK F_Lwhole (hr.mono (by decide)) (aa (bA (pdv 1) az) au) (aA aL))
  refine aC ?_ ?_;refine bT ?_ (aF (aM iB)) bj;refine ji ?_;refine gF ?_ ?_;refine dI ?_;refine dJ ?_;exact jE T.b_isinstance T.b_tuple PyProof.Rows.boot_tuple (by decide) (bA (pdv 1) az)
  refine iU ?_;exact bw (vJ hr) (cO T.b_len (aa (bA (pdv 1) az) au)) (pdv 0);refine aF ?_;refine aM ?_;refine yL rfl T.b_all ?_;refine lO rfl ?_;refine fZ ?_;refine iM (own := ["_law_number"]) (cap := []) (capI := []) (ts := [0]) rfl ⟨rfl, by decide +kernel, trivial, by decide +kernel, by decide +kernel⟩ (by decide +kernel) (cV (bA (pdv 1) az)) (λ cs C fp s2 H2 => aQ (i := 0) (show (["_law_number"] : List Str).Nodup by decide +kernel)) ?_ ?_
  intro cs C fp s2 H2;exact di;intro cs C fp s2 H2;exact aK F_Lwhole (hr.mono (by decide)) (aa (pdv 0) au) (aA aL)
abbrev Dj : Stmt := top 36
theorem Ff : aW ["_law_row", "_law_spot_here"] ["_law_row", "_law_spot_here"] (aN Dj) := by constructor<;>first|rfl|decide +kernel
theorem Mz (T : BI K mg) (F : dC K "_law_sum" "_law_sum" Dj f fd Tb) (KB : K.In base) (hmg : mg "_law_sum" = some (.ref f)) : FI P w K mg base tb "_law_sum" 2 (0 + 1) (aH 2 (vq)) :=
 bV F KB hmg Ff rfl (λ _ _ _ _ _ _ => us2 λ _ _ => rfl) λ c A outer s H E hcd hr => by
  have nd := Ff.nd;refine aF ?_;refine aM ?_;refine aZ ?_;refine aa ?_ (aa (bA (pdv 1) (ie az)) au);refine Jb rfl T.b_sum ?_;refine lO rfl ?_;refine fZ ?_;refine iM (own := ["_law_one", "_law_other"]) (cap := []) (capI := []) (ts := [0, 1]) rfl ⟨rfl, by decide +kernel, trivial, by decide +kernel, by decide +kernel⟩ (by decide +kernel) (uc T.b_zip (aa (pdv 0) (aa (pdv 1) au))) (λ cs C fp s2 H2 => iJ rfl (bG (aQ (i := 0) (show (["_law_one", "_law_other"] : List Str).Nodup by decide +kernel)) (bG (aQ (i := 1) (show (["_law_one", "_law_other"] : List Str).Nodup by decide +kernel)) gh))) ?_ ?_
  intro cs C fp s2 H2;exact di;intro cs C fp s2 H2;exact aG dq (pdv 0) (pdv 1)
abbrev vd : Stmt := top 37
theorem xO : aW ["_law_one", "_law_other"] ["_law_one", "_law_other"] (aN vd) := by constructor<;>first|rfl|decide +kernel
theorem Hl (T : BI K mg) (F : dC K "_law_below" "_law_below" vd f fd Tb) (KB : K.In base) (hmg : mg "_law_below" = some (.ref f)) : FI P w K mg base tb "_law_below" 2 (0 + 1) (aH 2 (lM)) :=
 bV F KB hmg xO rfl (λ _ _ _ _ _ _ => us2 λ _ _ => rfl) λ c A outer s H E hcd hr => by
  have nd := xO.nd;refine aF ?_;refine aM ?_;exact lA sZ (aG dq (bA (pdv 0) az) (bA (pdv 1) az)) (aG dq (bA (pdv 1) az) (bA (pdv 0) az))
abbrev sE : Stmt := top 44
theorem uX : aW ["_law_pair", "_law_spots"] ["_law_pair", "_law_spots"] (aN sE) := by constructor<;>first|rfl|decide +kernel
theorem Dl (T : BI K mg) (F : dC K "_law_behind" "_law_behind" sE f fd Tb) (KB : K.In base) (hmg : mg "_law_behind" = some (.ref f)) (F_Lsum : FI P w K mg base tb "_law_sum" 2 1 oU) (F_Lbelow : FI P w K mg base tb "_law_below" 2 1 jN) : FI P w K mg base tb "_law_behind" 2 (1 + 1) (aH 2 (jU oU jN)) :=
 bV F KB hmg uX rfl (λ _ _ _ _ _ _ => us2 λ _ _ => rfl) λ c A outer s H E hcd hr => by
  have nd := uX.nd;refine aF ?_;refine aM ?_;refine ul ?_;refine yS rfl T.b_any ?_;refine lO rfl ?_;refine fZ ?_;refine iM (own := ["_law_spot_here"]) (cap := ["_law_pair"]) (capI := [0]) (ts := [0]) rfl ⟨rfl, by decide +kernel, ⟨⟨rfl, by first | exact Or.inl rfl | exact Or.inr rfl⟩, trivial⟩, by decide +kernel, by decide +kernel⟩ (by decide +kernel) (cV (pdv 1)) (λ cs C fp s2 H2 => aQ (i := 0) (show (["_law_spot_here", "_law_pair"] : List Str).Nodup by decide +kernel)) ?_ ?_
  intro cs C fp s2 H2;exact di;intro cs C fp s2 H2;refine aK F_Lbelow (hr.mono (by decide)) ?_ (aA (aA aL))
  refine aa ?_ ?_;exact aZ (aa (bA (pdv 1) az) (aa az au));refine aa ?_ au;exact aK F_Lsum (hr.mono (by decide)) (aa (bA (pdv 1) az) (aa (pdv 0) au)) (aA (aA aL))
abbrev uN : Stmt := top 45
theorem wX : aW ["_law_points_here", "_law_spot_here", "_law_thing_here"] ["_law_points_here", "_law_spot_here", "_law_thing_here"] (aN uN) := by constructor<;>first|rfl|decide +kernel
theorem Gb (T : BI K mg) (F : dC K "_law_keeps" "_law_keeps" uN f fd Tb) (KB : K.In base) (hmg : mg "_law_keeps" = some (.ref f)) (F_Lis_pair : FI P w K mg base tb "_law_is_pair" 2 2 fu) (F_Lbehind : FI P w K mg base tb "_law_behind" 2 2 eF) : FI P w K mg base tb "_law_keeps" 3 (2 + 1) (aH 3 (qK fu eF)) :=
 bV F KB hmg wX rfl (λ _ _ _ _ _ _ => us3 λ _ _ _ => rfl) λ c A outer s H E hcd hr => by
  have nd := wX.nd;refine aC ?_ ?_;refine bT ?_ (aF (aM iB)) bj;refine ji ?_;refine gF ?_ ?_;refine dI ?_;refine dJ ?_;refine aK F_Lis_pair (hr.mono (by decide)) ?_ (aA (aA aL))
  exact aa (aG gf (cO T.b_len (aa (pdv 1) au)) az) (aa (pdv 2) au);refine iU ?_;refine dI ?_;refine dJ ?_;refine yS rfl T.b_any ?_;refine lO rfl ?_;refine fZ ?_;refine iM (own := ["_law_number"]) (cap := []) (capI := []) (ts := [0]) rfl ⟨rfl, by decide +kernel, trivial, by decide +kernel, by decide +kernel⟩ (by decide +kernel) (cV (bA (pdv 2) az)) (λ cs C fp s2 H2 => aQ (i := 0) (show (["_law_number"] : List Str).Nodup by decide +kernel)) ?_ ?_
  intro cs C fp s2 H2;exact di;intro cs C fp s2 H2;exact lA (vJ hr) (pdv 0) az;refine aF ?_;refine aM ?_;refine lB (aK F_Lbehind (hr.mono (by decide)) (aa (pdv 2) (aa (pdv 0) au)) (aA (aA aL))) ?_
  refine jH ?_;refine ul ?_;refine aK F_Lbehind (hr.mono (by decide)) ?_ (aA (aA aL))
  exact aa (pdv 2) (aa (cZ (aa (pdv 1) au)) au)
abbrev uh : Stmt := top 2
theorem wY : aW ["many", "thing"] ["many", "thing"] (aN uh) := by constructor<;>first|rfl|decide +kernel
theorem Hw (T : BI K mg) (F : dC K "is_row" "is_row" uh f fd Tb) (KB : K.In base) (hmg : mg "is_row" = some (.ref f)) : FI P w K mg base tb "is_row" 2 (0 + 1) (aH 2 (kY)) :=
 bV F KB hmg wY rfl (λ _ _ _ _ _ _ => us2 λ _ _ => rfl) λ c A outer s H E hcd hr => by
  have nd := wY.nd;refine aF ?_;refine aM ?_;refine lB ?_ (jH (lA (gB hr) (cO T.b_len (aa (pdv 1) au)) (pdv 0)));exact jE T.b_isinstance T.b_tuple PyProof.Rows.boot_tuple (by decide) (pdv 1)
abbrev rW : Stmt := top 17
theorem uE : aW ["directions", "thing", "row", "most"] ["directions", "thing"] (aN rW) := by constructor<;>first|rfl|decide +kernel
theorem Cz (T : BI K mg) (F : dC K "is_side" "is_side" rW f fd Tb) (KB : K.In base) (hmg : mg "is_side" = some (.ref f)) (F_is_row : FI P w K mg base tb "is_row" 2 1 jR) (F_is_numbers : FI P w K mg base tb "is_numbers" 1 3 bQ) (F_is_number : FI P w K mg base tb "is_number" 1 1 bY) : FI P w K mg base tb "is_side" 2 (3 + 1) (aH 4 (jT jR bQ bY)) :=
 bV F KB hmg uE rfl (λ _ _ _ _ _ _ => us2 λ _ _ => rfl) λ c A outer s H E hcd hr => by
  have nd := uE.nd;refine aC ?_ ?_;refine bT ?_ (aF (aM iB)) bj;refine dI ?_;exact dJ (aK F_is_row (hr.mono (by decide)) (aa az (aa (pdv 1) au)) (aA (aA aL)))
  refine aC (yc (ts := [2, 3]) (pdv 1) (iJ rfl (bG (aQ (i := 2) nd) (bG (aQ (i := 3) nd) gh)))) ?_;refine aF ?_;refine aM ?_;refine lB (aK F_is_numbers (hr.mono (by decide)) (aa (pdv 2) au) (aA aL)) ?_
  refine lB (lA (gB hr) (cO T.b_len (aa (pdv 2) au)) (pdv 0)) ?_;exact jH (aK F_is_number (hr.mono (by decide)) (aa (pdv 3) au) (aA aL))
abbrev sO : Stmt := top 18
theorem uW : aW ["directions", "thing"] ["directions", "thing"] (aN sO) := by constructor<;>first|rfl|decide +kernel
theorem Ci (T : BI K mg) (F : dC K "is_wall" "is_wall" sO f fd Tb) (KB : K.In base) (hmg : mg "is_wall" = some (.ref f)) (F_is_side : FI P w K mg base tb "is_side" 2 4 jh) : FI P w K mg base tb "is_wall" 2 (4 + 1) (aH 2 (jM jh)) :=
 bV F KB hmg uW rfl (λ _ _ _ _ _ _ => us2 λ _ _ => rfl) λ c A outer s H E hcd hr => by
  have nd := uW.nd;refine aF ?_;refine aM ?_;exact lB (aK F_is_side (hr.mono (by decide)) (aa (pdv 0) (aa (pdv 1) au)) (aA (aA aL))) (jH (yS rfl T.b_any (lO rfl (bA (pdv 1) az))))
abbrev nJ : Stmt := top 19
theorem rm : aW ["wall", "spot", "row", "most"] ["wall", "spot"] (aN nJ) := by constructor<;>first|rfl|decide +kernel
theorem yr (T : BI K mg) (F : dC K "is_beyond" "is_beyond" nJ f fd Tb) (KB : K.In base) (hmg : mg "is_beyond" = some (.ref f)) (F_sum_of_products : FI P w K mg base tb "sum_of_products" 2 2 bu) : FI P w K mg base tb "is_beyond" 2 (2 + 1) (aH 4 (iz bu)) :=
 bV F KB hmg rm rfl (λ _ _ _ _ _ _ => us2 λ _ _ => rfl) λ c A outer s H E hcd hr => by
  have nd := rm.nd;refine aC (yc (ts := [2, 3]) (pdv 0) (iJ rfl (bG (aQ (i := 2) nd) (bG (aQ (i := 3) nd) gh)))) ?_;refine aF ?_;refine aM ?_;refine lA Ew ?_ (aG dq (pdv 3) (bA (pdv 1) (ie az)));refine aK F_sum_of_products (hr.mono (by decide)) ?_ (aA (aA aL))
  refine aa (pdv 2) ?_;exact aa (qD (pdv 1) oE (nF (ie az))) au
abbrev jA : Stmt := top 20
theorem lG : aW ["points", "spot", "thing"] ["points", "spot", "thing"] (aN jA) := by constructor<;>first|rfl|decide +kernel
theorem rY (T : BI K mg) (F : dC K "without_holds" "without_holds" jA f fd Tb) (KB : K.In base) (hmg : mg "without_holds" = some (.ref f)) (F_is_wall : FI P w K mg base tb "is_wall" 2 5 gY) (F_is_beyond : FI P w K mg base tb "is_beyond" 2 3 fB) (hT : Tb ∈ tb) : FI P w K mg base tb "without_holds" 3 (6 + 1) (aH 3 (dO gY fB)) :=
 bV F KB hmg lG rfl (λ _ _ _ _ _ _ => us3 λ _ _ _ => rfl) λ c A outer s H E hcd hr => by
  have nd := lG.nd;refine aC ?_ ?_;refine bT ?_ (aF (aM iB)) bj;refine ji ?_;refine gF ?_ ?_;refine dI ?_;refine dJ ?_;refine aK F_is_wall (hr.mono (by decide)) ?_ (aA (aA aL))
  exact aa (aG gf (cO T.b_len (aa (pdv 1) au)) az) (aa (pdv 2) au);refine iU ?_;refine dI ?_;exact dJ (aK F_is_beyond (hr.mono (by decide)) (aa (pdv 2) (aa (pdv 1) au)) (aA (aA aL)))
  refine aF ?_;refine aM ?_;refine ul ?_;refine yS rfl T.b_any ?_;refine nU ?_;refine jP (own := ["point"]) (cap := ["thing"]) (capI := [2]) (ts := [0]) rfl hr ⟨rfl, by decide +kernel, ⟨⟨rfl, by first | exact Or.inl rfl | exact Or.inr rfl⟩, trivial⟩, by decide +kernel, by decide +kernel⟩ (by decide +kernel) (by decide +kernel) hT ⟨c, rfl, hcd⟩ (cV (pdv 0)) (λ AG cs C code fp s2 H2 => aQ (i := 0) (show (["point", "thing"] : List Str).Nodup by decide +kernel)) ?_
  intro AG cs C code fp s2 H2 hm;have hg1 := hm _ hr;exact aK F_is_beyond (hg1.mono (by decide)) (aa (pdv 1) (aa (pdv 0) au)) (aA (aA aL))
abbrev xK : Stmt := top 47
theorem Jz : aW ["_law_script", "_law_drawn", "_law_k", "_law_directions", "_law_points_here", "_law_spot_here", "_law_j", "_law_thing_here"] ["_law_script"] (aN xK) := by constructor<;>first|rfl|decide +kernel
theorem Sx (T : BI K mg) (F : dC K "law" "law" xK f fd Tb) (KB : K.In base) (F_Ldraws : FI P w K mg base tb "_law_draws" 1 2 jk) (F_Lnext : FI P w K mg base tb "_law_next" 1 1 aP) (F_Lsome_points : FI P w K mg base tb "_law_some_points" 3 5 cY) (F_Lspot : FI P w K mg base tb "_law_spot" 3 4 jY) (F_Lthing : FI P w K mg base tb "_law_thing" 1 2 iY) (F_Lmixes : FI P w K mg base tb "_law_mixes" 3 4 jc) (F_within_holds : FI P w K mg base tb "within_holds" 3 7 dh) (F_Lsays : FI P w K mg base tb "_law_says" 2 1 jy) (F_Lkeeps : FI P w K mg base tb "_law_keeps" 3 3 jf) (F_without_holds : FI P w K mg base tb "without_holds" 3 7 cJ) : tU P w K mg base CX0 (7 + 1) f fd ["_law_script"] (spD K tb 1 (aH 8 (rT jk aP cY jY iY jc dh jy jf cJ))) :=
 MN F KB Jz rfl λ c A outer s H E hcd hr => by
  have nd := Jz.nd;refine aC ?_ ?_;exact aU (i := 1) nd (aK F_Ldraws (hr.mono (by decide)) (aa (pdv 0) au) (aA aL))
  refine aC ?_ (aF (aM iB));refine fH (ts := [2]) PassesOwn.never rfl (cH T.b_range (aa az au)) (aQ (i := 2) nd) ?_;refine aC ?_ ?_;refine aU (i := 3) nd ?_;refine aG cR az ?_;exact aG bz (aK F_Lnext (hr.mono (by decide)) (aa (pdv 1) au) (aA aL)) az
  refine aC ?_ ?_;refine aU (i := 4) nd ?_;exact aK F_Lsome_points (hr.mono (by decide)) (aa (pdv 1) (aa (pdv 3) (aa az au))) (aA (aA (aA aL)))
  refine aC ?_ ?_;refine aU (i := 5) nd ?_;exact aK F_Lspot (hr.mono (by decide)) (aa (pdv 1) (aa (pdv 4) (aa (pdv 3) au))) (aA (aA (aA aL)))
  refine aF ?_;refine fH (ts := [6]) PassesOwn.never rfl (cH T.b_range (aa az au)) (aQ (i := 6) nd) ?_;refine aC ?_ ?_;exact aU (i := 7) nd (aK F_Lthing (hr.mono (by decide)) (aa (pdv 1) au) (aA aL))
  refine aC ?_ ?_;refine bT ?_ (aF (aM iB)) bj;refine dI ?_;refine dJ ?_;refine aK F_Lsays (hr.mono (by decide)) ?_ (aA (aA aL))
  refine aa ?_ ?_;exact aK F_within_holds (hr.mono (by decide)) (aa (pdv 4) (aa (pdv 5) (aa (pdv 7) au))) (aA (aA (aA aL)))
  refine aa ?_ au;exact aK F_Lmixes (hr.mono (by decide)) (aa (pdv 4) (aa (pdv 5) (aa (pdv 7) au))) (aA (aA (aA aL)))
  refine aF ?_;refine bT ?_ (aF (aM iB)) bj;refine dI ?_;refine dJ ?_;refine aK F_Lsays (hr.mono (by decide)) ?_ (aA (aA aL))
  refine aa ?_ ?_;exact aK F_without_holds (hr.mono (by decide)) (aa (pdv 4) (aa (pdv 5) (aa (pdv 7) au))) (aA (aA (aA aL)))
  refine aa ?_ au;exact aK F_Lkeeps (hr.mono (by decide)) (aa (pdv 4) (aa (pdv 5) (aa (pdv 7) au))) (aA (aA (aA aL)))
noncomputable def bF : FF := trunc (aH 3 (jx))
noncomputable def jk : FF := aH 5 (mZ bF)
noncomputable def aP : FF := trunc (aH 1 (gk))
noncomputable def eN : FF := trunc (aH 2 (qi))
noncomputable def aV : FF := trunc (aH 4 (fJ eN))
noncomputable def iy : FF := trunc (aH 8 (jb aP aV))
noncomputable def lJ : FF := trunc (aH 9 (oG aP aV))
noncomputable def jV : FF := trunc (aH 3 (gO))
noncomputable def bU : FF := trunc (aH 9 (jw bF jV aV))
noncomputable def ik : FF := trunc (aH 9 (jO aP iy lJ bU))
noncomputable def cY : FF := trunc (aH 4 (dF ik aP bU))
noncomputable def il : FF := trunc (aH 6 (gR aP bF))
noncomputable def fQ : FF := trunc (aH 9 (uQ eN aV))
noncomputable def je : FF := trunc (aH 5 (qz aV))
noncomputable def jY : FF := trunc (aH 5 (iT aP bU il fQ je))
noncomputable def jJ : FF := trunc (aH 2 (pZ))
noncomputable def iY : FF := trunc (aH 4 (lK aP jJ))
noncomputable def bO : FF := trunc (aH 1 (qH))
noncomputable def jc : FF := trunc (aH 5 (qJ bO fQ))
noncomputable def bY : FF := trunc (aH 1 (fj))
noncomputable def bQ : FF := trunc (aH 1 (dm bY))
noncomputable def fW : FF := trunc (aH 2 (dZ bQ))
noncomputable def fD : FF := trunc (aH 2 (dw fW))
noncomputable def bc : FF := trunc (aH 2 (cI))
noncomputable def cL : FF := trunc (aH 3 (cW bc))
noncomputable def dR : FF := trunc (aH 3 (eZ cL))
noncomputable def bu : FF := trunc (aH 2 (bL))
noncomputable def iZ : FF := trunc (aH 2 (jQ bu))
noncomputable def cB : FF := trunc (aH 3 (dD bc))
noncomputable def fX : FF := trunc (aH 2 (iW cB))
noncomputable def jW : FF := trunc (aH 4 (oR dR iZ fX))
noncomputable def dh : FF := trunc (aH 3 (cQ fD jW))
noncomputable def jy : FF := trunc (aH 2 (oM))
noncomputable def fu : FF := trunc (aH 2 (nG bO))
noncomputable def oU : FF := trunc (aH 2 (vq))
noncomputable def jN : FF := trunc (aH 2 (lM))
noncomputable def eF : FF := trunc (aH 2 (jU oU jN))
noncomputable def jf : FF := trunc (aH 3 (qK fu eF))
noncomputable def jR : FF := trunc (aH 2 (kY))
noncomputable def jh : FF := trunc (aH 4 (jT jR bQ bY))
noncomputable def gY : FF := trunc (aH 2 (jM jh))
noncomputable def fB : FF := trunc (aH 4 (iz bu))
noncomputable def cJ : FF := trunc (aH 3 (dO gY fB))
noncomputable def Dc : FF := aH 8 (rT jk aP cY jY iY jc dh jy jf cJ)
abbrev Gt (K : PySem.W.Frag) (x : Str) (s : Stmt) : Prop := ∃ f c P fd, Got K x s f c P fd
abbrev Nn (K : PySem.W.Frag) (x : Str) : Prop := PySem.W.nsIn K mainGlobals x = some none
abbrev Rq (q : Program) (x : Str) : Prop := ((recsOf q).find? (λ e => e.name == x)).isSome = true
theorem Sh {l : PySem.W.OpenLaw} {q : Program} {lo : List Str} {mean : ExcName -> Option Value} {w : World} {K : PySem.W.Frag} {h : Heap} {mg mb : Str -> Option Value} {fa : Addr}
  (X : K.In h) (G : Top q lo mean mg mb h) (hfa : mg "law" = some (.ref fa))
  (d0 : Gt K "_law_mixed" ut)
  (d1 : Gt K "_law_draws" uw)
  (d2 : Gt K "_law_next" yu)
  (d3 : Gt K "_law_gcd" Cu)
  (d4 : Gt K "_law_lowest" rP)
  (d5 : Gt K "_law_on_line" qe)
  (d6 : Gt K "_law_flat" yM)
  (d7 : Gt K "_law_place" vg)
  (d8 : Gt K "_law_point" vo)
  (d9 : Gt K "_law_points" rK)
  (d10 : Gt K "_law_some_points" kI)
  (d11 : Gt K "_law_shares" sy)
  (d12 : Gt K "_law_mix" Du)
  (d13 : Gt K "_law_moved" uI)
  (d14 : Gt K "_law_spot" yR)
  (d15 : Gt K "_law_odd" DP)
  (d16 : Gt K "_law_thing" vQ)
  (d17 : Gt K "_law_whole" vN)
  (d18 : Gt K "_law_mixes" vp)
  (d19 : Gt K "is_number" nH)
  (d20 : Gt K "is_numbers" mJ)
  (d21 : Gt K "is_share" qd)
  (d22 : Gt K "is_shares" nQ)
  (d23 : Gt K "divisor_of_two" jj)
  (d24 : Gt K "common_multiple" iK)
  (d25 : Gt K "over_bottoms" kE)
  (d26 : Gt K "sum_of_products" iI)
  (d27 : Gt K "weighed" sS)
  (d28 : Gt K "common_divisor" jl)
  (d29 : Gt K "lessened" pR)
  (d30 : Gt K "mixed" yj)
  (d31 : Gt K "within_holds" kO)
  (d32 : Gt K "_law_says" yh)
  (d33 : Gt K "_law_is_pair" pN)
  (d34 : Gt K "_law_sum" Dj)
  (d35 : Gt K "_law_below" vd)
  (d36 : Gt K "_law_behind" sE)
  (d37 : Gt K "_law_keeps" uN)
  (d38 : Gt K "is_row" uh)
  (d39 : Gt K "is_side" rW)
  (d40 : Gt K "is_wall" sO)
  (d41 : Gt K "is_beyond" nJ)
  (d42 : Gt K "without_holds" jA)
  (d43 : Gt K "law" xK)
  (z_abs : Nn K "abs")
  (z_all : Nn K "all")
  (z_any : Nn K "any")
  (z_bool : Nn K "bool")
  (z_int : Nn K "int")
  (z_isinstance : Nn K "isinstance")
  (z_len : Nn K "len")
  (z_list : Nn K "list")
  (z_min : Nn K "min")
  (z_range : Nn K "range")
  (z_sorted : Nn K "sorted")
  (z_sum : Nn K "sum")
  (z_tuple : Nn K "tuple")
  (z_zip : Nn K "zip")
  (r_Lshares : Rq q "_law_shares")
  (r_is_numbers : Rq q "is_numbers")
  (r_is_shares : Rq q "is_shares")
  (r_sum_of_products : Rq q "sum_of_products")
  (r_lessened : Rq q "lessened")
  (r_without_holds : Rq q "without_holds")
  (hnt : PySem.W.noTabs K = true) :
  ∃ (fd : FuncData) (tb : List Addr), (∀ (s : Shared) (u : Value), BindsTo s fd ⟨[u], []⟩ [("_law_script", u)]) /\ (∀ P ∈ tb, ∃ c, PySem.W.CodeHd h c P /\ h.get? P = some (PySem.W.tabObj #[])) /\ PySem.W.noTabs K = true /\
   ∀ base : Heap, K.In base -> base.Ns mainGlobals mg -> tU l.prog w K mg base CX0 8 fa fd ["_law_script"] (spD K tb 1 Dc) := by
 have N := λ {n : Str} (h : Nn K n) => PySem.W.mg_none_of X G.g h;have M := λ {n : Str} {v : Value} (e : PySem.W.nsIn K mainGlobals n = some (some v)) => PySem.W.mg_of X G.g e;have T : BI K mg := ⟨N z_abs, N z_all, N z_any, N z_bool, N z_int, N z_isinstance, N z_len, N z_list, N z_min, N z_range, N z_sorted, N z_sum, N z_tuple, N z_zip⟩;obtain ⟨f0, c0, P0, _, G0⟩ := d0;obtain ⟨f1, c1, P1, _, G1⟩ := d1;obtain ⟨f2, c2, P2, _, G2⟩ := d2;obtain ⟨f3, c3, P3, _, G3⟩ := d3;obtain ⟨f4, c4, P4, _, G4⟩ := d4;obtain ⟨f5, c5, P5, _, G5⟩ := d5;obtain ⟨f6, c6, P6, _, G6⟩ := d6;obtain ⟨f7, c7, P7, _, G7⟩ := d7;obtain ⟨f8, c8, P8, _, G8⟩ := d8;obtain ⟨f9, c9, P9, _, G9⟩ := d9;obtain ⟨f10, c10, P10, _, G10⟩ := d10;obtain ⟨f11, c11, P11, _, G11⟩ := d11;obtain ⟨f12, c12, P12, _, G12⟩ := d12;obtain ⟨f13, c13, P13, _, G13⟩ := d13;obtain ⟨f14, c14, P14, _, G14⟩ := d14;obtain ⟨f15, c15, P15, _, G15⟩ := d15;obtain ⟨f16, c16, P16, _, G16⟩ := d16;obtain ⟨f17, c17, P17, _, G17⟩ := d17;obtain ⟨f18, c18, P18, _, G18⟩ := d18;obtain ⟨f19, c19, P19, _, G19⟩ := d19;obtain ⟨f20, c20, P20, _, G20⟩ := d20;obtain ⟨f21, c21, P21, _, G21⟩ := d21;obtain ⟨f22, c22, P22, _, G22⟩ := d22;obtain ⟨f23, c23, P23, _, G23⟩ := d23;obtain ⟨f24, c24, P24, _, G24⟩ := d24;obtain ⟨f25, c25, P25, _, G25⟩ := d25;obtain ⟨f26, c26, P26, _, G26⟩ := d26;obtain ⟨f27, c27, P27, _, G27⟩ := d27;obtain ⟨f28, c28, P28, _, G28⟩ := d28;obtain ⟨f29, c29, P29, _, G29⟩ := d29;obtain ⟨f30, c30, P30, _, G30⟩ := d30;obtain ⟨f31, c31, P31, _, G31⟩ := d31;obtain ⟨f32, c32, P32, _, G32⟩ := d32;obtain ⟨f33, c33, P33, _, G33⟩ := d33;obtain ⟨f34, c34, P34, _, G34⟩ := d34;obtain ⟨f35, c35, P35, _, G35⟩ := d35;obtain ⟨f36, c36, P36, _, G36⟩ := d36;obtain ⟨f37, c37, P37, _, G37⟩ := d37;obtain ⟨f38, c38, P38, _, G38⟩ := d38;obtain ⟨f39, c39, P39, _, G39⟩ := d39;obtain ⟨f40, c40, P40, _, G40⟩ := d40;obtain ⟨f41, c41, P41, _, G41⟩ := d41;obtain ⟨f42, c42, P42, _, G42⟩ := d42;obtain ⟨f43, c43, P43, _, G43⟩ := d43;have m_law := M G43.m;have e := hfa.symm.trans m_law;cases e;obtain ⟨kV, dc, pm, an, ct, rfl⟩ := G43.e;refine ⟨PySem.W.fnOf "law" "law" (lW xK) (jK xK) (aN xK) .none kV dc pm an (.ref c43) ct, [P11, P20, P22, P26, P29, P42], λ s u => .of_eq rfl, λ P hP => ?_, hnt, λ base kb nb => ?_⟩
 .have hP : P = P11 ∨ P = P20 ∨ P = P22 ∨ P = P26 ∨ P = P29 ∨ P = P42 := by simpa using hP
  rcases hP with rfl | rfl | rfl | rfl | rfl | rfl
  .exact ⟨c11, rC G X r_Lshares G11.t⟩
  .exact ⟨c20, rC G X r_is_numbers G20.t⟩
  .exact ⟨c22, rC G X r_is_shares G22.t⟩
  .exact ⟨c26, rC G X r_sum_of_products G26.t⟩
  .exact ⟨c29, rC G X r_lessened G29.t⟩
  .exact ⟨c42, rC G X r_without_holds G42.t⟩
 .have U {φ nm n k} (h : FI l.prog w K mg base [P11, P20, P22, P26, P29, P42] nm n k φ) := h;have jx := U (φ := bF) (GP T G0.F kb (M G0.m)).trunc;have mZ := U (φ := jk) (Gw T G1.F kb (M G1.m) jx);have gk := U (φ := aP) (Jg T G2.F kb (M G2.m)).trunc;have qi := U (φ := eN) (PB T G3.F kb (M G3.m)).trunc;have fJ := U (φ := aV) (Ds T G4.F kb (M G4.m) qi).trunc;have jb := U (φ := iy) (Ab T G5.F kb (M G5.m) gk fJ).trunc;have oG := U (φ := lJ) (JZ T G6.F kb (M G6.m) gk fJ).trunc;have gO := U (φ := jV) (Hf T G7.F kb (M G7.m)).trunc;have jw := U (φ := bU) (Hg T G8.F kb (M G8.m) jx gO fJ).trunc;have jO := U (φ := ik) (DW T G9.F kb (M G9.m) gk jb oG jw).trunc;have dF := U (φ := cY) (tX T G10.F kb (M G10.m) jO gk jw).trunc;have xQ := U (φ := il) (CZ T G11.F kb (M G11.m) gk jx (by simp)).trunc
  have Dy := U (φ := fQ) (Pn T G12.F kb (M G12.m) qi fJ).trunc;have nW := U (φ := je) (Gn T G13.F kb (M G13.m) fJ).trunc;have iT := U (φ := jY) (Jd T G14.F kb (M G14.m) gk jw xQ Dy nW).trunc;have Jv := U (φ := jJ) (Ln T G15.F kb (M G15.m)).trunc;have lK := U (φ := iY) (Hv T G16.F kb (M G16.m) gk Jv).trunc;have rn := U (φ := bO) (Gr T G17.F kb (M G17.m)).trunc;have iR := U (φ := jc) (Gj T G18.F kb (M G18.m) rn Dy).trunc;have fj := U (φ := bY) (yX T G19.F kb (M G19.m)).trunc;have dm := U (φ := bQ) (wg T G20.F kb (M G20.m) fj (by simp)).trunc
  have dZ := U (φ := fW) (Aa T G21.F kb (M G21.m) dm).trunc;have dw := U (φ := fD) (yg T G22.F kb (M G22.m) dZ (by simp)).trunc
  have cI := U (φ := bc) (ql T G23.F kb (M G23.m)).trunc;have cW := U (φ := cL) (pW T G24.F kb (M G24.m) cI).trunc;have eZ := U (φ := dR) (tY T G25.F kb (M G25.m) cW).trunc;have bL := U (φ := bu) (pL T G26.F kb (M G26.m) (by simp)).trunc
  have jQ := U (φ := iZ) (Dh T G27.F kb (M G27.m) bL).trunc;have dD := U (φ := cB) (qI T G28.F kb (M G28.m) cI).trunc;have iW := U (φ := fX) (Al T G29.F kb (M G29.m) dD (by simp)).trunc
  have oR := U (φ := jW) (Ii T G30.F kb (M G30.m) eZ jQ iW).trunc;have cQ := U (φ := dh) (tR T G31.F kb (M G31.m) dw oR).trunc;have oM := U (φ := jy) (Iw T G32.F kb (M G32.m)).trunc;have mK := U (φ := fu) (BR T G33.F kb (M G33.m) rn).trunc;have yp := U (φ := oU) (Mz T G34.F kb (M G34.m)).trunc;have lM := U (φ := jN) (Hl T G35.F kb (M G35.m)).trunc;have jU := U (φ := eF) (Dl T G36.F kb (M G36.m) yp lM).trunc;have qp := U (φ := jf) (Gb T G37.F kb (M G37.m) mK jU).trunc;have kY := U (φ := jR) (Hw T G38.F kb (M G38.m)).trunc;have jT := U (φ := jh) (Cz T G39.F kb (M G39.m) kY dm fj).trunc;have jM := U (φ := gY) (Ci T G40.F kb (M G40.m) jT).trunc;have iz := U (φ := fB) (yr T G41.F kb (M G41.m) bL).trunc;have dO := U (φ := cJ) (rY T G42.F kb (M G42.m) jM iz (by simp)).trunc
  exact Sx T G43.F kb mZ gk dF iT lK iR cQ oM qp dO
end Lk25
namespace LG
open PySem PySem.Spec PyProof.Rows L2 L3
theorem Hz (a b : Int) : Int.gcd b (a.fmod b) = Int.gcd a b := by
 have h : a.fmod b = a - b * a.fdiv b := by have := Int.mul_fdiv_add_fmod a b; omega
 rw [h, Int.gcd_comm];have : a - b * a.fdiv b = a + b * (- a.fdiv b) := by rw [Int.mul_neg]; omega
 rw [this, Int.gcd_add_mul_left_left]
theorem Ng (a b : Int) (h : b ≠ 0) : (a.fmod b).natAbs < b.natAbs := by
 rw [Int.fmod_eq_emod];have h1 := Int.emod_nonneg a h;have h2 := Int.emod_lt a h;by_cases hd : 0 <= b ∨ b ∣ a
 .rw [if_pos hd]; omega
 .rw [if_neg hd];have h3 : a % b ≠ 0 := λ z => hd (.inr (Int.dvd_of_emod_eq_zero z));omega
abbrev eucC : TF := toB (M2 (aq 1) (mC (.int 0)) oNe)
abbrev eucB : SF := wz 0 1 (ao (aq 1) (ao (M2 (aq 0) (aq 1) oMod) (aB)))
theorem ne_int (a b : Int) (μ : Mu) : oNe (.int a) (.int b) μ = some (.bl (!(a == b)), μ) := by
 unfold oNe rsv;simp [cN, ir, eqD]
theorem Ef (a b : Int) (μ : Mu) : oEq (.int a) (.int b) μ = some (.bl (a == b), μ) := by
 unfold oEq rsv;simp [cN, ir, eqD]
theorem euc : ∀ (n : Nat) (a b : Int) (μ : Mu), b.natAbs <= n -> ∃ a', fK eucC eucB (n + 1) [some (.int a), some (.int b)] μ = some (.nx, [some (.int a'), some (.int 0)], μ) /\ a'.natAbs = Int.gcd a b /\ (0 <= a -> 0 <= b -> 0 <= a')
 | n, a, b, μ, h => by
  by_cases hb : b = 0
  .subst hb;refine ⟨a, ?_, by simp, λ h _ => h⟩
   unfold fK;simp [toB, M2, aq, mC, ne_int]
  .cases n with
   | zero => omega
   | succ n =>
    obtain ⟨a', e, hg, hs⟩ := euc n b (a.fmod b) μ (by have := Ng a b hb; omega)
    refine ⟨a', ?_, by rw [hg, Hz], λ h0 h1 => hs h1 (Int.fmod_nonneg_of_pos a (by omega))⟩
    unfold fK;simp [toB, M2, aq, mC, ne_int, hb, wz, ao, aB, oMod, e]
def ph (φ : FF) : Prop := ∀ (a b : Int) (μ : Mu), φ [.int a, .int b] μ = some (.int (Int.gcd a b), μ)
theorem Oe : ph (aH 2 cI) := λ a b μ => by
 obtain ⟨a', e, hg, hs⟩ := euc _ (if a < 0 then -a else a) (if b < 0 then -b else b) μ (Zg _);have ea : (0 : Int) <= if a < 0 then -a else a := by split <;> omega
 have eb : (0 : Int) <= if b < 0 then -b else b := by split <;> omega
 have h0 := hs ea eb;have hga : Int.gcd (if a < 0 then -a else a) (if b < 0 then -b else b) = Int.gcd a b := by split <;> split <;> simp
 rw [hga] at hg;have hv : a' = (Int.gcd a b : Int) := by omega
 subst hv;have ew := sI e;unfold aH cI;simp [aO, wz, ao, aB, MC, aq, aX, pQ, ew, bh]
theorem Oc : ph (aH 2 qi) := λ a b μ => by
 obtain ⟨a', e, hg, hs⟩ := euc _ a b μ (Zg _);have ew := sI e;unfold aH qi;have hv : (if a' < 0 then -a' else a') = (Int.gcd a b : Int) := by split <;> omega
 simp [aO, ew, bh, ao, aB, MC, aq, aX, pQ, hv]
def bK (g : Nat) (ns : List Int) : Nat := ns.foldl (λ g n => Int.gcd g n) g
theorem Bd : ∀ ns : List Int, bK 1 ns = 1
 | [] => rfl
 | n :: ns => by
  show bK (Int.gcd (1 : Nat) n) ns = 1;have : Int.gcd ((1 : Nat) : Int) n = 1 := by simp
  rw [this]; exact Bd ns
theorem cC (items : List D) (μ : Mu) : Src.ok ⟨items, none⟩ μ := λ n e => by cases e
theorem Fj (hφ : ph φ) (x : D) (all : List D) : ∀ (ns : List Int) (g : Nat) (o : Option D) (μ : Mu), ∃ o',
  forL ⟨all, none⟩ (hName 2) (aO (bf 1 (MC (ao (aq 1) (ao (aq 2) (aB))) φ)) (sIf (toB (M2 (aq 1) (mC (.int 1)) oEq)) (vM) (bH))) (ns.map D.int) [some x, some (.int g), o] μ = some (.nx, [some x, some (.int (bK g ns : Nat)), o'], μ)
 | [], g, o, μ => ⟨o, by unfold forL; simp [cC, bK]⟩
 | n :: ns, g, o, μ => by
  by_cases h1 : Int.gcd g n = 1
  .refine ⟨some (.int n), ?_⟩;rw [Zj];unfold forL;have h2 : bK g (n :: ns) = 1 := by show bK (Int.gcd g n) ns = 1; rw [h1]; exact Bd ns
   simp [cC, hName, aO, bf, MC, ao, aB, aq, hφ g n, h1, h2, sIf, toB, M2, mC, Ef, vM]
  .obtain ⟨o', e⟩ := Fj hφ x all ns (Int.gcd g n) (some (.int n)) μ;refine ⟨o', ?_⟩;rw [Zj];unfold forL;have h3 : ((Int.gcd g n : Nat) : Int) ≠ 1 := by omega
   have h2 : bK g (n :: ns) = bK (Int.gcd g n) ns := rfl;simp [cC, hName, aO, bf, MC, ao, aB, aq, hφ g n, h3, sIf, toB, M2, mC, Ef, bH, e, h2]
def uV (φ : FF) : Prop := ∀ (ns : List Int) (μ : Mu), φ [.lst (ns.map .int)] μ = some (.int (bK 0 ns : Nat), μ)
theorem Cr (hφ : ph φ) : uV (aH 3 (dD φ)) := λ ns μ => by
 obtain ⟨o', e⟩ := Fj hφ (.lst (ns.map .int)) (ns.map .int) ns 0 none μ;unfold aH dD;have e' := e;simp at e';simp [aO, bf, mC, gn, fL, aq, srcOf, e', bh]
theorem zM : ∀ (items : List D), (∀ d ∈ items, th d μ = some (f d, μ)) -> Bm (items.map th) μ = some (items.map f, μ)
 | [], _ => rfl
 | d :: r, h => by
  have h1 := h d (by simp)
  have h2 := zM r λ x hx => h x (by simp [hx])
  rw [Zj, Zj];unfold Bm;simp [h1, h2]
theorem qL : ∀ (items : List D), (∀ d ∈ items, ∃ δ1, h d δb μ = some δ1 /\ fe δ1 μ = some (f d, μ)) -> lcL ⟨all, none⟩ h cT fe δb items μ = some (items.map f, μ)
 | [], _ => by unfold lcL; simp [cC]
 | d :: r, hd => by
  obtain ⟨δ1, h1, h2⟩ := hd d (by simp)
  have h3 := qL (all := all) r λ x hx => hd x (by simp [hx])
  unfold lcL;simp [cC, h1, cT, h2, h3]
def Sm (b : Nat) (n : Int) : Prop := n.natAbs < 2 ^ b
theorem bits_le (h : Sm b n) : Builtin.Int.intBits n <= b + 1 := by
 unfold Builtin.Int.intBits;split
 .exact Nat.zero_le _
 .rename_i h';have hz : n ≠ 0 := by simpa using h'
  have hn : n.natAbs ≠ 0 := by omega
  have := (Nat.log2_lt hn).mpr h;omega
theorem Lk (h : Sm b n) : n.natAbs.log2 < b + 1 := by
 by_cases h0 : n.natAbs = 0
 .rw [h0]; simp
 .have := (Nat.log2_lt h0).mpr h;omega
theorem CQ (hx : Sm a x) (hy : Sm b y) (h : a + b + 2 <= 134217728) : jL x y <= 134217728 := by
 have := bits_le hx;have := bits_le hy;unfold jL;omega
theorem bI {a b : Nat} {x y : Int} (μ : Mu) (hx : Sm a x) (hy : Sm b y) (h : a + b + 2 <= 134217728) : cU (.int x) (.int y) μ = some (.int (x * y), μ) := by
 unfold cU;simp [CQ hx hy h]
theorem ju {b : Nat} {x y : Int} (μ : Mu) (h0 : y ≠ 0) (hy : Sm b y) (h : b + 1 <= 9000) : oDiv (.int x) (.int y) μ = some (.int (x.fdiv y), μ) := by
 unfold oDiv;have := Lk hy;simp [h0, show y.natAbs.log2 < 9000 by omega]
theorem fU {x y : Int} (μ : Mu) (h0 : y ≠ 0) : oMod (.int x) (.int y) μ = some (.int (x.fmod y), μ) := by
 unfold oMod;simp [h0]
theorem nT : ∀ (ns : List Int) (g : Nat), (∀ n ∈ ns, ((bK g ns : Nat) : Int) ∣ n) /\ bK g ns ∣ g
 | [], g => ⟨λ n h => by simp at h, Nat.dvd_refl _⟩
 | n :: ns, g => by
  obtain ⟨h1, h2⟩ := nT ns (Int.gcd g n);have e : bK g (n :: ns) = bK (Int.gcd g n) ns := rfl;rw [e];refine ⟨λ m hm => ?_, ?_⟩
  .rcases Zi.mp hm with z | z
   .subst z;exact Int.dvd_trans (Int.ofNat_dvd.mpr h2) (Int.gcd_dvd_right _ _)
   .exact h1 m z
  .refine Nat.dvd_trans h2 ?_;have := Int.gcd_dvd_left (g : Int) n;exact Int.ofNat_dvd.mp this
theorem oA (h : g ≠ 0 ∨ ∃ n ∈ ns, n ≠ 0) : bK g ns ≠ 0 := λ z => by
 obtain ⟨h1, h2⟩ := nT ns g;rw [z] at h1 h2
 rcases h with h | ⟨n, hn, h⟩
 .exact h (Nat.eq_zero_of_zero_dvd h2)
 .have := h1 n hn;exact h (by simpa using this)
theorem Lr (hn : n ∈ ns) (h : n ≠ 0) : bK g ns <= n.natAbs := by
 have h1 := (nT ns g).1 n hn;have h2 : bK g ns ∣ n.natAbs := by
  have := Int.natAbs_dvd_natAbs.mpr h1;simpa using this
 exact Nat.le_of_dvd (by omega) h2
def Cj (φ : FF) : Prop := ∀ (ns : List Int) (μ : Mu), bK 0 ns ≠ 0 -> Sm 8000 (bK 0 ns : Nat) -> ns.length <= 100 -> φ [.lst (ns.map .int)] μ = some (.tup (ns.map λ n => .int (n.fdiv (bK 0 ns : Nat))), μ)
theorem Ny (hφ : uV φ) : Cj (aH 2 (iW φ)) := λ ns μ h0 hs hl => by
 have e : Bm ((ns.map D.int).map (thG (hName 0) (M2 (aq 0) (aq 1) oDiv) (dg ["number"] [some (.lst (ns.map .int)), some (.int (bK 0 ns : Nat))] [1]))) μ = some ((ns.map D.int).map (λ d => match d with | .int n => .int (n.fdiv (bK 0 ns : Nat)) | _ => .non), μ) := by
  refine zM _ λ d hd => ?_;obtain ⟨n, _, rfl⟩ := Zq.mp hd;have := ju (x := n) μ (show ((bK 0 ns : Nat) : Int) ≠ 0 by omega) hs (by decide)
  simp [thG, hName, dg, M2, aq, this]
 unfold aH iW;have hz : ns.length <= sizeLine := Zl hl (by decide)
 rw [List.map_map, List.map_map] at e;simp [aO, bf, MC, ao, aB, aq, hφ ns μ, bh, zV, pC, fL, srcOf, hz, e]
def sgn (b : Int) : Int := if b > 0 then 1 else -1
theorem Rp (hs : s = 1 ∨ s = -1) (h : Sm b n) : Sm b (s * n) := by
 unfold Sm at *
 rw [Int.natAbs_mul]
 rcases hs with rfl | rfl <;> simpa using h
theorem Qz (b : Int) : sgn b = 1 ∨ sgn b = -1 := by unfold sgn; split <;> simp
theorem zO (hφ : ph φ) (x y : D) (all : List D) : ∀ (ns : List Int) (c : Int) (o : Option D) (μ : Mu), ∃ (c' : Int) (o' : Option D),
  forL ⟨all, none⟩ (hName 3) (bf 2 (MC (ao (aq 2) (ao (aq 3) (aB))) φ)) (ns.map D.int) [some x, some y, some (.int c), o] μ = some (.nx, [some x, some y, some (.int c'), o'], μ) /\ c'.natAbs = bK c.natAbs ns /\ (0 <= c ∨ ns ≠ [] -> 0 <= c')
 | [], c, o, μ => ⟨c, o, by unfold forL; simp [cC], rfl, λ h => h.elim id λ z => absurd rfl z⟩
 | n :: ns, c, o, μ => by
  obtain ⟨c', o', e, hc, hn0⟩ := zO hφ x y all ns (Int.gcd c n) (some (.int n)) μ;refine ⟨c', o', ?_, ?_, λ _ => hn0 (.inl (Int.natCast_nonneg _))⟩
  .rw [Zj];unfold forL;simp [cC, hName, bf, MC, ao, aB, aq, hφ c n, e]
  .rw [hc];show _ = bK (Int.gcd (c.natAbs : Nat) n) ns;congr 1
def sX (φ : FF) : Prop := ∀ (ns : List Int) (b : Int) (μ : Mu), b ≠ 0 -> Sm 4000 b -> ns.length <= 50 -> ns ≠ [] ->
 φ [.lst (ns.map .int), .int b] μ = some (.tup ((ns ++ [b]).map λ n => .int (n.fdiv (sgn b * (bK b.natAbs ns : Nat)))), μ)
theorem RK (hφ : ph φ) : sX (aH 4 (fJ φ)) := λ ns b μ hb hs hl hne => by
 obtain ⟨c', o', e, hc, hc0⟩ := zO hφ (.lst (ns.map .int)) (.int b) (ns.map .int) ns b none μ;have hsg := Qz b;have hg0 : bK b.natAbs ns ≠ 0 := oA (.inl (by omega))
 have hgle : bK b.natAbs ns <= b.natAbs := Nat.le_of_dvd (by omega) (nT ns b.natAbs).2
 have hdiv : ∀ δo, ∃ δ', sIf (toB (M2 (aq 1) (mC (.int 0)) oLt)) (bf 2 (M2 (mC (.int 0)) (MC (ao (aq 2) (aB)) (aX pQ)) iG)) bH [some (.lst (ns.map .int)), some (.int b), some (.int c'), δo] μ = some (.nx, δ', μ) /\ (0 <= c' -> δ' = [some (.lst (ns.map .int)), some (.int b), some (.int (sgn b * (bK b.natAbs ns : Nat))), δo]) := λ δo => by
  by_cases hn : b < 0
  .refine ⟨[some (.lst (ns.map .int)), some (.int b), some (.int (0 - if c' < 0 then -c' else c')), δo], by simp [sIf, toB, M2, aq, mC, oLt, hn, bf, MC, ao, aB, aX, pQ, iG], λ hc0 => ?_⟩
   have h1 : sgn b = -1 := by unfold sgn; rw [if_neg (by omega)]
   rw [h1, if_neg (by omega)]
   have : c' = (bK b.natAbs ns : Nat) := by omega
   rw [this];simp
  .refine ⟨[some (.lst (ns.map .int)), some (.int b), some (.int c'), δo], by simp [sIf, toB, M2, aq, mC, oLt, hn, bH], λ hc0 => ?_⟩
   have h1 : sgn b = 1 := by unfold sgn; rw [if_pos (by omega)]
   have : c' = (bK b.natAbs ns : Nat) := by omega
   rw [h1, this];simp
 obtain ⟨δ', e3, e4⟩ := hdiv o';have e5 := e4 (hc0 (.inr hne));subst e5;have hd0 : sgn b * ((bK b.natAbs ns : Nat) : Int) ≠ 0 := by rcases hsg with h | h <;> rw [h] <;> omega
 have hds : Sm 4000 (sgn b * ((bK b.natAbs ns : Nat) : Int)) := Rp hsg (by unfold Sm at *; simp only [Int.natAbs_natCast]; omega)
 have eL : lcL ⟨ns.map D.int, none⟩ (hName 0) cT (M2 (aq 0) (aq 1) oDiv) (dg ["_law_number"] [some (.lst (ns.map .int)), some (.int b), some (.int (sgn b * (bK b.natAbs ns : Nat))), o'] [2]) (ns.map D.int) μ = some ((ns.map D.int).map (λ d => match d with | .int n => .int (n.fdiv (sgn b * (bK b.natAbs ns : Nat))) | _ => .non), μ) := by
  refine qL _ λ d hd => ?_;obtain ⟨n, _, rfl⟩ := Zq.mp hd;have := ju (x := n) μ hd0 hds (by decide)
  exact ⟨_, rfl, by simp [hName, dg, M2, aq, this]⟩
 rw [List.map_map] at eL;have eL2 : lcL ⟨ns.map D.int, none⟩ (hName 0) cT (M2 (aq 0) (aq 1) oDiv) (dg ["_law_number"] [some (.lst (ns.map .int)), some (.int b), some (.int (sgn b * (bK b.natAbs ns : Nat))), o'] [2]) (ns.map D.int) μ = some (ns.map (λ n => D.int (n.fdiv (sgn b * (bK b.natAbs ns : Nat)))), μ) := eL;have eD := ju (x := b) μ hd0 hds (by decide)
 have hz : ns.length <= sizeLine := Zl hl (by decide)
 have hz2 : ns.length + 1 <= sizeLine := Zl (by omega : ns.length + 1 <= 100) (by decide)
 have h1s : 1 <= sizeLine := by decide
 unfold aH fJ;simp [aO, bf, aq, gn, fL, srcOf, e, e3, bh, M2, MC, ao, aB, mFz, lLC, hz, eL2, lX, cj, eD, oTup, h1s, cu, hz2]
theorem bZ {a b : Nat} {x : Int} (h : Sm a x) (hab : a <= b) : Sm b x := Zc h (Nat.pow_le_pow_right (by decide) hab)
theorem jm {a b : Nat} {x y : Int} (hx : Sm a x) (hy : Sm b y) : Sm (a + b) (x * y) := by
 unfold Sm at *
 rw [Int.natAbs_mul, Nat.pow_add];exact Nat.mul_lt_mul'' hx hy
theorem Km {a : Nat} {x y : Int} (hx : Sm a x) (hy : Sm a y) : Sm (a + 1) (x + y) := by
 unfold Sm at *
 rw [Nat.pow_succ];have := Int.natAbs_add_le x y;omega
theorem MK (hx : Sm a x) (h0 : 0 <= x) (hy : 0 < y) : Sm a (x.fdiv y) /\ 0 <= x.fdiv y := by
 rw [Int.fdiv_eq_ediv_of_nonneg x (by omega)]
 have h1 : 0 <= x / y := Int.ediv_nonneg h0 (by omega)
 have h2 : x / y <= x := Int.ediv_le_self y h0;unfold Sm at *
 omega
def Dr (x : Int) : Prop := 0 <= x /\ x < 2147483648
theorem Dr.sm (h : Dr x) : Sm 31 x := by
 unfold Sm;have := h.1;have := h.2;have e : (2 : Nat) ^ 31 = 2147483648 := by decide
 omega
theorem lQ : ∀ (L : List Int), eY (L.map D.int) = true
 | [] => by unfold eY; rfl
 | x :: L => by
  rw [Zj];unfold eY;rw [lQ L];simp [cN]
theorem nR : ∀ (L : List Int), jz (L.map D.int) = 0
 | [] => by unfold jz; rfl
 | x :: L => by
  rw [Zj];unfold jz;rw [nR L];simp [ir]
theorem mG {ds : List D} {i : Int} (h0 : 0 <= i) (h1 : i < ds.length) : ∃ d, d ∈ ds /\ atI ds i = some d := by
 have hi : i.toNat < ds.length := by omega
 refine ⟨ds[i.toNat], List.getElem_mem hi, ?_⟩;unfold atI ixN;rw [if_pos h0, if_pos h1];simp [hi]
theorem aY {x m : Int} (hm : 0 < m) : 0 <= x.fmod m /\ x.fmod m < m := ⟨Int.fmod_nonneg_of_pos x hm, Int.fmod_lt_of_pos x hm⟩
def pG (φ : FF) : Prop := ∀ (x k : Int) (μ : Mu), 0 <= k -> k < 1000 -> ∃ r, φ [.int x, .int k] μ = some (.int r, μ) /\ Dr r
theorem RV : pG (aH 3 jx) := λ x k μ h0 h1 => by
 obtain ⟨a0, a1⟩ := aY (x := x) (m := 2147483647) (by decide)
 have w1 := fU (x := x) (y := 2147483647) μ (by decide)
 have sa : Sm 31 (x.fmod 2147483647) := by unfold Sm; have e : (2 : Nat) ^ 31 = 2147483648 := by decide
                                           omega
 have m1 := bI (x := x.fmod 2147483647) (y := 48271) μ sa (show Sm 16 48271 by unfold Sm; decide) (by decide)
 have sk : Sm 10 k := by unfold Sm; have e : (2 : Nat) ^ 10 = 1024 := by decide
                         omega
 have m2 := bI (x := 7919) (y := k) μ (show Sm 13 7919 by unfold Sm; decide) sk (by decide)
 have m3 := bI (x := 7919 * k) (y := k) μ (jm (show Sm 13 7919 by unfold Sm; decide) sk) sk (by decide)
 have w2 := fU (x := x.fmod 2147483647 * 48271 + 7919 * k * k + 104729) (y := 2147483647) μ (by decide)
 obtain ⟨b0, b1⟩ := aY (x := x.fmod 2147483647 * 48271 + 7919 * k * k + 104729) (m := 2147483647) (by decide)
 generalize hn : (x.fmod 2147483647 * 48271 + 7919 * k * k + 104729).fmod 2147483647 = n at *
 have sn : Sm 31 n := by unfold Sm; have e : (2 : Nat) ^ 31 = 2147483648 := by decide
                         omega
 have m4 := bI (x := n) (y := n) μ sn sn (by decide)
 have w3 := fU (x := n * n) (y := 2147483629) μ (by decide)
 obtain ⟨c0, c1⟩ := aY (x := n * n) (m := 2147483629) (by decide)
 refine ⟨(n * n).fmod 2147483629, ?_, c0, by omega⟩
 unfold aH jx;simp [aO, bf, M2, aq, mC, w1, m1, m2, m3, cu, w2, bh, m4, w3]
theorem yD (h1 : δ[1]? = some (some (.cell 0))) (h2 : fs δ [some (L.map .int)] = some ([.int y], [some (L.map .int)])) (hl : L.length < 10000) :
  iQ (aq 1) fs δ [some (L.map .int)] = some (.non, [some ((L ++ [y]).map .int)]) := by
 have hz : L.length < sizeLine := Zc hl (by decide)
 unfold iQ;simp [aq, h1, h2, gD, hz]
theorem Uj (hφ : pG φ) (s : D) (k c : Int) (hk : 0 <= k /\ k < 100) (all : List D) : ∀ (js : List Int), (∀ j ∈ js, 0 <= j /\ j < 12) -> ∀ (L : List Int) (o : Option D), (∀ x ∈ L, Dr x) -> L.length + js.length < 10000 -> ∃ (L' : List Int) (o' : Option D),
  forL ⟨all, none⟩ (hName 4) (gK (iQ (aq 1) (ao (MC (ao (MC (ao (aq 3) (ao (M2 (M2 (mC (.int 3)) (aq 4) cU) (mC (.int 1)) cu) (aB))) φ) (ao (M2 (M2 (aq 4) (aq 2) cu) (mC (.int 2)) cu) (aB))) φ) (aB)))) (js.map D.int)
   [some s, some (.cell 0), some (.int k), some (.int c), o] [some (L.map .int)] = some (.nx, [some s, some (.cell 0), some (.int k), some (.int c), o'], [some (L'.map .int)]) /\ (∀ x ∈ L', Dr x) /\ L'.length = L.length + js.length
 | [], _, L, o, hL, _ => ⟨L, o, by unfold forL; simp [cC], hL, rfl⟩
 | j :: js, hj, L, o, hL, hlen => by
  have hj0 := hj j (by simp)
  obtain ⟨r1, e1, d1⟩ := hφ c (3 * j + 1) [some (L.map .int)] (by omega) (by omega)
  obtain ⟨r2, e2, d2⟩ := hφ r1 (j + k + 2) [some (L.map .int)] (by omega) (by omega)
  have m1 := bI (x := 3) (y := j) [some (L.map D.int)] (show Sm 2 3 by unfold Sm; decide) (show Sm 4 j by unfold Sm; omega) (by decide)
  obtain ⟨L', o', e, hd, hl⟩ := Uj hφ s k c hk all js (λ x hx => hj x (by simp [hx])) (L ++ [r2]) (some (.int j)) (λ x hx => by
   rcases Zm.mp hx with z | z
   .exact hL x z
   .simp at z; subst z; exact d2) (by simp at hlen ⊢; omega)
  refine ⟨L', o', ?_, hd, by rw [hl]; simp; omega⟩
  rw [Zj];unfold forL;have ea := yD (δ := [some s, some (.cell 0), some (.int k), some (.int c), some (.int j)]) (L := L) (y := r2) (fs := ao (MC (ao (MC (ao (aq 3) (ao (M2 (M2 (mC (.int 3)) (aq 4) cU) (mC (.int 1)) cu) (aB))) φ) (ao (M2 (M2 (aq 4) (aq 2) cu) (mC (.int 2)) cu) (aB))) φ) (aB)) rfl
   (by simp [ao, aB, MC, M2, aq, mC, m1, cu, e1, e2]) (by simp at hlen; omega)
  simp only [List.map_append, Zj, List.map_nil] at ea e;simp [cC, hName, gK, ea, e]
abbrev drC : TF := ou (toB (M2 (aq 3) (M2 (mC (.int 10)) (mC (.int 18)) vZ) oGe)) (toB (M2 (MC (ao (aq 1) (aB)) (aX bC)) (mC (.int 900)) oLt))
abbrev drB : SF := aO (gK (iQ (aq 1) (ao (M2 (aq 3) (mC (.int 2147483629)) oMod) (aB)))) (bf 3 (M2 (aq 3) (mC (.int 2147483629)) oDiv))
theorem zU (s k o : Option D) : ∀ (n : Nat) (c : Int) (L : List Int), 0 <= c -> (∀ x ∈ L, Dr x) -> 900 - L.length <= n -> ∃ (c' : Int) (L' : List Int),
  fK drC drB (n + 1) [s, some (.cell 0), k, some (.int c), o] [some (L.map .int)] = some (.nx, [s, some (.cell 0), k, some (.int c'), o], [some (L'.map .int)]) /\ 0 <= c' /\ (∀ x ∈ L', Dr x) /\ L'.length <= max L.length 900
 | n, c, L, hc, hL, hn => by
  have ep : vZ (.int 10) (.int 18) [some (L.map D.int)] = some (.int 1000000000000000000, [some (L.map .int)]) := rfl;by_cases ht : (1000000000000000000 : Int) <= c /\ L.length < 900
  .cases n with
   | zero => omega
   | succ n =>
    obtain ⟨m0, m1⟩ := aY (x := c) (m := 2147483629) (by decide)
    have w1 := fU (x := c) (y := 2147483629) [some (L.map D.int)] (by decide)
    have w2 := ju (x := c) (y := 2147483629) [some ((L ++ [c.fmod 2147483629]).map D.int)] (by decide) (show Sm 31 2147483629 by unfold Sm; decide) (by decide)
    have q0 : 0 <= c.fdiv 2147483629 := by rw [Int.fdiv_eq_ediv_of_nonneg c (by decide)]; exact Int.ediv_nonneg hc (by decide)
    obtain ⟨c', L', e, h1, h2, h3⟩ := zU s k o n (c.fdiv 2147483629) (L ++ [c.fmod 2147483629]) q0 (λ x hx => by
     rcases Zm.mp hx with z | z
     .exact hL x z
     .simp at z; subst z; exact ⟨m0, by omega⟩) (by simp; omega)
    refine ⟨c', L', ?_, h1, h2, by simp at h3; omega⟩
    unfold fK;have ea := yD (δ := [s, some (.cell 0), k, some (.int c), o]) (L := L) (y := c.fmod 2147483629) (fs := ao (M2 (aq 3) (mC (.int 2147483629)) oMod) (aB)) rfl (by simp [ao, aB, M2, aq, mC, w1]) (by omega)
    simp only [List.map_append, Zj, List.map_nil] at ea e w2;have hlen : ((L.length : Nat) : Int) < 900 := by omega
    have ht1 := ht.1;simp [ou, toB, M2, aq, mC, ep, oGe, ht1, MC, ao, aB, aX, bC, cj, oLt, hlen, aO, gK] at ea ⊢;simp [ea, bf, M2, aq, mC, w2, e]
  .refine ⟨c, L, ?_, hc, hL, by omega⟩
   unfold fK;by_cases h1 : (1000000000000000000 : Int) <= c
   .have h2 : ¬ ((L.length : Nat) : Int) < 900 := by omega
    simp [ou, toB, M2, aq, mC, ep, oGe, h1, MC, ao, aB, aX, bC, cj, oLt, h2]
   .simp [ou, toB, M2, aq, mC, ep, oGe, h1]
theorem Ba (n : Nat) : dY 0 n = ((List.range n).map λ (k : Nat) => (k : Int)).map D.int := by
 unfold dY;rw [List.map_map];apply List.map_congr_left;intro k _;simp
noncomputable abbrev xH (φ : FF) : SF := (aO (bf 3 (MC (ao (M2 (aq 0) (aq 2) oIx) (aB)) (aX pQ))) (aO (sIf (toB (M2 (aq 3) (M2 (mC (.int 10)) (mC (.int 18)) vZ) oLt)) (gn (cg (ao (mC (.int 12)) (aB))) (hName 4) (gK (iQ (aq 1) (ao (MC (ao (MC (ao (aq 3) (ao (M2 (M2 (mC (.int 3)) (aq 4) cU) (mC (.int 1)) cu) (aB))) φ) (ao (M2 (M2 (aq 4) (aq 2) cu) (mC (.int 2)) cu) (aB))) φ) (aB))))) (bH)) (aO (lV drC drB) (sIf (toB (M2 (aq 3) (mC (.int 2147483629)) oGe)) (gK (iQ (aq 1) (ao (M2 (aq 3) (mC (.int 2147483629)) oMod) (aB)))) (bH)))))
theorem Ms {φ : FF} (hφ : pG φ) (ns : List Int) (k : Nat) (hk : k < ns.length) (hk2 : k < 100) (L : List Int) (o3 o4 : Option D) (hL : ∀ x ∈ L, Dr x) (hlen : L.length < 9000) : ∃ (L' : List Int) (o3' o4' : Option D),
  xH φ [some (.ro (ns.map .int)), some (.cell 0), some (.int k), o3, o4] [some (L.map .int)] = some (.nx, [some (.ro (ns.map .int)), some (.cell 0), some (.int k), o3', o4'], [some (L'.map .int)]) /\ (∀ x ∈ L', Dr x) /\ L'.length <= max (L.length + 12) 900 + 1 := by
 have hat : atI (ns.map D.int) (k : Int) = some (.int ns[k]) := MJ (by simp [hk])
 generalize hc : (if ns[k] < 0 then -ns[k] else ns[k]) = c;have hc0 : 0 <= c := by rw [<- hc]; split <;> omega
 have ep : vZ (.int 10) (.int 18) [some (L.map D.int)] = some (.int 1000000000000000000, [some (L.map .int)]) := rfl;obtain ⟨L1, o1, e1, h1, l1⟩ : ∃ (L1 : List Int) (o1 : Option D), sIf (toB (M2 (aq 3) (M2 (mC (.int 10)) (mC (.int 18)) vZ) oLt)) (gn (cg (ao (mC (.int 12)) (aB))) (hName 4) (gK (iQ (aq 1) (ao (MC (ao (MC (ao (aq 3) (ao (M2 (M2 (mC (.int 3)) (aq 4) cU) (mC (.int 1)) cu) (aB))) φ) (ao (M2 (M2 (aq 4) (aq 2) cu) (mC (.int 2)) cu) (aB))) φ) (aB))))) (bH)
   [some (.ro (ns.map .int)), some (.cell 0), some (.int k), some (.int c), o4] [some (L.map .int)] = some (.nx, [some (.ro (ns.map .int)), some (.cell 0), some (.int k), some (.int c), o1], [some (L1.map .int)]) /\ (∀ x ∈ L1, Dr x) /\ L1.length <= L.length + 12 := by
  by_cases hs : c < 1000000000000000000
  .obtain ⟨L1, o1, e, h, l⟩ := Uj hφ (.ro (ns.map .int)) k c (by omega) (dY 0 12) ((List.range 12).map λ (k : Nat) => (k : Int)) (λ j hj => by simp at hj; omega) L o4 hL (by simp; omega)
   refine ⟨L1, o1, ?_, h, by rw [l]; simp⟩
   rw [<- Ba] at e;simp [sIf, toB, M2, aq, mC, ep, oLt, hs, gn, cg, ao, aB];exact e
  .exact ⟨L, o4, by simp [sIf, toB, M2, aq, mC, ep, oLt, hs, bH], hL, by omega⟩
 obtain ⟨c', L2, e2, hc', h2, l2⟩ := zU (some (.ro (ns.map .int))) (some (.int k)) o1 _ c L1 hc0 h1 (Zg _);have ew := sI e2;have hab : pQ (.int ns[k]) [some (L.map D.int)] = some (.int c, [some (L.map D.int)]) := by rw [<- hc]; rfl
 by_cases hb : (2147483629 : Int) <= c'
 .obtain ⟨m0, m1⟩ := aY (x := c') (m := 2147483629) (by decide)
  have w1 := fU (x := c') (y := 2147483629) [some (L2.map D.int)] (by decide)
  have ea := yD (δ := [some (.ro (ns.map .int)), some (.cell 0), some (.int k), some (.int c'), o1]) (L := L2) (y := c'.fmod 2147483629) (fs := ao (M2 (aq 3) (mC (.int 2147483629)) oMod) (aB)) rfl (by simp [ao, aB, M2, aq, mC, w1]) (by omega)
  refine ⟨L2 ++ [c'.fmod 2147483629], some (.int c'), o1, ?_, λ x hx => by
   rcases Zm.mp hx with z | z
   .exact h2 x z
   .simp at z; subst z; exact ⟨m0, by omega⟩, by simp; omega⟩
  have e0 : bf 3 (MC (ao (M2 (aq 0) (aq 2) oIx) (aB)) (aX pQ)) [some (.ro (ns.map .int)), some (.cell 0), some (.int k), o3, o4] [some (L.map .int)] = some (.nx, [some (.ro (ns.map .int)), some (.cell 0), some (.int k), some (.int c), o4], [some (L.map .int)]) := by
   simp [bf, MC, ao, aB, M2, aq, oIx, cj, hat, aX, hab]
  have e3 : sIf (toB (M2 (aq 3) (mC (.int 2147483629)) oGe)) (gK (iQ (aq 1) (ao (M2 (aq 3) (mC (.int 2147483629)) oMod) (aB)))) (bH) [some (.ro (ns.map .int)), some (.cell 0), some (.int k), some (.int c'), o1] [some (L2.map .int)] = some (.nx, [some (.ro (ns.map .int)), some (.cell 0), some (.int k), some (.int c'), o1], [some ((L2 ++ [c'.fmod 2147483629]).map .int)]) := by
   simp only [sIf, toB, M2, aq, mC, oGe, gK] at ea ⊢;simp [hb] at ea ⊢;simp [ea]
  unfold xH aO;rw [e0];simp only [Option.bind_some];rw [e1];simp only [Option.bind_some];rw [ew];simp only [Option.bind_some];exact e3
 .refine ⟨L2, some (.int c'), o1, ?_, h2, by omega⟩
  have e0 : bf 3 (MC (ao (M2 (aq 0) (aq 2) oIx) (aB)) (aX pQ)) [some (.ro (ns.map .int)), some (.cell 0), some (.int k), o3, o4] [some (L.map .int)] = some (.nx, [some (.ro (ns.map .int)), some (.cell 0), some (.int k), some (.int c), o4], [some (L.map .int)]) := by
   simp [bf, MC, ao, aB, M2, aq, oIx, cj, hat, aX, hab]
  have e3 : sIf (toB (M2 (aq 3) (mC (.int 2147483629)) oGe)) (gK (iQ (aq 1) (ao (M2 (aq 3) (mC (.int 2147483629)) oMod) (aB)))) (bH) [some (.ro (ns.map .int)), some (.cell 0), some (.int k), some (.int c'), o1] [some (L2.map .int)] = some (.nx, [some (.ro (ns.map .int)), some (.cell 0), some (.int k), some (.int c'), o1], [some (L2.map .int)]) := by
   simp [sIf, toB, M2, aq, mC, oGe, hb, bH]
  unfold xH aO;rw [e0];simp only [Option.bind_some];rw [e1];simp only [Option.bind_some];rw [ew];simp only [Option.bind_some];exact e3
theorem Fw (hφ : pG φ) (ns : List Int) (all : List D) : ∀ (ks : List Nat), (∀ k ∈ ks, k < ns.length /\ k < 100) -> ∀ (L : List Int) (o2 o3 o4 : Option D), (∀ x ∈ L, Dr x) -> max L.length 900 + 13 * ks.length <= 5000 -> ∃ (L' : List Int) (o2' o3' o4' : Option D),
  forL ⟨all, none⟩ (hName 2) (xH φ) ((ks.map λ (k : Nat) => (k : Int)).map D.int) [some (.ro (ns.map .int)), some (.cell 0), o2, o3, o4] [some (L.map .int)] = some (.nx, [some (.ro (ns.map .int)), some (.cell 0), o2', o3', o4'], [some (L'.map .int)]) /\ (∀ x ∈ L', Dr x)
 | [], _, L, o2, o3, o4, hL, _ => ⟨L, o2, o3, o4, by simp only [List.map_nil]; unfold forL; simp [cC], hL⟩
 | k :: ks, hk, L, o2, o3, o4, hL, hlen => by
  have hk0 := hk k (by simp)
  simp only [List.length_cons] at hlen;obtain ⟨L1, a3, a4, e1, h1, l1⟩ := Ms hφ ns k hk0.1 hk0.2 L o3 o4 hL (by omega)
  obtain ⟨L', b2, b3, b4, e, h⟩ := Fw hφ ns all ks (λ x hx => hk x (by simp [hx])) L1 (some (.int k)) a3 a4 h1 (by omega)
  refine ⟨L', b2, b3, b4, ?_, h⟩;rw [Zj, Zj];unfold forL;simp only [hName, List.set_cons_succ, List.set_cons_zero, Option.bind_some];rw [if_pos (cC _ _), e1];exact e
def yf (φ : FF) : Prop := ∀ (ns : List Int), ns.length <= 63 -> ∃ L : List Int, φ [.ro (ns.map .int)] [] = some (.cell 0, [some (L.map .int)]) /\ ∀ x ∈ L, Dr x
theorem Jm (hφ : pG φ) : yf (aH 5 (mZ φ)) := λ ns hn => by
 obtain ⟨L, o2, o3, o4, e, h⟩ := Fw hφ ns (dY 0 ns.length) (List.range ns.length) (λ k hk => by simp at hk; omega) [] none none none (λ x hx => by simp at hx) (by simp; omega)
 refine ⟨L, ?_, h⟩;rw [<- Ba] at e;have hmin : (if (63 : Int) < (ns.length : Int) then (63 : Int) else (ns.length : Int)) = (ns.length : Int) := by rw [if_neg (by omega)]
 have hr : (-(2 ^ 62) <= (ns.length : Int) /\ (ns.length : Int) < 2 ^ 62) := by omega
 have hz : 0 <= sizeLine := Nat.zero_le _;have eS : ∀ δ : En, δ[0]? = some (some (.ro (ns.map .int))) -> ∀ μ, cg (ao (MC (ao (MC (ao (aq 0) (aB)) (aX bC)) (ao (mC (.int 63)) (aB))) (nA pB)) (aB)) δ μ = some (⟨dY 0 ns.length, none⟩, μ) := λ δ h0 μ => by
  simp only [cg, ao, MC, aq, h0, aB, aX, bC, cj, mC, nA, pB, Option.bind_some, Option.map_some, Zu];rw [hmin];rw [if_pos hr];simp
 have e0 : bf 1 (mD (vR aB)) [some (.ro (ns.map .int)), none, none, none, none] [] = some (.nx, [some (.ro (ns.map .int)), some (.cell 0), none, none, none], [some []]) := by
  simp [bf, mD, vR, aB]
 have e1 : gn (cg (ao (MC (ao (MC (ao (aq 0) (aB)) (aX bC)) (ao (mC (.int 63)) (aB))) (nA pB)) (aB))) (hName 2) (xH φ) [some (.ro (ns.map .int)), some (.cell 0), none, none, none] [some []] = some (.nx, [some (.ro (ns.map .int)), some (.cell 0), o2, o3, o4], [some (L.map .int)]) := by
  unfold gn;rw [eS _ rfl];exact e
 show (aO (bf 1 (mD (vR aB))) (aO (gn (cg (ao (MC (ao (MC (ao (aq 0) (aB)) (aX bC)) (ao (mC (.int 63)) (aB))) (nA pB)) (aB))) (hName 2) (xH φ)) (bh (aq 1))) [some (.ro (ns.map .int)), none, none, none, none] []).bind _ = _;unfold aO;rw [e0];simp only [Option.bind_some];rw [e1];simp [bh, aq]
theorem kj : ∀ (ns : List Int) (g d : Nat), d ∣ bK g ns ↔ d ∣ g /\ ∀ n ∈ ns, d ∣ n.natAbs
 | [], g, d => by simp [bK]
 | n :: ns, g, d => by
  have e : bK g (n :: ns) = bK (Int.gcd g n) ns := rfl;rw [e, kj ns (Int.gcd g n) d];have h : d ∣ Int.gcd g n ↔ d ∣ g /\ d ∣ n.natAbs := by
   show d ∣ Nat.gcd (Int.natAbs g) (Int.natAbs n) ↔ _;rw [Nat.dvd_gcd_iff];simp
  rw [h];simp only [Zi, forall_eq_or_imp]
  constructor
  .rintro ⟨⟨h1, h2⟩, h3⟩; exact ⟨h1, h2, h3⟩
  .rintro ⟨h1, h2, h3⟩; exact ⟨⟨h1, h2⟩, h3⟩
theorem Pg (hs : s = 1 ∨ s = -1) : bK 0 ((ns ++ [b]).map (s * ·)) = bK b.natAbs ns := by
 have hab : ∀ n : Int, (s * n).natAbs = n.natAbs := λ n => by rw [Int.natAbs_mul]; rcases hs with h | h <;> rw [h] <;> simp
 apply Nat.dvd_antisymm
 .have h := (kj ((ns ++ [b]).map (s * ·)) 0 _).mp (Nat.dvd_refl _);refine (kj ns b.natAbs _).mpr ⟨?_, λ n hn => ?_⟩
  .have := h.2 (s * b) (Zq.mpr ⟨b, by simp, rfl⟩)
   rwa [hab] at this
  .have := h.2 (s * n) (Zq.mpr ⟨n, by simp [hn], rfl⟩)
   rwa [hab] at this
 .have h := (kj ns b.natAbs _).mp (Nat.dvd_refl _);refine (kj _ 0 _).mpr ⟨Nat.dvd_zero _, λ m hm => ?_⟩;obtain ⟨n, hn, rfl⟩ := Zq.mp hm;rw [hab]
  rcases Zm.mp hn with z | z
  .exact h.2 n z
  .simp at z; subst z; exact h.1
theorem uq (f : Int) : ∀ (ns : List Int) (g : Nat), bK (f.natAbs * g) (ns.map (f * ·)) = f.natAbs * bK g ns
 | [], g => rfl
 | n :: ns, g => by
  show bK (Int.gcd ((f.natAbs * g : Nat) : Int) (f * n)) (ns.map (f * ·)) = f.natAbs * bK (Int.gcd g n) ns;have : Int.gcd ((f.natAbs * g : Nat) : Int) (f * n) = f.natAbs * Int.gcd g n := by
   show Nat.gcd (Int.natAbs ((f.natAbs * g : Nat) : Int)) (Int.natAbs (f * n)) = _;rw [Int.natAbs_natCast, Int.natAbs_mul, Nat.gcd_mul_left];rfl
  rw [this, uq f ns]
end LG
namespace L3
open PySem PySem.Spec PyProof.Rows L2
class Post (α : Type) where
 run : α -> Prop
@[simp] theorem uJ {α : Type} {f : α -> Prop} {r : α} : @Post.run α ⟨f⟩ r = f r := rfl
def OkI {α : Type} (o : Option α) [Q : Post α] : Prop := ∃ r, o = some r /\ Q.run r
abbrev Ok {α : Type} (o : Option α) (Q : α -> Prop) : Prop := @OkI α o ⟨Q⟩
section
variable {α β : Type} {Q : Post α}
@[simp] theorem ud {r : α} : OkI (some r) (Q := Q) = Q.run r := by
 apply propext;exact ⟨λ ⟨q, e, h⟩ => by cases e; exact h, λ h => ⟨r, rfl, h⟩⟩
@[simp] theorem Wn : OkI (none : Option α) (Q := Q) = False := by
 apply propext;exact ⟨λ ⟨q, e, h⟩ => (by cases e), λ h => h.elim⟩
@[simp] theorem gA {o : Option β} {k : β -> Option α} : OkI (o.bind k) (Q := Q) = OkI o (Q := ⟨λ r => OkI (k r) (Q := Q)⟩) := by
 apply propext
 constructor
 .rintro ⟨q, e, h⟩;obtain ⟨r, e1, e2⟩ := Za.mp e;exact ⟨r, e1, q, e2, h⟩
 .rintro ⟨r, e1, q, e2, h⟩;exact ⟨q, by rw [e1]; exact e2, h⟩
@[simp] theorem WW {o : Option β} {k : β -> α} : OkI (o.map k) (Q := Q) = OkI o (Q := ⟨λ r => Q.run (k r)⟩) := by
 apply propext
 constructor
 .rintro ⟨q, e, h⟩;obtain ⟨r, e1, e2⟩ := Zp.mp e;exact ⟨r, e1, by subst e2; exact h⟩
 .rintro ⟨r, e1, h⟩;exact ⟨_, by rw [e1]; rfl, h⟩
theorem OkI.mono (h : OkI o (Q := Q)) (k : ∀ r, Q.run r -> Q'.run r) : OkI o (Q := Q') := let ⟨r, e, q⟩ := h; ⟨r, e, k r q⟩
end
class Two where
 t : Prop
 f : Prop
def wu (b : Bool) [T : Two] : Prop := if b = true then T.t else T.f
@[simp] theorem TY {P R : Prop} : wu true (T := ⟨P, R⟩) = P := rfl
@[simp] theorem Tv {P R : Prop} : wu false (T := ⟨P, R⟩) = R := rfl
def asB (r : D × Mu) : Option (Bool × Mu) := match r.1 with
 | .bl k => some (k, r.2)
 | _ => none
@[simp] theorem Xc {k : Bool} {μ : Mu} : asB (.bl k, μ) = some (k, μ) := rfl
def PN (r : List D × Mu) : Option (Src × Mu) := match r.1 with
 | [.int j] => if -(2 ^ 62) <= j /\ j < 2 ^ 62 then some (⟨dY 0 j.toNat, none⟩, r.2) else none
 | _ => none
def JR (r : List D × Mu) : Option (List D × Mu) := match r.1 with
 | [.int j] => if -(2 ^ 62) <= j /\ j < 2 ^ 62 /\ j.toNat <= sizeLine then some (dY 0 j.toNat, r.2) else none
 | _ => none
theorem yU (h0 : -(2 ^ 62) <= j) (h1 : j < 2 ^ 62) : PN ([.int j], μ) = some (⟨dY 0 j.toNat, none⟩, μ) := if_pos ⟨h0, h1⟩
theorem Vy (h0 : -(2 ^ 62) <= j) (h1 : j.toNat <= sizeLine) (h2 : j < 2 ^ 62) : JR ([.int j], μ) = some (dY 0 j.toNat, μ) := if_pos ⟨h0, h2, h1⟩
def Uh (r : List D × Mu) : Option (Src × Mu) := match r.1 with
 | [x, y] => (gw x).bind λ xs => (gw y).map λ ys => (⟨kh xs ys, none⟩, r.2)
 | _ => none
@[simp] theorem Ur {x y : D} {μ : Mu} : Uh ([x, y], μ) = (gw x).bind λ xs => (gw y).map λ ys => (⟨kh xs ys, none⟩, μ) := rfl
@[simp] theorem Wy {ds : List D} : gw (.tup ds) = some ds := rfl
@[simp] theorem Ws {ds : List D} : gw (.lst ds) = some ds := rfl
def Wg (th : D -> gJ) (r : Src × Mu) : Option (List gJ × Mu) := match r.1.cel with
 | none => some (r.1.items.map th, r.2)
 | some _ => none
@[simp] theorem Ue {th : D -> gJ} {items : List D} {μ : Mu} : Wg th (⟨items, none⟩, μ) = some (items.map th, μ) := rfl
def Mv (r : D × Mu) : Option (List gJ × Mu) := match r.1 with
 | .tup ds => some (ds.map thE, r.2)
 | .lst ds => some (ds.map thE, r.2)
 | _ => none
@[simp] theorem Vv {ds : List D} {μ : Mu} : Mv (.tup ds, μ) = some (ds.map thE, μ) := rfl
@[simp] theorem Us {ds : List D} {μ : Mu} : Mv (.lst ds, μ) = some (ds.map thE, μ) := rfl
def Ux (r : D × Mu) : Option (D × Mu) := match r.1 with
 | .cell n => (r.2.getD n none).map λ ds => (.lst ds, r.2.set n none)
 | d => some (d, r.2)
@[simp] theorem Uc {n : Nat} {μ : Mu} : Ux (.cell n, μ) = (μ.getD n none).map λ ds => (.lst ds, μ.set n none) := rfl
section
variable {Q : Post (D × Mu)} {QT : Post (Bool × Mu)} {QS : Post (Fl × En × Mu)} {δ : En} {μ : Mu} {f fa fb fc : EF} {fs : AF} {t ta tc : TF} {g h : SF} {op op' : O2}
@[simp] theorem zc {d : D} : aq 0 (some d :: δ) μ = some (d, μ) := rfl
@[simp] theorem yQ {i : Nat} {o : Option D} : aq (i + 1) (o :: δ) μ = aq i δ μ := rfl
@[simp] theorem w_c {d : D} : mC d δ μ = some (d, μ) := rfl
@[simp] theorem w_m1 {op : O1'} : M1 fa op δ μ = (fa δ μ).bind λ r => op r.1 r.2 := rfl
@[simp] theorem VG : M2 fa fb op δ μ = (fa δ μ).bind λ r => (fb δ r.2).bind λ q => op r.1 q.1 q.2 := rfl
@[simp] theorem HH : aB δ μ = some ([], μ) := rfl
@[simp] theorem BW : ao f fs δ μ = (f δ μ).bind λ r => (fs δ r.2).bind λ q => some (r.1 :: q.1, q.2) := rfl
@[simp] theorem Vs {op : ON} : MC fs op δ μ = (fs δ μ).bind λ r => op r.1 r.2 := rfl
@[simp] theorem Xh : iC f δ μ = (f δ μ).bind λ r => (zQ r.1 r.2).map λ k => (k, r.2) := rfl
@[simp] theorem w_toB : toB f δ μ = (f δ μ).bind asB := rfl
@[simp] theorem w_ch : OkI (MCh fa fb fc op op' δ μ) (Q := Q) = OkI (fa δ μ) (Q := ⟨λ r => OkI (fb δ r.2) (Q := ⟨λ q => OkI ((op r.1 q.1 q.2).bind asB) (Q := ⟨λ z => wu z.1 (T := ⟨OkI ((fc δ z.2).bind λ t => op' q.1 t.1 t.2) (Q := Q), Q.run (.bl false, z.2)⟩)⟩)⟩)⟩) := by
 unfold MCh; rw [gA]; congr 2; funext r; rw [gA]; congr 2; funext q; rw [gA, gA]; congr 2; funext z; obtain ⟨d, μ'⟩ := z;cases d <;> simp [asB];rename_i b;cases b <;> simp
@[simp] theorem w_and : OkI (ou ta tc δ μ) (Q := QT) = OkI (ta δ μ) (Q := ⟨λ r => wu r.1 (T := ⟨OkI (tc δ r.2) (Q := QT), QT.run (false, r.2)⟩)⟩) := by
 unfold ou; rw [gA]; congr 2; funext r; unfold wu; split <;> simp [*]
@[simp] theorem w_or : OkI (gV ta tc δ μ) (Q := QT) = OkI (ta δ μ) (Q := ⟨λ r => wu r.1 (T := ⟨QT.run (true, r.2), OkI (tc δ r.2) (Q := QT)⟩)⟩) := by
 unfold gV; rw [gA]; congr 2; funext r; unfold wu; split <;> simp [*]
@[simp] theorem w_not : dN ta δ μ = (ta δ μ).bind λ r => some (!r.1, r.2) := rfl
@[simp] theorem Xj : OkI (jG fa fb δ μ) (Q := Q) = OkI ((fa δ μ).bind asB) (Q := ⟨λ k => wu k.1 (T := ⟨OkI (fb δ k.2) (Q := Q), Q.run (.bl false, k.2)⟩)⟩) := by
 unfold jG; rw [gA, gA]; congr 2; funext r; obtain ⟨d, μ'⟩ := r;cases d <;> simp [asB];rename_i b;cases b <;> simp
@[simp] theorem WR : oh fa δ μ = ((fa δ μ).bind asB).bind λ r => some (.bl !r.1, r.2) := by
 unfold oh;cases fa δ μ with
 | none => rfl
 | some r => obtain ⟨d, μ'⟩ := r; cases d <;> rfl
@[simp] theorem w_next : bH δ μ = some (.nx, δ, μ) := rfl
@[simp] theorem WP : vM δ μ = some (.bk, δ, μ) := rfl
@[simp] theorem w_ret : bh f δ μ = (f δ μ).bind λ r => some (.rt r.1, δ, r.2) := rfl
@[simp] theorem Xa : gK f δ μ = (f δ μ).bind λ r => some (.nx, δ, r.2) := rfl
@[simp] theorem IK {i : Nat} : bf i f δ μ = (f δ μ).bind λ r => some (.nx, δ.set i (some r.1), r.2) := rfl
@[simp] theorem w_if : OkI (sIf t g h δ μ) (Q := QS) = OkI (t δ μ) (Q := ⟨λ r => wu r.1 (T := ⟨OkI (g δ r.2) (Q := QS), OkI (h δ r.2) (Q := QS)⟩)⟩) := by
 unfold sIf; rw [gA]; congr 2; funext r; unfold wu; split <;> simp [*]
def xu (h : SF) (QS : Post (Fl × En × Mu)) (r : Fl × En × Mu) : Prop := match r.1 with
 | .nx => OkI (h r.2.1 r.2.2) (Q := QS)
 | _ => QS.run r
@[simp] theorem KH : OkI (aO g h δ μ) (Q := QS) = OkI (g δ μ) (Q := ⟨xu h QS⟩) := by
 unfold aO;rw [gA];congr 2
 funext r
 obtain ⟨fl, δ', μ'⟩ := r;cases fl <;> simp [xu]
@[simp] theorem yq {δ' : En} {μ' : Mu} : xu h QS (.nx, δ', μ') = OkI (h δ' μ') (Q := QS) := rfl
@[simp] theorem Wv {d : D} {δ' : En} {μ' : Mu} : xu h QS (.rt d, δ', μ') = QS.run (.rt d, δ', μ') := rfl
@[simp] theorem Wl {δ' : En} {μ' : Mu} : xu h QS (.bk, δ', μ') = QS.run (.bk, δ', μ') := rfl
@[simp] theorem Wx {δ' : En} {μ' : Mu} : xu h QS (.ct, δ', μ') = QS.run (.ct, δ', μ') := rfl
@[simp] theorem w_asg {hh : GF} : Gi f hh δ μ = (f δ μ).bind λ r => (hh r.1 δ r.2).bind λ δ' => some (.nx, δ', r.2) := rfl
@[simp] theorem w_par {i j : Nat} : wz i j fs δ μ = (fs δ μ).bind λ r => match r.1 with
 | [x, y] => some (.nx, (δ.set i (some x)).set j (some y), r.2)
 | _ => none := rfl
@[simp] theorem Jr {fi : IF} {hh : GF} : gn fi hh g δ μ = (fi δ μ).bind λ r => forL r.1 hh g r.1.items δ r.2 := rfl
@[simp] theorem w_fz {lf : LF} : mFz lf δ μ = (lf δ μ).bind λ r => some (.lst r.1, r.2) := rfl
@[simp] theorem Vd {lf : LF} : mD lf δ μ = (lf δ μ).bind λ r => some (.cell r.2.length, r.2 ++ [some r.1]) := rfl
@[simp] theorem Xk : vR fs δ μ = (fs δ μ).bind λ r => if r.1.length <= sizeLine then some r else none := rfl
@[simp] theorem RG {i : Nat} {d : D} : hName i d δ μ = some (δ.set i (some d)) := rfl
@[simp] theorem Vi {n : Nat} {hs : GsF} {ds : List D} : jD n hs (.tup ds) δ μ = if ds.length = n then hs ds δ μ else none := rfl
@[simp] theorem QW : jB [] δ μ = some δ := rfl
@[simp] theorem Nq {hh : GF} {hs : GsF} {d : D} {ds : List D} : bN hh hs (d :: ds) δ μ = (hh d δ μ).bind λ δ1 => hs ds δ1 μ := rfl
@[simp] theorem Ia : fL f δ μ = (f δ μ).bind λ r => (srcOf r.1 r.2).map λ S => (S, r.2) := rfl
@[simp] theorem Fv {ds : List D} : srcOf (.tup ds) μ = some ⟨ds, none⟩ := rfl
@[simp] theorem Wq {ds : List D} : srcOf (.lst ds) μ = some ⟨ds, none⟩ := rfl
@[simp] theorem Wu {fl fh : PF} : mSl f fl fh δ μ = (f δ μ).bind λ r => (fl δ r.2).bind λ l => (fh δ l.2).bind λ u => oSl r.1 l.1 u.1 u.2 := rfl
@[simp] theorem VH {fl fh : PF} : lSl f fl fh δ μ = (f δ μ).bind λ r => (fl δ r.2).bind λ l => (fh δ l.2).bind λ u => match r.1 with
 | .lst ds => some (L3.cutD ds l.1 u.1, u.2)
 | .ro ds => some (L3.cutD ds l.1 u.1, u.2)
 | _ => none := rfl
@[simp] theorem Ug {ds : List D} : vC (.lst ds) μ = some ds := rfl
@[simp] theorem w_fno : fNo δ μ = some (none, μ) := rfl
@[simp] theorem w_fat : fAt f δ μ = (f δ μ).bind λ r => match r.1 with
 | .int i => some (some i, r.2)
 | _ => none := rfl
@[simp] theorem PL {op : O1'} {x : D} : aX op [x] μ = op x μ := rfl
@[simp] theorem w_two {x y : D} : nA op [x, y] μ = op x y μ := rfl
variable {i j : Int} {ds es : List D} {k : Bool}
@[simp] theorem Ve : cu (.int i) (.int j) μ = some (.int (i + j), μ) := rfl
@[simp] theorem WY : cu (.tup ds) (.tup es) μ = if ds.length + es.length <= sizeLine then some (.tup (ds ++ es), μ) else none := rfl
@[simp] theorem Xi : cu (.lst ds) (.lst es) μ = if ds.length + es.length <= sizeLine then some (.lst (ds ++ es), μ) else none := rfl
@[simp] theorem a_sub : iG (.int i) (.int j) μ = some (.int (i - j), μ) := rfl
theorem Uo (h : jL i j <= 134217728) : cU (.int i) (.int j) μ = some (.int (i * j), μ) := if_pos h
@[simp] theorem a_mod (h : j ≠ 0) : oMod (.int i) (.int j) μ = some (.int (i.fmod j), μ) := if_pos h
theorem mW (h : j ≠ 0) (h2 : j.natAbs.log2 < 9000) : oDiv (.int i) (.int j) μ = some (.int (i.fdiv j), μ) := if_pos ⟨h, h2⟩
@[simp] theorem a_lt : oLt (.int i) (.int j) μ = some (.bl (decide (i < j)), μ) := rfl
@[simp] theorem a_le : oLe (.int i) (.int j) μ = some (.bl (decide (i <= j)), μ) := rfl
@[simp] theorem a_gt : oGt (.int i) (.int j) μ = some (.bl (decide (j < i)), μ) := rfl
@[simp] theorem a_ge : oGe (.int i) (.int j) μ = some (.bl (decide (j <= i)), μ) := rfl
@[simp] theorem a_neg : gG (.int i) μ = some (.int (-i), μ) := rfl
@[simp] theorem a_abs : pQ (.int i) μ = some (.int (i.natAbs), μ) := by
 show some (D.int (if i < 0 then -i else i), μ) = _;congr 3
 split <;> omega
@[simp] theorem Qe : pB (.int i) (.int j) μ = some (.int (min i j), μ) := by
 show some (D.int (if j < i then j else i), μ) = _;congr 3
 split <;> omega
@[simp] theorem a_eq : oEq (.int i) (.int j) μ = some (.bl (i == j), μ) := by unfold oEq rsv; simp [cN, ir, eqD]
@[simp] theorem a_ne : oNe (.int i) (.int j) μ = some (.bl (!(i == j)), μ) := by unfold oNe rsv; simp [cN, ir, eqD]
@[simp] theorem a_eqU : Af (.tup ds) (.tup []) μ = some (.bl ds.isEmpty, μ) := rfl
@[simp] theorem a_neE : Dp (.lst ds) (.lst []) μ = some (.bl (!ds.isEmpty), μ) := rfl
@[simp] theorem a_eqB {k l : Bool} : oEq (.bl k) (.bl l) μ = some (.bl (k == l), μ) := by unfold oEq rsv; simp [cN, ir, eqD]
@[simp] theorem a_neB {k l : Bool} : oNe (.bl k) (.bl l) μ = some (.bl (!(k == l)), μ) := by unfold oNe rsv; simp [cN, ir, eqD]
@[simp] theorem a_tup : oTup ds μ = if ds.length <= sizeLine then some (.tup ds, μ) else none := rfl
@[simp] theorem a_lst : oLst ds μ = if ds.length <= sizeLine then some (.lst ds, μ) else none := rfl
@[simp] theorem BX {d : D} : oIx d (.int i) μ = (cj d μ).bind λ ds => (atI ds i).map λ d => (d, μ) := rfl
@[simp] theorem i_tup : cj (.tup ds) μ = some ds := rfl
@[simp] theorem i_lst : cj (.lst ds) μ = some ds := rfl
@[simp] theorem i_ro : cj (.ro ds) μ = some ds := rfl
@[simp] theorem Xe : bC (.tup ds) μ = some (.int ds.length, μ) := rfl
@[simp] theorem gZ : bC (.lst ds) μ = some (.int ds.length, μ) := rfl
@[simp] theorem Xl : bC (.ro ds) μ = some (.int ds.length, μ) := rfl
@[simp] theorem Wh {d : D} : lX [d] μ = (cj d μ).map λ ds => (.tup ds, μ) := rfl
@[simp] theorem w_lOf : lOf fs δ μ = (fs δ μ).bind λ r => match r.1 with
 | [x] => (cj x r.2).map λ ds => (ds, r.2)
 | _ => none := rfl
@[simp] theorem UL {own : List Str} {capI : List Nat} {f fe : EF} : vP own capI f fe δ μ = (f δ μ).bind λ r => (vC r.1 r.2).bind λ ds => if ds.length < 64 then (qM (ds.map (thG (hName 0) fe (dg own δ capI))) r.2).map λ q => (oJ q.1 ds, q.2) else none := rfl
@[simp] theorem Wt : Bl fs δ μ = (fs δ μ).bind λ r => match r.1 with
 | [x] => (vC x r.2).bind λ ds => (wQ ds).map λ es => (es, r.2)
 | _ => none := rfl
@[simp] theorem t_bl : zQ (.bl k) μ = some k := rfl
@[simp] theorem t_int : zQ (.int i) μ = some (i != 0) := rfl
@[simp] theorem t_tup : zQ (.tup ds) μ = some !ds.isEmpty := rfl
@[simp] theorem t_lst : zQ (.lst ds) μ = some !ds.isEmpty := rfl
@[simp] theorem t_non : zQ .non μ = some false := rfl
@[simp] theorem WF {T : String} : gm T (.int i) μ = some (.bl (T == "int"), μ) := rfl
@[simp] theorem Xm {T : String} : gm T (.bl k) μ = some (.bl (T == "bool" || T == "int"), μ) := rfl
@[simp] theorem WL {T : String} : gm T (.tup ds) μ = some (.bl (T == "tuple"), μ) := rfl
@[simp] theorem Wo {T : String} : gm T (.lst ds) μ = some (.bl (T == "list"), μ) := rfl
@[simp] theorem Wr {T : String} {x : Str} : gm T (.str x) μ = some (.bl (T == "str"), μ) := rfl
@[simp] theorem Wz {T : String} : gm T .non μ = some (.bl false, μ) := rfl
@[simp] theorem Wi {T : String} {x} : gm T (.dic x) μ = some (.bl (T == "dict"), μ) := rfl
@[simp] theorem RT : cg fs δ μ = (fs δ μ).bind PN := rfl
@[simp] theorem Ww : Et fs δ μ = (fs δ μ).bind JR := rfl
@[simp] theorem w_zip : tE fs δ μ = (fs δ μ).bind Uh := rfl
@[simp] theorem w_lc {own : List Str} {capI : List Nat} {fi : IF} {hh : GF} : lLC own capI fi hh t f δ μ = (fi δ μ).bind λ r => if r.1.items.length <= sizeLine then lcL r.1 hh t f (dg own δ capI) r.1.items r.2 else none := rfl
@[simp] theorem w_all {st : StF} : Bw st δ μ = (st δ μ).bind λ r => (Am r.1 r.2).bind λ q => some (.bl q.1, q.2) := rfl
@[simp] theorem w_any {st : StF} : An st δ μ = (st δ μ).bind λ r => (rJ r.1 r.2).bind λ q => some (.bl q.1, q.2) := rfl
@[simp] theorem WT {st : StF} : zV st δ μ = (st δ μ).bind λ r => if r.1.length <= sizeLine then (Bm r.1 r.2).bind λ q => some (.tup q.1, q.2) else none := rfl
@[simp] theorem w_sum {st : StF} : Hu st δ μ = (st δ μ).bind λ r => (tV 0 r.1 r.2).bind λ q => some (.int q.1, q.2) := rfl
@[simp] theorem w_gen {own : List Str} {capI : List Nat} {fi : IF} {hh : GF} : pC own capI fi hh f δ μ = (fi δ μ).bind λ r => Wg (thG hh f (dg own δ capI)) r := rfl
@[simp] theorem Xb : oF f δ μ = (f δ μ).bind Mv := rfl
@[simp] theorem w_put {fo fi : EF} : wk f fo fi δ μ = (f δ μ).bind λ r => (fo δ r.2).bind λ o => (fi δ o.2).bind λ i => (Ay r.1 o.1 i.1 i.2).map λ μ' => (.nx, δ, μ') := rfl
@[simp] theorem WX {x : D} : Gd 0 f op (some x :: δ) μ = (f (some x :: δ) μ).bind λ r => (op x r.1 r.2).map λ z => (.nx, (some x :: δ).set 0 (some z.1), z.2) := rfl
@[simp] theorem Xf : Vl (.int i) (.int j) μ = some (.int (i + j), μ) := rfl
theorem RL (h : jL i j <= 134217728) : FN (.int i) (.int j) μ = some (.int (i * j), μ) := if_pos h
@[simp] theorem Xg : Ek δ μ = some (.dic [], μ) := rfl
@[simp] theorem w_frz : rF f δ μ = (f δ μ).bind Ux := rfl
end
theorem Qn : Src.ok ⟨items, none⟩ μ := λ n e => by cases e
def Bc (I : En -> Mu -> Prop) (QS : Post (Fl × En × Mu)) (r : Fl × En × Mu) : Prop := match r.1 with
 | .nx => I r.2.1 r.2.2
 | .ct => I r.2.1 r.2.2
 | .bk => QS.run (.nx, r.2)
 | .rt d => QS.run (.rt d, r.2)
section
variable {I : En -> Mu -> Prop} {QS : Post (Fl × En × Mu)} {δ : En} {μ : Mu}
@[simp] theorem Lw : Bc I QS (.nx, δ, μ) = I δ μ := rfl
@[simp] theorem Wm : Bc I QS (.ct, δ, μ) = I δ μ := rfl
@[simp] theorem Wj : Bc I QS (.bk, δ, μ) = QS.run (.nx, δ, μ) := rfl
@[simp] theorem WN {d : D} : Bc I QS (.rt d, δ, μ) = QS.run (.rt d, δ, μ) := rfl
end
theorem gj {all : List D} {h : GF} {b : SF} {QS : Post (Fl × En × Mu)} (I : List D -> En -> Mu -> Prop)
  (turn : ∀ d r δ μ, I (d :: r) δ μ -> OkI (h d δ μ) (Q := ⟨λ δ1 => OkI (b δ1 μ) (Q := ⟨Bc (I r) QS⟩)⟩)) (fin : ∀ δ μ, I [] δ μ -> QS.run (.nx, δ, μ)) :
  ∀ (its : List D) (δ : En) (μ : Mu), I its δ μ -> OkI (forL ⟨all, none⟩ h b its δ μ) (Q := QS)
 | [], δ, μ, hI => by unfold forL; rw [if_pos Qn, ud]; exact fin δ μ hI
 | d :: r, δ, μ, hI => by
  unfold forL;rw [if_pos Qn, gA];refine (turn d r δ μ hI).mono λ δ1 h1 => ?_;rw [uJ] at h1 ⊢;rw [gA];refine h1.mono λ q h2 => ?_;rw [uJ] at h2 ⊢;obtain ⟨fl, δ', μ'⟩ := q;cases fl with
  | nx => exact gj (all := all) I turn fin r δ' μ' h2
  | ct => exact gj (all := all) I turn fin r δ' μ' h2
  | bk => exact ⟨_, rfl, h2⟩
  | rt d => exact ⟨_, rfl, h2⟩
def retS (R : Post (D × Mu)) (r : Fl × En × Mu) : Prop := match r.1 with
 | .rt d => R.run (d, r.2.2)
 | .nx => R.run (.non, r.2.2)
 | _ => False
@[simp] theorem WQ {R : Post (D × Mu)} {d : D} {δ : En} {μ : Mu} : retS R (.rt d, δ, μ) = R.run (d, μ) := rfl
@[simp] theorem Xd {R : Post (D × Mu)} {δ : En} {μ : Mu} : retS R (.nx, δ, μ) = R.run (.non, μ) := rfl
theorem gH {m : Nat} {g : SF} {ds : List D} {μ : Mu} {R : Post (D × Mu)} (h : OkI (g (ds.map some ++ List.replicate (m - ds.length) none) μ) (Q := ⟨retS R⟩)) : OkI (aH m g ds μ) (Q := R) := by
 unfold aH;rw [gA];refine h.mono λ r hr => ?_;obtain ⟨fl, δ, μ'⟩ := r;cases fl with
 | rt d => exact ⟨_, rfl, hr⟩
 | nx => exact ⟨_, rfl, hr⟩
 | bk => exact hr.elim
 | ct => exact hr.elim
end L3
namespace LG
open PySem PySem.Spec PyProof.Rows L2 L3
theorem xJ {α : Type} {o : Option α} {x : α} (h : Ok o (λ r => r = x)) : o = some x := by
 obtain ⟨r, e, h⟩ := h;have h : r = x := h;rw [e, h]
theorem bM {m : Nat} {g : SF} {ds : List D} {μ : Mu} {d : D} (h : OkI (g (ds.map some ++ List.replicate (m - ds.length) none) μ) (Q := ⟨retS ⟨λ r => r = (d, μ)⟩⟩)) : trunc (aH m g) ds μ = some (d, μ) :=
 iu (xJ (gH h))
@[simp] theorem sz {n : Nat} (h : n <= 1000) : (n <= sizeLine) = True := eq_true (Zl h (by decide))
abbrev nc (d : D) : Prop := cLt 0 d = true
theorem qY : ∀ {ds : List D}, mj 0 ds = true ↔ ∀ d ∈ ds, nc d
 | [] => by unfold mj; simp
 | d :: ds => by unfold mj; simp [qY (ds := ds)]
theorem fM {ds : List D} : nc (.tup ds) ↔ ∀ d ∈ ds, nc d := by
 have e : cLt 0 (.tup ds) = mj 0 ds := by rw [cLt]
 unfold nc;rw [e];exact qY
theorem DY : nc (.lst ds) ↔ ∀ d ∈ ds, nc d := by
 have e : cLt 0 (.lst ds) = mj 0 ds := by rw [cLt]
 unfold nc;rw [e];exact qY
theorem CK : nc (.int i) := by unfold nc cLt; rfl
theorem ue {ns : List Int} : ∀ d ∈ ns.map D.int, nc d := λ d h => by
 obtain ⟨n, _, rfl⟩ := Zq.mp h;exact CK
def isInt : D -> Bool
 | .int _ => true
 | _ => false
def intOf : D -> Int
 | .int i => i
 | _ => 0
@[simp] theorem Ua {i : Int} : isInt (.int i) = true := rfl
@[simp] theorem xg {i : Int} : intOf (.int i) = i := rfl
theorem ints_of : ∀ {ds : List D}, ds.all isInt = true -> ds = (ds.map intOf).map D.int
 | [], _ => rfl
 | d :: ds, h => by
  rw [List.all_cons, Zo] at h;cases d with
  | int i => rw [Zj, Zj, <- ints_of h.2]; rfl
  | _ => exact absurd h.1 (by simp [isInt])
theorem ints_map (ns : List Int) : (ns.map D.int).map intOf = ns := by simp [Function.comp_def]
theorem Iu (ns : List Int) : (ns.map D.int).all isInt = true := by simp
theorem HR (d : D) (μ : Mu) (h : nc d) : trunc (aH 1 fj) [d] μ = some (.bl (isInt d), μ) := by
 apply bM;cases d with
 | cell n => simp [nc, cLt] at h
 | ro ds => simp [fj, isInt, gm, za]
 | _ => simp [fj, isInt]
theorem Lg (d : D) (μ : Mu) (h : nc d) : trunc (aH 1 rn) [d] μ = some (.bl (isInt d), μ) := HR d μ h
theorem nq : ∀ (ds : List D), (∀ d ∈ ds, th d μ = some (.bl (p d), μ)) -> Am (ds.map th) μ = some (ds.all p, μ)
 | [], _ => rfl
 | d :: ds, h => by
  rw [Zj];unfold Am;rw [h d (by simp)]
  have ih := nq ds λ x hx => h x (by simp [hx])
  cases hp : p d <;> simp [hp, Bh, ih]
theorem qx {th : D -> gJ} {p : D -> Bool} {μ : Mu} : ∀ (ds : List D), (∀ d ∈ ds, th d μ = some (.bl (p d), μ)) -> rJ (ds.map th) μ = some (ds.any p, μ)
 | [], _ => rfl
 | d :: ds, h => by
  rw [Zj];unfold rJ;rw [h d (by simp)]
  have ih := qx ds λ x hx => h x (by simp [hx])
  cases hp : p d <;> simp [hp, Bh, ih]
def sV : D -> Bool
 | .tup ds => ds.all isInt
 | _ => false
def xX (φ : FF) : Prop := ∀ d μ, nc d -> φ [d] μ = some (.bl (isInt d), μ)
theorem BZ (hφ : xX φ) (d : D) (μ : Mu) (h : nc d) : trunc (aH 1 (dm φ)) [d] μ = some (.bl (sV d), μ) := by
 apply bM;cases d with
 | cell n => simp [nc, cLt] at h
 | ro ds => simp [dm, sV, gm, za]
 | tup ds =>
  have e := nq (th := thG (hName 0) (MC (ao (aq 0) aB) φ) (dg ["part"] [some (D.tup ds)] [])) (p := isInt) (μ := μ) ds λ x hx => by
   simp [thG, dg, hφ x μ (fM.mp h x hx)]
  simp [dm, sV, e]
 | _ => simp [dm, sV]
theorem Aw (h : ds ≠ []) : atI ds (-1) = some (ds.getLast h) := by
 have hl : 0 < ds.length := List.length_pos_iff.mpr h;unfold atI ixN;rw [if_neg (by omega), if_pos (by omega)]
 have : ((-1 : Int) + ds.length).toNat = ds.length - 1 := by omega
 simp only [Option.bind_some, this];rw [List.getLast_eq_getElem];simp [hl]
theorem rD (h : ns ≠ []) : atI (ns.map D.int) (-1) = some (.int (ns.getLastD 0)) := by
 rw [Aw (by simpa using h)]
 simp [List.getLastD_eq_getLast?, List.getLast?_eq_some_getLast h]
def Dw (φ : FF) : Prop := ∀ d μ, nc d -> φ [d] μ = some (.bl (sV d), μ)
theorem Px (k l : Bool) (μ : Mu) : trunc (aH 2 oM) [.bl k, .bl l] μ = some (.bl (k == l), μ) := by
 apply bM;simp [oM]
theorem FW (h : 0 <= i) : HT.sIx n d (some i) = min i.toNat n := if_neg (by omega)
theorem Mw (h0 : 0 < i) (h1 : i <= ds.length) : oSl (.tup ds) (some i) none μ = some (.tup (ds.drop i.toNat), μ) := by
 have h0' : 0 <= i := by omega
 have e : HT.sIx ds.length 0 (some i) = i.toNat := by rw [FW h0']; omega
 have e0 : HT.sIx ds.length ds.length none = ds.length := rfl;unfold oSl L3.cutD;simp only [e, e0];simp [List.take_of_length_le]
theorem Em (h : ds ≠ []) : oSl (.tup ds) none (some (-1)) μ = some (.tup ds.dropLast, μ) := by
 have hl : 0 < ds.length := List.length_pos_iff.mpr h;have e : HT.sIx ds.length ds.length (some (-1)) = ds.length - 1 := by show (if (-1 : Int) < 0 then ((-1 : Int) + ds.length).toNat else min (-1 : Int).toNat ds.length) = _; rw [if_pos (by decide)]; omega
 have e0 : HT.sIx ds.length 0 none = 0 := rfl;unfold oSl L3.cutD;simp only [e, e0];simp [List.dropLast_eq_take]
theorem QK {ds : List D} {i : Int} {μ : Mu} (h0 : 0 <= i) : oSl (.lst ds) none (some i) μ = some (.lst (ds.take i.toNat), μ) := by
 have h0' : 0 <= i := by omega
 have e : HT.sIx ds.length ds.length (some i) = min i.toNat ds.length := by rw [FW h0']
 have e0 : HT.sIx ds.length 0 none = 0 := rfl;unfold oSl L3.cutD;simp only [e, e0];simp [List.take_eq_take_iff]
def muD (L : List Int) : Mu := [some (L.map .int)]
def DlD (L : List Int) : Prop := ∀ x ∈ L, Dr x
theorem kZ (hx : Sm a x) (hy : 0 < y) : Sm a (x.fdiv y) := by
 rw [Int.fdiv_eq_ediv_of_nonneg x (by omega)]
 unfold Sm at *
 have := Int.natAbs_ediv_le_natAbs x y;omega
theorem jn {a : Int} {n : Nat} : (dY a n).length = n := by unfold dY; simp
theorem Jj (h : yf φ) (ns : List Int) (hn : ns.length <= 63) : ∃ L, φ [.ro (ns.map .int)] [] = some (.cell 0, muD L) /\ DlD L := h ns hn
theorem Ox {φ : FF} {ns : List Int} (h : Ok (φ [.ro (ns.map .int)] []) (λ r => r.1 = .bl true)) : ∃ μ', φ [.ro (ns.map .int)] [] = some (.bl true, μ') := by
 obtain ⟨⟨d, μ'⟩, e, h⟩ := h;have h : d = .bl true := h;subst h;exact ⟨μ', e⟩
@[simp] theorem VN {α : Type} {l : List α} {x y : α} : (l ++ [x]).set l.length y = l ++ [y] := by simp [List.set_append]
mutual
theorem uz {m : Nat} : ∀ {d : D}, cLt 0 d = true -> cLt m d = true
 | .non, _ => by simp [cLt]
 | .bl _, _ => by simp [cLt]
 | .int _, _ => by simp [cLt]
 | .str _, _ => by simp [cLt]
 | .tup ds, h => by rw [cLt] at h ⊢; exact lH h
 | .lst ds, h => by rw [cLt] at h ⊢; exact lH h
 | .ro ds, h => by rw [cLt] at h ⊢; exact lH h
 | .dic ds, h => by rw [cLt] at h ⊢; exact xy h
 | .cell n, h => by rw [cLt] at h; simp at h
theorem lH {m : Nat} : ∀ {ds : List D}, mj 0 ds = true -> mj m ds = true
 | [], _ => by rw [mj]
 | d :: ds, h => by
  rw [mj, Zo] at h ⊢;exact ⟨uz h.1, lH h.2⟩
theorem xy {m : Nat} : ∀ {ds : List (Key × D)}, wC 0 ds = true -> wC m ds = true
 | [], _ => by rw [wC]
 | d :: ds, h => by
  rw [wC, Zo] at h ⊢;exact ⟨uz h.1, xy h.2⟩
end
def iD (μ : Mu) : Prop := ∀ ds, some ds ∈ μ -> ∀ d ∈ ds, nc d
theorem iD.c (h : iD μ) (m : Nat) : cOk m μ = true := by
 unfold cOk;rw [List.all_eq_true];intro o ho;cases o with
 | none => rfl
 | some ds => exact lH (qY.mpr (h ds ho))
theorem iD.nil : iD [] := λ ds h => by simp at h
theorem iD.cons (h1 : ∀ d ∈ ds, nc d) (h2 : iD μ) : iD (some ds :: μ) := λ es h => by
 rcases Zi.mp h with z | z
 .cases z; exact h1
 .exact h2 es z
theorem iD.dr {L : List Int} {μ : Mu} (h : iD μ) : iD (some (L.map .int) :: μ) := iD.cons ue h
theorem uR {φ : FF} {ds : List D} {μ μ' junk : Mu} {d : D} (h : φ ds μ = some (d, μ' ++ junk)) (hl : μ'.length = μ.length) (hd : nc d) (hm : iD μ') : trunc φ ds μ = some (d, μ') := by
 unfold trunc;rw [h];simp only [Option.bind_some];have e : (μ' ++ junk).take μ.length = μ' := by rw [<- hl]; simp
 rw [e, uz hd, hm.c];rfl
theorem Eu {P : D -> Prop} (hm : iD μ) (h : Ok (φ ds μ) (λ r => ∃ junk, r.2 = μ ++ junk /\ nc r.1 /\ P r.1)) : ∃ d, trunc φ ds μ = some (d, μ) /\ P d := by
 obtain ⟨⟨d, μ1⟩, e, junk, h1, h4, h5⟩ := h;have h1 : μ1 = μ ++ junk := h1;subst h1;exact ⟨d, uR e rfl h4 hm, h5⟩
def iV (φ : FF) : Prop := ∀ (L : List Int) (rest : Mu), φ [.cell 0] (some (L.map .int) :: rest) = some (.int (L.headD 0), some (L.tail.map .int) :: rest)
theorem Lf : iV (trunc (aH 1 gk)) := λ L rest => by
 have h1 : oEq (.cell 0) (.lst []) (some (L.map D.int) :: rest) = some (.bl L.isEmpty, some (L.map D.int) :: rest) := by
  unfold oEq rsv;simp [cN, lQ, ir, nR, eqD, eY];cases L <;> simp [jd]
 refine jg ?_ (by simp)
 unfold aH gk;have hz : 0 <= sizeLine := Nat.zero_le _;cases L with
 | nil =>
  simp at h1;simp [aO, sIf, toB, M2, aq, MC, aB, oLst, hz, h1, bh, mC]
 | cons x t =>
  simp at h1;simp [aO, sIf, toB, M2, aq, MC, aB, oLst, hz, h1, bh, mC, bH, EY]
theorem eU {φ : FF} (h : iV φ) {L : List Int} (hL : DlD L) (rest : Mu) : ∃ x L', φ [.cell 0] (some (L.map .int) :: rest) = some (.int x, some (L'.map .int) :: rest) /\ Dr x /\ DlD L' := by
 refine ⟨L.headD 0, L.tail, h L rest, ?_, λ x hx => hL x (List.mem_of_mem_tail hx)⟩;cases L with
 | nil => exact ⟨by decide, by decide⟩
 | cons a b => exact hL a (by simp)
def PtL (d : Nat) (ns : List Int) (b : Int) : Prop := ns.length = d /\ (∀ n ∈ ns, n.natAbs <= 10000) /\ 1 <= b /\ b <= 60
def oX (d : Nat) (p : D) : Prop := ∃ ns b, p = .tup ((ns ++ [b]).map .int) /\ PtL d ns b /\ bK b.natAbs ns = 1
theorem oX.nc {d : Nat} {p : D} (h : oX d p) : nc p := by
 obtain ⟨ns, b, rfl, _⟩ := h;exact fM.mpr ue
theorem nM {x y : Int} (hy : 0 < y) : (x.fdiv y).natAbs <= x.natAbs := by
 rw [Int.fdiv_eq_ediv_of_nonneg x (by omega)]
 exact Int.natAbs_ediv_le_natAbs x y
theorem Nu {ns : List Int} {b : Int} (hb : 0 < b) : bK (b.fdiv (bK b.natAbs ns : Nat)).natAbs (ns.map λ n => n.fdiv (bK b.natAbs ns : Nat)) = 1 := by
 have h := (kj ns b.natAbs _).mp (Nat.dvd_refl _);have g0 : bK b.natAbs ns ≠ 0 := oA (.inl (by omega))
 obtain ⟨g, hg⟩ : ∃ g, bK b.natAbs ns = g := ⟨_, rfl⟩;rw [hg] at h g0 ⊢;have hm : ∀ n : Int, g ∣ n.natAbs -> (g : Int) * n.fdiv (g : Nat) = n := λ n hn => by
  rw [Int.fdiv_eq_ediv_of_nonneg n (by omega)]
  exact Int.mul_ediv_cancel' (Int.ofNat_dvd_left.mpr hn)
 have hs := uq (g : Int) (ns.map λ n => n.fdiv (g : Nat)) (b.fdiv (g : Nat)).natAbs;have e1 : ((g : Int)).natAbs * (b.fdiv (g : Nat)).natAbs = b.natAbs := by rw [<- Int.natAbs_mul, hm b h.1]
 have e2 : (ns.map λ n => n.fdiv (g : Nat)).map ((g : Int) * ·) = ns := by
  rw [List.map_map]
  conv => rhs; rw [<- List.map_id ns]
  apply List.map_congr_left;intro n hn;exact hm n (h.2 n hn)
 rw [e1, e2, hg, Int.natAbs_natCast] at hs;exact Nat.eq_of_mul_eq_mul_left (show 0 < g by omega) (by rw [Nat.mul_one]; exact hs.symm)
theorem vm {φ : FF} (h : sX φ) {d : Nat} {ns : List Int} {b : Int} (μ : Mu) (hd : 1 <= d) (hd3 : d <= 3) (hp : PtL d ns b) : ∃ p, φ [.lst (ns.map .int), .int b] μ = some (p, μ) /\ oX d p := by
 obtain ⟨hl, hn, b0, b1⟩ := hp;have e := h ns b μ (by omega) (by unfold Sm; have : (2 : Nat) ^ 4000 >= 2 ^ 7 := Nat.pow_le_pow_right (by decide) (by decide); omega) (by omega) (λ z => by rw [z] at hl; simp at hl; omega)
 have e1 : sgn b = 1 := if_pos (by omega)
 rw [e1, Int.one_mul] at e;have g0 : bK b.natAbs ns ≠ 0 := oA (.inl (by omega))
 have gd := (nT ns b.natAbs).2;have gle := Nat.le_of_dvd (by omega) gd
 refine ⟨_, e, ns.map (λ n => n.fdiv (bK b.natAbs ns : Nat)), b.fdiv (bK b.natAbs ns : Nat), by simp [List.map_append], ⟨by simp [hl], λ m hm => ?_, ?_, ?_⟩, Nu (by omega)⟩
 .obtain ⟨n, hn', rfl⟩ := Zq.mp hm;have := nM (x := n) (y := (bK b.natAbs ns : Nat)) (by omega)
  have := hn n hn';omega
 .rw [Int.fdiv_eq_ediv_of_nonneg b (by omega)]
  exact (Int.le_ediv_iff_mul_le (by omega)).mpr (by omega)
 .have := nM (x := b) (y := (bK b.natAbs ns : Nat)) (by omega)
  omega
def isPlace (φ : FF) : Prop := ∀ (x k b : Int) (μ : Mu), Dr x -> 0 <= k -> k <= 4 -> 0 <= b -> b <= 500 -> ∃ t u : Int, φ [.int x, .int k, .int b] μ = some (.tup [.int t, .int u], μ) /\ t.natAbs <= 10000 /\ 1 <= u /\ u <= 60
theorem Kh : isPlace (trunc (aH 3 gO)) := λ x k b μ hx k0 k4 b0 b5 => by
 have q1 := aY (x := x) (m := 20001) (by decide)
 have q2 := aY (x := x.fdiv 20001) (m := 60) (by decide)
 have q3 := aY (x := x) (m := 5) (by decide)
 have q4 := aY (x := x) (m := 11) (by decide)
 have q5 := aY (x := x.fdiv 11) (m := 3) (by decide)
 have q6 := aY (x := x) (m := 4) (by decide)
 have q7 := aY (x := x) (m := 2) (by decide)
 have q8 := aY (x := b) (m := 7) (by decide)
 have d1 := mW (i := x) (j := 20001) (μ := μ) (by decide) (by decide)
 have d2 := mW (i := x) (j := 11) (μ := μ) (by decide) (by decide)
 have hk : k = 0 ∨ k = 1 ∨ k = 2 ∨ k = 3 ∨ k = 4 := by omega
 rcases hk with rfl | rfl | rfl | rfl | rfl
 .refine ⟨x.fmod 20001 - 10000, 1 + (x.fdiv 20001).fmod 60, bM ?_, by omega, by omega, by omega⟩
  simp [gO, d1]
 .refine ⟨x.fmod 5 - 2, 1, bM ?_, by omega, by omega, by omega⟩
  simp [gO]
 .refine ⟨x.fmod 11 - 5, 1 + (x.fdiv 11).fmod 3, bM ?_, by omega, by omega, by omega⟩
  simp [gO, d2]
 .obtain ⟨y, hy, e⟩ := mG (ds := [D.int 0, .int 0, .int 1, .int 40]) q6.1 q6.2;have hy : ∃ z : Int, y = .int z /\ 0 <= z /\ z <= 40 := by
   simp only [Zi, List.not_mem_nil, or_false] at hy
   rcases hy with rfl | rfl | rfl | rfl <;> exact ⟨_, rfl, by decide, by decide⟩
  obtain ⟨z, rfl, z0, z1⟩ := hy;refine ⟨b + z, 1, bM ?_, by omega, by omega, by omega⟩
  simp [gO, e]
 .have s1 : Sm 10 (x.fmod 2) := by
   unfold Sm;have : (2 : Nat) ^ 10 = 1024 := by decide
   omega
  have s2 : Sm 10 (1 + b.fmod 7) := by
   unfold Sm;have : (2 : Nat) ^ 10 = 1024 := by decide
   omega
  have m := Uo (μ := μ) (CQ s1 s2 (by decide))
  have hb : (x.fmod 2 * (1 + b.fmod 7)).natAbs <= 10000 := by
   have h2 : x.fmod 2 = 0 ∨ x.fmod 2 = 1 := by omega
   rcases h2 with h2 | h2 <;> rw [h2] <;> omega
  refine ⟨x.fmod 2 * (1 + b.fmod 7), 1, bM ?_, hb, by omega, by omega⟩
  simp [gO, m]
theorem zg (h : d ∈ dY a n) : ∃ k : Int, d = .int k /\ a <= k /\ k < a + n := by
 unfold dY at h;obtain ⟨k, hk, rfl⟩ := Zq.mp h;have := List.mem_range.mp hk;exact ⟨_, rfl, by omega, by omega⟩
def oW (φ : FF) : Prop := ∀ (x d k b : Int) (μ : Mu), iD μ -> Dr x -> 1 <= d -> d <= 3 -> 0 <= k -> k <= 4 -> 0 <= b -> b <= 400 -> ∃ p, φ [.int x, .int d, .int k, .int b] μ = some (p, μ) /\ oX d.toNat p
theorem Ku (h1 : pG φ1) (h2 : isPlace φ2) (h3 : sX φ3) : oW (trunc (aH 9 (jw φ1 φ2 φ3))) := λ x d k b μ hm hx d1 d3 k0 k4 b0 b4 => by
 apply Eu hm;apply gH;unfold jw;simp [yU (j := d) (by omega) (by omega)]
 refine gj (λ its δ μ' => ∃ (acc : List Int) (bot : Int) (o6 o7 o8 : Option D), μ' = μ ++ [some (acc.map .int)] /\ acc.length + its.length = d.toNat /\ (∀ n ∈ acc, n.natAbs <= 10000) /\ (1 <= bot /\ bot <= 60) /\ (∀ i ∈ its, ∃ k : Int, i = .int k /\ 0 <= k /\ k < 3) /\
  δ = [some (.int x), some (.int d), some (.int k), some (.int b), some (.cell μ.length), some (.int bot), o6, o7, o8]) ?_ ?_ _ _ _ ⟨[], 1, none, none, none, rfl, by simp [jn], by simp, by omega, λ i hi => by
   obtain ⟨k, rfl, h0, h1⟩ := zg hi;exact ⟨k, rfl, by omega, by omega⟩, rfl⟩
 .rintro i rest δ μ' ⟨acc, bot, o6, o7, o8, rfl, hl, ha, hb, hi, rfl⟩;obtain ⟨j, rfl, j0, j1⟩ := hi i (by simp)
  obtain ⟨y, ey, hy⟩ := h1 x (j + 1) (μ ++ [some (acc.map .int)]) (by omega) (by omega)
  obtain ⟨t, u, et, ht, u0, u1⟩ := h2 y k (b + j) (μ ++ [some (acc.map .int)]) hy k0 k4 (by omega) (by omega)
  have hz : acc.length < sizeLine := Zc (by omega : acc.length < 1000) (by decide)
  have fin : ∀ bot', 1 <= bot' -> bot' <= 60 -> ∃ (acc' : List Int) (bot : Int) (o6 o7 o8 : Option D), μ ++ [some (acc.map D.int ++ [.int t])] = μ ++ [some (acc'.map .int)] /\ acc'.length + rest.length = d.toNat /\ (∀ n ∈ acc', n.natAbs <= 10000) /\ (1 <= bot /\ bot <= 60) /\ (∀ i ∈ rest, ∃ k : Int, i = .int k /\ 0 <= k /\ k < 3) /\
    ([some (.int x), some (.int d), some (.int k), some (.int b), some (.cell μ.length), some (.int bot'), some (.int j), some (.int t), some (.int u)] : En) = [some (.int x), some (.int d), some (.int k), some (.int b), some (.cell μ.length), some (.int bot), o6, o7, o8] := λ bot' q1 q2 =>
   ⟨acc ++ [t], bot', _, _, _, by simp, by simp at hl ⊢; omega, λ n hn => by
    rcases Zm.mp hn with z | z
    .exact ha n z
    .rw [List.mem_singleton.mp z]; exact ht, ⟨q1, q2⟩, λ i h => hi i (by simp [h]), rfl⟩
  by_cases hj : j = 0
  .subst hj;rw [show (0 : Int) + 1 = 1 from rfl] at ey;rw [show b + (0 : Int) = b by omega] at et
   simp [ey, et, iQ, gD, hz];simpa using fin u u0 u1
  .have hjb : (j == 0) = false := by simpa using hj
   simp [ey, et, hjb, iQ, gD, hz];simpa using fin bot hb.1 hb.2
 .rintro δ μ' ⟨acc, bot, o6, o7, o8, rfl, hl, ha, hb, hi, rfl⟩;obtain ⟨p, ep, hp⟩ := vm h3 (d := d.toNat) (ns := acc) (b := bot) (μ ++ [none]) (by omega) (by omega) ⟨by simpa using hl, ha, hb⟩
  simp [ep];exact ⟨hp.nc, hp⟩
section
variable {α : Type} {r j : List α} {x y z : α}
@[simp] theorem WD : (r ++ x :: j)[r.length]? = some x := by simp
@[simp] theorem WM : (r ++ x :: j).set r.length y = r ++ y :: j := by simp [List.set_append]
@[simp] theorem WK : (r ++ x :: (j ++ [y]))[r.length + (j.length + 1)]? = some y := by
 rw [List.getElem?_append_right (by omega)]
 have : r.length + (j.length + 1) - r.length = j.length + 1 := by omega
 rw [this];simp
@[simp] theorem Wk : (r ++ x :: (j ++ [y])).set (r.length + (j.length + 1)) z = r ++ x :: (j ++ [z]) := by
 rw [List.set_append_right _ _ (by omega)]
 have : r.length + (j.length + 1) - r.length = j.length + 1 := by omega
 rw [this];simp
end
theorem mH {ys : List Int} {k : Int} (h0 : 0 <= k) (h1 : k < ys.length) : atI (ys.map D.int) k = some (.int (ys.getD k.toNat 0)) /\ ys.getD k.toNat 0 ∈ ys := by
 have hk : k.toNat < ys.length := by omega
 have e : ys.getD k.toNat 0 = ys[k.toNat] := by simp [List.getD, hk]
 refine ⟨?_, by rw [e]; exact List.getElem_mem hk⟩
 unfold atI ixN;rw [if_pos h0, if_pos (by simpa using h1), e]
 simp [hk]
theorem yH {φ : FF} (h : iV φ) (a c : Int) (ha : 0 < a) (all : List D) (rest : Mu) : ∀ (its : List D) (L : List Int), DlD L -> ∃ ys L' : List Int,
  lcL ⟨all, none⟩ (hName 0) cT (M2 (M2 (MC (ao (aq 1) aB) φ) (mC (.int a)) oMod) (mC (.int c)) iG) [none, some (.cell 0)] its (some (L.map .int) :: rest) = some (ys.map .int, some (L'.map .int) :: rest) /\ DlD L' /\ ys.length = its.length /\ ∀ y ∈ ys, -c <= y /\ y < a - c
 | [], L, hL => ⟨[], L, by unfold lcL; simp [cC], hL, rfl, by simp⟩
 | d :: its, L, hL => by
  obtain ⟨x, L1, e1, hx, hL1⟩ := eU h hL rest;obtain ⟨ys, L', e, hL', hl, hs⟩ := yH h a c ha all rest its L1 hL1;obtain ⟨q0, q1⟩ := aY (x := x) (m := a) ha;have ha' : a ≠ 0 := by omega
  refine ⟨(x.fmod a - c) :: ys, L', ?_, hL', by simp [hl], λ n hn => ?_⟩
  .unfold lcL;simp [cC, cT, e1, ha', e]
  .rcases Zi.mp hn with z | z
   .rw [z]; omega
   .exact hs n z
def yF (φ : FF) : Prop := ∀ (L : List Int) (rest : Mu) (d many : Int), DlD L -> iD rest -> 1 <= d -> d <= 3 -> 0 <= many -> many <= 40 ->
 ∃ ps L', φ [.cell 0, .int d, .int many] (some (L.map .int) :: rest) = some (.lst ps, some (L'.map .int) :: rest) /\ DlD L' /\ ps.length = many.toNat /\ ∀ p ∈ ps, oX d.toNat p
theorem Df {φ : FF} {as : List D} {μ : Mu} {P : List D -> List Int -> Prop} {rest : Mu} (hl : μ.length = rest.length + 1) (hm : iD rest) (h : Ok (φ as μ) (λ r => ∃ ps L junk, r = (.lst ps, some (L.map .int) :: (rest ++ junk)) /\ (∀ p ∈ ps, nc p) /\ P ps L)) :
  ∃ ps L', trunc φ as μ = some (.lst ps, some (L'.map .int) :: rest) /\ P ps L' := by
 obtain ⟨r, e, ps, L, junk, h1, h2, h3⟩ := h;have h1 : r = (.lst ps, some (L.map .int) :: (rest ++ junk)) := h1;rw [h1] at e;exact ⟨ps, L, uR (junk := junk) (by rw [e]; rfl) (by simp [hl]) (DY.mpr h2) hm.dr, h3⟩
theorem Do (h1 : iV φ1) (h2 : sX φ2) : yF (trunc (aH 8 (jb φ1 φ2))) := λ L rest d many hL hm d1 d3 m0 m40 => by
 apply Df (by simp) hm
 apply gH;unfold jb;obtain ⟨ys, L1, e1, hL1, hl1, hs1⟩ := yH h1 41 20 (by decide) (dY 0 d.toNat) rest (dY 0 d.toNat) L hL
 obtain ⟨zs, L2, e2, hL2, hl2, hs2⟩ := yH h1 7 3 (by decide) (dY 0 d.toNat) rest (dY 0 d.toNat) L1 hL1
 rw [jn] at hl1 hl2;have zd : d.toNat <= 1000 := by omega
 simp [yU (j := d) (by omega) (by omega), yU (j := many) (by omega) (by omega), jn, zd, dg, e1, e2]
 refine gj (λ its δ μ' => ∃ (L : List Int) (acc : List D) (o6 o7 : Option D), μ' = some (L.map .int) :: (rest ++ [some acc]) /\ DlD L /\ (∀ p ∈ acc, oX d.toNat p) /\ acc.length + its.length = many.toNat /\
  δ = [some (.cell 0), some (.int d), some (.int many), some (.lst (ys.map .int)), some (.lst (zs.map .int)), some (.cell (rest.length + 1)), o6, o7]) ?_ ?_ _ _ _ ⟨L2, [], none, none, rfl, hL2, by simp, by simp [jn], rfl⟩
 .rintro i its δ μ' ⟨L, acc, o6, o7, rfl, hL, ha, hl, rfl⟩;obtain ⟨x, L3, e3, hx, hL3⟩ := eU h1 hL (rest ++ [some acc]);obtain ⟨q0, q1⟩ := aY (x := x) (m := 13) (by decide)
  generalize ht : x.fmod 13 - 6 = t;have ht1 : t.natAbs <= 6 := by omega
  have ec := qL (all := dY 0 d.toNat) (h := hName 0) (fe := M2 (M2 (aq 1) (aq 0) oIx) (M2 (aq 2) (M2 (aq 3) (aq 0) oIx) cU) cu) (δb := [none, some (.lst (ys.map .int)), some (.int t), some (.lst (zs.map .int))])
   (f := λ i => .int (ys.getD (intOf i).toNat 0 + t * zs.getD (intOf i).toNat 0)) (μ := some (L3.map .int) :: (rest ++ [some acc])) (dY 0 d.toNat) λ i hi => by
    obtain ⟨k, rfl, k0, k1⟩ := zg hi;obtain ⟨a1, _⟩ := mH (ys := ys) (k := k) (by omega) (by omega)
    obtain ⟨a2, b2⟩ := mH (ys := zs) (k := k) (by omega) (by omega)
    have b3 := hs2 _ b2;have mm := bI (x := t) (y := zs.getD k.toNat 0) (some (L3.map .int) :: (rest ++ [some acc])) (a := 3) (b := 3) (by unfold Sm; omega) (by unfold Sm; omega) (by decide)
    refine ⟨_, rfl, ?_⟩;simp only [xg];generalize zs.getD k.toNat 0 = c2 at *
    generalize ys.getD k.toNat 0 = c1 at *
    simp [a1, a2, mm]
  have ep : (dY 0 d.toNat).map (λ i => D.int (ys.getD (intOf i).toNat 0 + t * zs.getD (intOf i).toNat 0)) = ((dY 0 d.toNat).map (λ i => ys.getD (intOf i).toNat 0 + t * zs.getD (intOf i).toNat 0)).map D.int := by simp
  rw [ep] at ec;obtain ⟨p, e4, hp⟩ := vm h2 (d := d.toNat) (ns := (dY 0 d.toNat).map (λ i => ys.getD (intOf i).toNat 0 + t * zs.getD (intOf i).toNat 0)) (b := 1) (some (L3.map .int) :: (rest ++ [some acc])) (by omega) (by omega) ⟨by simp [jn], λ n hn => by
   obtain ⟨i, hi, rfl⟩ := Zq.mp hn;obtain ⟨k, rfl, k0, k1⟩ := zg hi;obtain ⟨_, b1⟩ := mH (ys := ys) (k := k) (by omega) (by omega)
   obtain ⟨_, b2⟩ := mH (ys := zs) (k := k) (by omega) (by omega)
   have b3 := hs1 _ b1;have b4 := hs2 _ b2;simp only [xg];generalize zs.getD k.toNat 0 = c2 at *
   generalize ys.getD k.toNat 0 = c1 at *
   have h1 : (t * c2).natAbs <= 6 * 3 := by rw [Int.natAbs_mul]; exact Nat.mul_le_mul ht1 (by omega)
   omega, by decide, by decide⟩
  have hz : acc.length < sizeLine := Zc (by omega : acc.length < 1000) (by decide)
  generalize ((dY 0 d.toNat).map (λ i => ys.getD (intOf i).toNat 0 + t * zs.getD (intOf i).toNat 0)) = ms at *
  simp [e3, ht, yU (j := d) (by omega) (by omega), jn, zd, dg, ec, e4, iQ, gD, hz]
  refine ⟨L3, acc ++ [p], by simp, hL3, λ q hq => ?_, by simp at hl ⊢; omega⟩
  rcases Zm.mp hq with z | z
  .exact ha q z
  .rw [List.mem_singleton.mp z]; exact hp
 .rintro δ μ' ⟨L, acc, o6, o7, rfl, hL, ha, hl, rfl⟩;simp;exact ⟨acc, L, ⟨rfl, rfl⟩, λ p hp => (ha p hp).nc, hL, by simpa using hl, ha⟩
theorem Nh (h1 : iV φ1) (h2 : sX φ2) : yF (trunc (aH 9 (oG φ1 φ2))) := λ L rest d many hL hm d1 d3 m0 m40 => by
 apply Df (by simp) hm
 apply gH;unfold oG;obtain ⟨x1, L1, e1, hx1, hL1⟩ := eU h1 hL rest;obtain ⟨x2, L2, e2, hx2, hL2⟩ := eU h1 hL1 rest;obtain ⟨q0, q1⟩ := aY (x := x1) (m := 5) (by decide)
 obtain ⟨q2, q3⟩ := aY (x := x2) (m := 5) (by decide)
 generalize hf : x1.fmod 5 - 2 = f;generalize hs : x2.fmod 5 - 2 = s;have f1 : f.natAbs <= 2 := by omega
 have s1 : s.natAbs <= 2 := by omega
 simp [e1, e2, hf, hs, yU (j := many) (by omega) (by omega)]
 refine gj (λ its δ μ' => ∃ (L : List Int) (acc : List D) (junk : Mu) (o6 o7 o8 : Option D), μ' = some (L.map .int) :: (rest ++ some acc :: junk) /\ DlD L /\ (∀ p ∈ acc, oX d.toNat p) /\ acc.length + its.length = many.toNat /\
  δ = [some (.cell 0), some (.int d), some (.int many), some (.int f), some (.int s), some (.cell (rest.length + 1)), o6, o7, o8]) ?_ ?_ _ _ _ ⟨L2, [], [], none, none, none, rfl, hL2, by simp, by simp [jn], rfl⟩
 .rintro i its δ μ' ⟨L, acc, junk, o6, o7, o8, rfl, hL, ha, hl, rfl⟩;obtain ⟨x, M3, e3, hx, hM3⟩ := eU h1 hL (rest ++ some acc :: junk);have b1 := aY (x := x) (m := 9) (by decide)
  have b2 := aY (x := x.fdiv 9) (m := 9) (by decide)
  have b3 := aY (x := x.fdiv 81) (m := 9) (by decide)
  have v1 := mW (i := x) (j := 9) (μ := some (M3.map .int) :: (rest ++ some acc :: junk)) (by decide) (by decide)
  have v2 := mW (i := x) (j := 81) (μ := some (M3.map .int) :: (rest ++ some acc :: junk)) (by decide) (by decide)
  generalize ha1 : x.fmod 9 - 4 = a1;generalize ha2 : (x.fdiv 9).fmod 9 - 4 = a2;generalize ha3 : (x.fdiv 81).fmod 9 - 4 = a3;have hz : acc.length < sizeLine := Zc (by omega : acc.length < 1000) (by decide)
  have fin : ∀ p, oX d.toNat p -> ∀ (j' : Mu), ∃ (L : List Int) (acc' : List D) (junk : Mu), some (M3.map D.int) :: (rest ++ some (acc ++ [p]) :: j') = some (L.map .int) :: (rest ++ some acc' :: junk) /\ DlD L /\ (∀ p ∈ acc', oX d.toNat p) /\ acc'.length + its.length = many.toNat := λ p hp j' => by
   refine ⟨M3, acc ++ [p], j', rfl, hM3, λ q hq => ?_, by simp at hl ⊢; omega⟩
   rcases Zm.mp hq with z | z
   .exact ha q z
   .rw [List.mem_singleton.mp z]; exact hp
  have hdd : d = 1 ∨ d = 2 ∨ d = 3 := by omega
  rcases hdd with rfl | rfl | rfl
  .obtain ⟨p, e4, hp⟩ := vm h2 (d := 1) (ns := [a1]) (b := 1) (some (M3.map .int) :: (rest ++ some acc :: (junk ++ [none]))) (by decide) (by decide) ⟨rfl, by simp; omega, by decide, by decide⟩
   simp at e4;have ec : L3.cutD [D.int a1, D.int a2, D.int a3] none (some 1) = [.int a1] := rfl;simp [e3, v1, v2, ha1, ha2, ha3, ec, e4, iQ, gD, hz];simpa using fin p hp (junk ++ [none])
  .have m1 := bI (x := f) (y := a1) (some (M3.map .int) :: (rest ++ some acc :: (junk ++ [some [D.int a1, .int a2]]))) (a := 5) (b := 5) (by unfold Sm; omega) (by unfold Sm; omega) (by decide)
   have m2 := bI (x := s) (y := a1) (some (M3.map .int) :: (rest ++ some acc :: (junk ++ [some [D.int a1, .int a2]]))) (a := 5) (b := 5) (by unfold Sm; omega) (by unfold Sm; omega) (by decide)
   have bd : (f * a1 + s * a1).natAbs <= 10000 := by
    have c1 : (f * a1).natAbs <= 2 * 4 := by rw [Int.natAbs_mul]; exact Nat.mul_le_mul f1 (by omega)
    have c2 : (s * a1).natAbs <= 2 * 4 := by rw [Int.natAbs_mul]; exact Nat.mul_le_mul s1 (by omega)
    omega
   obtain ⟨p, e4, hp⟩ := vm h2 (d := 2) (ns := [a1, f * a1 + s * a1]) (b := 1) (some (M3.map .int) :: (rest ++ some acc :: (junk ++ [none]))) (by decide) (by decide) ⟨rfl, λ n hn => by
    simp at hn
    rcases hn with rfl | rfl
    .omega
    .exact bd, by decide, by decide⟩
   simp at e4;have ec : L3.cutD [D.int a1, D.int a2, D.int a3] none (some 2) = [.int a1, .int a2] := rfl;have at0 : atI [D.int a1, .int a2] 0 = some (.int a1) := rfl;simp [e3, v1, v2, ha1, ha2, ha3, ec, cj, at0, m1, m2, L3.Ay, ixN, e4, iQ, gD, hz];simpa using fin p hp (junk ++ [none])
  .have m1 := bI (x := f) (y := a1) (some (M3.map .int) :: (rest ++ some acc :: (junk ++ [some [D.int a1, .int a2, .int a3]]))) (a := 5) (b := 5) (by unfold Sm; omega) (by unfold Sm; omega) (by decide)
   have m2 := bI (x := s) (y := a2) (some (M3.map .int) :: (rest ++ some acc :: (junk ++ [some [D.int a1, .int a2, .int a3]]))) (a := 5) (b := 5) (by unfold Sm; omega) (by unfold Sm; omega) (by decide)
   have bd : (f * a1 + s * a2).natAbs <= 10000 := by
    have c1 : (f * a1).natAbs <= 2 * 4 := by rw [Int.natAbs_mul]; exact Nat.mul_le_mul f1 (by omega)
    have c2 : (s * a2).natAbs <= 2 * 4 := by rw [Int.natAbs_mul]; exact Nat.mul_le_mul s1 (by omega)
    omega
   obtain ⟨p, e4, hp⟩ := vm h2 (d := 3) (ns := [a1, a2, f * a1 + s * a2]) (b := 1) (some (M3.map .int) :: (rest ++ some acc :: (junk ++ [none]))) (by decide) (by decide) ⟨rfl, λ n hn => by
    simp at hn
    rcases hn with rfl | rfl | rfl
    .omega
    .omega
    .exact bd, by decide, by decide⟩
   simp at e4;have ec : L3.cutD [D.int a1, D.int a2, D.int a3] none (some 3) = [.int a1, .int a2, .int a3] := rfl;have at0 : atI [D.int a1, .int a2, .int a3] 0 = some (.int a1) := rfl;have at1 : atI [D.int a1, .int a2, .int a3] 1 = some (.int a2) := rfl;simp [e3, v1, v2, ha1, ha2, ha3, ec, cj, at0, at1, m1, m2, L3.Ay, ixN, e4, iQ, gD, hz];simpa using fin p hp (junk ++ [none])
 .rintro δ μ' ⟨L, acc, junk, o6, o7, o8, rfl, hL, ha, hl, rfl⟩;simp;exact ⟨acc, L, ⟨rfl, rfl⟩, λ p hp => (ha p hp).nc, hL, by simpa using hl, ha⟩
theorem yI {d : Nat} : ∀ {ps : List D}, (∀ p ∈ ps, oX d p) -> eY ps = true /\ jz ps <= 1
 | [], _ => ⟨by rw [eY], by rw [jz]; decide⟩
 | p :: ps, h => by
  obtain ⟨ns, b, rfl, _⟩ := h p (by simp)
  obtain ⟨i1, i2⟩ := yI (ps := ps) λ q hq => h q (by simp [hq])
  refine ⟨?_, ?_⟩
  .rw [eY, i1, cN, lQ]; rfl
  .rw [jz, ir, nR]; omega
theorem QX (h : μ[n]? = some (some ps)) (h1 : eY ps = true) (h2 : jz ps < 90) : Dp (.cell n) (.lst []) μ = some (.bl (!ps.isEmpty), μ) := by
 show oNe (.cell n) (.lst []) μ = _;have e1 : rsv (.cell n) μ = .lst ps := by
  show (match μ[n]? with | some (some ds) => D.lst ds | _ => D.cell n) = _
  rw [h]
 have e2 : rsv (.lst []) μ = .lst [] := rfl;unfold oNe;rw [e1, e2];have e3 : cN (.lst ps) = true := by rw [cN]; exact h1
 have e4 : cN (.lst []) = true := by rw [cN, eY]
 have e5 : ir (.lst ps) < 100 := by rw [ir]; omega
 have e6 : eqD (.lst ps) (.lst []) = ps.isEmpty := by cases ps <;> rw [eqD] <;> simp [jd]
 rw [e3, e4, e6, if_pos ⟨rfl, e5⟩]
def qU (φ : FF) : Prop := ∀ (L : List Int) (rest : Mu) (d most : Int), DlD L -> iD rest -> 1 <= d -> d <= 3 -> 0 <= most -> most <= 40 ->
 ∃ ps L', φ [.cell 0, .int d, .int most] (some (L.map .int) :: rest) = some (.lst ps, some (L'.map .int) :: rest) /\ DlD L' /\ ps.length <= most.toNat /\ ∀ p ∈ ps, oX d.toNat p
theorem Gq (h1 : iV φ1) (h2 : yF φ2) (h3 : yF φ3) (h4 : oW φ4) : qU (trunc (aH 9 (jO φ1 φ2 φ3 φ4))) := λ L rest d most hL hm d1 d3 m0 m40 => by
 apply Df (by simp) hm
 apply gH;unfold jO;obtain ⟨x, L1, e1, hx, hL1⟩ := eU h1 hL rest;obtain ⟨q0, q1⟩ := aY (x := x.fdiv 9) (m := most + 1) (by omega)
 obtain ⟨k0, k1⟩ := aY (x := x) (m := 9) (by decide)
 have v1 := mW (i := x) (j := 9) (μ := some (L1.map .int) :: rest) (by decide) (by decide)
 have w1 := fU (x := x.fdiv 9) (y := most + 1) (some (L1.map .int) :: rest) (by omega)
 generalize (x.fdiv 9).fmod (most + 1) = many at *
 generalize hk : x.fmod 9 = kind at *
 by_cases c5 : kind = 5
 .subst c5;obtain ⟨ps, L2, e2, hL2, hl2, hp2⟩ := h2 L1 rest d many hL1 hm d1 d3 q0 (by omega)
  simp [e1, v1, w1, hk, e2];exact ⟨ps, L2, ⟨rfl, rfl⟩, λ p hp => (hp2 p hp).nc, hL2, by omega, hp2⟩
 .have c5b : (kind == 5) = false := by simpa using c5
  by_cases c6 : kind = 6
  .subst c6;obtain ⟨ps, L2, e2, hL2, hl2, hp2⟩ := h3 L1 rest d many hL1 hm d1 d3 q0 (by omega)
   simp [e1, v1, w1, hk, e2];exact ⟨ps, L2, ⟨rfl, rfl⟩, λ p hp => (hp2 p hp).nc, hL2, by omega, hp2⟩
  .have c6b : (kind == 6) = false := by simpa using c6
   by_cases c7 : kind = 7
   .subst c7;obtain ⟨p, e2, hp⟩ := h4 x d 2 0 (some (L1.map .int) :: rest) hm.dr hx d1 d3 (by decide) (by decide) (by decide) (by decide)
    have em : cU (.lst [p]) (.int many) (some (L1.map .int) :: rest) = some (.lst (List.replicate many.toNat [p]).flatten, some (L1.map .int) :: rest) := if_pos ⟨by omega, by omega, by
     simp only [List.length_cons, List.length_nil];exact Zl (by omega : _ <= 1000) (by decide)⟩
    simp [e1, v1, w1, hk, e2, em];have hps : ∀ q ∈ List.replicate many.toNat p, oX d.toNat q := λ q hq => by rw [(List.mem_replicate.mp hq).2]; exact hp
    exact ⟨_, L1, ⟨rfl, rfl⟩, λ q hq => (hps q hq).nc, hL1, by simp; omega, hps⟩
   .have c7b : (kind == 7) = false := by simpa using c7
    simp [e1, v1, w1, hk, c5b, c6b, c7b, yU (j := many) (by omega) (by omega)]
    refine gj (λ its δ μ' => ∃ (L : List Int) (acc : List D) (o7 o8 : Option D), μ' = some (L.map .int) :: (rest ++ [some acc]) /\ DlD L /\ (∀ p ∈ acc, oX d.toNat p) /\ acc.length + its.length = many.toNat /\
     δ = [some (.cell 0), some (.int d), some (.int most), some (.int x), some (.int many), some (.int kind), some (.cell (rest.length + 1)), o7, o8]) ?_ ?_ _ _ _ ⟨L1, [], none, none, rfl, hL1, by simp, by simp [jn], rfl⟩
    .rintro i its δ μ' ⟨L, acc, o7, o8, rfl, hL, ha, hl, rfl⟩;obtain ⟨y, M3, e3, hy, hM3⟩ := eU h1 hL (rest ++ [some acc]);have hz : acc.length < sizeLine := Zc (by omega : acc.length < 1000) (by decide)
     have fin : ∀ p, oX d.toNat p -> ∃ (L : List Int) (acc' : List D), some (M3.map D.int) :: (rest ++ [some (acc ++ [p])]) = some (L.map .int) :: (rest ++ [some acc']) /\ DlD L /\ (∀ p ∈ acc', oX d.toNat p) /\ acc'.length + its.length = many.toNat := λ p hp => by
      refine ⟨M3, acc ++ [p], rfl, hM3, λ q hq => ?_, by simp at hl ⊢; omega⟩
      rcases Zm.mp hq with z | z
      .exact ha q z
      .rw [List.mem_singleton.mp z]; exact hp
     obtain ⟨pu, pd⟩ := yI ha;have en := QX (n := rest.length + 1) (ps := acc) (μ := some (M3.map .int) :: (rest ++ [some acc])) (by simp) pu (by omega)
     have t3 := aY (x := y) (m := 3) (by decide)
     have t5 := aY (x := y) (m := 5) (by decide)
     have dv3 := mW (i := y) (j := 3) (μ := some (M3.map .int) :: (rest ++ [some acc])) (by decide) (by decide)
     have dv7 := mW (i := y) (j := 7) (μ := some (M3.map .int) :: (rest ++ [some acc])) (by decide) (by decide)
     have mm := bI (x := y.fmod 5) (y := 30) (some (M3.map .int) :: (rest ++ [some acc])) (a := 5) (b := 5) (by unfold Sm; omega) (by unfold Sm; decide) (by decide)
     have kk : 0 <= (kind.fmod 8).fmod 5 /\ (kind.fmod 8).fmod 5 <= 4 := by have := aY (x := kind.fmod 8) (m := 5) (by decide); omega
     obtain ⟨p, e4, hp⟩ := h4 (y.fdiv 7) d ((kind.fmod 8).fmod 5) (y.fmod 5 * 30) (some (M3.map .int) :: (rest ++ [some acc])) (iD.dr (λ ds hd => by
       rcases Zm.mp hd with z | z
       .exact hm ds z
       .simp at z; subst z; exact λ q hq => (ha q hq).nc)) (by
        have := hy.1;have := hy.2;refine ⟨?_, ?_⟩
        .exact (MK hy.sm hy.1 (by decide)).2
        .have := nM (x := y) (y := 7) (by decide); omega) d1 d3 kk.1 kk.2 (by omega) (by omega)
     by_cases ctest : kind = 8 /\ acc ≠ [] /\ y.fmod 3 = 0
     .obtain ⟨k8, hne, y3⟩ := ctest;subst k8;have hpos : 0 < acc.length := List.length_pos_iff.mpr hne;obtain ⟨i0, i1⟩ := aY (x := y.fdiv 3) (m := acc.length) (by omega)
      obtain ⟨q, hq, eq⟩ := mG i0 i1;have wl := fU (x := y.fdiv 3) (y := (acc.length : Int)) (some (M3.map .int) :: (rest ++ [some acc])) (by omega)
      have hemp : acc.isEmpty = false := by cases acc <;> simp_all
      have olen : bC (.cell (rest.length + 1)) (some (M3.map .int) :: (rest ++ [some acc])) = some (.int acc.length, some (M3.map .int) :: (rest ++ [some acc])) := by simp [bC, cj]
      simp [e3, en, hemp, y3, dv3, olen, wl, cj, eq, iQ, gD, hz];simpa using fin q (ha q hq)
     .simp [e3];by_cases k8 : kind = 8
      .subst k8;rw [show ((8 : Int).fmod 8).fmod 5 = 0 from rfl] at e4;simp [en];cases hac : acc.isEmpty with
       | true =>
        simp [dv7, mm, e4, iQ, gD, hz];simpa using fin p hp
       | false =>
        have y3 : ¬ y.fmod 3 = 0 := λ z => ctest ⟨rfl, (λ z2 => by rw [z2] at hac; cases hac), z⟩
        have y3b : (y.fmod 3 == 0) = false := by simpa using y3
        simp [y3b, dv7, mm, e4, iQ, gD, hz];simpa using fin p hp
      .have k8b : (kind == 8) = false := by simpa using k8
       simp [k8b, dv7, mm, e4, iQ, gD, hz];simpa using fin p hp
    .rintro δ μ' ⟨L, acc, o7, o8, rfl, hL, ha, hl, rfl⟩;simp;exact ⟨acc, L, ⟨rfl, rfl⟩, λ p hp => (ha p hp).nc, hL, by simp at hl; omega, ha⟩
theorem Iv {ps : List D} {μ : Mu} (h1 : eY ps = true) (h2 : jz ps < 90) : oEq (.lst ps) (.lst []) μ = some (.bl ps.isEmpty, μ) := by
 unfold oEq;have e1 : rsv (.lst ps) μ = .lst ps := rfl;have e2 : rsv (.lst []) μ = .lst [] := rfl;rw [e1, e2];have e3 : cN (.lst ps) = true := by rw [cN]; exact h1
 have e4 : cN (.lst []) = true := by rw [cN, eY]
 have e5 : ir (.lst ps) < 100 := by rw [ir]; omega
 have e6 : eqD (.lst ps) (.lst []) = ps.isEmpty := by cases ps <;> rw [eqD] <;> simp [jd]
 rw [e3, e4, e6, if_pos ⟨rfl, e5⟩]
theorem pY {b : Nat} {x : Int} (n : Nat) (h : x.natAbs < n) (hn : n <= 2 ^ b) : Sm b x := Zc h hn
def aJ (r : List Int) : D := .tup (r.map .int)
@[simp] theorem Ub {r : List Int} {μ : Mu} : cj (aJ r) μ = some (r.map .int) := rfl
@[simp] theorem yt {r : List Int} {μ : Mu} : bC (aJ r) μ = some (.int r.length, μ) := by simp [aJ]
def pairD (p : Int × Int) : D := .tup [.int p.1, .int p.2]
theorem qZ {α : Type} {F : α -> D} {l : List α} {k : Int} {z : α} (h0 : 0 <= k) (h1 : k < l.length) : atI (l.map F) k = some (F (l.getD k.toNat z)) /\ l.getD k.toNat z ∈ l := by
 have hk : k.toNat < l.length := by omega
 have e : l.getD k.toNat z = l[k.toNat] := by simp [List.getD, hk]
 refine ⟨?_, by rw [e]; exact List.getElem_mem hk⟩
 unfold atI ixN;rw [if_pos h0, if_pos (by simpa using h1), e]
 simp [hk]
theorem lU {α β : Type} {F : α -> D} {G : β -> D} : ∀ (a : List α) (b : List β), kh (a.map F) (b.map G) = (a.zip b).map λ p => .tup [F p.1, G p.2]
 | [], _ => by simp [kh]
 | a :: as, [] => by simp [kh]
 | a :: as, b :: bs => by simp [kh, lU as bs]
theorem vz {α : Type} {th : D -> gJ} {F : α -> D} {g : α -> Int} {μ : Mu} : ∀ (l : List α) (a : Int), (∀ x ∈ l, th (F x) μ = some (.int (g x), μ)) -> tV a ((l.map F).map th) μ = some (a + (l.map g).sum, μ)
 | [], a, _ => by simp [tV]
 | x :: l, a, h => by
  have h1 := h x (by simp)
  have ih := vz l (a + g x) λ y hy => h y (by simp [hy])
  rw [Zj, Zj];unfold tV;rw [h1];simp only [Option.bind_some];rw [ih];simp;omega
theorem gQ {α : Type} {all : List D} {h : GF} {fe : EF} {δb : En} {F : α -> D} {f : α -> D} {μ : Mu} : ∀ (l : List α), (∀ x ∈ l, ∃ δ1, h (F x) δb μ = some δ1 /\ fe δ1 μ = some (f x, μ)) -> lcL ⟨all, none⟩ h cT fe δb (l.map F) μ = some (l.map f, μ)
 | [], _ => by simp only [List.map_nil]; unfold lcL; simp [cC]
 | d :: r, hd => by
  obtain ⟨δ1, h1, h2⟩ := hd d (by simp)
  have h3 := gQ (all := all) r λ x hx => hd x (by simp [hx])
  rw [Zj];unfold lcL;simp [cC, h1, cT, h2, h3]
def pU : Int -> List Int -> Int
 | m, [] => m
 | m, b :: bs => pU (m * b.fdiv (Int.gcd m b)) bs
theorem xY {m b : Int} (hm : 1 <= m) (hb : 1 <= b) : 1 <= (Int.gcd m b : Int) /\ ((Int.gcd m b : Int) ∣ b) /\ ((Int.gcd m b : Int) ∣ m) /\ (Int.gcd m b : Int) <= b := by
 have h0 : Int.gcd m b ≠ 0 := by
  intro z;rw [Int.gcd_eq_zero_iff] at z;omega
 refine ⟨by omega, Int.gcd_dvd_right _ _, Int.gcd_dvd_left _ _, Int.le_of_dvd (by omega) (Int.gcd_dvd_right _ _)⟩
theorem uY {m b : Int} (hm : 1 <= m) (hb : 1 <= b) : 1 <= b.fdiv (Int.gcd m b) /\ b.fdiv (Int.gcd m b) <= b /\ (m * b).fdiv (Int.gcd m b) = m * b.fdiv (Int.gcd m b) /\ b ∣ m * b.fdiv (Int.gcd m b) := by
 obtain ⟨g1, g2, g3, g4⟩ := xY hm hb;generalize (Int.gcd m b : Int) = g at *
 rw [Int.fdiv_eq_ediv_of_nonneg b (by omega), Int.fdiv_eq_ediv_of_nonneg (m * b) (by omega)]
 refine ⟨(Int.le_ediv_iff_mul_le (by omega)).mpr (by omega), Int.ediv_le_self _ (by omega), Int.mul_ediv_assoc m g2, ?_⟩
 obtain ⟨c, hc⟩ := g3;obtain ⟨e, he⟩ := g2;have : b / g = e := by rw [he]; exact Int.mul_ediv_cancel_left e (by omega)
 rw [this, hc, he];exact ⟨c, by rw [Int.mul_assoc, Int.mul_comm c e, <- Int.mul_assoc]⟩
theorem HW : ∀ (bs : List Int) (m : Int), 1 <= m -> (∀ b ∈ bs, 1 <= b /\ b < 64) -> 1 <= pU m bs /\ (m ∣ pU m bs) /\ (∀ b ∈ bs, b ∣ pU m bs) /\ ∀ k, Sm k m -> Sm (k + 6 * bs.length) (pU m bs)
 | [], m, hm, _ => ⟨hm, Int.dvd_refl _, by simp, λ k h => h⟩
 | b :: bs, m, hm, hb => by
  obtain ⟨b1, b2⟩ := hb b (by simp)
  obtain ⟨f1, f2, f3, f4⟩ := uY hm b1;have hm' : 1 <= m * b.fdiv (Int.gcd m b) := by
   have := Int.mul_le_mul hm f1 (by decide) (by omega)
   omega
  obtain ⟨h1, h2, h3, h4⟩ := HW bs (m * b.fdiv (Int.gcd m b)) hm' λ c hc => hb c (by simp [hc])
  show 1 <= pU (m * b.fdiv (Int.gcd m b)) bs /\ _;refine ⟨h1, Int.dvd_trans (Int.dvd_mul_right _ _) h2, λ c hc => ?_, λ k hk => ?_⟩
  .rcases Zi.mp hc with z | z
   .rw [z]; exact Int.dvd_trans f4 h2
   .exact h3 c z
  .have := h4 (k + 6) (jm hk (pY 64 (by omega) (by decide)))
   refine bZ this ?_;simp only [List.length_cons];omega
def JK (φ : FF) : Prop := ∀ (bs : List Int) (μ : Mu), (∀ b ∈ bs, 1 <= b /\ b < 64) -> bs.length <= 100 -> φ [.lst (bs.map .int)] μ = some (.int (pU 1 bs), μ)
theorem Lz {φ : FF} (hφ : ph φ) : JK (trunc (aH 3 (cW φ))) := λ bs μ hb hl => by
 apply bM;unfold cW;simp;refine gj (λ its δ μ' => ∃ (ms : List Int) (m : Int) (o : Option D) (k : Nat), its = ms.map .int /\ μ' = μ /\ pU m ms = pU 1 bs /\ 1 <= m /\ Sm k m /\ k + 6 * ms.length <= 700 /\ (∀ b ∈ ms, 1 <= b /\ b < 64) /\ δ = [some (.lst (bs.map .int)), some (.int m), o]) ?_ ?_ _ _ _ ⟨bs, 1, none, 1, rfl, rfl, rfl, by decide, by unfold Sm; decide, by omega, hb, rfl⟩
 .rintro d rest δ μ' ⟨ms, m, o, k, hi, rfl, hm, m1, hk, hkl, hb, rfl⟩;cases ms with
  | nil => cases hi
  | cons b ms =>
   cases hi;obtain ⟨b1, b2⟩ := hb b (by simp)
   obtain ⟨g1, g2, g3, g4⟩ := xY m1 b1;obtain ⟨f1, f2, f3, f4⟩ := uY m1 b1;have sb : Sm 6 (b.fdiv (Int.gcd m b)) := pY 64 (by omega) (by decide)
   have eg := hφ m b μ';have ed := ju (x := b) (y := (Int.gcd m b : Int)) (b := 6) μ' (by omega) (pY 64 (by omega) (by decide)) (by decide)
   have em := RL (i := m) (j := b.fdiv (Int.gcd m b)) (μ := μ') (CQ hk sb (by simp at hkl; omega))
   simp only [List.length_cons] at hkl;simp [Gd, eg, ed, em];refine ⟨ms, rfl, _, hm, ?_, _, k + 6, jm hk sb, by omega, λ c hc => hb c (List.mem_cons_of_mem _ hc), rfl, rfl⟩
   have := Int.mul_le_mul m1 f1 (by decide) (by omega)
   omega
 .rintro δ μ' ⟨ms, m, o, k, hi, rfl, hm, m1, hk, hkl, hb, rfl⟩;cases ms with
  | nil =>
   have hm : m = pU 1 bs := hm;subst hm;simp
  | cons b ms => cases hi
def dot (ws cs : List Int) : Int := ((ws.zip cs).map λ p => p.1 * p.2).sum
def KY (φ : FF) : Prop := ∀ (ws cs : List Int) (μ : Mu), (∀ w ∈ ws, Sm 9000 w) -> (∀ c ∈ cs, Sm 9000 c) -> φ [.lst (ws.map .int), .lst (cs.map .int)] μ = some (.int (dot ws cs), μ)
theorem Tc : KY (trunc (aH 2 bL)) := λ ws cs μ hw hc => by
 apply bM;have e := vz (th := thG (jD 2 (bN (hName 0) (bN (hName 1) jB))) (M2 (aq 0) (aq 1) cU) (dg ["one", "other"] [some (.lst (ws.map .int)), some (.lst (cs.map .int))] [])) (F := λ p : Int × Int => .tup [D.int p.1, .int p.2]) (g := λ p => p.1 * p.2) (μ := μ) (ws.zip cs) 0 λ p hp => by
  obtain ⟨p1, p2⟩ := p;have hm := List.of_mem_zip hp;have := bI (x := p1) (y := p2) μ (hw _ hm.1) (hc _ hm.2) (by decide)
  simp [thG, dg, this]
 have ez := lU (F := D.int) (G := D.int) ws cs;unfold dot;simp [bL, ez];rw [List.map_map] at e;rw [e];simp
def bJ (r : List Int) : Int := r.getLastD 0
def wts (M : Int) (rs : List (List Int)) (ss : List Int) : List Int := (ss.zip rs).map λ p => p.1 * M.fdiv (bJ p.2)
def col (rs : List (List Int)) (i : Nat) : List Int := rs.map λ r => r.getD i 0
def fV (rs : List (List Int)) : Int := pU 1 (rs.map bJ)
def gq (d1 : Nat) (rs : List (List Int)) (ss : List Int) : List Int := (List.range d1).map λ i => dot (wts (fV rs) rs ss) (col rs i)
def mx (v : List Int) : List Int := v.map λ n => n.fdiv (bK 0 v : Nat)
structure fO (d1 : Nat) (r : List Int) : Prop where
 len : r.length = d1
 sm : ∀ n ∈ r, n.natAbs <= 10000
 b1 : 1 <= bJ r
 b2 : bJ r < 64
theorem PtL.row (h : PtL d ns b) : fO (d + 1) (ns ++ [b]) := ⟨by simp [h.1], λ n hn => by
 rcases Zm.mp hn with z | z
 .exact h.2.1 n z
 .rw [List.mem_singleton.mp z]; have := h.2.2; omega, by unfold bJ; simp; exact h.2.2.1, by unfold bJ; simp; have := h.2.2.2; omega⟩
theorem qX {d1 : Nat} {r : List Int} (h : fO d1 r) (hd : 1 <= d1) : atI (r.map D.int) (-1) = some (.int (bJ r)) := rD (λ z => by have := h.len; rw [z] at this; simp at this; omega)
theorem qW {d1 : Nat} {rs : List (List Int)} (h : ∀ r ∈ rs, fO d1 r) : 1 <= fV rs /\ (∀ r ∈ rs, bJ r ∣ fV rs) /\ Sm (1 + 6 * rs.length) (fV rs) := by
 obtain ⟨h1, _, h3, h4⟩ := HW (rs.map bJ) 1 (by decide) λ b hb => by
  obtain ⟨r, hr, rfl⟩ := Zq.mp hb;exact ⟨(h r hr).b1, (h r hr).b2⟩
 refine ⟨h1, λ r hr => h3 _ (Zq.mpr ⟨r, hr, rfl⟩), ?_⟩;have := h4 1 (by unfold Sm; decide)
 rw [Zu] at this;exact this
def HJ (φ : FF) : Prop := ∀ (d1 : Nat) (rs : List (List Int)) (ss : List Int) (μ : Mu), 1 <= d1 -> (∀ r ∈ rs, fO d1 r) -> rs.length <= 60 -> ss.length <= 60 -> (∀ s ∈ ss, Sm 3000 s) -> φ [.lst (rs.map aJ), .lst (ss.map .int)] μ = some (.lst ((wts (fV rs) rs ss).map .int), μ)
theorem over_of {φ : FF} (hφ : JK φ) : HJ (trunc (aH 3 (eZ φ))) := λ d1 rs ss μ hd hr hl hl2 hs => by
 apply bM;have e1 := gQ (all := rs.map aJ) (h := hName 0) (fe := M2 (aq 0) (M1 (mC (.int 1)) gG) oIx) (δb := dg ["point"] [some (.lst (rs.map aJ)), some (.lst (ss.map .int)), none] []) (F := aJ) (f := λ r => .int (bJ r)) (μ := μ) rs λ r h => ⟨_, rfl, by simp [dg, qX (hr r h) hd]⟩
 have e1' : rs.map (λ r => D.int (bJ r)) = (rs.map bJ).map D.int := by simp
 rw [e1'] at e1;have e2 := hφ (rs.map bJ) μ (λ b hb => by
  obtain ⟨r, h, rfl⟩ := Zq.mp hb;exact ⟨(hr r h).b1, (hr r h).b2⟩) (by simp; omega)
 obtain ⟨hM1, hM2, hM3⟩ := qW hr;have e3 := gQ (all := (ss.zip rs).map λ p => D.tup [.int p.1, aJ p.2]) (h := jD 2 (bN (hName 0) (bN (hName 1) jB))) (fe := M2 (aq 0) (M2 (aq 2) (M2 (aq 1) (M1 (mC (.int 1)) gG) oIx) oDiv) cU) (δb := dg ["number", "point"] [some (.lst (rs.map aJ)), some (.lst (ss.map .int)), some (.int (fV rs))] [2]) (F := λ p : Int × List Int => D.tup [.int p.1, aJ p.2]) (f := λ p => .int (p.1 * (fV rs).fdiv (bJ p.2))) (μ := μ) (ss.zip rs) λ p hp => by
  obtain ⟨s, r⟩ := p;have hm := List.of_mem_zip hp;have hrr := hr r hm.2;have ed := ju (x := fV rs) (y := bJ r) (b := 6) μ (by have := hrr.b1; omega) (pY 64 (by have := hrr.b1; have := hrr.b2; omega) (by decide)) (by decide)
  have em := bI (x := s) (y := (fV rs).fdiv (bJ r)) (a := 3000) (b := 1 + 6 * rs.length) μ (hs s hm.1) (kZ hM3 (by have := hrr.b1; omega)) (by omega)
  refine ⟨[some (.int s), some (aJ r), some (.int (fV rs))], by simp [dg], ?_⟩
  simp [qX hrr hd, ed, em]
 have ez := lU (F := D.int) (G := aJ) ss rs;have e3' : (ss.zip rs).map (λ p => D.int (p.1 * (fV rs).fdiv (bJ p.2))) = (wts (fV rs) rs ss).map D.int := by unfold wts; simp
 rw [e3'] at e3;have hz1 : rs.length <= 1000 := by omega
 have hz2 : (ss.zip rs).length <= 1000 := by simp; omega
 have e2' : φ [.lst ((rs.map bJ).map D.int)] μ = some (.int (fV rs), μ) := e2;generalize (rs.map bJ).map D.int = bD at *
 generalize (wts (fV rs) rs ss).map D.int = wD at *
 unfold eZ;simp only [List.length_zip] at hz2;simp [hz1, hz2, e1, e2', ez, e3]
theorem Ex (h : ∀ r ∈ rs, fO d1 r) (hi : i < d1) : ∀ c ∈ col rs i, c.natAbs <= 10000 := λ c hc => by
 obtain ⟨r, hr, rfl⟩ := Zq.mp hc;have hl := (h r hr).len;have hk : i < r.length := by omega
 have : r.getD i 0 = r[i] := by simp [List.getD, hk]
 rw [this];exact (h r hr).sm _ (List.getElem_mem hk)
def xG (φ : FF) : Prop := ∀ (d1 : Nat) (rs : List (List Int)) (ws : List Int) (μ : Mu), 1 <= d1 -> d1 <= 100 -> rs ≠ [] -> (∀ r ∈ rs, fO d1 r) -> rs.length <= 60 -> (∀ w ∈ ws, Sm 9000 w) -> φ [.lst (rs.map aJ), .lst (ws.map .int)] μ = some (.lst (((List.range d1).map λ i => dot ws (col rs i)).map .int), μ)
theorem yx {φ : FF} (hφ : KY φ) {d1 : Nat} {rs : List (List Int)} {ws : List Int} {μ : Mu} (hr : ∀ r ∈ rs, fO d1 r) (hz1 : rs.length <= 1000) (hw : ∀ w ∈ ws, Sm 9000 w) (i : Nat) (hi : i < d1) :
  MC (ao (aq 1) (ao (mFz (lLC ["row"] [0] (fL (aq 2)) (hName 0) (cT) (M2 (aq 0) (aq 1) oIx))) (aB))) φ [some (.int (0 + (i : Int))), some (.lst (ws.map .int)), some (.lst (rs.map aJ))] μ = some (.int (dot ws (col rs i)), μ) := by
 have e1 := gQ (all := rs.map aJ) (h := hName 0) (fe := M2 (aq 0) (aq 1) oIx) (δb := [none, some (.int (0 + (i : Int)))]) (F := aJ) (f := λ r => .int (r.getD i 0)) (μ := μ) rs λ r h => ⟨_, rfl, by
  have hk : ((0 : Int) + i) < r.length := by have := (hr r h).len; omega
  obtain ⟨a1, _⟩ := mH (ys := r) (k := 0 + (i : Int)) (by omega) hk
  have : (0 + (i : Int)).toNat = i := by omega
  rw [this] at a1;generalize r.getD i 0 = z at *
  generalize (0 + (i : Int)) = j at *
  simp [a1]⟩
 have e1' : rs.map (λ r => D.int (r.getD i 0)) = (col rs i).map D.int := by unfold col; simp
 rw [e1'] at e1;have e2 := hφ ws (col rs i) μ hw λ c hc => bZ (pY (b := 14) 10001 (by have := Ex hr hi c hc; omega) (by decide)) (by decide)
 generalize (col rs i).map D.int = cD at *
 generalize dot ws (col rs i) = z at *
 generalize (0 + (i : Int)) = j at *
 simp [hz1, dg, e1, e2]
theorem KD {F : EF} {δ : En} {μ : Mu} {k : Int} (h0 : 0 <= k) (h1 : k <= 100000) (a : F δ μ = some (.int k, μ)) : cg (ao F aB) δ μ = some (⟨dY 0 k.toNat, none⟩, μ) := by
 have rr := yU (j := k) (μ := μ) (by omega) (by omega)
 rw [RT, BW, a];simp only [Option.bind_some, HH];exact rr
theorem La {F : EF} {δ : En} {μ : Mu} {r : List Int} {d1 : Nat} (hl : r.length = d1) (a : F δ μ = some (aJ r, μ)) : MC (ao F aB) (aX bC) δ μ = some (.int d1, μ) := by
 rw [Vs, BW, a];simp only [Option.bind_some, HH, PL, yt, hl]
theorem DK {φ : FF} (hφ : KY φ) : xG (trunc (aH 2 (jQ φ))) := λ d1 rs ws μ hd hd2 hne hr hl hw => by
 apply bM;have hz1 : rs.length <= 1000 := by omega
 have e3 := gQ (all := dY 0 d1) (h := hName 0) (fe := MC (ao (aq 1) (ao (mFz (lLC ["row"] [0] (fL (aq 2)) (hName 0) (cT) (M2 (aq 0) (aq 1) oIx))) (aB))) φ) (δb := dg ["at"] [some (.lst (rs.map aJ)), some (.lst (ws.map .int))] [1, 0]) (F := λ i : Nat => D.int (0 + (i : Int))) (f := λ i => .int (dot ws (col rs i))) (μ := μ) (List.range d1) λ i hi =>
  ⟨[some (.int (0 + (i : Int))), some (.lst (ws.map .int)), some (.lst (rs.map aJ))], by simp [dg], yx hφ hr hz1 hw i (List.mem_range.mp hi)⟩
 have e3' : (List.range d1).map (λ i => D.int (dot ws (col rs i))) = ((List.range d1).map λ i => dot ws (col rs i)).map D.int := by simp
 rw [e3'] at e3;have er : (List.range d1).map (λ i : Nat => D.int (0 + (i : Int))) = dY 0 d1 := rfl;rw [er] at e3;have h0 : ∃ r0, atI (rs.map aJ) 0 = some (aJ r0) /\ r0 ∈ rs := by
  obtain ⟨a, b⟩ := qZ (F := aJ) (l := rs) (k := 0) (z := []) (by decide) (by have := List.length_pos_iff.mpr hne; omega)
  exact ⟨_, a, b⟩
 obtain ⟨r0, a0, hr0⟩ := h0;have hlen0 := (hr r0 hr0).len;generalize ((List.range d1).map λ i => dot ws (col rs i)).map D.int = wD at *
 have it : cg (ao (MC (ao (M2 (aq 0) (mC (.int 0)) oIx) (aB)) (aX bC)) (aB)) [some (.lst (rs.map aJ)), some (.lst (ws.map .int))] μ = some (⟨dY 0 d1, none⟩, μ) := by
  have := KD (k := (d1 : Int)) (by omega) (by omega) (La (F := M2 (aq 0) (mC (.int 0)) oIx) (δ := [some (.lst (rs.map aJ)), some (.lst (ws.map .int))]) (μ := μ) hlen0 (by simp [a0]))
  rwa [show ((d1 : Int)).toNat = d1 by omega] at this
 have hz2 : (dY 0 d1).length <= sizeLine := by rw [jn]; exact Zl (by omega : _ <= 1000) (by decide)
 unfold jQ;generalize cg (ao (MC (ao (M2 (aq 0) (mC (.int 0)) oIx) (aB)) (aX bC)) (aB)) = IT at it ⊢;simp [it, hz2, e3]
def rowsOf (ps : List (List Int)) (sh : List (Int × Int)) : List (List Int) := sh.map λ x => ps.getD x.1.toNat []
def Ho (n : Nat) (sh : List (Int × Int)) : Prop := ∀ x ∈ sh, 0 <= x.1 /\ x.1 < n /\ 1 <= x.2 /\ Sm 2000 x.2
theorem rB {d1 : Nat} {ps : List (List Int)} {sh : List (Int × Int)} (hp : ∀ p ∈ ps, fO d1 p) (hs : Ho ps.length sh) : ∀ r ∈ rowsOf ps sh, fO d1 r := λ r hr => by
 obtain ⟨x, hx, rfl⟩ := Zq.mp hr;obtain ⟨h0, h1, _⟩ := hs x hx;exact hp _ (qZ (F := aJ) (l := ps) (k := x.1) (z := []) h0 h1).2
theorem qu : dot (w :: ws) (c :: cs) = w * c + dot ws cs := by unfold dot; simp
theorem Bv (M : Int) : ∀ (rs : List (List Int)) (ss : List Int), rs.length = ss.length -> (∀ r ∈ rs, 1 <= bJ r /\ bJ r ∣ M) -> dot (wts M rs ss) (rs.map bJ) = M * ss.sum
 | [], ss, h, _ => by
  have : ss = [] := List.eq_nil_of_length_eq_zero (by simpa using h.symm)
  subst this;simp [dot, wts]
 | r :: rs, [], h, _ => by simp at h
 | r :: rs, s :: ss, h, hr => by
  have ih := Bv M rs ss (by simpa using h) λ x hx => hr x (by simp [hx])
  obtain ⟨b1, b2⟩ := hr r (by simp)
  have e1 : wts M (r :: rs) (s :: ss) = s * M.fdiv (bJ r) :: wts M rs ss := by simp [wts]
  rw [e1, Zj, qu, ih, List.sum_cons, Int.mul_add];congr 1
  rw [Int.fdiv_eq_ediv_of_nonneg M (by omega), Int.mul_assoc, Int.ediv_mul_cancel b2, Int.mul_comm]
theorem Il (hd : 1 <= d1) (h : ∀ r ∈ rs, fO d1 r) : col rs (d1 - 1) = rs.map bJ := by
 unfold col;apply List.map_congr_left;intro r hr;have hl := (h r hr).len;have hne : r ≠ [] := λ z => by rw [z] at hl; simp at hl; omega
 unfold bJ;rw [List.getLastD_eq_getLast?, List.getLast?_eq_getElem?, hl];rfl
theorem Dq : ∀ (ss : List Int) (k : Nat), (∀ s ∈ ss, 1 <= s /\ Sm k s) -> (0 <= ss.sum /\ (ss ≠ [] -> 1 <= ss.sum)) /\ ss.sum.natAbs <= ss.length * 2 ^ k
 | [], k, _ => by simp
 | s :: ss, k, h => by
  obtain ⟨h1, h2⟩ := h s (by simp)
  obtain ⟨⟨i1, i2⟩, i3⟩ := Dq ss k λ x hx => h x (by simp [hx])
  rw [List.sum_cons, List.length_cons, Nat.succ_mul];refine ⟨⟨by omega, λ _ => by omega⟩, ?_⟩
  unfold Sm at h2;have := Int.natAbs_add_le s ss.sum;omega
structure VP (d1 : Nat) (rs : List (List Int)) (ss : List Int) : Prop where
 v : (gq d1 rs ss).length = d1
 lst : (gq d1 rs ss).getLastD 0 = fV rs * ss.sum
 pos : 1 <= fV rs * ss.sum
 sm : Sm 3000 (fV rs * ss.sum)
 g0 : bK 0 (gq d1 rs ss) ≠ 0
 gs : Sm 3000 (bK 0 (gq d1 rs ss) : Nat)
theorem DQ {d1 : Nat} {rs : List (List Int)} {ss : List Int} (hd : 1 <= d1) (hr : ∀ r ∈ rs, fO d1 r) (hl : rs.length = ss.length) (h60 : rs.length <= 60) (hne : rs ≠ []) (hs : ∀ s ∈ ss, 1 <= s /\ Sm 2000 s) : VP d1 rs ss := by
 obtain ⟨M1', M2', M3'⟩ := qW hr;have el := Bv (fV rs) rs ss hl λ r h => ⟨(hr r h).b1, M2' r h⟩;obtain ⟨⟨s0, s1⟩, s2⟩ := Dq ss 2000 hs;have sne : ss ≠ [] := λ z => by rw [z] at hl; exact hne (List.eq_nil_of_length_eq_zero (by simpa using hl))
 have sp := s1 sne;have ssm : Sm 2006 ss.sum := by
  unfold Sm;have : ss.length * 2 ^ 2000 < 2 ^ 6 * 2 ^ 2000 := Nat.mul_lt_mul_of_pos_right (by omega) (Nat.two_pow_pos _)
  rw [<- Nat.pow_add] at this;omega
 have hpos : 1 <= fV rs * ss.sum := by
  have := Int.mul_le_mul M1' sp (by decide) (by omega)
  omega
 have hsm : Sm 3000 (fV rs * ss.sum) := bZ (jm M3' ssm) (by omega)
 have hlast : (gq d1 rs ss).getLastD 0 = fV rs * ss.sum := by
  unfold gq;rw [List.getLastD_eq_getLast?, List.getLast?_map, List.getLast?_range, if_neg (by omega)]
  simp only [Option.map_some, Option.getD_some];rw [Il hd hr, el]
 have hmem : fV rs * ss.sum ∈ gq d1 rs ss := by
  rw [<- hlast];have hne' : gq d1 rs ss ≠ [] := by unfold gq; simp; omega
  rw [List.getLastD_eq_getLast?, List.getLast?_eq_some_getLast hne'];exact List.getLast_mem hne'
 have hg0 : bK 0 (gq d1 rs ss) ≠ 0 := oA (.inr ⟨_, hmem, by omega⟩)
 refine ⟨by unfold gq; simp, hlast, hpos, hsm, hg0, ?_⟩
 have := Lr (g := 0) hmem (by omega)
 unfold Sm at *
 simp only [Int.natAbs_natCast];omega
def yE (φ : FF) : Prop := ∀ (d1 : Nat) (ps : List (List Int)) (sh : List (Int × Int)) (μ : Mu), 1 <= d1 -> d1 <= 10 -> (∀ p ∈ ps, fO d1 p) -> sh ≠ [] -> sh.length <= 60 -> Ho ps.length sh -> φ [.lst (ps.map aJ), .tup (sh.map pairD)] μ = some (aJ (mx (gq d1 (rowsOf ps sh) (sh.map (·.2)))), μ)
theorem JV {φ1 φ2 φ3 : FF} (h1 : HJ φ1) (h2 : xG φ2) (h3 : Cj φ3) : yE (trunc (aH 4 (oR φ1 φ2 φ3))) := λ d1 ps sh μ hd hd2 hp hne hl hs => by
 apply bM;have hr := rB hp hs;have hss : ∀ s ∈ sh.map (·.2), 1 <= s /\ Sm 2000 s := λ s h => by
  obtain ⟨x, hx, rfl⟩ := Zq.mp h;exact ⟨(hs x hx).2.2.1, (hs x hx).2.2.2⟩
 have hlr : (rowsOf ps sh).length = (sh.map (·.2)).length := by unfold rowsOf; simp
 have hl60 : (rowsOf ps sh).length <= 60 := by unfold rowsOf; simp; exact hl
 have hrne : rowsOf ps sh ≠ [] := by unfold rowsOf; simpa using hne
 have mo := DQ hd hr hlr hl60 hrne hss;obtain ⟨M1', M2', M3'⟩ := qW hr;have e1 := gQ (all := sh.map pairD) (h := jD 2 (bN (hName 0) (bN (hName 1) jB))) (fe := M2 (aq 2) (aq 0) oIx) (δb := [none, none, some (.lst (ps.map aJ))]) (F := pairD) (f := λ x => aJ (ps.getD x.1.toNat [])) (μ := μ) sh λ x hx => by
  obtain ⟨k, s⟩ := x;obtain ⟨k0, k1, _⟩ := hs _ hx;refine ⟨[some (.int k), some (.int s), some (.lst (ps.map aJ))], by simp [pairD], ?_⟩
  have := (qZ (F := aJ) (l := ps) (k := k) (z := []) k0 k1).1;simp only at this ⊢;generalize ps.getD k.toNat [] = r at *
  simp [this]
 have e1' : sh.map (λ x => aJ (ps.getD x.1.toNat [])) = (rowsOf ps sh).map aJ := by unfold rowsOf; simp
 rw [e1'] at e1;have e2 := gQ (all := sh.map pairD) (h := jD 2 (bN (hName 0) (bN (hName 1) jB))) (fe := aq 1) (δb := [none, none]) (F := pairD) (f := λ x => .int x.2) (μ := μ) sh λ x hx => ⟨[some (.int x.1), some (.int x.2)], by simp [pairD], by simp⟩
 have e2' : sh.map (λ x => D.int x.2) = (sh.map (·.2)).map D.int := by simp
 rw [e2'] at e2;generalize sh.map (·.2) = ss at *
 generalize rowsOf ps sh = rs at *
 have e3 := h1 d1 rs ss μ hd hr hl60 (by omega) (λ s h => bZ (hss s h).2 (by decide))
 have hw : ∀ w ∈ wts (fV rs) rs ss, Sm 9000 w := λ w hw => by
  obtain ⟨⟨s, r⟩, hx, rfl⟩ := Zq.mp hw;have hm := List.of_mem_zip hx;exact bZ (jm (hss s hm.1).2 (kZ M3' (show 0 < bJ r by have := (hr r hm.2).b1; omega))) (by omega)
 have e4 := h2 d1 rs (wts (fV rs) rs ss) μ hd (by omega) hrne hr hl60 hw
 have e5 := h3 (gq d1 rs ss) μ mo.g0 (bZ mo.gs (by decide)) (by rw [mo.v]; omega)
 have e5' : (gq d1 rs ss).map (λ n => D.int (n.fdiv (bK 0 (gq d1 rs ss) : Nat))) = (mx (gq d1 rs ss)).map D.int := by unfold mx; simp
 rw [e5'] at e5;have e4' : φ2 [.lst (rs.map aJ), .lst ((wts (fV rs) rs ss).map .int)] μ = some (.lst ((gq d1 rs ss).map .int), μ) := e4;generalize (gq d1 rs ss).map D.int = vD at *
 generalize (wts (fV rs) rs ss).map D.int = wD at *
 have hz : sh.length <= 1000 := by omega
 unfold oR;simp [hz, dg, e1, e2, e3, e4', e5, aJ]
@[simp] theorem TX {μ : Mu} {ds : List D} : cj (.cell μ.length) (μ ++ [some ds]) = some ds := by unfold cj; simp
def fnL (d : Nat) (g : Nat -> Int) : List D := ((List.range d).map g).map D.int
theorem yK : (fnL d g).length = d := by unfold fnL; simp
theorem Su (h : j < d) : atI (fnL d g) (0 + (j : Int)) = some (.int (g j)) := by
 unfold atI ixN;rw [if_pos (by omega), if_pos (by rw [yK]; omega)]
 have : (0 + (j : Int)).toNat = j := by omega
 simp only [Option.bind_some, this];unfold fnL;simp [h]
theorem QV (h : j < d) : ixN (fnL d g).length (0 + (j : Int)) = some j := by
 unfold ixN;rw [if_pos (by omega), if_pos (by rw [yK]; omega)]
 congr 1
 omega
theorem Oj : (fnL d g).set j (.int x) = fnL d (λ i => if i = j then x else g i) := by
 unfold fnL;apply List.ext_getElem
 .simp
 intro i h1 h2;simp at h1 h2;rw [List.getElem_set];by_cases e : j = i
 .subst e; simp
 .have e' : ¬ i = j := λ z => e z.symm;simp [e, e']
theorem Gy (h : ∀ i < d, g i = g' i) : fnL d g = fnL d g' := by
 unfold fnL;congr 1
 apply List.map_congr_left;intro i hi;exact h i (List.mem_range.mp hi)
theorem Ai (h : j < d) : (dY 0 d).drop j = D.int (0 + (j : Int)) :: (dY 0 d).drop (j + 1) := by
 unfold dY;rw [<- List.map_drop, <- List.map_drop, List.drop_eq_getElem_cons (by simpa using h)]
 simp
theorem Od (h : d <= j) : (dY 0 d).drop j = [] := List.drop_of_length_le (by rw [jn]; exact h)
theorem OD (ns : List Int) (b : Int) : bK 0 (ns ++ [b]) = bK b.natAbs ns := by
 have := Pg (s := 1) (b := b) (ns := ns) (.inl rfl);simpa using this
def sG (ps : List (List Int)) (x : Int × Int) : List Int := ps.getD x.1.toNat []
def term (M : Int) (ps : List (List Int)) (i : Nat) (x : Int × Int) : Int := x.2 * (sG ps x).getD i 0 * M.fdiv (bJ (sG ps x))
theorem wG (M : Int) (ps : List (List Int)) (i : Nat) : ∀ sh : List (Int × Int), dot (wts M (rowsOf ps sh) (sh.map (·.2))) (col (rowsOf ps sh) i) = (sh.map (term M ps i)).sum
 | [] => by simp [dot, wts, rowsOf, col]
 | x :: sh => by
  have ih := wG M ps i sh;have e1 : rowsOf ps (x :: sh) = sG ps x :: rowsOf ps sh := rfl;have e2 : wts M (sG ps x :: rowsOf ps sh) (x.2 :: sh.map (·.2)) = x.2 * M.fdiv (bJ (sG ps x)) :: wts M (rowsOf ps sh) (sh.map (·.2)) := by simp [wts]
  have e3 : col (sG ps x :: rowsOf ps sh) i = (sG ps x).getD i 0 :: col (rowsOf ps sh) i := by simp [col]
  rw [e1, Zj, e2, e3, qu, ih, Zj, List.sum_cons];congr 1
  unfold term;rw [Int.mul_assoc, Int.mul_assoc, Int.mul_comm (M.fdiv _)]
noncomputable abbrev Fx : SF := gn (cg (ao (MC (ao (aq 5) (aB)) (aX bC)) (aB))) (hName 7) (aO (bf 8 (M2 (aq 4) (M2 (M2 (aq 0) (aq 3) oIx) (aq 7) oIx) cU)) (wk (M2 (M2 (aq 5) (aq 7) oIx) (M2 (aq 8) (M2 (aq 2) (M2 (M2 (aq 0) (aq 3) oIx) (M1 (mC (.int 1)) gG) oIx) oDiv) cU) cu) (aq 5) (aq 7)))
theorem Sw {d : Nat} {ps : List (List Int)} {M k s t : Int} {μ : Mu} {shD : D} {g : Nat -> Int} {o7 o8 : Option D} (hd : d <= 9) (hp : ∀ p ∈ ps, fO (d + 1) p) (k0 : 0 <= k) (k1 : k < ps.length) (hs : Sm 2000 s) (hM : Sm 400 M) :
  ∃ p7 p8, Fx [some (.lst (ps.map aJ)), some shD, some (.int M), some (.int k), some (.int s), some (.cell μ.length), some (.int t), o7, o8] (μ ++ [some (fnL d g)]) =
   some (.nx, [some (.lst (ps.map aJ)), some shD, some (.int M), some (.int k), some (.int s), some (.cell μ.length), some (.int t), p7, p8], μ ++ [some (fnL d λ i => g i + term M ps i (k, s))]) := by
 suffices h : Ok (Fx [some (.lst (ps.map aJ)), some shD, some (.int M), some (.int k), some (.int s), some (.cell μ.length), some (.int t), o7, o8] (μ ++ [some (fnL d g)])) (λ r => ∃ p7 p8, r =
   (.nx, [some (.lst (ps.map aJ)), some shD, some (.int M), some (.int k), some (.int s), some (.cell μ.length), some (.int t), p7, p8], μ ++ [some (fnL d λ i => g i + term M ps i (k, s))])) by
  obtain ⟨r, e, p7, p8, h⟩ := h;exact ⟨p7, p8, by rw [e, h]⟩
 obtain ⟨ak, hmem⟩ := qZ (F := aJ) (l := ps) (k := k) (z := []) k0 k1;have hr := hp _ hmem;have hrow : sG ps (k, s) = ps.getD k.toNat [] := rfl;have hterm : ∀ i, term M ps i (k, s) = s * (ps.getD k.toNat []).getD i 0 * M.fdiv (bJ (ps.getD k.toNat [])) := λ i => rfl;simp only [hterm];generalize ps.getD k.toNat [] = r at *
 have hlast := qX hr (by omega)
 have hlen : bC (.cell μ.length) (μ ++ [some (fnL d g)]) = some (.int (d : Int), μ ++ [some (fnL d g)]) := by
  unfold bC cj;simp [yK]
 have it : cg (ao (MC (ao (aq 5) (aB)) (aX bC)) (aB)) [some (.lst (ps.map aJ)), some shD, some (.int M), some (.int k), some (.int s), some (.cell μ.length), some (.int t), o7, o8] (μ ++ [some (fnL d g)]) = some (⟨dY 0 d, none⟩, μ ++ [some (fnL d g)]) := by
  have := KD (k := (d : Int)) (F := MC (ao (aq 5) (aB)) (aX bC)) (δ := [some (.lst (ps.map aJ)), some shD, some (.int M), some (.int k), some (.int s), some (.cell μ.length), some (.int t), o7, o8]) (μ := μ ++ [some (fnL d g)]) (by omega) (by omega) (by
   rw [Vs, BW];simp only [yQ, zc, Option.bind_some, HH, PL];exact hlen)
  rwa [show ((d : Int)).toNat = d by omega] at this
 unfold Fx;generalize cg (ao (MC (ao (aq 5) (aB)) (aX bC)) (aB)) = IT at it ⊢;rw [Jr, it];simp only [Option.bind_some];refine gj (λ its δ μ' => ∃ (j : Nat) (g' : Nat -> Int) (p7 p8 : Option D), its = (dY 0 d).drop j /\ μ' = μ ++ [some (fnL d g')] /\ (∀ i < d, g' i = if i < j then g i + s * r.getD i 0 * M.fdiv (bJ r) else g i) /\
  δ = [some (.lst (ps.map aJ)), some shD, some (.int M), some (.int k), some (.int s), some (.cell μ.length), some (.int t), p7, p8]) ?_ ?_ _ _ _ ⟨0, g, o7, o8, rfl, rfl, λ i _ => by simp, rfl⟩
 .rintro it' rest δ μ' ⟨j, g', p7, p8, hi, rfl, hg, rfl⟩;have hj : j < d := by
   by_cases h : j < d
   .exact h
   .rw [Od (by omega)] at hi; cases hi
  rw [Ai hj] at hi;cases hi;have hjr : ((0 : Int) + (j : Int)) < r.length := by have := hr.len; omega
  obtain ⟨aj, hjm⟩ := mH (ys := r) (k := 0 + (j : Int)) (by omega) hjr
  have hto : (0 + (j : Int)).toNat = j := by omega
  rw [hto] at aj hjm;have gat := Su (g := g') hj;have gix := QV (g := g') hj;have hsj := hr.sm _ hjm;have b1 := hr.b1;have b2 := hr.b2;have hgj := hg j hj;rw [if_neg (by omega)] at hgj
  generalize hrj : r.getD j 0 = rj at *
  have em1 := bI (x := s) (y := rj) (μ ++ [some (fnL d g')]) hs (pY (b := 14) 10001 (by omega) (by decide)) (by decide)
  have ed := ju (x := M) (y := bJ r) (b := 6) (μ ++ [some (fnL d g')]) (by omega) (pY 64 (by omega) (by decide)) (by decide)
  have em2 := bI (x := s * rj) (y := M.fdiv (bJ r)) (μ ++ [some (fnL d g')]) (jm hs (pY (b := 14) 10001 (by omega) (by decide))) (kZ hM (by omega)) (by decide)
  generalize hij : (0 + (j : Int)) = ij at *
  simp [ak, aj, em1, gat, hlast, ed, em2, L3.Ay, gix, Oj];refine ⟨j + 1, rfl, _, rfl, λ i hi => ?_⟩;by_cases e : i = j
  .subst e;simp [hgj, <- hrj]
  .have := hg i hi;simp only [if_neg e];rw [this];by_cases c : i < j
   .rw [if_pos c, if_pos (by omega)]; rfl
   .rw [if_neg c, if_neg (by omega)]
 .rintro δ μ' ⟨j, g', p7, p8, hi, rfl, hg, rfl⟩;have hj : d <= j := by
   by_cases h : j < d
   .rw [Ai h] at hi; cases hi
   .omega
  refine ⟨p7, p8, ?_⟩;rw [Gy (g := g') (g' := λ i => g i + s * r.getD i 0 * M.fdiv (bJ r)) λ i hi => by rw [hg i hi, if_pos (by omega)]]
theorem Gm {M : Int} {ps : List (List Int)} {i : Nat} {x : Int × Int} {sh : List (Int × Int)} : ((x :: sh).map (term M ps i)).sum = term M ps i x + (sh.map (term M ps i)).sum := by simp
theorem Dz {d1 : Nat} {ps : List (List Int)} {k : Int} (hp : ∀ p ∈ ps, fO d1 p) (k0 : 0 <= k) (k1 : k < ps.length) : atI (ps.map aJ) k = some (aJ (ps.getD k.toNat [])) /\ fO d1 (ps.getD k.toNat []) := by
 obtain ⟨a, b⟩ := qZ (F := aJ) (l := ps) (k := k) (z := []) k0 k1;exact ⟨a, hp _ b⟩
theorem Gx {m b : Int} {bs : List Int} : pU m (b :: bs) = pU (m * b.fdiv (Int.gcd m b)) bs := rfl
theorem CT {φ1 φ2 : FF} (h1 : ph φ1) (h2 : sX φ2) (d : Nat) (ps : List (List Int)) (sh : List (Int × Int)) (μ : Mu) (hm : iD μ) (hd : 1 <= d) (hd2 : d <= 9) (hp : ∀ p ∈ ps, fO (d + 1) p) (hne : sh ≠ []) (hl : sh.length <= 60) (hs : Ho ps.length sh) :
  trunc (aH 9 (pM φ1 φ2)) [.lst (ps.map aJ), .tup (sh.map pairD)] μ = some (aJ (mx (gq (d + 1) (rowsOf ps sh) (sh.map (·.2)))), μ) := by
 have hr := rB hp hs;have hss : ∀ s ∈ sh.map (·.2), 1 <= s /\ Sm 2000 s := λ s h => by
  obtain ⟨x, hx, rfl⟩ := Zq.mp h;exact ⟨(hs x hx).2.2.1, (hs x hx).2.2.2⟩
 have hlr : (rowsOf ps sh).length = (sh.map (·.2)).length := by unfold rowsOf; simp
 have hl60 : (rowsOf ps sh).length <= 60 := by unfold rowsOf; simp; exact hl
 have hrne : rowsOf ps sh ≠ [] := by unfold rowsOf; simpa using hne
 have mo := DQ (by omega) hr hlr hl60 hrne hss
 obtain ⟨M1', M2', M3'⟩ := qW hr;have hMs : Sm 400 (fV (rowsOf ps sh)) := bZ M3' (by omega)
 have hbs : (rowsOf ps sh).map bJ = sh.map λ x => bJ (sG ps x) := by unfold rowsOf sG; simp
 have eM : pU 1 (sh.map λ x => bJ (sG ps x)) = fV (rowsOf ps sh) := by unfold fV; rw [hbs]
 have eV : gq (d + 1) (rowsOf ps sh) (sh.map (·.2)) = (List.range d).map (λ i => (sh.map (term (fV (rowsOf ps sh)) ps i)).sum) ++ [fV (rowsOf ps sh) * (sh.map (·.2)).sum] := by
  have hlast := mo.lst;unfold gq at hlast ⊢;rw [List.range_succ, List.map_append] at hlast ⊢;rw [List.getLastD_eq_getLast?] at hlast;simp only [Zj, List.map_nil, List.getLast?_append, List.getLast?_singleton, Option.some_or, Option.getD_some] at hlast;simp only [Zj, List.map_nil];rw [hlast];congr 1
  apply List.map_congr_left;intro i _;exact wG _ _ _ _
 have hpos := mo.pos;have hBs := mo.sm;clear mo;generalize fV (rowsOf ps sh) = M at *
 generalize gq (d + 1) (rowsOf ps sh) (sh.map (·.2)) = V at *
 suffices h : Ok (aH 9 (pM φ1 φ2) [.lst (ps.map aJ), .tup (sh.map pairD)] μ) (λ r => ∃ junk, r = (aJ (mx V), μ ++ junk)) by
  obtain ⟨r, e, junk, h⟩ := h;have h : r = (aJ (mx V), μ ++ junk) := h;rw [h] at e;exact uR e rfl (fM.mpr ue) hm
 apply gH;unfold pM;simp only [Zj, List.map_nil, List.length_cons, List.length_nil, List.cons_append, List.nil_append, Nat.reduceAdd, Nat.reduceSub, List.replicate_succ, List.replicate_zero, KH, IK, w_c, Option.bind_some, ud, uJ, yq, Jr, Ia, yQ, zc, Fv, Option.map_some, List.set_cons_succ, List.set_cons_zero];refine gj (λ its δ μ' => ∃ (xs : List (Int × Int)) (m : Int) (o3 o4 : Option D) (k : Nat), its = xs.map pairD /\ μ' = μ /\ pU m (xs.map λ x => bJ (sG ps x)) = M /\ 1 <= m /\ Sm k m /\ k + 6 * xs.length <= 700 /\ (∀ x ∈ xs, x ∈ sh) /\ δ = [some (.lst (ps.map aJ)), some (.tup (sh.map pairD)), some (.int m), o3, o4, none, none, none, none]) ?_ ?_ _ _ _ ⟨sh, 1, none, none, 1, rfl, rfl, eM, by decide, by unfold Sm; decide, by omega, λ x h => h, rfl⟩
 .rintro dd rest δ μ' ⟨xs, m, o3, o4, k, hi, rfl, hlm, m1, hk, hkl, hsub, rfl⟩;cases xs with
  | nil => cases hi
  | cons x xs =>
   obtain ⟨xk, xs2⟩ := x;cases hi;obtain ⟨k0, k1, _⟩ := hs _ (hsub _ (List.mem_cons_self ..));obtain ⟨ak, hrow⟩ := Dz hp k0 k1;have hrx : sG ps (xk, xs2) = ps.getD xk.toNat [] := rfl;rw [Zj, Gx] at hlm;simp only [hrx] at hlm;simp only at ak hrow k0 k1;generalize ps.getD xk.toNat [] = r at *
   have hlast := qX hrow (by omega)
   have b1 := hrow.b1;have b2 := hrow.b2;generalize bJ r = b at *
   obtain ⟨g1, g2, g3, g4⟩ := xY m1 b1;obtain ⟨f1, f2, f3, f4⟩ := uY m1 b1;have eg := h1 m b μ';have em := bI (x := m) (y := b) μ' hk (pY (b := 6) 64 (by omega) (by decide)) (by simp at hkl; omega)
   have ed := ju (x := m * b) (y := (Int.gcd m b : Int)) (b := 6) μ' (by omega) (pY 64 (by omega) (by decide)) (by decide)
   rw [f3] at ed;have sb : Sm 6 (b.fdiv (Int.gcd m b)) := pY 64 (by omega) (by decide)
   simp only [List.length_cons] at hkl;generalize hm' : m * b.fdiv (Int.gcd m b) = m' at *
   simp [pairD, ak, hlast, em, eg, ed];refine ⟨xs, rfl, m', hlm, ?_, _, _, k + 6, by rw [<- hm']; exact jm hk sb, by omega, λ a b' h => hsub _ (List.mem_cons_of_mem _ h), rfl, rfl, rfl⟩
   have := Int.mul_le_mul m1 f1 (by decide) (by omega)
   omega
 .rintro δ μ' ⟨xs, m, o3, o4, k, hi, rfl, hlm, m1, hk, hkl, hsub, rfl⟩;cases xs with
  | cons b ms => cases hi
  | nil =>
  have hlm : m = M := hlm;subst hlm;obtain ⟨x0, hx0⟩ : ∃ x0, sh.head? = some x0 := by
   cases sh with
   | nil => exact absurd rfl hne
   | cons a b => exact ⟨a, rfl⟩
  have hx0m : x0 ∈ sh := List.mem_of_mem_head? hx0;have a00 : atI (sh.map pairD) 0 = some (pairD x0) := by
   cases sh with
   | nil => cases hx0
   | cons a b => cases hx0; unfold atI ixN; simp
  obtain ⟨x0k, x0s⟩ := x0;obtain ⟨k0, k1, _⟩ := hs _ hx0m;obtain ⟨ak, hrow⟩ := Dz hp k0 k1;simp only at ak hrow k0 k1;have hlen0 := hrow.len;generalize ps.getD x0k.toNat [] = r0 at *
  have at0 : atI [D.int x0k, D.int x0s] 0 = some (.int x0k) := rfl;have eL : zx (MC (ao (mC (.int 0)) (aB)) oLst) (M2 (MC (ao (M2 (aq 0) (M2 (M2 (aq 1) (mC (.int 0)) oIx) (mC (.int 0)) oIx) oIx) (aB)) (aX bC)) (mC (.int 1)) iG) [some (.lst (ps.map aJ)), some (.tup (sh.map pairD)), some (.int m), o3, o4, none, none, none, none] μ' = some (fnL d λ _ => 0, μ') := by
   have e1 : M2 (MC (ao (M2 (aq 0) (M2 (M2 (aq 1) (mC (.int 0)) oIx) (mC (.int 0)) oIx) oIx) (aB)) (aX bC)) (mC (.int 1)) iG [some (.lst (ps.map aJ)), some (.tup (sh.map pairD)), some (.int m), o3, o4, none, none, none, none] μ' = some (.int d, μ') := by
    have e2 : MC (ao (M2 (aq 0) (M2 (M2 (aq 1) (mC (.int 0)) oIx) (mC (.int 0)) oIx) oIx) (aB)) (aX bC) [some (.lst (ps.map aJ)), some (.tup (sh.map pairD)), some (.int m), o3, o4, none, none, none, none] μ' = some (.int (d + 1 : Nat), μ') := La hlen0 (by simp [a00, pairD, at0, ak])
    generalize MC (ao (M2 (aq 0) (M2 (M2 (aq 1) (mC (.int 0)) oIx) (mC (.int 0)) oIx) oIx) (aB)) (aX bC) = F at e2 ⊢;rw [VG, e2];simp
   generalize M2 (MC (ao (M2 (aq 0) (M2 (M2 (aq 1) (mC (.int 0)) oIx) (mC (.int 0)) oIx) oIx) (aB)) (aX bC)) (mC (.int 1)) iG = F at e1 ⊢;have hrep : ∀ z : Int, z = d -> (if -(2 ^ 63) <= z /\ z < 2 ^ 63 /\ [D.int 0].length * z.toNat <= sizeLine then some ((List.replicate z.toNat [D.int 0]).flatten, μ') else none) = some (fnL d λ _ => 0, μ') := λ z hz => by
    rw [if_pos ⟨by omega, by omega, Zl (by simp only [List.length_cons, List.length_nil]; omega : _ <= 1000) (by decide)⟩]
    have : z.toNat = d := by omega
    rw [this];unfold fnL;simp [List.map_const']
   unfold zx;have e3 : MC (ao (mC (.int 0)) (aB)) oLst [some (.lst (ps.map aJ)), some (.tup (sh.map pairD)), some (.int m), o3, o4, none, none, none, none] μ' = some (.lst [.int 0], μ') := by simp
   generalize MC (ao (mC (.int 0)) (aB)) oLst = G at e3 ⊢;rw [e3];simp only [Option.bind_some];obtain ⟨dz, hdz⟩ : ∃ z : Int, z = d := ⟨_, rfl⟩;rw [<- hdz] at e1;rw [e1];exact hrep dz hdz
  generalize zx (MC (ao (mC (.int 0)) (aB)) oLst) (M2 (MC (ao (M2 (aq 0) (M2 (M2 (aq 1) (mC (.int 0)) oIx) (mC (.int 0)) oIx) oIx) (aB)) (aX bC)) (mC (.int 1)) iG) = LR at eL ⊢;simp only [uJ, yq, KH, IK, Vd, eL, Option.bind_some, ud, List.set_cons_succ, List.set_cons_zero, w_c, Jr, Ia, yQ, zc, Fv, Option.map_some];refine gj (λ its δ μ1 => ∃ (xs : List (Int × Int)) (t : Int) (g : Nat -> Int) (o3 o4 o7 o8 : Option D), its = xs.map pairD /\ μ1 = μ' ++ [some (fnL d g)] /\ (∀ x ∈ xs, x ∈ sh) /\ t + (xs.map (·.2)).sum = (sh.map (·.2)).sum /\ (∀ i, g i + (xs.map (term m ps i)).sum = (sh.map (term m ps i)).sum) /\ δ = [some (.lst (ps.map aJ)), some (.tup (sh.map pairD)), some (.int m), o3, o4, some (.cell μ'.length), some (.int t), o7, o8]) ?_ ?_ _ _ _ ⟨sh, 0, λ _ => 0, _, _, _, _, rfl, rfl, λ x h => h, by simp, λ i => by simp, rfl⟩
  .rintro dd rest δ μ1 ⟨xs, t, g, o3, o4, o7, o8, hi, rfl, hsub, ht, hg, rfl⟩;cases xs with
   | nil => cases hi
   | cons x xs =>
    obtain ⟨xk, xv⟩ := x;cases hi;obtain ⟨k0, k1, s1, s2⟩ := hs _ (hsub _ (List.mem_cons_self ..));obtain ⟨p7, p8, e⟩ := Sw (d := d) (ps := ps) (M := m) (k := xk) (s := xv) (t := t + xv) (μ := μ') (shD := .tup (sh.map pairD)) (g := g) (o7 := o7) (o8 := o8) hd2 hp k0 k1 s2 hMs;unfold Fx at e;simp only [pairD, Vi, List.length_cons, List.length_nil, Nat.reduceAdd, if_true, Nq, RG, Option.bind_some, QW, ud, uJ, List.set_cons_succ, List.set_cons_zero, KH, IK, VG, yQ, zc, Ve, yq, e, Lw];refine ⟨xs, t + xv, _, _, _, p7, p8, rfl, rfl, λ x h => hsub _ (List.mem_cons_of_mem _ h), ?_, λ i => ?_, rfl⟩
    .rw [<- ht]; simp; omega
    .rw [<- hg i, Gm]; omega
  .rintro δ μ1 ⟨xs, t, g, o3, o4, o7, o8, hi, rfl, hsub, ht, hg, rfl⟩;cases xs with
   | cons b ms => cases hi
   | nil =>
   have ht : t = (sh.map (·.2)).sum := by simpa using ht
   subst ht;have hg : ∀ i, g i = (sh.map (term m ps i)).sum := λ i => by simpa using hg i
   have efn : fnL d g = ((List.range d).map λ i => (sh.map (term m ps i)).sum).map D.int := by
    unfold fnL;congr 1
    apply List.map_congr_left;intro i _;exact hg i
   have hlow := h2 ((List.range d).map λ i => (sh.map (term m ps i)).sum) (m * (sh.map (·.2)).sum) (μ' ++ [none]) (by omega) (bZ hBs (by decide)) (by simp; omega) (by simp; omega)
   have hsg : sgn (m * (sh.map (·.2)).sum) = 1 := if_pos (by omega)
   rw [hsg, Int.one_mul, <- OD, <- eV] at hlow;have hB1 : Sm 2100 (sh.map (·.2)).sum := by
    obtain ⟨_, s2⟩ := Dq (sh.map (·.2)) 2000 hss;have : (sh.map (·.2)).length * 2 ^ 2000 < 2 ^ 6 * 2 ^ 2000 := Nat.mul_lt_mul_of_pos_right (by simp; omega) (Nat.two_pow_pos _)
    rw [<- Nat.pow_add] at this;exact bZ (show Sm 2006 _ by unfold Sm; omega) (by decide)
   have em := bI (x := m) (y := (sh.map (·.2)).sum) (μ' ++ [none]) hMs hB1 (by decide)
   have elow : V.map (λ n => D.int (n.fdiv (bK 0 V : Nat))) = (mx V).map D.int := by unfold mx; simp
   rw [elow] at hlow;rw [efn];generalize ((List.range d).map λ i => (sh.map (term m ps i)).sum).map D.int = nD at *
   generalize (sh.map (·.2)).sum = B at *
   simp [em, hlow, aJ]
theorem xW : ∀ (a b : List Int), jd (a.map D.int) (b.map D.int) = (a == b)
 | [], [] => by simp [jd]
 | [], b :: bs => by simp [jd]
 | a :: as, [] => by simp [jd]
 | a :: as, b :: bs => by simp [jd, eqD, xW as bs]
theorem FP (a b : List Int) (μ : Mu) : oEq (aJ a) (aJ b) μ = some (.bl (a == b), μ) := by
 unfold oEq;have e1 : ∀ c : List Int, rsv (aJ c) μ = aJ c := λ c => rfl;have e2 : ∀ c : List Int, cN (aJ c) = true := λ c => by unfold aJ; rw [cN]; exact lQ c
 have e3 : ir (aJ a) < 100 := by unfold aJ; rw [ir, nR]; decide
 have e4 : eqD (aJ a) (aJ b) = (a == b) := by unfold aJ; rw [eqD, xW]
 rw [e1, e1, e2, e2, e4, if_pos ⟨rfl, e3⟩]
def pairOf : D -> Int × Int
 | .tup [.int k, .int s] => (k, s)
 | _ => (0, 0)
def lZ : D -> Bool
 | .tup [.int _, .int _] => true
 | _ => false
def bW (many : Int) (d : D) : Bool := lZ d && decide (0 <= (pairOf d).1 /\ (pairOf d).1 < many /\ 1 <= (pairOf d).2)
def vX : List (Int × Int) -> Bool
 | [] => true
 | a :: l => match l with
  | [] => true
  | b :: _ => decide (a.1 < b.1) && vX l
def gU (many : Int) : D -> Bool
 | .tup ds => !ds.isEmpty && (ds.all (bW many) && vX (ds.map pairOf))
 | _ => false
theorem qN (h : lZ d = true) : d = pairD (pairOf d) := by
 unfold lZ at h;split at h
 .rfl
 .cases h
theorem Ag : ∀ {ds : List D}, ds.all (bW many) = true -> ds = (ds.map pairOf).map pairD
 | [], _ => rfl
 | d :: ds, h => by
  rw [List.all_cons, Zo] at h;have h1 := h.1;unfold bW at h1;rw [Zo] at h1;rw [Zj, Zj, <- qN h1.1, <- Ag h.2]
theorem Ax (hφ : Dw φ) (many : Int) (d : D) (μ : Mu) (h : nc d) : trunc (aH 2 (dZ φ)) [.int many, d] μ = some (.bl (bW many d), μ) := by
 apply bM;have e1 := hφ d μ h;cases hn : sV d with
 | false =>
  rw [hn] at e1;have es : bW many d = false := by
   unfold bW;cases hp : lZ d with
   | false => rfl
   | true =>
    have := qN hp;rw [this] at hn;unfold pairD sV at hn;simp at hn
  rw [es];simp [dZ, e1]
 | true =>
  rw [hn] at e1;cases d with
  | tup ds =>
   have hd := ints_of hn;generalize ds.map intOf = ns at hd;subst hd;by_cases hl : ns.length = 2
   .match ns, hl with
    | [k, s], _ =>
     have at0 : atI [D.int k, D.int s] 0 = some (.int k) := rfl;have at1 : atI [D.int k, D.int s] 1 = some (.int s) := rfl;have es : bW many (.tup ([k, s].map D.int)) = decide (0 <= k /\ k < many /\ 1 <= s) := by
      show (true && decide (0 <= k /\ k < many /\ 1 <= s)) = _;simp
     rw [es];simp only [Zj, List.map_nil] at e1 ⊢;by_cases c1 : 0 <= k
     .by_cases c2 : k < many
      .simp [dZ, e1, at0, at1, c1, c2]
      .simp [dZ, e1, at0, at1, c1, c2]
     .simp [dZ, e1, at0, at1, c1]
   .have es : bW many (.tup (ns.map D.int)) = false := by
     unfold bW;cases hp : lZ (.tup (ns.map D.int)) with
     | false => rfl
     | true =>
      have := qN hp;unfold pairD at this;injection this with this
      have := congrArg List.length this;simp at this;exact absurd this hl
    rw [es];have hlb : ((ns.length : Int) == 2) = false := by
     have : (ns.length : Int) ≠ 2 := by omega
     simpa using this
    simp [dZ, e1, hlb]
  | _ => cases hn
def Az (φ : FF) : Prop := ∀ (many : Int) (d : D) (μ : Mu), nc d -> φ [.int many, d] μ = some (.bl (bW many d), μ)
theorem FQ : ∀ (l : List (Int × Int)), (l.zip (l.drop 1)).all (λ p => decide (p.1.1 < p.2.1)) = vX l
 | [] => rfl
 | [a] => rfl
 | a :: b :: l => by
  have ih := FQ (b :: l);simp only [List.drop_succ_cons, List.drop_zero] at ih ⊢;rw [List.zip_cons_cons, List.all_cons, ih];rfl
theorem yO {φ : FF} (hφ : Az φ) (many : Int) (d : D) (μ : Mu) (h : nc d) : trunc (aH 2 (dw φ)) [.int many, d] μ = some (.bl (gU many d), μ) := by
 apply bM;cases d with
 | cell n => simp [nc, cLt] at h
 | ro ds => simp [dw, gU, gm, za]
 | tup ds =>
  by_cases hne : ds = []
  .subst hne;simp [dw, gU]
  .have hem : ds.isEmpty = false := by cases ds <;> simp_all
   have hlb : ((ds.length : Int) == 0) = false := by
    have : (ds.length : Int) ≠ 0 := by have := List.length_pos_iff.mpr hne; omega
    simpa using this
   have ea := nq (th := thG (hName 0) (MC (ao (aq 1) (ao (aq 0) aB)) φ) (dg ["part"] [some (.int many), some (D.tup ds)] [0])) (p := bW many) (μ := μ) ds λ x hx => by
    simp [thG, dg, hφ many x μ (fM.mp h x hx)]
   have es : gU many (.tup ds) = (ds.all (bW many) && vX (ds.map pairOf)) := by
    show (!ds.isEmpty && (ds.all (bW many) && vX (ds.map pairOf))) = _;rw [hem]; rfl
   rw [es];cases ha : ds.all (bW many) with
   | false =>
    rw [ha] at ea;simp [dw, hlb, ea]
   | true =>
    rw [ha] at ea;have hd := Ag ha;generalize ds.map pairOf = sh at hd;have hsl := Mw (ds := ds) (i := 1) (μ := μ) (by decide) (by have := List.length_pos_iff.mpr hne; omega)
    rw [show (1 : Int).toNat = 1 from rfl] at hsl;have ez : kh ds (ds.drop 1) = (sh.zip (sh.drop 1)).map λ p => .tup [pairD p.1, pairD p.2] := by
     rw [hd, <- List.map_drop, lU]
    have eb := nq (th := thG (jD 2 (bN (hName 0) (bN (hName 1) jB))) (M2 (M2 (aq 0) (mC (.int 0)) oIx) (M2 (aq 1) (mC (.int 0)) oIx) oLt) (dg ["one", "other"] [some (.int many), some (D.tup ds)] [])) (p := λ d => match d with | .tup [a, b] => decide ((pairOf a).1 < (pairOf b).1) | _ => false) (μ := μ) (kh ds (ds.drop 1)) λ x hx => by
     rw [ez] at hx;obtain ⟨⟨⟨a1, a2⟩, ⟨b1, b2⟩⟩, _, rfl⟩ := Zq.mp hx;have at0 : ∀ u v : Int, atI [D.int u, D.int v] 0 = some (.int u) := λ _ _ => rfl;simp [thG, dg, pairD, at0, pairOf]
     try rfl
    have er : (kh ds (ds.drop 1)).all (λ d => match d with | .tup [a, b] => decide ((pairOf a).1 < (pairOf b).1) | _ => false) = vX sh := by
     rw [ez, List.all_map, <- FQ];congr 1
    rw [er] at eb;generalize ds.drop 1 = es' at *
    simp [dw, hlb, ea, hsl, eb]
 | _ => simp [dw, gU]
def chB (b : Int) : List (Int × Int) -> Bool
 | [] => true
 | a :: l => decide (b < a.1) && chB a.1 l
theorem Kp : ∀ (l : List (Int × Int)) (a : Int × Int), chB a.1 l = vX (a :: l)
 | [], a => rfl
 | b :: l, a => by
  show (decide (a.1 < b.1) && chB b.1 l) = (decide (a.1 < b.1) && vX (b :: l));rw [Kp l b]
theorem DX : gU many (.tup ds) = (!ds.isEmpty && (ds.all (bW many) && chB (-1) (ds.map pairOf))) := by
 show (!ds.isEmpty && (ds.all (bW many) && vX (ds.map pairOf))) = _;cases ds with
 | nil => rfl
 | cons d ds =>
  cases ha : (d :: ds).all (bW many) with
  | false => rfl
  | true =>
   rw [List.all_cons, Zo] at ha;have h1 := ha.1;unfold bW at h1;rw [Zo] at h1;have h2 := of_decide_eq_true h1.2;rw [Zj];show _ = (_ && (true && (decide (-1 < (pairOf d).1) && chB (pairOf d).1 (ds.map pairOf))));rw [Kp, decide_eq_true (by omega : -1 < (pairOf d).1)]
   rfl
def wI (φ : FF) : Prop := ∀ (many : Int) (d : D) (μ : Mu), nc d -> φ [.int many, d] μ = some (.bl (gU many d), μ)
def shOf : D -> List (Int × Int)
 | .tup ds => ds.map pairOf
 | _ => []
def Ks (n : Int) : D -> Bool
 | .tup ds => ((ds.length : Int) == n)
 | _ => false
theorem Rr (n : Int) (d : D) (μ : Mu) (h : nc d) : trunc (aH 2 kY) [.int n, d] μ = some (.bl (Ks n d), μ) := by
 apply bM;cases d with
 | cell n => simp [nc, cLt] at h
 | ro ds => simp [kY, gm, za, Ks]
 | _ => simp [kY, Ks]
def QZ (φ : FF) : Prop := ∀ (n : Int) (d : D) (μ : Mu), nc d -> φ [.int n, d] μ = some (.bl (Ks n d), μ)
theorem any_ints (μ : Mu) : ∀ ns : List Int, rJ ((ns.map D.int).map thE) μ = some (ns.any (λ n => n != 0), μ)
 | [] => rfl
 | n :: ns => by
  have ih := any_ints μ ns;rw [Zj, Zj];unfold rJ;show ((Bh (D.int n)).bind λ k => if k = true then some (true, μ) else rJ ((ns.map D.int).map thE) μ) = _;cases h : (n != 0) with
  | true => simp [Bh, h]
  | false =>
   rw [List.map_map] at ih;simp [Bh, h, ih]
theorem sum_ints (μ : Mu) : ∀ (ns : List Int) (a : Int), tV a ((ns.map D.int).map thE) μ = some (a + ns.sum, μ)
 | [], a => by simp [tV]
 | n :: ns, a => by
  have ih := sum_ints μ ns (a + n);rw [Zj, Zj];unfold tV;show tV (a + n) ((ns.map D.int).map thE) μ = _;rw [ih, List.sum_cons, Int.add_assoc]
theorem szl (h : n <= 1000) : n <= sizeLine := Zl h (by decide)
theorem Ep : ∀ (l : List Int), (∀ z ∈ l, Sm b z) -> l.sum.natAbs <= l.length * 2 ^ b
 | [], _ => by simp
 | z :: l, h => by
  have ih := Ep l λ y hy => h y (by simp [hy])
  have hz : z.natAbs < 2 ^ b := h z (by simp)
  rw [List.sum_cons, List.length_cons, Nat.succ_mul];have := Int.natAbs_add_le z l.sum;omega
theorem Bq {φ : FF} (hφ : pG φ) (c : Int) (c0 : 0 <= c) (c1 : c < 100) (x : Int) (μ : Mu) : ∀ (js : List Int), (∀ j ∈ js, 0 <= j /\ j < 100) -> ∃ kz : List Int,
  qM ((js.map D.int).map (thG (hName 0) (MC (ao (aq 1) (ao (M2 (aq 0) (mC (.int c)) cu) (aB))) φ) [none, some (.int x)])) μ = some (kz, μ)
 | [], _ => ⟨[], rfl⟩
 | j :: js, hj => by
  obtain ⟨j0, j1⟩ := hj j (by simp)
  obtain ⟨r, er, _⟩ := hφ x (j + c) μ (by omega) (by omega)
  obtain ⟨kz, e⟩ := Bq hφ c c0 c1 x μ js λ i hi => hj i (by simp [hi])
  refine ⟨r :: kz, ?_⟩;rw [Zj, Zj];have et : thG (hName 0) (MC (ao (aq 1) (ao (M2 (aq 0) (mC (.int c)) cu) (aB))) φ) [none, some (.int x)] (.int j) μ = some (.int r, μ) := by simp [thG, er]
  unfold qM;rw [et];show Option.map (λ q => (r :: q.1, q.2)) (qM _ μ) = _;rw [e];rfl
theorem By (kz : List Int) (js : List Int) : ∃ ts : List Int, oJ kz (js.map .int) = ts.map .int /\ ts.Perm js := by
 refine ⟨(lg (λ i j => decide (kz.getD i 0 < kz.getD j 0)) js.length).map λ i => js.getD i 0, ?_, ?_⟩
 .unfold oJ;rw [Zu, List.map_map];apply List.map_congr_left;intro i hi;have hin : i < js.length := List.mem_range.mp ((rH _ _).mem_iff.mp hi);simp [List.getD, hin]
 .have h := (rH (λ i j => decide (kz.getD i 0 < kz.getD j 0)) js.length).map λ i => js.getD i 0;rw [L2.range_getD] at h;exact h
theorem Gp {ts : List Int} {c : Nat} (hn : ts.Nodup) : (PySem.W.sortI (ts.take c)).Pairwise (· < ·) := by
 have h1 := PySem.W.sortI_rises (ts.take c);have h2 : (PySem.W.sortI (ts.take c)).Nodup := (PySem.W.sortI_perm _).nodup_iff.mpr (hn.sublist (List.take_sublist _ _));have h3 := h1.and h2;exact h3.imp λ {a b} h => by have := h.1; have := h.2; omega
def vU (φ : FF) : Prop := ∀ (L : List Int) (js : List Int), DlD L -> js ≠ [] -> js.length < 64 -> (∀ j ∈ js, 0 <= j /\ j < 100) -> ∃ (sh : List (Int × Int)) (L' : List Int), φ [.cell 0, .lst (js.map .int)] [some (L.map .int)] = some (.tup (sh.map pairD), [some (L'.map .int)]) /\ DlD L' /\ sh ≠ [] /\ sh.length <= 4 /\ (∀ p ∈ sh, p.1 ∈ js /\ 1 <= p.2 /\ p.2 <= 1000) /\ (js.Nodup -> (sh.map (·.1)).Pairwise (· < ·))
theorem Ti (hw : ∀ w ∈ ws, Sm a w) (hc : ∀ c ∈ cs, Sm b c) (hl : ws.length <= 60) : Sm (a + b + 10) (dot ws cs) := by
 have h := Ep (b := a + b) ((ws.zip cs).map λ p => p.1 * p.2) λ z hz => by
  obtain ⟨⟨w, c⟩, hp, rfl⟩ := Zq.mp hz;have hm := List.of_mem_zip hp;exact jm (hw w hm.1) (hc c hm.2)
 unfold dot;generalize ((ws.zip cs).map λ p => p.1 * p.2).sum = z at *
 rw [Zu, List.length_zip] at h;unfold Sm;have : min ws.length cs.length * 2 ^ (a + b) < 2 ^ 10 * 2 ^ (a + b) := Nat.mul_lt_mul_of_pos_right (by omega) (Nat.two_pow_pos _)
 rw [<- Nat.pow_add] at this;rw [Nat.add_comm (a + b) 10];omega
def Ar (many : Int) : List Int := (List.range many.toNat).map λ (k : Nat) => (0 + (k : Int))
theorem QR : dY 0 many.toNat = (Ar many).map D.int := by unfold dY Ar; rw [List.map_map]; rfl
theorem IV : (Ar many).length = many.toNat := by unfold Ar; simp
theorem Kq : ∀ j ∈ Ar many, 0 <= j /\ j < many := λ j hj => by
 obtain ⟨k, hk, rfl⟩ := Zq.mp hj;have := List.mem_range.mp hk;omega
def ThB (t : D) : Prop := nc t /\ ∀ ds, t = .tup ds -> ds.length <= 60 /\ ∀ k s, D.tup [.int k, .int s] ∈ ds -> Sm 2000 s
def Cv (d1 : Nat) (ps : List (List Int)) (r : List Int) : D -> Bool
 | .tup ds => gU ps.length (.tup ds) && (decide (ds.length <= r.length) && (mx (gq d1 (rowsOf ps (ds.map pairOf)) ((ds.map pairOf).map (·.2))) == r))
 | _ => false
theorem vB : Cv d1 ps r (.tup ds) = (gU ps.length (.tup ds) && (decide (ds.length <= r.length) && (mx (gq d1 (rowsOf ps (ds.map pairOf)) ((ds.map pairOf).map (·.2))) == r))) := rfl
theorem Bb {many : Nat} {ds : List D} (h : gU many (.tup ds) = true) (ht : ThB (.tup ds)) : ds = (ds.map pairOf).map pairD /\ ds.map pairOf ≠ [] /\ (ds.map pairOf).length <= 60 /\ Ho many (ds.map pairOf) := by
 obtain ⟨_, ht⟩ := ht;obtain ⟨hl, hsm⟩ := ht ds rfl;have h : (!ds.isEmpty && (ds.all (bW many) && vX (ds.map pairOf))) = true := h;rw [Zo, Zo] at h;obtain ⟨h1, h2, _⟩ := h;have h2 := List.all_eq_true.mp h2;have hp : ∀ d ∈ ds, d = pairD (pairOf d) := λ d hd => by
  have := h2 d hd;unfold bW at this;rw [Zo] at this;exact qN this.1
 refine ⟨?_, λ z => ?_, by simpa using hl, λ x hx => ?_⟩
 .rw [List.map_map]
  conv => lhs; rw [<- List.map_id ds]
  apply List.map_congr_left;intro d hd;exact hp d hd
 .have : ds = [] := by simpa using z
  subst this;simp at h1
 .obtain ⟨d, hd, rfl⟩ := Zq.mp hx;have h3 := h2 d hd;unfold bW at h3;rw [Zo] at h3;have h4 := of_decide_eq_true h3.2;exact ⟨h4.1, h4.2.1, h4.2.2, hsm (pairOf d).1 (pairOf d).2 (by have := hp d hd; unfold pairD at this; rw [<- this]; exact hd)⟩
def qG (φ : FF) : Prop := ∀ (d1 : Nat) (ps : List (List Int)) (r : List Int) (t : D) (μ : Mu), 2 <= d1 -> d1 <= 10 -> (∀ p ∈ ps, fO d1 p) -> ThB t -> iD μ -> φ [.lst (ps.map aJ), aJ r, t] μ = some (.bl (Cv d1 ps r t), μ)
theorem Gh (h1 : wI φ1) (h2 : yE φ2) : qG (trunc (aH 3 (cQ φ1 φ2))) := λ d1 ps r t μ hd hd2 hp ht _ => by
 apply bM;have e1 := h1 ps.length t μ ht.1;have elen : bC (.lst (ps.map aJ)) μ = some (.int ps.length, μ) := by rw [gZ, Zu]
 cases hs : gU ps.length t with
 | false =>
  rw [hs] at e1;have hv : Cv d1 ps r t = false := by
   cases t with
   | tup ds => rw [vB, hs]; rfl
   | _ => rfl
  rw [hv];generalize ps.map aJ = PD at *
  generalize (ps.length : Int) = n at *
  unfold cQ;simp [elen, e1, -gZ]
 | true =>
  rw [hs] at e1;cases t with
  | tup ds =>
   obtain ⟨q1, q2, q3, q4⟩ := Bb hs ht;have e2 := h2 d1 ps (ds.map pairOf) μ (by omega) hd2 hp q2 q3 q4
   rw [<- q1] at e2;have hv : Cv d1 ps r (.tup ds) = (decide (ds.length <= r.length) && (mx (gq d1 (rowsOf ps (ds.map pairOf)) ((ds.map pairOf).map (·.2))) == r)) := by rw [vB, hs, Bool.true_and]
   rw [hv];have e3 := FP (mx (gq d1 (rowsOf ps (ds.map pairOf)) ((ds.map pairOf).map (·.2)))) r μ;generalize mx (gq d1 (rowsOf ps (ds.map pairOf)) ((ds.map pairOf).map (·.2))) = v at *
   generalize ps.map aJ = PD at *
   generalize (ps.length : Int) = n at *
   have er : bC (aJ r) μ = some (.int r.length, μ) := yt;have et : bC (.tup ds) μ = some (.int ds.length, μ) := by simp
   by_cases hc : ds.length <= r.length
   .have hc' : ¬ ((r.length : Int) < (ds.length : Int)) := by omega
    have : decide (ds.length <= r.length) = true := decide_eq_true hc;rw [this, Bool.true_and];generalize (r.length : Int) = rl at *
    generalize (ds.length : Int) = dl at *
    generalize (v == r) = vb at *
    generalize aJ r = R at *
    generalize aJ v = V at *
    generalize D.tup ds = T at *
    unfold cQ;simp [elen, e1, er, et, hc', e2, e3, -gZ]
   .have hc' : ((r.length : Int) < (ds.length : Int)) := by omega
    have : decide (ds.length <= r.length) = false := decide_eq_false hc;rw [this, Bool.false_and];generalize (r.length : Int) = rl at *
    generalize (ds.length : Int) = dl at *
    generalize aJ r = R at *
    generalize D.tup ds = T at *
    unfold cQ;simp [elen, e1, er, et, hc', -gZ]
  | _ => cases hs
def CV (φ : FF) : Prop := ∀ (d : Nat) (ps : List (List Int)) (sh : List (Int × Int)) (μ : Mu), iD μ -> 1 <= d -> d <= 9 -> (∀ p ∈ ps, fO (d + 1) p) -> sh ≠ [] -> sh.length <= 60 -> Ho ps.length sh -> φ [.lst (ps.map aJ), .tup (sh.map pairD)] μ = some (aJ (mx (gq (d + 1) (rowsOf ps sh) (sh.map (·.2)))), μ)
theorem JW (hφ : xX φ1) (h2 : CV φ2) : qG (trunc (aH 5 (iR φ1 φ2))) := λ d1 ps r t μ hd hd2 hp ht hm => by
 apply bM;have elen : ∀ μ, bC (.lst (ps.map aJ)) μ = some (.int ps.length, μ) := λ μ => by rw [gZ, Zu]
 have er : bC (aJ r) μ = some (.int r.length, μ) := yt;have hn := ht.1;cases t with
 | cell n => simp [nc, cLt] at hn
 | ro ds => simp [iR, gm, za, Cv]
 | tup ds =>
  have hnd := fM.mp hn;have eu : Af (.tup ds) (.tup []) μ = some (.bl ds.isEmpty, μ) := rfl;have et : bC (.tup ds) μ = some (.int ds.length, μ) := by simp
  rw [vB];have hend : gU ps.length (.tup ds) = true -> φ2 [.lst (ps.map aJ), .tup ds] μ = some (aJ (mx (gq d1 (rowsOf ps (ds.map pairOf)) ((ds.map pairOf).map (·.2)))), μ) := λ hs => by
   obtain ⟨q1, q2, q3, q4⟩ := Bb hs ht;have e2 := h2 (d1 - 1) ps (ds.map pairOf) μ hm (by omega) (by omega) (by rw [show d1 - 1 + 1 = d1 by omega]; exact hp) q2 q3 q4
   rw [<- q1, show d1 - 1 + 1 = d1 by omega] at e2
   exact e2
  have e3 := FP (mx (gq d1 (rowsOf ps (ds.map pairOf)) ((ds.map pairOf).map (·.2)))) r μ;generalize mx (gq d1 (rowsOf ps (ds.map pairOf)) ((ds.map pairOf).map (·.2))) = v at *
  generalize ps.map aJ = PD at *
  generalize (ps.length : Int) = many at *
  by_cases hc : ds.length <= r.length
  .have hc' : ¬ ((r.length : Int) < (ds.length : Int)) := by omega
   rw [decide_eq_true hc, Bool.true_and];generalize (v == r) = vb at *
   generalize aJ r = R at *
   generalize aJ v = V at *
   rw [DX] at hend ⊢;cases hem : ds.isEmpty with
   | true =>
    rw [hem] at eu;simp [iR, eu]
   | false =>
    rw [hem] at eu hend;simp only [Bool.not_false, Bool.true_and] at hend;generalize (r.length : Int) = rl at *
    simp [iR, eu, er, hc'];refine gj (λ its δ μ' => ∃ (b : Int) (o : Option D), μ' = μ /\ -1 <= b /\ (∀ x ∈ its, nc x) /\ (ds.all (bW many) && chB (-1) (ds.map pairOf)) = (its.all (bW many) && chB b (its.map pairOf)) /\ δ = [some (.lst PD), some R, some (.tup ds), some (.int b), o]) ?_ ?_ _ _ _ ⟨-1, none, rfl, by decide, hnd, rfl, rfl⟩
    .rintro x rest δ μ' ⟨b, o, rfl, hb1, hx, hv, rfl⟩;have hxn := hx x (by simp)
     have bad : bW many x = false -> (ds.all (bW many) && chB (-1) (ds.map pairOf)) = false := λ z => by
      rw [hv, List.all_cons, z]; rfl
     cases hp : lZ x with
     | false =>
      have hs : bW many x = false := by unfold bW; rw [hp]; rfl
      have hbad := bad hs;generalize (ds.all (bW many) && chB (-1) (ds.map pairOf)) = VV at *
      subst hbad;cases x with
      | tup es =>
       by_cases hl : es.length = 2
       .match es, hl with
        | [u, v], _ =>
         have nu : nc u := fM.mp hxn u (by simp)
         have nv : nc v := fM.mp hxn v (by simp)
         have at0 : atI [u, v] 0 = some u := rfl;have at1 : atI [u, v] 1 = some v := rfl;have eu := hφ u μ' nu;have ev := hφ v μ' nv;cases hu : isInt u with
         | false => rw [hu] at eu; simp [at0, eu]
         | true =>
          rw [hu] at eu;cases hvv : isInt v with
          | false => rw [hvv] at ev; simp [at0, at1, eu, ev]
          | true =>
           cases u <;> simp [isInt] at hu;cases v <;> simp [isInt] at hvv;simp [lZ] at hp
       .have hlb : ((es.length : Int) == 2) = false := by
         have : (es.length : Int) ≠ 2 := by omega
         simpa using this
        simp [hlb]
      | cell n => simp [nc, cLt] at hxn
      | ro es => simp [gm, za]
      | _ => simp
     | true =>
      have hxe := qN hp;generalize hpo : pairOf x = p at hxe;obtain ⟨k, s⟩ := p;have at0 : atI [D.int k, D.int s] 0 = some (.int k) := rfl;have at1 : atI [D.int k, D.int s] 1 = some (.int s) := rfl;have ek : φ1 [.int k] μ' = some (.bl true, μ') := hφ (.int k) μ' CK;have es : φ1 [.int s] μ' = some (.bl true, μ') := hφ (.int s) μ' CK;have hsh : bW many x = decide (0 <= k /\ k < many /\ 1 <= s) := by unfold bW; rw [hp, hpo]; rfl
      rw [List.all_cons, Zj, hpo, hsh] at hv;have hch : chB b ((k, s) :: rest.map pairOf) = (decide (b < k) && chB k (rest.map pairOf)) := rfl;rw [hch] at hv;have elm := elen μ';generalize (ds.all (bW many) && chB (-1) (ds.map pairOf)) = VV at *
      have hxe : x = .tup [.int k, .int s] := hxe;subst hxe;by_cases c1 : k <= b
      .have : ¬ b < k := by omega
       simp only [this, decide_false, Bool.false_and, Bool.and_false] at hv;subst hv;simp [at0, at1, ek, es, c1, elm, -gZ]
      .by_cases c2 : many <= k
       .have : ¬ (0 <= k /\ k < many /\ 1 <= s) := by omega
        simp only [this, decide_false, Bool.false_and] at hv;subst hv;simp [at0, at1, ek, es, c1, c2, elm, -gZ]
       .by_cases c3 : s < 1
        .have : ¬ (0 <= k /\ k < many /\ 1 <= s) := by omega
         simp only [this, decide_false, Bool.false_and] at hv;subst hv;simp [at0, at1, ek, es, c1, c2, c3, elm, -gZ]
        .simp [at0, at1, ek, es, c1, c2, c3, elm, -gZ];have t1 : 0 <= k /\ k < many /\ 1 <= s := by omega
         have t2 : b < k := by omega
         rw [decide_eq_true t1, decide_eq_true t2] at hv;exact ⟨k, by omega, λ y hy => hx y (List.mem_cons_of_mem _ hy), by simpa using hv, rfl⟩
    .rintro δ μ' ⟨b, o, rfl, hb1, hx, hv, rfl⟩;have hv : (ds.all (bW many) && chB (-1) (ds.map pairOf)) = true := hv;have e2 := hend hv;rw [hv];simp [e2, e3]
  .have hc' : ((r.length : Int) < (ds.length : Int)) := by omega
   rw [decide_eq_false hc, Bool.false_and, Bool.and_false];generalize aJ r = R at *
   generalize (r.length : Int) = rl at *
   cases hem : ds.isEmpty with
   | true =>
    rw [hem] at eu;simp [iR, eu]
   | false =>
    rw [hem] at eu;simp [iR, eu, er, hc']
 | _ => simp [iR, Cv]
theorem tB {φ : FF} (hφ : pG φ) (x m : Int) (m1 : 1 <= m) (m2 : m <= 1000) (all : List D) (μ : Mu) : ∀ (ys : List Int), (∀ j ∈ ys, 0 <= j /\ j < 100) -> ∃ sh : List (Int × Int),
  lcL ⟨all, none⟩ (hName 0) cT (MC (ao (aq 0) (ao (M2 (mC (.int 1)) (M2 (MC (ao (aq 1) (ao (M2 (aq 0) (mC (.int 60)) cu) (aB))) φ) (aq 2) oMod) cu) (aB))) oTup) [none, some (.int x), some (.int m)] (ys.map .int) μ = some (sh.map pairD, μ) /\ sh.map (·.1) = ys /\ ∀ p ∈ sh, 1 <= p.2 /\ p.2 <= 1000
 | [], _ => ⟨[], by simp only [List.map_nil]; unfold lcL; simp [cC], rfl, by simp⟩
 | j :: ys, hj => by
  obtain ⟨j0, j1⟩ := hj j (by simp)
  obtain ⟨r, er, _⟩ := hφ x (j + 60) μ (by omega) (by omega)
  obtain ⟨sh, e, hf, hs⟩ := tB hφ x m m1 m2 all μ ys λ i hi => hj i (by simp [hi])
  obtain ⟨q0, q1⟩ := aY (x := r) (m := m) (by omega)
  have eo := fU (x := r) (y := m) μ (by omega)
  refine ⟨(j, 1 + r.fmod m) :: sh, ?_, by rw [Zj, hf], λ p hp => ?_⟩
  .rw [Zj];generalize ys.map D.int = YD at *
   unfold lcL;simp [cC, cT, er, eo, e, pairD]
  .rcases Zi.mp hp with h | h
   .rw [h]; constructor <;> simp only <;> omega
   .exact hs p h
theorem Hk {φ1 φ2 : FF} (h1 : iV φ1) (h2 : pG φ2) : vU (trunc (aH 6 (gR φ1 φ2))) := λ L js hL hne hl hj => by
 obtain ⟨x, L1, e1, hx, hL1⟩ := eU h1 hL [];obtain ⟨kz, e2⟩ := Bq h2 3 (by decide) (by decide) x [some (L1.map .int)] js hj
 obtain ⟨ts, e3, hp⟩ := By kz js;have hlen : ts.length = js.length := hp.length_eq;have hpos : 0 < js.length := List.length_pos_iff.mpr hne;obtain ⟨m, hm⟩ : ∃ m : Int, min 4 (ts.length : Int) = m := ⟨_, rfl⟩;have hm1 : 1 <= m := by omega
 have hm4 : m <= 4 := by omega
 obtain ⟨q0, q1⟩ := aY (x := x) (m := m) (by omega)
 have eo := fU (x := x) (y := m) [some (L1.map .int)] (by omega)
 have es := QK (ds := ts.map D.int) (i := 1 + x.fmod m) (μ := [some (L1.map .int)]) (by omega)
 rw [<- List.map_take] at es;have hsub : ∀ j ∈ PySem.W.sortI (ts.take (1 + x.fmod m).toNat), j ∈ js := λ j hjm => hp.mem_iff.mp (List.mem_of_mem_take ((PySem.W.sortI_perm _).mem_iff.mp hjm));have hsl : (PySem.W.sortI (ts.take (1 + x.fmod m).toNat)).length = min (1 + x.fmod m).toNat ts.length := by rw [(PySem.W.sortI_perm _).length_eq, List.length_take]
 have e4 : wQ ((ts.take (1 + x.fmod m).toNat).map D.int) = some ((PySem.W.sortI (ts.take (1 + x.fmod m).toNat)).map .int) := by
  unfold wQ;rw [if_pos (by rw [Zu, List.length_take]; omega), Ad]
 have v4 := mW (i := x) (j := 4) (μ := [some (L1.map .int)]) (by decide) (by decide)
 obtain ⟨w0, w1⟩ := aY (x := x.fdiv 4) (m := 3) (by decide)
 obtain ⟨sz, hsz, esz⟩ := mG (ds := [D.int 3, .int 7, .int 1000]) w0 w1;have hsz : ∃ z : Int, sz = .int z /\ 1 <= z /\ z <= 1000 := by
  simp only [Zi, List.not_mem_nil, or_false] at hsz
  rcases hsz with rfl | rfl | rfl <;> exact ⟨_, rfl, by decide, by decide⟩
 obtain ⟨sz, rfl, sz1, sz2⟩ := hsz;obtain ⟨sh, e5, hf, hs⟩ := tB h2 x sz sz1 sz2 ((PySem.W.sortI (ts.take (1 + x.fmod m).toNat)).map .int) [some (L1.map .int)] (PySem.W.sortI (ts.take (1 + x.fmod m).toNat)) λ j hjm => hj j (hsub j hjm);have hris : js.Nodup -> (sh.map (·.1)).Pairwise (· < ·) := λ hn => by
  rw [hf];exact Gp (hp.nodup_iff.mpr hn)
 have hshl : sh.length = min (1 + x.fmod m).toNat ts.length := by rw [<- hsl, <- hf, Zu]
 refine ⟨sh, L1, ?_, hL1, λ z => by rw [z] at hshl; simp at hshl; omega, by omega, λ p hpm => ⟨hsub p.1 (by rw [<- hf]; exact Zq.mpr ⟨p, hpm, rfl⟩), hs p hpm⟩, hris⟩
 have z6 : (PySem.W.sortI (ts.take (1 + x.fmod m).toNat)).length <= 1000 := by omega
 have hjl : (js.map D.int).length < 64 := by simpa using hl
 have hl3 : (ts.map D.int).length = ts.length := by simp
 generalize PySem.W.sortI (ts.take (1 + x.fmod m).toNat) = ys at *
 generalize (ts.take (1 + x.fmod m).toNat).map D.int = TK at *
 have hz : (ys.map D.int).length <= 1000 := by simpa using z6
 have elen : bC (.lst (ts.map D.int)) [some (L1.map .int)] = some (.int ts.length, [some (L1.map .int)]) := by rw [gZ, hl3]
 have emin : pB (.int 4) (.int (ts.length : Int)) [some (L1.map .int)] = some (.int m, [some (L1.map .int)]) := by rw [Qe, hm]
 generalize (ts.length : Int) = tl at *
 generalize ts.map D.int = TD at *
 generalize js.map D.int = JD at *
 generalize ys.map D.int = YD at *
 generalize sh.map pairD = SD at *
 have key : Ok (aH 6 (gR φ1 φ2) [.cell 0, .lst JD] [some (L.map .int)]) (λ r => r = (.tup SD, [some (L1.map .int)])) := by
  apply gH;unfold gR;simp [e1, hjl, dg, e2, e3, elen, emin, eo, es, e4, v4, esz, hz, e5, -gZ, -Qe]
 exact jg (xJ key) rfl
theorem Ce (hr : ∀ r ∈ rs, fO (d + 1) r) (hl : rs.length = ss.length) (h60 : rs.length <= 60) (hne : rs ≠ []) (hs : ∀ s ∈ ss, 1 <= s /\ Sm 2000 s) : ∃ (ns : List Int) (c : Int), mx (gq (d + 1) rs ss) = ns ++ [c] /\ ns.length = d /\ (∀ n ∈ ns, Sm 8000 n) /\ 1 <= c /\ Sm 3000 c := by
 have mo := DQ (by omega) hr hl h60 hne hs
 obtain ⟨M1', M2', M3'⟩ := qW hr;have hw : ∀ w ∈ wts (fV rs) rs ss, Sm 2400 w := λ w hw => by
  obtain ⟨⟨s, r⟩, hx, rfl⟩ := Zq.mp hw;have hm := List.of_mem_zip hx;exact bZ (jm (hs s hm.1).2 (kZ M3' (show 0 < bJ r by have := (hr r hm.2).b1; omega))) (by omega)
 have hwl : (wts (fV rs) rs ss).length <= 60 := by unfold wts; simp; omega
 have hvs : ∀ z ∈ gq (d + 1) rs ss, Sm 2430 z := λ z hz => by
  obtain ⟨i, hi, rfl⟩ := Zq.mp hz;exact bZ (Ti (a := 2400) (b := 14) hw (λ y hy => pY 10001 (by have := Ex hr (List.mem_range.mp hi) y hy; omega) (by decide)) hwl) (by decide)
 have hv := mo.v;have hlst := mo.lst;have hpos := mo.pos;have hsm := mo.sm;have hg0 := mo.g0;clear mo;generalize fV rs * ss.sum = B at *
 generalize gq (d + 1) rs ss = v at *
 have hvn : v ≠ [] := λ z => by rw [z] at hv; simp at hv
 have hvd : v = v.dropLast ++ [B] := by
  have := List.dropLast_concat_getLast hvn;rw [List.getLastD_eq_getLast?, List.getLast?_eq_some_getLast hvn] at hlst;have hlst : v.getLast hvn = B := hlst;rw [hlst] at this;exact this.symm
 have hB : B ∈ v := by rw [hvd]; simp
 have hdv : bK 0 v ∣ B.natAbs := ((kj v 0 _).mp (Nat.dvd_refl _)).2 B hB;have hgle := Nat.le_of_dvd (by omega) hdv
 refine ⟨(v.dropLast).map λ n => n.fdiv (bK 0 v : Nat), B.fdiv (bK 0 v : Nat), ?_, by simp [hv], λ n hn => ?_, ?_, kZ hsm (by omega)⟩
 .unfold mx;generalize bK 0 v = g at *
  conv => lhs; rw [hvd]
  simp
 .obtain ⟨m, hm, rfl⟩ := Zq.mp hn;exact kZ (bZ (hvs m ((List.dropLast_sublist v).subset hm)) (by decide)) (by omega)
 .rw [Int.fdiv_eq_ediv_of_nonneg B (by omega)]
  exact (Int.le_ediv_iff_mul_le (by omega)).mpr (by omega)
theorem wL : ∀ qs : List (List Int), eY (qs.map aJ) = true /\ jz (qs.map aJ) <= 1
 | [] => ⟨by simp [eY], by simp [jz]⟩
 | q :: qs => by
  obtain ⟨a, b⟩ := wL qs;refine ⟨?_, ?_⟩
  .rw [Zj, eY, a]; unfold aJ; rw [cN, lQ]; rfl
  .rw [Zj, jz]; unfold aJ at *; rw [ir, nR]; omega
def HB (φ : FF) : Prop := ∀ (ws cs : List Int) (μ : Mu), (∀ w ∈ ws, Sm 9000 w) -> (∀ c ∈ cs, Sm 9000 c) -> φ [aJ ws, aJ cs] μ = some (.int (dot ws cs), μ)
theorem LQ : HB (trunc (aH 2 bL)) := λ ws cs μ hw hc => by
 apply bM;have e := vz (th := thG (jD 2 (bN (hName 0) (bN (hName 1) jB))) (M2 (aq 0) (aq 1) cU) (dg ["one", "other"] [some (aJ ws), some (aJ cs)] [])) (F := λ p : Int × Int => .tup [D.int p.1, .int p.2]) (g := λ p => p.1 * p.2) (μ := μ) (ws.zip cs) 0 λ p hp => by
  obtain ⟨p1, p2⟩ := p;have hm := List.of_mem_zip hp;have := bI (x := p1) (y := p2) μ (hw _ hm.1) (hc _ hm.2) (by decide)
  simp [thG, dg, this]
 have ez := lU (F := D.int) (G := D.int) ws cs;unfold dot aJ;unfold aJ at e;simp [bL, ez];rw [List.map_map] at e;rw [e];simp
structure SpR (d : Nat) (r : List Int) : Prop where
 len : r.length = d + 1
 sm : ∀ x ∈ r, Sm 9000 x
theorem SpR.ne {d : Nat} {r : List Int} (h : SpR d r) : r ≠ [] := λ z => by
 have := h.len;rw [z] at this;simp at this
theorem SpR.last {d : Nat} {r : List Int} (h : SpR d r) : atI (r.map D.int) (-1) = some (.int (bJ r)) := rD h.ne
theorem SpR.lastS {d : Nat} {r : List Int} (h : SpR d r) : Sm 9000 (bJ r) := by
 apply h.sm;unfold bJ;cases r with
 | nil => exact absurd rfl h.ne
 | cons a b => simp [List.getLastD]
def bey (ns : List Int) (m : Int) (r : List Int) : Bool := decide (m * bJ r < dot ns r.dropLast)
theorem zW : ∀ (ns r : List Int), r.length = ns.length + 1 -> dot ns r = dot ns r.dropLast
 | [], r, _ => by simp [dot]
 | n :: ns, [], h => by simp at h
 | n :: ns, [x], h => by simp at h
 | n :: ns, x :: y :: r, h => by
  have := zW ns (y :: r) (by simpa using h)
  rw [qu, List.dropLast_cons₂, qu, this]
def zy (φ : FF) : Prop := ∀ (d : Nat) (ns : List Int) (m : Int) (r : List Int) (μ : Mu), ns.length = d -> (∀ n ∈ ns, Sm 2000 n) -> Sm 2000 m -> SpR d r -> φ [.tup [aJ ns, .int m], aJ r] μ = some (.bl (bey ns m r), μ)
theorem Hr {φ : FF} (hφ : HB φ) : zy (trunc (aH 4 (iz φ))) := λ d ns m r μ hl hn hm hr => by
 apply bM;have e1 := hφ ns r.dropLast μ (λ w h => bZ (hn w h) (by decide)) λ c h => hr.sm c ((List.dropLast_sublist _).mem h)
 have e2 : oSl (aJ r) none (some (-1)) μ = some (aJ r.dropLast, μ) := by
  have := Em (ds := r.map D.int) (μ := μ) (λ z => hr.ne (by simpa using z))
  rw [<- List.map_dropLast] at this;exact this
 have e3 : oIx (aJ r) (.int (-1)) μ = some (.int (bJ r), μ) := by
  unfold aJ;rw [BX];simp [hr.last]
 have e4 := bI (x := m) (y := bJ r) μ hm hr.lastS (by decide)
 unfold bey;generalize aJ r.dropLast = RD at *
 generalize aJ r = R at *
 generalize aJ ns = N at *
 generalize bJ r = b at *
 generalize dot ns r.dropLast = S at *
 simp [iz, e1, e2, e3, e4, -BX]
def mX (d : Nat) : D -> Bool
 | .tup [.tup ds, .int _] => ds.all isInt && (ds.length == d && (ds.map intOf).any (λ n => n != 0))
 | _ => false
def ThW (t : D) : Prop := nc t /\ ∀ ds m, t = .tup [.tup ds, .int m] -> (∀ i, D.int i ∈ ds -> Sm 2000 i) /\ Sm 2000 m
def gb (d : Nat) : D -> Bool
 | .tup [.tup ds, .int _] => ds.all isInt && ds.length == d
 | _ => false
theorem zR {d : Nat} {t : D} (h : ¬ ∃ a b, t = .tup [a, b]) : gb d t = false := by
 unfold gb;split
 .exact absurd ⟨_, _, rfl⟩ h
 .rfl
theorem pX {d : Nat} {t : D} (h : gb d t = false) : mX d t = false := by
 unfold gb at h;unfold mX;split at h
 .simp only [Bool.and_eq_false_iff] at h
  rcases h with h | h <;> simp [h]
 .rfl
theorem zf {d : Nat} {t : D} (h : gb d t = true) : ∃ (ns : List Int) (m : Int), t = .tup [aJ ns, .int m] /\ ns.length = d := by
 unfold gb at h;split at h
 .rename_i ds m;simp only [Zo, beq_iff_eq] at h;refine ⟨ds.map intOf, m, ?_, by simpa using h.2⟩
  unfold aJ;rw [<- ints_of h.1]
 .cases h
theorem zT {d : Nat} {ns : List Int} {m : Int} (h : ns.length = d) : mX d (.tup [aJ ns, .int m]) = ns.any (λ n => n != 0) := by
 show ((ns.map D.int).all isInt && ((ns.map D.int).length == d && ((ns.map D.int).map intOf).any (λ n => n != 0))) = _;rw [Iu, ints_map];simp [h]
theorem Mx {φ1 φ2 φ3 : FF} (h1 : QZ φ1) (h2 : Dw φ2) (h3 : xX φ3) (d : Nat) (t : D) (μ : Mu) (hn : nc t) : trunc (aH 4 (jT φ1 φ2 φ3)) [.int d, t] μ = some (.bl (gb d t), μ) := by
 apply bM;unfold jT;have e1 := h1 2 t μ hn;by_cases hp : ∃ a b, t = .tup [a, b]
 .obtain ⟨a, b, rfl⟩ := hp;have na : nc a := fM.mp hn a (by simp)
  have nb : nc b := fM.mp hn b (by simp)
  have e2 := h2 a μ na;have e3 := h3 b μ nb;have e1 : φ1 [.int 2, .tup [a, b]] μ = some (.bl true, μ) := e1;cases a with
  | tup ds =>
   have ei : sV (.tup ds) = ds.all isInt := rfl;rw [ei] at e2;have el : ((ds.length : Int) == (d : Int)) = (ds.length == d) := by
    by_cases h : ds.length = d
    .simp [h]
    .have : ¬ (ds.length : Int) = d := by omega
     rw [beq_eq_false_iff_ne.mpr this, beq_eq_false_iff_ne.mpr h]
   have ev : gb d (.tup [.tup ds, b]) = (ds.all isInt && ((ds.length == d) && isInt b)) := by
    cases b <;> simp [gb, isInt]
   rw [ev];generalize (ds.length == d) = B at *
   generalize hl : (ds.length : Int) = l at *
   generalize ds.all isInt = A at *
   generalize isInt b = C at *
   cases A <;> cases B <;> simp [e1, e2, e3, hl, el]
  | _ =>
   have e2 : φ2 [_] μ = some (.bl false, μ) := e2;simp [e1, e2, gb]
 .have e1 : φ1 [.int 2, t] μ = some (.bl false, μ) := by
   rw [e1];congr 3
   cases t with
   | tup ds =>
    match ds, hp with
    | [], _ => rfl
    | [a], _ => rfl
    | [a, b], hp => exact absurd ⟨a, b, rfl⟩ hp
    | a :: b :: c :: r, _ =>
     unfold Ks;simp;omega
   | _ => rfl
  rw [zR hp];simp [e1]
theorem Pb {φ : FF} (h : ∀ (d : Nat) (t : D) (μ : Mu), nc t -> φ [.int d, t] μ = some (.bl (gb d t), μ)) (d : Nat) (t : D) (μ : Mu) (hn : nc t) : trunc (aH 2 (jM φ)) [.int d, t] μ = some (.bl (mX d t), μ) := by
 apply bM;unfold jM;have e1 := h d t μ hn;cases hs : gb d t with
 | false =>
  rw [hs] at e1;rw [pX hs];simp [e1]
 | true =>
  rw [hs] at e1;obtain ⟨ns, m, rfl, hl⟩ := zf hs;rw [zT hl];have ea := any_ints μ ns;have es : ∀ μ, Mv (aJ ns, μ) = some ((ns.map D.int).map thE, μ) := λ _ => rfl;have ai : atI [aJ ns, D.int m] 0 = some (aJ ns) := rfl;generalize (ns.map D.int).map thE = TH at *
  generalize aJ ns = R at *
  simp [e1, es, ea, ai]
def outV (d : Nat) (ps : List (List Int)) (r : List Int) : D -> Bool
 | .tup [.tup ds, .int m] => mX d (.tup [.tup ds, .int m]) && (bey (ds.map intOf) m r && !ps.any (bey (ds.map intOf) m))
 | _ => false
theorem Fq {d : Nat} {ps : List (List Int)} {r : List Int} {t : D} (h : mX d t = false) : outV d ps r t = false := by
 unfold outV;split
 .rw [h]; rfl
 .rfl
theorem Ov {d : Nat} {t : D} (h : mX d t = true) : ∃ (ns : List Int) (m : Int), t = .tup [aJ ns, .int m] /\ ns.length = d := by
 cases hs : gb d t with
 | true => exact zf hs
 | false => rw [pX hs] at h; cases h
theorem Ga {d : Nat} {ps : List (List Int)} {r ns : List Int} {m : Int} : outV d ps r (.tup [aJ ns, .int m]) = (mX d (.tup [aJ ns, .int m]) && (bey ns m r && !ps.any (bey ns m))) := by
 show (mX d (.tup [.tup (ns.map .int), .int m]) && (bey ((ns.map D.int).map intOf) m r && !ps.any (bey ((ns.map D.int).map intOf) m))) = _;rw [ints_map];rfl
def xN (φ : FF) : Prop := ∀ (d : Nat) (ps : List (List Int)) (r : List Int) (t : D) (μ : Mu), 1 <= d -> d <= 9 -> (∀ p ∈ ps, SpR d p) -> SpR d r -> ps.length <= 60 -> ThW t -> φ [.lst (ps.map aJ), aJ r, t] μ = some (.bl (outV d ps r t), μ)
theorem any_rows {th : D -> gJ} {p : List Int -> Bool} {μ : Mu} (ps : List (List Int)) (h : ∀ q ∈ ps, th (aJ q) μ = some (.bl (p q), μ)) : rJ ((ps.map aJ).map th) μ = some (ps.any p, μ) := by
 have := qx (th := th) (p := λ d => match d with | .tup ds => p (ds.map intOf) | _ => false) (μ := μ) (ps.map aJ) λ d hd => by
  obtain ⟨q, hq, rfl⟩ := Zq.mp hd;rw [h q hq];show _ = some (D.bl (p ((q.map D.int).map intOf)), μ);rw [ints_map]
 rw [this, List.any_map];congr 3
 funext q
 show p ((q.map D.int).map intOf) = p q;rw [ints_map]
theorem CP {φ1 φ2 : FF} (h1 : ∀ (d : Nat) (t : D) (μ : Mu), nc t -> φ1 [.int d, t] μ = some (.bl (mX d t), μ)) (h2 : zy φ2) : xN (trunc (aH 3 (dO φ1 φ2))) := λ d ps r t μ d1 d9 hp hr hl ht => by
 apply bM;unfold dO;have e1 := h1 d t μ ht.1;have el : ((r.map D.int).length : Int) - 1 = d := by rw [Zu, hr.len]; omega
 have elen : bC (aJ r) μ = some (.int ((d : Int) + 1), μ) := by
  show some (D.int ((r.map D.int).length : Int), μ) = _;rw [show ((r.map D.int).length : Int) = (d : Int) + 1 by omega]
 cases hs : mX d t with
 | false =>
  rw [hs] at e1;rw [Fq hs];generalize aJ r = R at *
  generalize ps.map aJ = PD at *
  simp [elen, e1]
 | true =>
  rw [hs] at e1;obtain ⟨ns, m, rfl, hn⟩ := Ov hs;obtain ⟨q1, q2⟩ := ht.2 _ _ rfl;have q1 : ∀ n ∈ ns, Sm 2000 n := λ n hn => q1 n (Zq.mpr ⟨n, hn, rfl⟩);have e2 := h2 d ns m r μ hn q1 q2 hr;have e3 := any_rows (th := thG (hName 0) (MC (ao (aq 1) (ao (aq 0) (aB))) φ2) [none, some (.tup [aJ ns, .int m])]) (p := bey ns m) (μ := μ) ps λ q hq => by
   have := h2 d ns m q μ hn q1 q2 (hp q hq);generalize aJ q = Q at *
   generalize D.tup [aJ ns, .int m] = W at *
   simp [thG, this]
  rw [Ga, hs];generalize ps.any (bey ns m) = A at *
  generalize bey ns m r = B at *
  generalize D.tup [aJ ns, .int m] = W at *
  generalize aJ r = R at *
  generalize hM : (ps.map aJ).map (thG (hName 0) (MC (ao (aq 1) (ao (aq 0) (aB))) φ2) [none, some W]) = TH at *
  generalize ps.map aJ = PD at *
  cases B with
  | false => simp [elen, e1, e2]
  | true => simp [elen, e1, e2, dg, hM, e3]
def Li (φ : FF) : Prop := ∀ (d : Nat) (ns r : List Int) (μ : Mu), d <= 9 -> ns.length = d -> (∀ n ∈ ns, Sm 2000 n) -> SpR d r -> φ [aJ ns, aJ r] μ = some (.tup [.int (dot ns r.dropLast), .int (bJ r)], μ)
theorem Ph : Li (trunc (aH 2 yp)) := λ d ns r μ d9 hl hn hr => by
 apply bM;have ez := lU (F := D.int) (G := D.int) ns r;have ec := gQ (all := kh (ns.map D.int) (r.map D.int)) (h := jD 2 (bN (hName 0) (bN (hName 1) (jB)))) (fe := M2 (aq 0) (aq 1) cU) (δb := [none, none]) (F := λ p : Int × Int => D.tup [.int p.1, .int p.2]) (f := λ p => D.int (p.1 * p.2)) (μ := μ) (ns.zip r) λ p hp => by
  obtain ⟨p1, p2⟩ := p;have hm := List.of_mem_zip hp;have := bI (x := p1) (y := p2) μ (hn _ hm.1) (hr.sm _ hm.2) (by decide)
  exact ⟨[some (.int p1), some (.int p2)], by simp, by simp [this]⟩
 rw [<- ez] at ec;have es := sum_ints μ ((ns.zip r).map λ p => p.1 * p.2) 0;have ed : ((ns.zip r).map λ p => p.1 * p.2).sum = dot ns r.dropLast := zW ns r (by rw [hr.len, hl])
 rw [ed, Int.zero_add] at es;have e3 : oIx (aJ r) (.int (-1)) μ = some (.int (bJ r), μ) := by
  unfold aJ;rw [BX];simp [hr.last]
 have f1 : gw (aJ ns) = some (ns.map D.int) := rfl;have f2 : gw (aJ r) = some (r.map D.int) := rfl;have fm : (ns.zip r).map (λ p => D.int (p.1 * p.2)) = ((ns.zip r).map λ p => p.1 * p.2).map D.int := by simp
 rw [fm] at ec;have zz : (kh (ns.map D.int) (r.map D.int)).length <= 1000 := by rw [ez]; simp; omega
 generalize ((ns.zip r).map λ p => p.1 * p.2).map D.int = M at *
 generalize aJ ns = N at *
 generalize aJ r = R at *
 generalize dot ns r.dropLast = S at *
 generalize bJ r = b at *
 unfold yp;simp [f1, f2, zz, dg, ec, es, e3, -BX]
def Fp (φ : FF) : Prop := ∀ (m S b : Int) (μ : Mu), Sm 2000 m -> Sm 9000 b -> Sm 20000 S -> φ [.tup [.int m, .int 1], .tup [.int S, .int b]] μ = some (.bl (decide (m * b < S)), μ)
theorem Kg : Fp (trunc (aH 2 lM)) := λ m S b μ hm hb hS => by
 apply bM;have e1 := bI (x := m) (y := b) μ hm hb (by decide)
 have e2 := bI (x := S) (y := 1) (b := 1) μ hS (by unfold Sm; decide) (by decide)
 rw [Int.mul_one] at e2;have a0 : ∀ x y : D, atI [x, y] 0 = some x := λ _ _ => rfl;have a1 : ∀ x y : D, atI [x, y] 1 = some y := λ _ _ => rfl;unfold lM;simp [e1, e2, a0, a1]
theorem HD : ∀ (ns : List Int) (k : Nat), (∀ n ∈ ns, Sm k n) -> Sm (k + ns.length) ns.sum
 | [], k, _ => by unfold Sm; exact Nat.pos_of_ne_zero (by simp)
 | n :: ns, k, h => by
  have h1 := HD ns k λ x hx => h x (by simp [hx])
  rw [List.sum_cons, List.length_cons];exact Km (bZ (h n (by simp)) (Nat.le_add_right _ _)) h1
theorem Mp {ns r : List Int} {d : Nat} (hl : ns.length = d) (hn : ∀ n ∈ ns, Sm 2000 n) (hr : SpR d r) (hd : d <= 9) : Sm 20000 (dot ns r.dropLast) := by
 unfold dot;have := HD ((ns.zip r.dropLast).map λ p => p.1 * p.2) 11000 λ x hx => by
  obtain ⟨p, hp, rfl⟩ := Zq.mp hx;have hm := List.of_mem_zip (a := p.1) (b := p.2) hp;exact jm (a := 2000) (b := 9000) (hn _ hm.1) (hr.sm _ ((List.dropLast_sublist _).mem hm.2))
 refine bZ this ?_;simp;omega
def zE (φ : FF) : Prop := ∀ (d : Nat) (ns : List Int) (m : Int) (ps : List (List Int)) (μ : Mu), d <= 9 -> ns.length = d -> (∀ n ∈ ns, Sm 2000 n) -> Sm 2000 m -> (∀ p ∈ ps, SpR d p) -> ps.length <= 60 -> φ [.tup [aJ ns, .int m], .lst (ps.map aJ)] μ = some (.bl (!ps.any (bey ns m)), μ)
theorem behind_of {φ1 φ2 : FF} (h1 : Li φ1) (h2 : Fp φ2) : zE (trunc (aH 2 (jU φ1 φ2))) := λ d ns m ps μ d9 hl hn hm hp hpl => by
 apply bM;have a0 : ∀ x y : D, atI [x, y] 0 = some x := λ _ _ => rfl;have a1 : ∀ x y : D, atI [x, y] 1 = some y := λ _ _ => rfl;have ec := gQ (all := ps.map aJ) (h := hName 0) (fe := MC (ao (MC (ao (M2 (aq 1) (mC (.int 1)) oIx) (ao (mC (.int 1)) (aB))) oTup) (ao (MC (ao (M2 (aq 1) (mC (.int 0)) oIx) (ao (aq 0) (aB))) φ1) (aB))) φ2) (δb := [none, some (.tup [aJ ns, .int m])]) (F := aJ) (f := λ p => D.bl (bey ns m p)) (μ := μ) ps λ p hpm => by
  have hr := hp p hpm;have e1 := h1 d ns p μ d9 hl hn hr;have e2 := h2 m (dot ns p.dropLast) (bJ p) μ hm hr.lastS (Mp hl hn hr d9);refine ⟨[some (aJ p), some (.tup [aJ ns, .int m])], by simp, ?_⟩
  unfold bey;generalize aJ p = P at *
  generalize aJ ns = N at *
  simp [e1, e2, a0, a1]
 have ea : rJ ((ps.map λ p => D.bl (bey ns m p)).map thE) μ = some (ps.any (bey ns m), μ) := by
  have := qx (th := thE) (p := λ d => match d with | .bl k => k | _ => false) (μ := μ) (ps.map λ p => D.bl (bey ns m p)) λ d hd => by
   obtain ⟨q, hq, rfl⟩ := Zq.mp hd;rfl
  rw [this, List.any_map];rfl
 have zz : (ps.map aJ).length <= 1000 := by simp; omega
 generalize ps.any (bey ns m) = A at *
 generalize (ps.map λ p => D.bl (bey ns m p)) = M at *
 generalize D.tup [aJ ns, .int m] = W at *
 generalize ps.map aJ = PD at *
 unfold jU;simp [zz, dg, ec, ea]
theorem Sq {μ : Mu} (ds : List D) (f : D -> Bool) : Am ((ds.map λ d => D.bl (f d)).map thE) μ = some (ds.all f, μ) := by
 have := nq (th := thE) (p := λ d => match d with | .bl k => k | _ => false) (μ := μ) (ds.map λ p => D.bl (f p)) λ d hd => by
  obtain ⟨q, hq, rfl⟩ := Zq.mp hd;rfl
 rw [this, List.all_map];rfl
theorem Tg {μ : Mu} (ds : List D) (f : D -> Bool) : rJ ((ds.map λ d => D.bl (f d)).map thE) μ = some (ds.any f, μ) := by
 have := qx (th := thE) (p := λ d => match d with | .bl k => k | _ => false) (μ := μ) (ds.map λ p => D.bl (f p)) λ d hd => by
  obtain ⟨q, hq, rfl⟩ := Zq.mp hd;rfl
 rw [this, List.any_map];rfl
theorem Nm {φ : FF} (hφ : xX φ) (d : Nat) (t : D) (μ : Mu) (hn : nc t) (hl : ∀ a b, t = .tup [.tup a, b] -> a.length <= 1000) : trunc (aH 2 (mK φ)) [.int d, t] μ = some (.bl (gb d t), μ) := by
 apply bM;unfold mK;by_cases hp : ∃ a b, t = .tup [a, b]
 .obtain ⟨a, b, rfl⟩ := hp;have na : nc a := fM.mp hn a (by simp)
  have nb : nc b := fM.mp hn b (by simp)
  have e3 := hφ b μ nb;have a0 : ∀ x y : D, atI [x, y] 0 = some x := λ _ _ => rfl;have a1 : ∀ x y : D, atI [x, y] 1 = some y := λ _ _ => rfl;have ev : gb d (.tup [a, b]) = (isInt b && gb d (.tup [a, .int 0])) := by
   cases b <;> simp [gb, isInt];cases a <;> simp [gb]
  rw [ev];generalize isInt b = C at *
  cases C with
  | false => simp [e3, a0, a1]
  | true =>
   cases a with
   | tup ds =>
    have ea := Sq (μ := μ) ds isInt;have ec := qL (all := ds) (h := hName 0) (fe := MC (ao (aq 0) (aB)) φ) (δb := [none]) (f := λ d => D.bl (isInt d)) (μ := μ) ds λ x hx => ⟨[some x], by simp, by simp [hφ x μ (fM.mp na x hx)]⟩
    have zz := hl ds b rfl;have el : ((ds.length : Int) == (d : Int)) = (ds.length == d) := by
     by_cases h : ds.length = d
     .simp [h]
     .have : ¬ (ds.length : Int) = d := by omega
      rw [beq_eq_false_iff_ne.mpr this, beq_eq_false_iff_ne.mpr h]
    have ev : gb d (.tup [.tup ds, .int 0]) = (ds.all isInt && (ds.length == d)) := rfl;rw [ev];generalize (ds.length == d) = B at *
    generalize hlen : (ds.length : Int) = l at *
    generalize ds.all isInt = A at *
    generalize (ds.map λ d => D.bl (isInt d)) = BM at *
    cases B with
    | false => simp [e3, a0, a1, hlen, el]
    | true => simp [e3, a0, a1, hlen, el, zz, dg, ec, ea]
   | cell n => exact absurd na (by simp [nc, cLt])
   | ro ds => simp [e3, a0, a1, gb, gm, za]
   | _ => simp [e3, a0, a1, gb]
 .rw [zR hp];cases t with
  | tup ds =>
   have hl2 : ¬ (ds.length : Int) = 2 := λ z => by
    match ds, hp, z with
    | [a, b], hp, _ => exact hp ⟨a, b, rfl⟩
    | [], _, z => simp at z
    | [a], _, z => simp at z
    | a :: b :: c :: r, _, z => simp at z; omega
   have hl3 : ((ds.length : Int) == 2) = false := beq_eq_false_iff_ne.mpr hl2;generalize hlen : (ds.length : Int) = l at *
   simp [hlen, hl3]
  | cell n => exact absurd hn (by simp [nc, cLt])
  | ro ds => simp [gm, za]
  | _ => simp
theorem Td (ns : List Int) (μ : Mu) (all : List D) : lcL ⟨all, none⟩ (hName 0) cT (M2 (aq 0) (mC (.int 0)) oNe) [none] (ns.map D.int) μ = some ((ns.map D.int).map (λ d => D.bl (intOf d != 0)), μ) := by
 exact qL (ns.map D.int) λ d hd => by
  obtain ⟨n, _, rfl⟩ := Zq.mp hd;exact ⟨[some (.int n)], by simp, by simp [intOf, bne]⟩
theorem Ij {φ1 φ2 : FF} (h1 : ∀ (d : Nat) (t : D) (μ : Mu), nc t -> (∀ a b, t = .tup [.tup a, b] -> a.length <= 1000) -> φ1 [.int d, t] μ = some (.bl (gb d t), μ)) (h2 : zE φ2) (d : Nat) (ps : List (List Int)) (r : List Int) (t : D) (μ : Mu) (d1 : 1 <= d) (d9 : d <= 9) (hp : ∀ p ∈ ps, SpR d p) (hr : SpR d r) (hl : ps.length <= 60) (ht : ThW t) (hz : ∀ a b, t = .tup [.tup a, b] -> a.length <= 1000) : trunc (aH 3 (qp φ1 φ2)) [.lst (ps.map aJ), aJ r, t] μ = some (.bl (outV d ps r t), μ) := by
 apply bM;unfold qp;have e1 := h1 d t μ ht.1 hz;have elen : bC (aJ r) μ = some (.int ((d : Int) + 1), μ) := by
  show some (D.int ((r.map D.int).length : Int), μ) = _;rw [show ((r.map D.int).length : Int) = (d : Int) + 1 by rw [Zu, hr.len]; omega]
 cases hs : gb d t with
 | false =>
  rw [hs] at e1;rw [Fq (pX hs)];generalize aJ r = R at *
  generalize ps.map aJ = PD at *
  simp [elen, e1]
 | true =>
  rw [hs] at e1;obtain ⟨ns, m, rfl, hn⟩ := zf hs;obtain ⟨q1, q2⟩ := ht.2 _ _ rfl;have q1 : ∀ n ∈ ns, Sm 2000 n := λ n hn => q1 n (Zq.mpr ⟨n, hn, rfl⟩);have e2 := h2 d ns m ps μ d9 hn q1 q2 hp hl;have e3 := h2 d ns m [r] μ d9 hn q1 q2 (λ p hp => by rw [List.mem_singleton.mp hp]; exact hr) (by simp)
  rw [Zj, List.map_nil, List.any_cons, List.any_nil, Bool.or_false] at e3;have ec := Td ns μ (ns.map D.int);have ea := Tg (μ := μ) (ns.map D.int) (λ d => intOf d != 0);have ev : (ns.map D.int).any (λ d => intOf d != 0) = ns.any (λ n => n != 0) := by
   rw [List.any_map];rfl
  rw [ev] at ea;have a0 : atI [aJ ns, D.int m] 0 = some (aJ ns) := rfl;have src : ∀ μ, srcOf (aJ ns) μ = some ⟨ns.map .int, none⟩ := λ _ => rfl;have zz : (ns.map D.int).length <= 1000 := by simp; omega
  rw [Ga, zT hn];have ix0 : oIx (.tup [aJ ns, .int m]) (.int 0) μ = some (aJ ns, μ) := by rw [BX]; simp [a0]
  generalize ns.any (λ n => n != 0) = Z at *
  generalize ps.any (bey ns m) = A at *
  generalize bey ns m r = B at *
  generalize D.tup [aJ ns, .int m] = W at *
  generalize ((ns.map D.int).map λ d => D.bl (intOf d != 0)) = BM at *
  generalize ns.map D.int = ND at *
  generalize aJ ns = N at *
  generalize aJ r = R at *
  generalize ps.map aJ = PD at *
  cases Z with
  | false => simp [elen, e1, ix0, src, zz, dg, ec, ea, -BX]
  | true =>
   cases A <;> cases B <;> simp [elen, e1, ix0, src, zz, dg, ec, ea, e2, e3, -BX]
theorem uA {d : Nat} : ∀ (ps0 : List D), (∀ p ∈ ps0, oX d p) -> ∃ ps : List (List Int), ps0 = ps.map aJ /\ ∀ p ∈ ps, fO (d + 1) p
 | [], _ => ⟨[], rfl, by simp⟩
 | p :: ps0, h => by
  obtain ⟨ps, e, hp⟩ := uA ps0 λ q hq => h q (by simp [hq])
  obtain ⟨ns, b, rfl, h1, h2⟩ := h p (by simp)
  refine ⟨(ns ++ [b]) :: ps, by rw [e]; rfl, λ q hq => ?_⟩
  rcases Zi.mp hq with z | z
  .rw [z]; exact PtL.row h1
  .exact hp q z
def rR (φ : FF) : Prop := ∀ (d most : Int), 1 <= d -> d <= 3 -> 0 <= most -> most <= 40 -> ∀ (L : List Int), DlD L -> ∃ (ps : List (List Int)) (L' : List Int), φ [.cell 0, .int d, .int most] [some (L.map .int)] = some (.lst (ps.map aJ), [some (L'.map .int)]) /\ DlD L' /\ ps ≠ [] /\ ps.length <= 40 /\ ∀ p ∈ ps, fO (d.toNat + 1) p
theorem Gz {φ1 φ2 φ3 : FF} (h1 : qU φ1) (h2 : iV φ2) (h3 : oW φ3) {g : SF}
  (k1 : ∀ (a b c p : D) (μ μ1 μ2 μ3 : Mu), φ1 [a, b, c] μ = some (.lst [], μ1) -> oEq (.lst []) (.lst []) μ1 = some (.bl true, μ1) -> ∀ x : Int, φ2 [a] μ1 = some (.int x, μ2) -> φ3 [.int x, b, .int 2, .int 0] μ2 = some (p, μ2) -> Ok (aH 4 g [a, b, c] μ) (λ r => r = (.lst [p], μ2)))
  (k2 : ∀ (a b c p : D) (ps : List D) (μ μ1 : Mu), φ1 [a, b, c] μ = some (.lst (p :: ps), μ1) -> oEq (.lst (p :: ps)) (.lst []) μ1 = some (.bl false, μ1) -> Ok (aH 4 g [a, b, c] μ) (λ r => r = (.lst (p :: ps), μ1))) : rR (trunc (aH 4 g)) := λ d most d1 d3 m0 m40 L hL => by
 obtain ⟨ps0, L1, e0, hL1, hl, hp⟩ := h1 L [] d most hL iD.nil d1 d3 m0 m40;obtain ⟨p1, p2⟩ := yI hp;have en := Iv (ps := ps0) (μ := [some (L1.map .int)]) p1 (by omega)
 cases ps0 with
 | nil =>
  obtain ⟨x, L2, e1, hx, hL2⟩ := eU h2 hL1 [];obtain ⟨p, e2, hpt⟩ := h3 x d 2 0 [some (L2.map .int)] iD.nil.dr hx d1 d3 (by decide) (by decide) (by decide) (by decide)
  obtain ⟨ps, e, hq⟩ := uA [p] λ q hq => by rw [List.mem_singleton.mp hq]; exact hpt
  have hps : ps.length = 1 := by
   have := congrArg List.length e;simpa using this.symm
  refine ⟨ps, L2, ?_, hL2, λ z => by rw [z] at hps; simp at hps, by omega, hq⟩
  rw [<- e];exact jg (xJ (k1 _ _ _ p _ _ _ [] e0 en x e1 e2)) rfl
 | cons p ps0 =>
  obtain ⟨ps, e, hq⟩ := uA (p :: ps0) hp;have hps : ps.length = (p :: ps0).length := by rw [e]; simp
  refine ⟨ps, L1, ?_, hL1, λ z => by rw [z] at hps; simp at hps, by omega, hq⟩
  rw [<- e];exact jg (xJ (k2 _ _ _ p ps0 _ _ e0 en)) rfl
theorem Ik {φ1 φ2 φ3 : FF} (h1 : qU φ1) (h2 : iV φ2) (h3 : oW φ3) : rR (trunc (aH 4 (dF φ1 φ2 φ3))) := by
 refine Gz h1 h2 h3 (λ a b c p μ μ1 μ2 μ3 e0 en x e1 e2 => ?_) λ a b c p ps μ μ1 e0 en => ?_
 .apply gH;unfold dF;simp [e0, en, e1, e2]
 .apply gH;unfold dF;simp [e0, en]
theorem Ld {φ : FF} (hl : sX φ) (ns : List Int) (c x : Int) (μ : Mu) (hm : iD μ) (h1 : 1 <= ns.length) (h3 : ns.length <= 9) (hb : ∀ n ∈ ns, Sm 8000 n) (c1 : 1 <= c) (cs : Sm 3000 c) : ∃ ms : List Int, trunc (aH 5 (nW φ)) [aJ (ns ++ [c]), .int x] μ = some (aJ ms, μ) /\ SpR ns.length ms := by
 have key : ∃ p, trunc (aH 5 (nW φ)) [aJ (ns ++ [c]), .int x] μ = some (p, μ) /\ ∃ ms : List Int, p = aJ ms /\ SpR ns.length ms := by
  apply Eu hm;apply gH;unfold nW;have hne : (ns ++ [c]).map D.int ≠ [] := by simp
  have einit := Em (μ := μ) hne;have edl : ((ns ++ [c]).map D.int).dropLast = ns.map D.int := by rw [<- List.map_dropLast]; simp
  rw [edl] at einit;have elast := rD (ns := ns ++ [c]) (by simp)
  have el1 : (ns ++ [c]).getLastD 0 = c := by simp
  rw [el1] at elast;obtain ⟨i0, i1⟩ := aY (x := x) (m := ns.length) (by omega)
  have wm := fU (x := x) (y := (ns.length : Int)) μ (by omega)
  have hlen : bC (aJ (ns ++ [c])) μ = some (.int ((ns.length : Int) + 1), μ) := by simp
  have v3 := mW (i := x) (j := 3) (μ := μ) (by decide) (by decide)
  have v12 := λ μ => mW (i := x) (j := 12) (μ := μ) (by decide) (by decide)
  obtain ⟨j0, j1⟩ := aY (x := x.fdiv 3) (m := 4) (by decide)
  obtain ⟨sz, hsz, esz⟩ := mG (ds := [D.int 1000, .int 1, .int 3, .int 1000000]) j0 j1;have hsz : ∃ z : Int, sz = .int z /\ 1 <= z /\ z <= 1000000 := by
   simp only [Zi, List.not_mem_nil, or_false] at hsz
   rcases hsz with rfl | rfl | rfl | rfl <;> exact ⟨_, rfl, by decide, by decide⟩
  obtain ⟨sz, rfl, sz1, sz2⟩ := hsz;obtain ⟨k0, k1⟩ := aY (x := x.fdiv 12) (m := 2) (by decide)
  obtain ⟨sg, hsg, esg⟩ := mG (ds := [D.int 1, .int (-1)]) k0 k1;have hsg : ∃ z : Int, sg = .int z /\ z.natAbs <= 1 := by
   simp only [Zi, List.not_mem_nil, or_false] at hsg
   rcases hsg with rfl | rfl <;> exact ⟨_, rfl, by decide⟩
  obtain ⟨sg, rfl, sg1⟩ := hsg;have hssz : Sm 20 sz := pY 1000001 (by omega) (by decide)
  have el := gQ (all := ns.map D.int) (h := hName 0) (fe := M2 (aq 0) (aq 1) cU) (δb := [none, some (.int sz)]) (F := D.int) (f := λ n => .int (n * sz)) (μ := μ) ns λ n hn => ⟨_, rfl, by
   have := bI (x := n) (y := sz) μ (hb n hn) hssz (by decide)
   simp [this]⟩
  have el' : ns.map (λ n => D.int (n * sz)) = (ns.map (· * sz)).map D.int := by simp
  rw [el'] at el;have hvb : ∀ v ∈ ns.map (· * sz), Sm 8020 v := λ v hv => by
   obtain ⟨n, hn, rfl⟩ := Zq.mp hv;exact jm (hb n hn) hssz
  generalize hvs : ns.map (· * sz) = vs at *
  have hvl : vs.length = ns.length := by rw [<- hvs]; simp
  generalize x.fmod ns.length = i at *
  obtain ⟨ai, hvi⟩ := mH (ys := vs) (k := i) i0 (by omega)
  have hvis := hvb _ hvi;generalize vs.getD i.toNat 0 = vi at *
  have hix : ixN (vs.map D.int).length i = some i.toNat := by unfold ixN; rw [if_pos i0, if_pos (by simp; omega)]
  have hset : (vs.map D.int).set i.toNat (.int (vi + sg * c)) = (vs.set i.toNat (vi + sg * c)).map D.int := by rw [List.map_set]
  have hwl : (vs.set i.toNat (vi + sg * c)).length = ns.length := by simp [hvl]
  have m1 := λ μ => bI (x := sg) (y := c) μ (show Sm 1 sg by unfold Sm; omega) cs (by decide)
  have hsc : Sm 8020 (sg * c) := bZ (jm (show Sm 1 sg by unfold Sm; omega) cs) (by decide)
  have hws : ∀ w ∈ vs.set i.toNat (vi + sg * c), Sm 8021 w := λ w hw => by
   rcases List.mem_or_eq_of_mem_set hw with z | z
   .exact bZ (hvb w z) (by decide)
   .rw [z]; exact Km hvis hsc
  generalize sg * c = sc at *
  generalize vs.set i.toNat (vi + sc) = ws at *
  have m2 := λ μ => bI (x := c) (y := sz) μ cs hssz (by decide)
  have hcz : 1 <= c * sz := by
   have := Int.mul_le_mul c1 sz1 (by decide) (by omega)
   omega
  have hczs : Sm 4000 (c * sz) := bZ (jm cs hssz) (by decide)
  generalize c * sz = cz at *
  have em := hl ws cz (μ ++ [none]) (by omega) hczs (by omega) (λ z => by rw [z] at hwl; simp at hwl; omega)
  have hR : D.tup ((ws ++ [cz]).map λ n => .int (n.fdiv (sgn cz * (bK cz.natAbs ws : Nat)))) = aJ ((ws ++ [cz]).map λ n => n.fdiv (sgn cz * (bK cz.natAbs ws : Nat))) := by
   unfold aJ;rw [List.map_map];rfl
  rw [hR] at em;have hsp : SpR ns.length ((ws ++ [cz]).map λ n => n.fdiv (sgn cz * (bK cz.natAbs ws : Nat))) := ⟨by simp [hwl], λ m hm => by
   obtain ⟨n, hn, rfl⟩ := Zq.mp hm;have e1 : sgn cz = 1 := if_pos (by omega)
   have g0 : bK cz.natAbs ws ≠ 0 := oA (.inl (by omega))
   rw [e1, Int.one_mul];refine bZ (kZ (a := 8021) ?_ (by omega)) (by decide)
   rcases Zm.mp hn with z | z
   .exact hws n z
   .rw [List.mem_singleton.mp z]; exact bZ hczs (by decide)⟩
  generalize ((ws ++ [cz]).map λ n => n.fdiv (sgn cz * (bK cz.natAbs ws : Nat))) = ms at *
  have hz : ns.length <= 1000 := by omega
  have hlenm : (ns.map D.int).length = ns.length := by simp
  generalize hnD : ns.map D.int = nD at *
  generalize vs.map D.int = vD at *
  generalize ws.map D.int = wD at *
  have hfin : nc (aJ ms) /\ ∃ ms' : List Int, aJ ms = aJ ms' /\ SpR ns.length ms' := ⟨fM.mpr ue, ms, rfl, hsp⟩;clear hsp;generalize aJ ms = RM at *
  have eit : ∀ μ, cj (aJ (ns ++ [c])) μ = some ((ns ++ [c]).map .int) := λ μ => rfl;have esl : oSl (aJ (ns ++ [c])) none (some (-1)) μ = some (.tup nD, μ) := einit;generalize aJ (ns ++ [c]) = SP at *
  generalize (ns ++ [c]).map D.int = spD at *
  simp [hlen, wm, v3, esz, esl, dg, hlenm, hz, el, ai, v12, esg, eit, elast, m1, L3.Ay, hix, hset, m2, em];exact hfin
 obtain ⟨p, e, ms, rfl, h⟩ := key;exact ⟨ms, e, h⟩
theorem fO.sp {d : Nat} {r : List Int} (h : fO (d + 1) r) : SpR d r := ⟨h.len, λ x hx => bZ (pY (b := 14) 10001 (by have := h.sm x hx; omega) (by decide)) (by decide)⟩
def BP (φ : FF) : Prop := ∀ (ns : List Int) (c x : Int) (μ : Mu), iD μ -> 1 <= ns.length -> ns.length <= 9 -> (∀ n ∈ ns, Sm 8000 n) -> 1 <= c -> Sm 3000 c -> ∃ ms : List Int, φ [aJ (ns ++ [c]), .int x] μ = some (aJ ms, μ) /\ SpR ns.length ms
def Ey (φ : FF) : Prop := ∀ (d : Int) (ps : List (List Int)) (L : List Int), 1 <= d -> d <= 3 -> ps ≠ [] -> ps.length <= 40 -> (∀ p ∈ ps, fO (d.toNat + 1) p) -> DlD L -> ∃ (r L' : List Int), φ [.cell 0, .lst (ps.map aJ), .int d] [some (L.map .int)] = some (aJ r, [some (L'.map .int)]) /\ DlD L' /\ SpR d.toNat r
theorem Iz {φ1 φ2 φ3 φ4 φ5 : FF} (h1 : iV φ1) (h2 : oW φ2) (h3 : vU φ3) (h4 : CV φ4) (h5 : BP φ5) : Ey (trunc (aH 5 (iT φ1 φ2 φ3 φ4 φ5))) := λ d ps L d1 d3 hne hl hp hL => by
 obtain ⟨x, L1, e1, hx, hL1⟩ := eU h1 hL [];have v6 := λ μ => mW (i := x) (j := 6) (μ := μ) (by decide) (by decide)
 obtain ⟨c0, c1⟩ := aY (x := x) (m := 6) (by decide)
 obtain ⟨y0, y1⟩ := aY (x := x.fdiv 6) (m := 3) (by decide)
 have hd6 : Dr (x.fdiv 6) := by
  obtain ⟨x0, x1⟩ := hx;rw [Int.fdiv_eq_ediv_of_nonneg _ (by decide)]
  exact ⟨by omega, by omega⟩
 obtain ⟨many, hmany⟩ : ∃ z : Int, z = ps.length := ⟨_, rfl⟩;have hm1 : 1 <= many := by
  have := List.length_pos_iff.mpr hne;omega
 have elen : ∀ μ, bC (.lst (ps.map aJ)) μ = some (.int many, μ) := λ μ => by rw [gZ, Zu, hmany]
 have hen : ∀ μ, oEq (.lst (ps.map aJ)) (.lst []) μ = some (.bl false, μ) := λ μ => by
  obtain ⟨p1, p2⟩ := wL ps;rw [Iv p1 (by omega)]
  cases ps with
  | nil => exact absurd rfl hne
  | cons a b => rfl
 obtain ⟨p, ep, hpt⟩ := h2 (x.fdiv 6) d ((x.fdiv 6).fmod 3) 0 [some (L1.map .int)] iD.nil.dr hd6 d1 d3 y0 (by omega) (by decide) (by decide)
 obtain ⟨a0, a1⟩ := aY (x := x.fdiv 6) (m := many) (by omega)
 have wa := fU (x := x.fdiv 6) (y := many) [some (L1.map .int)] (by omega)
 obtain ⟨xa, ra⟩ := Dz hp (k := (x.fdiv 6).fmod many) a0 (by omega)
 obtain ⟨sh, L5, e5, hL5, hn2, hq2, hs2, _⟩ := h3 L1 (Ar many) hL1 (λ z => by
  have := congrArg List.length z;rw [IV] at this; simp at this; omega) (by rw [IV]; omega) (λ j hj => by have := Kq j hj; omega)
 have rl := Vy (j := many) (μ := [some (L1.map .int)]) (by omega) (szl (by omega)) (by omega)
 rw [QR] at rl;have hso : Ho ps.length sh := λ p hp => by
  obtain ⟨q1, q2, q3⟩ := hs2 p hp;have := Kq _ q1;exact ⟨by omega, by omega, q2, bZ (pY (b := 10) 1001 (by omega) (by decide)) (by decide)⟩
 have e6 := h4 d.toNat ps sh [some (L5.map .int)] iD.nil.dr (by omega) (by omega) hp hn2 (by omega) hso
 obtain ⟨vs, c, hv, hvl, hvb, hc1, cs⟩ := Ce (d := d.toNat) (rs := rowsOf ps sh) (ss := sh.map (·.2)) (rB hp hso) (by unfold rowsOf; simp) (by unfold rowsOf; simp; omega) (by unfold rowsOf; simpa using hn2) (λ s h => by
  obtain ⟨x, hx, rfl⟩ := Zq.mp h;exact ⟨(hso x hx).2.2.1, (hso x hx).2.2.2⟩)
 rw [hv] at e6;obtain ⟨ms, e7, hms⟩ := h5 vs c (x.fdiv 6) [some (L5.map .int)] iD.nil.dr (by omega) (by omega) hvb hc1 cs
 rw [hvl] at hms;have hspot : SpR d.toNat (vs ++ [c]) := ⟨by simp [hvl], λ y hy => by
  rcases Zm.mp hy with z | z
  .exact bZ (hvb y z) (by decide)
  .rw [List.mem_singleton.mp z]; exact bZ cs (by decide)⟩
 generalize hc : x.fmod 6 = cc at *
 generalize hx6 : x.fdiv 6 = x6 at *
 have hcc : cc = 0 ∨ cc = 1 ∨ (1 < cc /\ cc < 4) ∨ (4 <= cc) := by omega
 have key : ∀ (r : List Int) (L' : List Int), DlD L' -> SpR d.toNat r -> Ok (aH 5 (iT φ1 φ2 φ3 φ4 φ5) [.cell 0, .lst (ps.map aJ), .int d] [some (L.map .int)]) (λ q => q = (aJ r, [some (L'.map .int)])) -> ∃ (r L' : List Int), trunc (aH 5 (iT φ1 φ2 φ3 φ4 φ5)) [.cell 0, .lst (ps.map aJ), .int d] [some (L.map .int)] = some (aJ r, [some (L'.map .int)]) /\ DlD L' /\ SpR d.toNat r := λ r L' hL' hr h => ⟨r, L', jg (xJ h) rfl, hL', hr⟩
 rcases hcc with h0 | h0 | h0 | h0
 .obtain ⟨ns, b, rfl, hpl, _⟩ := hpt;refine key (ns ++ [b]) L1 hL1 hpl.row.sp ?_;have hR : D.tup ((ns ++ [b]).map .int) = aJ (ns ++ [b]) := rfl;rw [hR] at ep;generalize aJ (ns ++ [b]) = R at *
  generalize ps.map aJ = PD at *
  apply gH;unfold iT;subst h0;simp [e1, hen, hc, v6, hx6, ep]
 .refine key _ L1 hL1 ra.sp ?_;generalize aJ (ps.getD (x6.fmod many).toNat []) = R at *
  generalize ps.map aJ = PD at *
  apply gH;unfold iT;subst h0;simp [e1, hen, hc, v6, hx6, elen, wa, xa, -gZ]
 .refine key _ L5 hL5 hspot ?_;generalize aJ (vs ++ [c]) = R at *
  generalize ps.map aJ = PD at *
  generalize (Ar many).map D.int = JD at *
  apply gH;unfold iT;have n0 : (cc == 0) = false := beq_eq_false_iff_ne.mpr (by omega)
  have n1 : (cc == 1) = false := beq_eq_false_iff_ne.mpr (by omega)
  have n4 : cc < 4 := h0.2;simp [e1, hen, hc, n0, n1, n4, elen, rl, e5, e6, -gZ]
 .refine key ms L5 hL5 hms ?_;generalize aJ (vs ++ [c]) = R at *
  generalize aJ ms = MS at *
  generalize ps.map aJ = PD at *
  generalize (Ar many).map D.int = JD at *
  apply gH;unfold iT;have n0 : (cc == 0) = false := beq_eq_false_iff_ne.mpr (by omega)
  have n1 : (cc == 1) = false := beq_eq_false_iff_ne.mpr (by omega)
  have n4 : ¬ cc < 4 := by omega
  simp [e1, hen, hc, n0, n1, n4, elen, rl, e5, e6, v6, hx6, e7, -gZ]
end LG
namespace Lk25
open PySem PySem.Spec PyProof.Rows L2 L3 LG
theorem Vm : ph eN := λ a b μ => iu (Oc a b μ)
theorem VD : ph bc := λ a b μ => iu (Oe a b μ)
theorem RX : pG bF := λ x k μ h0 h1 => by
 obtain ⟨r, e, h⟩ := RV x k μ h0 h1;exact ⟨r, iu e, h⟩
theorem qw : iV aP := Lf
theorem Ra : yf jk := Jm RX
theorem Ip : sX aV := λ ns b μ h1 h2 h3 h4 => iu (RK Vm ns b μ h1 h2 h3 h4)
theorem VF : xX bY := HR
theorem Ji : xX bO := Lg
theorem Qi : Dw bQ := BZ VF
theorem Tz : Az fW := λ m d μ h => Ax Qi m d μ h
theorem Ml : wI fD := λ m d μ h => yO Tz m d μ h
theorem zp : oW bU := Ku RX Kh Ip
theorem Nv : qU ik := Gq qw (Do qw Ip) (Nh qw Ip) zp
theorem some' : rR cY := Ik Nv qw zp
theorem Mf : uV cB := λ ns μ => iu (Cr VD ns μ)
theorem Va : Cj fX := λ ns μ h1 h2 h3 => iu (Ny Mf ns μ h1 h2 h3)
theorem Ss : yE jW := JV (over_of (Lz VD)) (DK Tc) Va
theorem VJ : vU il := Hk qw RX
theorem PJ : CV fQ := λ d ps sh μ hm hd hd2 hp hne hl hs => CT Vm Ip d ps sh μ hm hd hd2 hp hne hl hs
theorem Og : qG dh := Gh Ml Ss
theorem SM : qG jc := JW Ji PJ
theorem VM (k l : Bool) (μ : Mu) : jy [.bl k, .bl l] μ = some (.bl (k == l), μ) := Px k l μ
theorem Rc : BP je := λ ns c x μ hm h1 h2 hb c1 cs => Ld Ip ns c x μ hm h1 h2 hb c1 cs
theorem Vn : Ey jY := Iz qw zp VJ PJ Rc
theorem Vp : ∀ (d : Nat) (t : D) (μ : Mu), nc t -> gY [.int d, t] μ = some (.bl (mX d t), μ) := Pb (Mx Rr Qi VF)
theorem Jf : xN cJ := CP Vp (Hr LQ)
theorem Sg (d : Nat) (ps : List (List Int)) (r : List Int) (t : D) (μ : Mu) (d1 : 1 <= d) (d9 : d <= 9) (hp : ∀ p ∈ ps, SpR d p) (hr : SpR d r) (hl : ps.length <= 60) (ht : ThW t) (hz : ∀ a b, t = .tup [.tup a, b] -> a.length <= 1000) : jf [.lst (ps.map aJ), aJ r, t] μ = some (.bl (outV d ps r t), μ) :=
 Ij (Nm Ji) (behind_of Ph Kg) d ps r t μ d1 d9 hp hr hl ht hz
noncomputable def pF : List D := [.non, .bl true, .bl false, .int 0, .int 1, .int (-1), .str "", .str "0 1", .tup [], .lst [], .dic [], .tup [.tup []], .lst [.tup []], .tup [.non], .tup [.tup [.int 0, .int 1]], .lst [.tup [.int 0, .int 1]],
 .tup [.lst [.int 0, .int 1]], .dic [(.inl 0, .int 1)], .tup [.tup [.int 0, .int 1, .int 2]], .tup [.tup [.int 0, .bl true]], .tup [.tup [.bl false, .int 1]], .tup [.tup [.str "0", .int 1]], .tup [.tup [.tup [.int 0], .int 0]],
 .tup [.tup [.int 0, .int 0], .int 0], .tup [.tup [.int 0, .int 1], .non], .tup [.tup [.int 1, .int 0], .int 0], .tup [.lst [.int 1, .int 0], .int 0], .tup [.tup [.bl true, .int 0], .int 1], .tup [.tup [.int 1], .int 0], .tup [.int 1, .int 0],
 .tup [.int 0, .int 0, .int 0], .tup [.tup [.int 0, .int 1], .tup [.int 1, .int 1]], .tup [.tup [], .tup []], .tup [.tup [], .int 0]]
theorem zL : ∀ d ∈ pF, nc d := by
 have h : mj 0 pF = true := by unfold pF; simp [mj, cLt, wC]
 exact qY.mp h
def okS : Nat -> D -> Bool
 | _, .int i => decide (i.natAbs < 2 ^ 100)
 | n + 1, .tup ds => decide (ds.length <= 60) && ds.all (okS n)
 | 0, .tup _ => false
 | _, _ => true
theorem jr {n : Nat} {ds : List D} : okS (n + 1) (.tup ds) = (decide (ds.length <= 60) && ds.all (okS n)) := by
 rw [okS]
theorem zb {n : Nat} {i : Int} (h : okS n (.int i) = true) : Sm 2000 i := by
 cases n <;> (rw [okS] at h; exact bZ (show Sm 100 i from (of_decide_eq_true h : i.natAbs < 2 ^ 100)) (by decide))
theorem ym : ∀ {n : Nat} {d : D}, okS n d = true -> okS (n + 1) d = true
 | n, .int i, h => by
  cases n <;> (rw [okS] at h ⊢; exact h)
 | 0, .tup ds, h => by rw [okS] at h; cases h
 | n + 1, .tup ds, h => by
  rw [jr] at h ⊢;simp only [Zo, List.all_eq_true] at h ⊢;exact ⟨h.1, λ d hd => ym (h.2 d hd)⟩
 | n, .non, _ => by simp [okS]
 | n, .bl _, _ => by simp [okS]
 | n, .str _, _ => by simp [okS]
 | n, .lst _, _ => by simp [okS]
 | n, .ro _, _ => by simp [okS]
 | n, .dic _, _ => by simp [okS]
 | n, .cell _, _ => by simp [okS]
theorem Be : ∀ d ∈ pF, okS 3 d = true := by
 have h : pF.all (okS 3) = true := by unfold pF; simp [okS]
 exact λ d hd => List.all_eq_true.mp h d hd
theorem Qd {n : Nat} {t : D} (hn : nc t) (h : okS (n + 2) t = true) : ThB t := ⟨hn, λ ds e => by
 subst e;rw [jr] at h;simp only [Zo, List.all_eq_true, decide_eq_true_eq] at h;refine ⟨h.1, λ k s hm => ?_⟩;have := h.2 _ hm;rw [jr] at this;simp only [Zo, List.all_eq_true] at this;exact zb (this.2 (.int s) (by simp))⟩
theorem Ke {n : Nat} {t : D} (hn : nc t) (h : okS (n + 2) t = true) : ThW t /\ ∀ a b, t = .tup [.tup a, b] -> a.length <= 1000 := by
 have key : ∀ a b, t = .tup [.tup a, b] -> (∀ i, D.int i ∈ a -> Sm 2000 i) /\ okS (n + 1) b = true /\ a.length <= 1000 := λ a b e => by
  subst e;rw [jr] at h;simp only [Zo, List.all_eq_true] at h;have ha := h.2 (.tup a) (by simp)
  rw [jr] at ha;simp only [Zo, List.all_eq_true, decide_eq_true_eq] at ha;exact ⟨λ i hi => zb (ha.2 _ hi), h.2 b (by simp), by omega⟩
 exact ⟨⟨hn, λ ds m e => ⟨(key _ _ e).1, zb (key _ _ e).2.1⟩⟩, λ a b e => (key a b e).2.2⟩
theorem Vf (x : Int) (μ : Mu) : ∃ d, jJ [.int x] μ = some (d, μ) /\ d ∈ pF := by
 obtain ⟨i0, i1⟩ := aY (x := x) (m := 34) (by decide)
 obtain ⟨d, hd, ed⟩ := mG (ds := pF) i0 i1;refine ⟨d, ?_, hd⟩;apply bM;generalize hO : pF = O at *
 unfold pZ;simp [uK, NB];unfold pF at hO;rw [hO];rw [ed];simp
theorem Rh (L : List Int) (hL : DlD L) : ∃ (t : D) (L' : List Int), iY [.cell 0] [some (L.map .int)] = some (t, [some (L'.map .int)]) /\ DlD L' /\ nc t /\ okS 5 t = true := by
 obtain ⟨x, L1, e1, hx, hL1⟩ := eU qw hL [];obtain ⟨y, L2, e2, hy, hL2⟩ := eU qw hL1 [];obtain ⟨a, e3, ha⟩ := Vf (x.fdiv 8) [some (L1.map .int)];obtain ⟨b, e4, hb⟩ := Vf y [some (L2.map .int)];have v8 := λ μ => mW (i := x) (j := 8) (μ := μ) (by decide) (by decide)
 obtain ⟨c0, c1⟩ := aY (x := x) (m := 8) (by decide)
 obtain ⟨t, ht, et⟩ := mG (ds := [a, .tup [a], .lst [a], .tup [a, b], .lst [a, b], .dic [(.inl 0, a)], .tup [.tup [a, b]], .tup [b, a, b]]) c0 c1;have na := zL a ha;have nb := zL b hb;have ka := Be a ha;have kb := Be b hb;have ka4 := ym ka;have kb4 := ym kb;have ka5 := ym ka4;have hq : nc t /\ okS 5 t = true := by
  simp only [Zi, List.not_mem_nil, or_false] at ht
  rcases ht with rfl | rfl | rfl | rfl | rfl | rfl | rfl | rfl
  .exact ⟨na, ka5⟩
  .exact ⟨fM.mpr (by simpa using na), by rw [jr]; simp [ka4]⟩
  .exact ⟨DY.mpr (by simpa using na), by simp [okS]⟩
  .exact ⟨fM.mpr (by simpa using ⟨na, nb⟩), by rw [jr]; simp [ka4, kb4]⟩
  .exact ⟨DY.mpr (by simpa using ⟨na, nb⟩), by simp [okS]⟩
  .exact ⟨by simpa [nc, cLt, wC] using na, by simp [okS]⟩
  .exact ⟨fM.mpr (by simpa using fM.mpr (by simpa using ⟨na, nb⟩)), by rw [jr]; simp [jr, ka, kb]⟩
  .exact ⟨fM.mpr (by simpa using ⟨nb, na, nb⟩), by rw [jr]; simp [ka4, kb4]⟩
 refine ⟨t, L2, ?_, hL2, hq⟩;have key : Ok (aH 4 (lK aP jJ) [.cell 0] [some (L.map .int)]) (λ r => r = (t, [some (L2.map .int)])) := by
  apply gH;unfold lK;simp [e1, v8, e3, e2, e4, uK, NB, et]
 exact jg (xJ key) rfl
theorem Mj (ns : List Int) (h : ns.length <= 63) : ∃ μ', Dc [.ro (ns.map .int)] [] = some (.bl true, μ') := by
 apply Ox;obtain ⟨L, eD, hL⟩ := Jj Ra ns h;apply gH;unfold rT;simp [eD, yU (j := 3) (by decide) (by decide)]
 refine gj (λ its δ μ => ∃ L o2 o3 o4 o5 o6 o7, DlD L /\ μ = [some (L.map .int)] /\ δ = [some (.ro (ns.map .int)), some (.cell 0), o2, o3, o4, o5, o6, o7]) ?_ ?_ _ _ _ ⟨L, none, none, none, none, none, none, hL, rfl, rfl⟩
 .rintro dd rest δ μ ⟨L, o2, o3, o4, o5, o6, o7, hL, rfl, rfl⟩;obtain ⟨x, L1, e1, hx, hL1⟩ := eU qw hL [];obtain ⟨m0, m1⟩ := aY (x := x) (m := 3) (by decide)
  obtain ⟨d, hd⟩ : ∃ d : Int, 1 + x.fmod 3 = d := ⟨_, rfl⟩;obtain ⟨ps, L2, e2, hL2, hne, hl, hp⟩ := some' d 8 (by omega) (by omega) (by decide) (by decide) L1 hL1
  obtain ⟨r, L3, e3, hL3, hr⟩ := Vn d ps L2 (by omega) (by omega) hne hl hp hL2
  have q1 := λ t μ (h : nc t /\ okS 5 t = true) hm => Og (d.toNat + 1) ps r t μ (by omega) (by omega) hp (Qd h.1 h.2) hm
  have q2 := λ t μ (h : nc t /\ okS 5 t = true) hm => SM (d.toNat + 1) ps r t μ (by omega) (by omega) hp (Qd h.1 h.2) hm
  have q3 := λ t μ (h : nc t /\ okS 5 t = true) => Jf d.toNat ps r t μ (by omega) (by omega) (λ p h => (hp p h).sp) hr (by omega) (Ke h.1 h.2).1
  have q4 := λ t μ (h : nc t /\ okS 5 t = true) => Sg d.toNat ps r t μ (by omega) (by omega) (λ p h => (hp p h).sp) hr (by omega) (Ke h.1 h.2).1 (Ke h.1 h.2).2
  generalize aJ r = R at *
  generalize ps.map aJ = PD at *
  simp [e1, hd, e2, e3, yU (j := 12) (by decide) (by decide)]
  refine gj (λ its δ μ => ∃ L o6 o7, DlD L /\ μ = [some (L.map .int)] /\ δ = [some (.ro (ns.map .int)), some (.cell 0), some dd, some (.int d), some (.lst PD), some R, o6, o7]) ?_ ?_ _ _ _ ⟨L3, _, _, hL3, rfl, rfl⟩
  .rintro d6 rest6 δ μ ⟨L, o6, o7, hL, rfl, rfl⟩;obtain ⟨t, L4, e4, hL4, ht⟩ := Rh L hL;have p1 := q1 t [some (L4.map .int)] ht iD.nil.dr;have p2 := q2 t [some (L4.map .int)] ht iD.nil.dr;have p3 := q3 t [some (L4.map .int)] ht;have p4 := q4 t [some (L4.map .int)] ht;generalize Cv (d.toNat + 1) ps r t = v at *
   generalize outV d.toNat ps r t = u at *
   simp [e4, p1, p2, p3, p4, VM];exact ⟨L4, hL4, rfl⟩
  .rintro δ μ ⟨L, o6, o7, hL, rfl, rfl⟩;simp;exact ⟨L, hL, rfl⟩
 .rintro δ μ ⟨L, o2, o3, o4, o5, o6, o7, hL, rfl, rfl⟩;simp
end Lk25
def PySem.W.Fast.tw10065946845391783000 := 0
def PySem.W.Fast.tw10241498732922279816 := 0
def PySem.W.Fast.tw1059825095189166341 := 0
def PySem.W.Fast.tw11288921087736417798 := 0
def PySem.W.Fast.tw11433090176242565329 := 0
def PySem.W.Fast.tw1168076103824801287 := 0
def PySem.W.Fast.tw11690739017539268559 := 0
def PySem.W.Fast.tw12264304870515876055 := 0
def PySem.W.Fast.tw12372344893030710331 := 0
def PySem.W.Fast.tw12939466062104930754 := 0
def PySem.W.Fast.tw13249860552017877520 := 0
def PySem.W.Fast.tw14021569491339217474 := 0
def PySem.W.Fast.tw14114199675438170552 := 0
def PySem.W.Fast.tw14406204907310340835 := 0
def PySem.W.Fast.tw15163970512644075853 := 0
def PySem.W.Fast.tw15574846507363475316 := 0
def PySem.W.Fast.tw15587178224178111098 := 0
def PySem.W.Fast.tw16765236136089389556 := 0
def PySem.W.Fast.tw17099188811895482728 := 0
def PySem.W.Fast.tw18118208808561521692 := 0
def PySem.W.Fast.tw2249526073239614891 := 0
def PySem.W.Fast.tw2393494246867218833 := 0
def PySem.W.Fast.tw2687870439268804185 := 0
def PySem.W.Fast.tw3163836678466046501 := 0
def PySem.W.Fast.tw3211988830348935922 := 0
def PySem.W.Fast.tw3247522623551482687 := 0
def PySem.W.Fast.tw3727736469219193342 := 0
def PySem.W.Fast.tw419752892162494365 := 0
def PySem.W.Fast.tw4838060721785724826 := 0
def PySem.W.Fast.tw5087328961200654756 := 0
def PySem.W.Fast.tw5134331321285616743 := 0
def PySem.W.Fast.tw5639711775073036705 := 0
def PySem.W.Fast.tw5846730564850624379 := 0
def PySem.W.Fast.tw5887979735265482536 := 0
def PySem.W.Fast.tw5907916863490331919 := 0
def PySem.W.Fast.tw6316893522511492033 := 0
def PySem.W.Fast.tw7264685333772724924 := 0
def PySem.W.Fast.tw736427989509476574 := 0
def PySem.W.Fast.tw7460505530108262740 := 0
def PySem.W.Fast.tw7798641985476607427 := 0
def PySem.W.Fast.tw8325755123884912558 := 0
def PySem.W.Fast.tw8755142031075631964 := 0
def PySem.W.Fast.tw9097076430400317735 := 0
def PySem.W.Fast.tw9188393428465115100 := 0
def PySem.W.Fast.tw9679295217080638223 := 0
def PySem.W.Fast.tw9897631797961122982 := 0
def PySem.W.Fast.tw9948417821458351651 := 0
open PySem PySem.W PyProof.Rows
set_option maxRecDepth 100000 in
set_option maxHeartbeats 0 in
theorem PySem.Challenge.cw_heapsmeet_k25_no_papers_holds : PySem.Challenge.rw_heapsmeet_k25_no_papers.Holds := by
 w_on; o_law; k_head; (case hw => w_witness2)
 k_fill
 refine L3.HX (l := PySem.Challenge.rw_heapsmeet_k25_no_papers) (n := 63) (k := 8) (x := "_law_script") (φ := Lk25.Dc) rfl (by decide) rfl ⟨rfl, by decide, by decide⟩ (λ w h Y => by first | exact PySem.W.kIn_of Y | exact PySem.W.km_in_of Y) ?F ?S
 case F =>
  intro w mg mb mean lo fa h KX G hmg;apply Lk25.Sh KX G hmg <;> first | (apply L3.TV <;> first | k_is | rfl) | k_is | rfl
 case S => exact λ ns hl => Lk25.Mj ns hl
