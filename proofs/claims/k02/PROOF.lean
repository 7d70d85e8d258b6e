import PyProof.Rows.All
import Wide.All
import OpenK.AllK
import Wide.FinOn
import Lean
import PyProof.EqAt
import PyProof.EqKinds
import PyProof.TupleCall
import PySem.Challenge.RW_heapsmeet_k02_points_of_anything
set_option Elab.async false
set_option linter.all false
set_option maxRecDepth 100000
namespace L2
open PySem PySem.Spec PyProof.Rows
abbrev Key := Sum Int Str
def keyIs : Key → Value → Bool
  | .inl k, v => Value.isInt k v
  | .inr x, v => Value.isStrOf x v
def keyH (w : World) : Key → Int
  | .inl k => hashInt k
  | .inr x => hashStr w x
theorem keyIs_shape : ∀ {k : Key} {v : Value}, keyIs k v = true → (∃ i t, k = Sum.inl i ∧ v = Value.int i t) ∨ (∃ x t, k = Sum.inr x ∧ v = Value.str x t)
  | .inl i, v, h => by
    obtain ⟨t, e⟩ := Value.isInt_shape (k := i) (v := v) h
    exact .inl ⟨i, t, rfl, e⟩
  | .inr x, v, h => by
    obtain ⟨t, e⟩ := Value.isStrOf_shape (x := x) (v := v) h
    exact .inr ⟨x, t, rfl, e⟩
theorem keyIs_int (i : Int) (t : Tok) : keyIs (.inl i) (.int i t) = true := by simp [keyIs, Value.isInt]
theorem keyIs_str (x : Str) (t : Tok) : keyIs (.inr x) (.str x t) = true := by simp [keyIs, Value.isStrOf]
theorem key_ll (a b : Int) : decide ((Sum.inl a : Key) = Sum.inl b) = (a == b) := by
  by_cases e : a = b
  · subst e; simp
  · have h : ¬ (Sum.inl a : Key) = Sum.inl b := fun q => e (Sum.inl.inj q)
    rw [decide_eq_false h]
    exact (beq_eq_false_iff_ne.mpr e).symm
theorem key_rr (a b : Str) : decide ((Sum.inr a : Key) = Sum.inr b) = decide (a = b) := by
  by_cases e : a = b
  · subst e; simp
  · have h : ¬ (Sum.inr a : Key) = Sum.inr b := fun q => e (Sum.inr.inj q)
    rw [decide_eq_false h, decide_eq_false e]
theorem key_lr (a : Int) (b : Str) : decide ((Sum.inl a : Key) = Sum.inr b) = false := decide_eq_false (fun q => nomatch q)
theorem key_rl (a : Str) (b : Int) : decide ((Sum.inr a : Key) = Sum.inl b) = false := decide_eq_false (fun q => nomatch q)
def mixKind (prog : Program) (w : World) : PySem.KeyKind prog w Key where
  is := keyIs
  hash := keyH w
  inj := fun v a b ha hb => by
    rcases keyIs_shape ha with ⟨i, t, rfl, rfl⟩ | ⟨x, t, rfl, rfl⟩
    · rcases keyIs_shape hb with ⟨j, u, rfl, e⟩ | ⟨y, u, rfl, e⟩
      · injection e with e1 _; rw [e1]
      · exact nomatch e
    · rcases keyIs_shape hb with ⟨j, u, rfl, e⟩ | ⟨y, u, rfl, e⟩
      · exact nomatch e
      · injection e with e1 _; rw [e1]
  byValue := fun k v h => by
    rcases keyIs_shape h with ⟨i, t, rfl, rfl⟩ | ⟨x, t, rfl, rfl⟩ <;> rfl
  pyHash := fun hv h => by
    rcases keyIs_shape hv with ⟨i, t, rfl, rfl⟩ | ⟨x, t, rfl, rfl⟩
    · exact wpAny_pyHash_int h
    · exact wpAny_pyHash_str h
  eqBool := fun hu hv h => by
    rcases keyIs_shape hu with ⟨i, t, rfl, rfl⟩ | ⟨x, t, rfl, rfl⟩
    · rcases keyIs_shape hv with ⟨j, u, rfl, rfl⟩ | ⟨y, u, rfl, rfl⟩
      · rw [key_ll] at h; exact wpAny_eqBool_int h
      · rw [key_lr] at h; exact SeqAt.EqAt.int_str i t y u _ _ _ _ h
    · rcases keyIs_shape hv with ⟨j, u, rfl, rfl⟩ | ⟨y, u, rfl, rfl⟩
      · rw [key_rl] at h; exact SeqAt.EqAt.str_int x t j u _ _ _ _ h
      · rw [key_rr] at h; exact wpAny_eqBool_str h
  «strs» := fun k x t v h => by
    rcases keyIs_shape h with ⟨i, u, rfl, e⟩ | ⟨y, u, rfl, e⟩
    · exact nomatch e
    · injection e with e1 _
      subst e1
      cases v <;> rfl
theorem mixKind_int (prog : Program) (w : World) (i : Int) (t : Tok) : (mixKind prog w).is (.inl i) (.int i t) = true := keyIs_int i t
theorem mixKind_str (prog : Program) (w : World) (x : Str) (t : Tok) : (mixKind prog w).is (.inr x) (.str x t) = true := keyIs_str x t
end L2
namespace L2
open PySem PySem.Spec PyProof.Rows
inductive V where
  | non | bl (b : Bool) | int (i : Int) | str (x : Str) | byt (b : Array UInt8) | flt (b : UInt64) | ref (a : Addr) | ty (n : String)
  deriving DecidableEq
def RelV : V → Value → Prop
  | .non, u => u = Value.none
  | .bl b, u => u = Value.bool b
  | .int i, u => ∃ t, u = Value.int i t
  | .str x, u => ∃ t, u = Value.str x t
  | .byt b, u => ∃ t, u = Value.bytes b t
  | .flt b, u => ∃ t, u = Value.float b t
  | .ref a, u => u = Value.ref a
  | .ty n, u => u = Value.type n
abbrev Vals : List V → List Value → Prop := Paired RelV
theorem Vals.length {xs : List V} {us : List Value} (r : Vals xs us) : xs.length = us.length := Paired.length r
theorem Vals.get : ∀ {xs : List V} {us : List Value} {i : Nat} {x : V}, Vals xs us → xs[i]? = some x → ∃ u, us[i]? = some u ∧ RelV x u
  | _, _, _, _, .nil, e => by simp at e
  | _, _, 0, _, .cons r _, e => by simp at e; subst e; exact ⟨_, rfl, r⟩
  | _, _, i + 1, x, .cons _ t, e => by
    obtain ⟨u, h1, h2⟩ := Vals.get (i := i) (x := x) t (by simpa using e)
    exact ⟨u, by simpa using h1, h2⟩
theorem Vals.set {x : V} {u : Value} (r : RelV x u) : ∀ {xs : List V} {us : List Value} (i : Nat), Vals xs us → Vals (xs.set i x) (us.set i u)
  | _, _, _, .nil => .nil
  | _, _, 0, .cons _ t => .cons r t
  | _, _, i + 1, .cons q t => .cons q (Vals.set r i t)
theorem Vals.append : ∀ {xs ys : List V} {us ws : List Value}, Vals xs us → Vals ys ws → Vals (xs ++ ys) (us ++ ws)
  | _, _, _, _, .nil, s => s
  | _, _, _, _, .cons r t, s => .cons r (Vals.append t s)
theorem Vals.take : ∀ {xs : List V} {us : List Value} (n : Nat), Vals xs us → Vals (xs.take n) (us.take n)
  | _, _, 0, _ => .nil
  | _, _, _ + 1, .nil => .nil
  | _, _, n + 1, .cons r t => .cons r (Vals.take n t)
theorem Vals.drop : ∀ {xs : List V} {us : List Value} (n : Nat), Vals xs us → Vals (xs.drop n) (us.drop n)
  | _, _, 0, r => r
  | _, _, _ + 1, .nil => .nil
  | _, _, n + 1, .cons _ t => Vals.drop n t
def RelO : Option V → Option Value → Prop
  | some v, some u => RelV v u
  | none, none => True
  | _, _ => False
def KV {κ : Type} : List (κ × V) → List (κ × Value) → Prop := Paired fun (p : κ × V) (q : κ × Value) => p.1 = q.1 ∧ RelV p.2 q.2
def kV : Key → V
  | .inl i => .int i
  | .inr x => .str x
inductive HO where
  /-- a list -/
  | lst (xs : List V)
  /-- a tuple (never changes) -/
  | tup (xs : List V)
  /-- a dict whose keys are ints and texts; one whose keys are tuples of ints and texts (the empty one is both) -/
  | dK (kvs : List (Key × V)) | dT (kvs : List (List Key × V))
  /-- a set of ints: its members, its size -/
  | set (S : Int → Bool) (n : Nat)
  /-- an instance of the class at C, its dict at dx, its attributes -/
  | ins (C dx : Addr) (fs : List (Str × V))
  /-- the dict of the instance at x -/
  | own (x : Addr)
  /-- the dict of an exception -/
  | xd (fs : List (Str × V))
  /-- a bound method, f of x -/
  | met (f x : Addr)
  /-- a range object lo, lo + 1, .. below hi -/
  | rng (lo hi : Int)
  /-- a thing that is known to the object (the script; a dict while a loop walks it): read, never written while it is so -/
  | frz (o : Obj) (u : HO)
  /-- a code object's table -/
  | tbl (ps : Array Value)
  /-- any other thing, by what is true of its one object (a def of one's own: SetO a S n := HO.ext fun h => ..) -/
  | ext (φ : Heap → Prop)
abbrev Hp := Addr → Option HO
def upd (H : Hp) (a : Addr) (o : HO) : Hp := fun b => if b = a then some o else H b
theorem upd_same {H : Hp} {a : Addr} {o : HO} : upd H a o a = some o := by unfold upd; rw [if_pos rfl]
theorem upd_ne {H : Hp} {a b : Addr} {o : HO} (h : b ≠ a) : upd H a o b = H b := by unfold upd; rw [if_neg h]
theorem ne_of {H : Hp} {a b : Addr} {o u : HO} (h : H a = some o) (h' : H b = some u) (d : o ≠ u) : a ≠ b := by
  intro e; subst e; rw [h] at h'; exact d (Option.some.inj h')
theorem ne_of_none {H : Hp} {a b : Addr} {o : HO} (h : H a = some o) (h' : H b = none) : a ≠ b := by
  intro e; subst e; rw [h] at h'; cases h'
section
variable (P : Program) (w : World)
def ObjOk (H : Hp) (h : Heap) (a : Addr) : HO → Prop
  | .lst xs => xs.length ≤ sizeLine ∧ ∃ (its : List Value) (n : Nat), Vals xs its ∧ h.get? a = some { cls := .type "list", data := .seq its.toArray n }
  | .tup xs => xs.length ≤ sizeLine ∧ ∃ its : List Value, Vals xs its ∧ IsTup h a its.toArray
  | .dK kvs => kvs.length ≤ sizeLine ∧ (a == sysModules) = false ∧ ∃ vs, KV kvs vs ∧ h.DictOf (mixKind P w) a vs
  | .dT kvs => kvs.length ≤ sizeLine ∧ (a == sysModules) = false ∧ ∃ xs : List (List Key × Addr × Value),
      Paired (fun (p : List Key × V) (q : List Key × Addr × Value) => p.1 = q.1 ∧ H q.2.1 = some (.tup (p.1.map kV)) ∧ RelV p.2 q.2.2) kvs xs ∧
      ∃ o es ep, h.get? a = some o ∧ o.ExactDict ∧ o.data = .dict es ep ∧ es.toList = xs.map (entryOfKey (tupleKind (mixKind P w))) ∧ (xs.map (·.1)).Nodup
  | .set S n => h.SetOf (intKind P w) a S n
  | .ins C dx fs => H dx = some (.own a) ∧ fs.length ≤ 1000 ∧ dx ≠ a ∧ h.get? a = some (PySem.W.instObj C dx) ∧
      ∃ mA, h.Ns1 dx mA ∧ (∀ f, RelO (fs.lookup f) (mA f)) ∧ PySem.Within mA (fs.map (·.1))
  | .own _ => ∃ o, h.get? a = some o
  | .xd fs => ∃ mA, h.Ns1 a mA ∧ ∀ f, RelO (fs.lookup f) (mA f)
  | .rng lo hi => ∃ t u v, h.get? a = some { cls := .type "range", data := .fields #[.int lo t, .int hi u, .int 1 v] }
  | .frz o u => h.get? a = some o ∧ ObjOk H h a u
  | .tbl ps => h.get? a = some { cls := .none, data := .fields ps }
  | .met f x => h.get? a = some (PySem.W.methodObj (.ref f) (.ref x))
  | .ext φ => φ h ∧ (∃ o, h.get? a = some o) ∧ ∀ h1 h2 : Heap, φ h1 → (∀ o, h1.get? a = some o → h2.get? a = some o) → φ h2
def HOk (H : Hp) (h : Heap) : Prop := ∀ a o, H a = some o → ObjOk P w H h a o
end
section
variable {P : Program} {w : World} {H H' : Hp} {h h' : Heap} {a : Addr} {o : HO}
theorem ObjOk.lt (x : ObjOk P w H h a o) : a < h.objs.size := by
  cases o with
  | lst xs => obtain ⟨_, _, _, _, e⟩ := x; exact Heap.lt_size e
  | tup xs => obtain ⟨_, _, _, p⟩ := x; exact p.lt
  | dK kvs => obtain ⟨_, _, _, _, o, _, _, e, _⟩ := x; exact Heap.lt_size e
  | dT kvs => obtain ⟨_, _, _, _, o, _, _, e, _⟩ := x; exact Heap.lt_size e
  | set S n => obtain ⟨o, _, _, _, e, _⟩ := x; exact Heap.lt_size e
  | ins C dx fs => obtain ⟨_, _, _, e, _⟩ := x; exact Heap.lt_size e
  | own y => obtain ⟨_, e⟩ := x; exact Heap.lt_size e
  | xd fs => obtain ⟨_, ⟨_, _, _, e, _⟩, _⟩ := x; exact Heap.lt_size e
  | rng lo hi => obtain ⟨_, _, _, e⟩ := x; exact Heap.lt_size e
  | frz ob u => obtain ⟨e, _⟩ := x; exact Heap.lt_size e
  | tbl ps => exact Heap.lt_size (show h.get? a = some _ from x)
  | met f y => exact Heap.lt_size (show h.get? a = some _ from x)
  | ext φ => obtain ⟨_, ⟨_, e⟩, _⟩ := x; exact Heap.lt_size e
theorem Paired.mapP {α β : Type} {F G : α → β → Prop} : ∀ {l₁ : List α} {l₂ : List β}, Paired F l₁ l₂ → (∀ a b, F a b → G a b) → Paired G l₁ l₂
  | _, _, .nil, _ => .nil
  | _, _, .cons r t, f => .cons (f _ _ r) (Paired.mapP t f)
theorem ObjOk.stay (x : ObjOk P w H h a o) (k : ∀ b u, (b = a ∨ H b = some (.own a)) → h.get? b = some u → h'.get? b = some u)
    (ho : ∀ b, H b = some (.own a) → H' b = some (.own a)) (ht : ∀ b xs, H b = some (.tup xs) → H' b = some (.tup xs)) : ObjOk P w H' h' a o := by
  induction o with
  | lst xs => obtain ⟨z, its, n, r, e⟩ := x; exact ⟨z, its, n, r, k _ _ (.inl rfl) e⟩
  | tup xs => obtain ⟨z, its, r, ob, e, c⟩ := x; exact ⟨z, its, r, ob, k _ _ (.inl rfl) e, c⟩
  | dK kvs => obtain ⟨z, y, vs, r, ob, es, ep, e, c⟩ := x; exact ⟨z, y, vs, r, ob, es, ep, k _ _ (.inl rfl) e, c⟩
  | dT kvs =>
    obtain ⟨z, y, xs, r, ob, es, ep, e, c⟩ := x
    exact ⟨z, y, xs, Paired.mapP r fun p q z => ⟨z.1, ht _ _ z.2.1, z.2.2⟩, ob, es, ep, k _ _ (.inl rfl) e, c⟩
  | set S n => obtain ⟨ob, es, ep, t, e, c⟩ := x; exact ⟨ob, es, ep, t, k _ _ (.inl rfl) e, c⟩
  | ins C dx fs =>
    obtain ⟨d, z, ne, e, mA, ⟨od, es, ep, e2, c⟩, r⟩ := x
    exact ⟨ho _ d, z, ne, k _ _ (.inl rfl) e, mA, ⟨od, es, ep, k _ _ (.inr d) e2, c⟩, r⟩
  | own y => obtain ⟨ob, e⟩ := x; exact ⟨ob, k _ _ (.inl rfl) e⟩
  | xd fs => obtain ⟨mA, ⟨od, es, ep, e, c⟩, r⟩ := x; exact ⟨mA, ⟨od, es, ep, k _ _ (.inl rfl) e, c⟩, r⟩
  | rng lo hi => obtain ⟨t, u, v, e⟩ := x; exact ⟨t, u, v, k _ _ (.inl rfl) e⟩
  | frz ob u ih => obtain ⟨e, q⟩ := x; exact ⟨k _ _ (.inl rfl) e, ih q⟩
  | tbl ps =>
    have e : h.get? a = some { cls := .none, data := .fields ps } := x
    show h'.get? a = some { cls := .none, data := .fields ps }
    exact k a _ (.inl rfl) e
  | met f y =>
    have e : h.get? a = some (PySem.W.methodObj (.ref f) (.ref y)) := x
    show h'.get? a = some (PySem.W.methodObj (.ref f) (.ref y))
    exact k a _ (.inl rfl) e
  | ext φ => obtain ⟨p, ⟨o, e⟩, st⟩ := x; exact ⟨st _ _ p fun o q => k _ _ (.inl rfl) q, ⟨o, k _ _ (.inl rfl) e⟩, st⟩
theorem HOk.lt (x : HOk P w H h) (e : H a = some o) : a < h.objs.size := (x a o e).lt
theorem HOk.fresh (x : HOk P w H h) (e : h.objs.size ≤ a) : H a = none := by
  cases q : H a with
  | none => rfl
  | some u => exact absurd (Nat.lt_of_lt_of_le (x.lt q) e) (Nat.lt_irrefl _)
theorem HOk.kept (x : HOk P w H h) (k : ∀ b u, h.get? b = some u → h'.get? b = some u) : HOk P w H h' := fun a o e =>
  (x a o e).stay (fun b u _ q => k b u q) (fun _ q => q) fun _ _ q => q
theorem HOk.laid (x : HOk P w H h) (k : ∀ b u, h.get? b = some u → h'.get? b = some u) (hp : h.objs.size ≤ a) (new : ObjOk P w (upd H a o) h' a o) : HOk P w (upd H a o) h' := fun b u e => by
  have hn := x.fresh hp
  by_cases hb : b = a
  · subst hb; rw [upd_same] at e; cases e; exact new
  · rw [upd_ne hb] at e
    exact (x b u e).stay (fun c v _ q => k c v q) (fun c q => by rw [upd_ne (ne_of_none q hn)]; exact q) fun c xs q => by rw [upd_ne (ne_of_none q hn)]; exact q
end
def Rd (H : Hp) (a : Addr) (u : HO) : Prop := H a = some u ∨ ∃ o, H a = some (.frz o u)
theorem Rd.of {H : Hp} {a : Addr} {u : HO} (h : H a = some u) : Rd H a u := .inl h
theorem Rd.ok {P : Program} {w : World} {H : Hp} {h : Heap} {a : Addr} {u : HO} (r : Rd H a u) (x : HOk P w H h) : ObjOk P w H h a u := by
  rcases r with r | ⟨o, r⟩
  · exact x a u r
  · obtain ⟨_, q⟩ := x a _ r
    exact q
def Mut : Option HO → Prop
  | some (.lst _) => True
  | some (.dK _) => True
  | some (.dT _) => True
  | some (.set _ _) => True
  | some (.ins _ _ _) => True
  | some (.ext _) => True
  | _ => False
section
variable {P : Program} {w : World} {H : Hp} {h h' : Heap} {x e : Addr} {o' : HO}
theorem HOk.write (ok : HOk P w H h) (mu : Mut (H x)) (he : e = x ∨ H e = some (.own x)) (k : ∀ b u, b ≠ e → h.get? b = some u → h'.get? b = some u) (heo : ∃ u, h'.get? e = some u)
    (new : ObjOk P w (upd H x o') h' x o') : HOk P w (upd H x o') h' := fun b u q => by
  have nown : ∀ c y, H c = some (.own y) → c ≠ x := fun c y r z => by subst z; rw [r] at mu; exact mu
  have ntup : ∀ c xs, H c = some (.tup xs) → c ≠ x := fun c xs r z => by subst z; rw [r] at mu; exact mu
  by_cases hb : b = x
  · subst hb; rw [upd_same] at q; cases q; exact new
  · rw [upd_ne hb] at q
    by_cases hbe : b = e
    · have q' : H b = some (.own x) := by
        rcases he with z | z
        · exact absurd (hbe.trans z) hb
        · rw [hbe]; exact z
      rw [q] at q'; cases q'
      obtain ⟨v, hv⟩ := heo
      exact ⟨v, by rw [hbe]; exact hv⟩
    · refine (ok b u q).stay (fun c v hc r => k c v ?_ r) (fun c r => by rw [upd_ne (nown c b r)]; exact r) fun c xs r => by rw [upd_ne (ntup c xs r)]; exact r
      rcases hc with rfl | hc
      · exact hbe
      · rintro rfl
        rcases he with z | z
        · exact nown c b hc z
        · rw [hc] at z; cases z; exact hb rfl
end
structure Un (fs ex : List Addr) (H H' : Hp) (h h' : Heap) : Prop where
  keep : ∀ b o, h.get? b = some o → H b = none → b ∉ fs → b ∉ ex → h'.get? b = some o
  slot : ∀ b o, h.get? b = some o → H b = none → b ∈ fs → b ∉ ex → ∃ sl, h'.get? b = some { o with slots := sl }
  free : ∀ b o, h.get? b = some o → H b = none → b ∉ ex → H' b = none
  there : ∀ b o, h.get? b = some o → b ∉ ex → ∃ o', h'.get? b = some o'
  tups : ∀ b xs, H b = some (.tup xs) → H' b = some (.tup xs)
  frzs : ∀ b o u, H b = some (.frz o u) → H' b = some (.frz o u)
  tbls : ∀ b ps, H b = some (.tbl ps) → ∃ more, H' b = some (.tbl (ps ++ more))
section
variable {fs fs' ex ex' : List Addr} {H H1 H2 : Hp} {h h1 h2 h' : Heap} {a x e : Addr} {o : HO}
theorem Un.any (u : Un fs ex H H1 h h1) {b : Addr} {ob : Obj} (q : h.get? b = some ob) (n : H b = none) (hx : b ∉ ex) : ∃ sl, h1.get? b = some { ob with slots := sl } := by
  by_cases hb : b ∈ fs
  · exact u.slot b ob q n hb hx
  · exact ⟨ob.slots, u.keep b ob q n hb hx⟩
theorem Un.trans (a : Un fs ex H H1 h h1) (b : Un fs ex H1 H2 h1 h2) : Un fs ex H H2 h h2 where
  keep := fun c ob q n hc hx => b.keep c ob (a.keep c ob q n hc hx) (a.free c ob q n hx) hc hx
  slot := fun c ob q n hc hx => by
    obtain ⟨sl, e1⟩ := a.slot c ob q n hc hx
    obtain ⟨sl', e2⟩ := b.slot c _ e1 (a.free c ob q n hx) hc hx
    exact ⟨sl', e2⟩
  free := fun c ob q n hx => by
    obtain ⟨o', e1⟩ := a.there c ob q hx
    exact b.free c o' e1 (a.free c ob q n hx) hx
  there := fun c ob q hx => by
    obtain ⟨o', e1⟩ := a.there c ob q hx
    exact b.there c o' e1 hx
  tups := fun c xs q => b.tups c xs (a.tups c xs q)
  frzs := fun c ob xs q => b.frzs c ob xs (a.frzs c ob xs q)
  tbls := fun c ps q => by
    obtain ⟨m1, e1⟩ := a.tbls c ps q
    obtain ⟨m2, e2⟩ := b.tbls c _ e1
    exact ⟨m1 ++ m2, by rw [e2, Array.append_assoc]⟩
theorem Un.kept (k : ∀ b u, h.get? b = some u → h'.get? b = some u) : Un fs ex H H h h' :=
  ⟨fun b ob q _ _ _ => k b ob q, fun b ob q _ _ _ => ⟨ob.slots, k b ob q⟩, fun _ _ _ n _ => n, fun b ob q _ => ⟨ob, k b ob q⟩, fun _ _ q => q, fun _ _ _ q => q, fun _ ps q => ⟨#[], by rw [q]; simp⟩⟩
theorem Un.refl : Un fs ex H H h h := Un.kept fun _ _ q => q
theorem Un.laid (k : ∀ b u, h.get? b = some u → h'.get? b = some u) (hp : h.objs.size ≤ a) (hn : H a = none) : Un fs ex H (upd H a o) h h' where
  keep := fun b u q _ _ _ => k b u q
  slot := fun b u q _ _ _ => ⟨u.slots, k b u q⟩
  free := fun b u q n _ => by rw [upd_ne (Nat.ne_of_lt (Nat.lt_of_lt_of_le (Heap.lt_size q) hp))]; exact n
  there := fun b u q _ => ⟨u, k b u q⟩
  tups := fun b xs q => by rw [upd_ne (ne_of_none q hn)]; exact q
  frzs := fun b u xs q => by rw [upd_ne (ne_of_none q hn)]; exact q
  tbls := fun b ps q => ⟨#[], by rw [upd_ne (ne_of_none q hn), q]; simp⟩
theorem Un.write (mu : Mut (H x)) (he : e = x ∨ H e = some (.own x)) (k : ∀ b u, b ≠ e → h.get? b = some u → h'.get? b = some u) (heo : ∃ u, h'.get? e = some u) : Un fs ex H (upd H x o) h h' := by
  have hx : ∀ b, H b = none → b ≠ x := fun b n z => by subst z; rw [n] at mu; exact mu
  have hb : ∀ b, H b = none → b ≠ e := fun b n z => by
    subst z
    rcases he with r | r
    · exact hx b n r
    · rw [n] at r; cases r
  have hm : ∀ b u, H b = some u → ¬ Mut (some u) → b ≠ x := fun b u q nm z => by subst z; rw [q] at mu; exact nm mu
  refine ⟨fun b u q n _ _ => k b u (hb b n) q, fun b u q n _ _ => ⟨u.slots, k b u (hb b n) q⟩, fun b u q n _ => by rw [upd_ne (hx b n)]; exact n, fun b u q _ => ?_,
    fun b xs q => by rw [upd_ne (hm b _ q fun z => z)]; exact q, fun b u xs q => by rw [upd_ne (hm b _ q fun z => z)]; exact q, fun b ps q => ⟨#[], by rw [upd_ne (hm b _ q fun z => z), q]; simp⟩⟩
  by_cases hbe : b = e
  · subst hbe; exact heo
  · exact ⟨u, k b u hbe q⟩
theorem Un.mono (u : Un fs ex H H1 h h1) (hs : ∀ b ∈ fs, b ∈ fs') (hx : ∀ b ∈ ex, b ∈ ex') : Un fs' ex' H H1 h h1 :=
  ⟨fun b ob q n hb he => u.keep b ob q n (fun z => hb (hs b z)) fun z => he (hx b z), fun _ _ q n _ he => u.any q n fun z => he (hx _ z), fun b ob q n he => u.free b ob q n fun z => he (hx b z), fun b ob q he => u.there b ob q fun z => he (hx b z), u.tups, u.frzs, u.tbls⟩
end
def trk (h : Heap) (H : Hp) : List Addr := (List.range h.objs.size).filter fun a => (H a).isSome
def hidT (h : Heap) (H : Hp) : Heap := PySem.W.hideAll h (trk h H)
theorem hidT_size (h : Heap) (H : Hp) : (hidT h H).objs.size = h.objs.size := PySem.W.hideAll_size _ _
theorem hidT_get {h : Heap} {H : Hp} {b : Addr} {o : Obj} (e : h.get? b = some o) (n : H b = none) : (hidT h H).get? b = some o :=
  PySem.W.hideAll_get _ e fun hm => by
    have q : (H b).isSome = true := (List.mem_filter.mp hm).2
    rw [n] at q; simp at q
theorem of_hidT {h : Heap} {H : Hp} {b : Addr} {o : Obj} (e : (hidT h H).get? b = some o) : h.get? b = some o ∧ H b = none := by
  have e' : h.get? b = some o := PySem.W.of_hideAll (trk h H) e
  refine ⟨e', ?_⟩
  cases q : H b with
  | none => rfl
  | some x =>
    have hm : b ∈ trk h H := List.mem_filter.mpr ⟨List.mem_range.mpr (Heap.lt_size e'), by simp [q]⟩
    have z : (hidT h H).get? b = none := PySem.W.hideAll_none (trk h H) hm
    rw [z] at e; cases e
def allNews (g h : Heap) (L : Addr) : List (Addr × Obj) := (List.range h.objs.size).filterMap fun a => if a = L ∨ (g.get? a).isSome = true then none else (h.get? a).map fun o => (a, o)
def rest (g h : Heap) (L d : Addr) : List (Addr × Obj) := (allNews g h L).filter fun p => decide (p.1 ≠ d)
end L2
namespace L2
open PySem PySem.Spec PyProof.Rows
structure Mod (K : PySem.W.Frag) (mg : Str → Option Value) (base : Heap) : Prop where
  kin : K.In base
  glob : base.Ns mainGlobals mg
  blt : ∃ mb, base.Ns builtinsNs mb ∧ ∀ x : Str, x ≠ "__name__" → mb x = bootBuiltins x
  nolimit : base.NoLimit
  bmain : ∃ bm ob, mg "__builtins__" = some (.ref bm) ∧ bm ≠ builtinsNs ∧ base.get? bm = some ob ∧ ob.cls = .type "module" ∧ ob.dict = some builtinsNs ∧ ob.data = .plain
structure Cx where
  prog : Program
  w : World
  K : PySem.W.Frag
  mg : Str → Option Value
  base : Heap
  A : Around
  N : List Str
  s₀ : Shared
  H₀ : Hp
  env : Env
  outer : List Env
  stack : List Env
  ex : List Addr
  fn : Str → Bool
  calm : Bool
  pn : List (Addr × Obj)
  xe : Value → Shared → Prop
def frs (l : List Env) : List Addr := l.filterMap (·.frame)
abbrev Cx.fs (X : Cx) : List Addr := frs X.outer
def Vis (sc : Scope) (x : Str) : Prop := sc.names.lookup x = some .local ∨ sc.names.lookup x = some .cell ∨ sc.names.lookup x = some .free
def Loc (sc : Scope) (x : Str) : Prop := sc.names.lookup x = some .local ∨ sc.names.lookup x = some .cell
def Look (env : Env) (h : Heap) (m : Str → Option Value) (x : Str) (u : Value) : Prop :=
  (env.kindOf x = some .local ∧ m x = some u) ∨ ((env.kindOf x = some .cell ∨ env.kindOf x = some .free) ∧ ∃ c, env.cells.lookup x = some c ∧ h.IsCell c (some u))
structure Cx.Ok (X : Cx) : Prop where
  mod : Mod X.K X.mg X.base
  kind : X.env.scope.kind = .function
  glob : X.env.globals = mainGlobals
  blt : X.env.builtins = builtinsNs
  above : X.s₀.heap.objs.size ≤ X.env.locals
  inj : ∀ x y c, X.env.cells.lookup x = some c → X.env.cells.lookup y = some c → x = y
  has : ∀ x, (X.env.kindOf x = some .cell ∨ X.env.kindOf x = some .free) → ∃ c, X.env.cells.lookup x = some c
  cab : ∀ x c, X.fn x = true → X.env.cells.lookup x = some c → X.s₀.heap.objs.size ≤ c
  hd : X.calm = true → X.A.handled = none
  frames : X.A.frames = some X.stack
  stk : X.stack = X.outer ∨ (X.stack = X.env :: X.outer ∧ X.env.frame = some X.env.locals)
  exf : ∀ b ∈ X.ex, b ≠ X.env.locals ∧ ∀ x c, X.env.cells.lookup x = some c → c ≠ b
  bs : ∀ b o, X.base.get? b = some o → X.s₀.heap.get? b = some o ∧ X.H₀ b = none
  bsz : X.base.objs.size ≤ X.s₀.heap.objs.size
  noex : ∀ b o, X.base.get? b = some o → b ∉ X.ex
  exfs : ∀ b ∈ X.ex, b ∉ X.fs
  funs : X.s₀.heap.FunFrames X.base X.outer
  frf : ∀ b ∈ X.fs, X.H₀ b = none
structure GK (a b : Array GenState) : Prop where
  bare : AllBare b
  kept : ∀ (k : Nat) (g : GenState), a[k]? = some g → b[k]? = some g
theorem GK.refl {a : Array GenState} (h : AllBare a) : GK a a := ⟨h, fun _ _ e => e⟩
theorem GK.trans {a b c : Array GenState} (x : GK a b) (y : GK b c) : GK a c := ⟨y.bare, fun k g e => y.kept k g (x.kept k g e)⟩
theorem GK.again {a b : Array GenState} (x : GK a b) : GK b b := GK.refl x.bare
structure Inv (X : Cx) (pins : List (Addr × Obj)) (σ : List (Option V)) (H : Hp) (s : Shared) : Prop where
  ok : X.Ok
  os : s.os = X.s₀.os
  bare : GK X.s₀.gens s.gens
  base : Un X.fs X.ex X.H₀ H X.s₀.heap s.heap
  loc : ∃ m, s.heap.Ns X.env.locals m ∧ ∀ (i : Nat) (x : Str) (v : V), X.N[i]? = some x → σ[i]? = some (some v) → Vis X.env.scope x → ∃ u, RelV v u ∧ Look X.env s.heap m x u
  cell : ∀ x c, X.env.cells.lookup x = some c → ∃ v, s.heap.IsCell c v
  free : H X.env.locals = none
  freeC : ∀ x c, X.env.cells.lookup x = some c → H c = none
  pin : ∀ p ∈ X.pn ++ pins, s.heap.get? p.1 = some p.2 ∧ H p.1 = none ∧ p.1 ≠ X.env.locals ∧ p.1 ∉ X.fs ∧ ∀ v, p.2.data ≠ .cell v
  hok : HOk X.prog X.w H s.heap
  len : σ.length = X.N.length
section
variable {X : Cx} {pins : List (Addr × Obj)} {σ : List (Option V)} {H H' : Hp} {s : Shared} {h' : Heap}
theorem Cx.Ok.nofr (ok : X.Ok) {b : Addr} {o : Obj} (e : X.base.get? b = some o) : b ∉ X.fs := fun hb => by
  have := (ok.funs.mem hb).1
  rw [e] at this; cases this
theorem Inv.bs (I : Inv X pins σ H s) : ∀ b o, X.base.get? b = some o → s.heap.get? b = some o ∧ H b = none := fun b o e =>
  ⟨I.base.keep b o (I.ok.bs b o e).1 (I.ok.bs b o e).2 (I.ok.nofr e) (I.ok.noex b o e), I.base.free b o (I.ok.bs b o e).1 (I.ok.bs b o e).2 (I.ok.noex b o e)⟩
theorem Inv.bk (I : Inv X pins σ H s) : ∀ b o, X.base.get? b = some o → s.heap.get? b = some o := fun b o e => (I.bs b o e).1
theorem Inv.mod (I : Inv X pins σ H s) : Mod X.K X.mg X.base := I.ok.mod
theorem Inv.kIn (I : Inv X pins σ H s) : X.K.In s.heap := I.ok.mod.kin.keeps I.bk
theorem Inv.nolimit (I : Inv X pins σ H s) : s.heap.NoLimit := I.ok.mod.nolimit.keeps I.bk
theorem Inv.fr (I : Inv X pins σ H s) : ∃ m, Fr X.base X.env.locals s.heap m :=
  let ⟨m, hn, _⟩ := I.loc
  ⟨m, hn, I.bk, Nat.le_trans I.ok.bsz I.ok.above⟩
theorem Inv.lt (I : Inv X pins σ H s) : X.env.locals < s.heap.objs.size := let ⟨_, hn, _⟩ := I.loc; hn.lt
theorem Inv.sz (I : Inv X pins σ H s) : X.s₀.heap.objs.size ≤ s.heap.objs.size := Nat.le_trans I.ok.above (Nat.le_of_lt I.lt)
theorem Inv.nofs (I : Inv X pins σ H s) {a : Addr} (h : s.heap.objs.size ≤ a) : a ∉ X.fs := fun hb => by
  obtain ⟨_, o, ho, _⟩ := I.ok.funs.mem hb
  exact absurd (Nat.lt_of_lt_of_le (Heap.lt_size ho) (Nat.le_trans I.sz h)) (Nat.lt_irrefl _)
theorem Inv.cne (I : Inv X pins σ H s) : ∀ x c, X.env.cells.lookup x = some c → c ≠ X.env.locals := fun x c e z => by
  obtain ⟨v, o, ho, hd⟩ := I.cell x c e
  obtain ⟨m, ⟨o', es, ep, ho', hd', _⟩, _⟩ := I.loc
  rw [z, ho'] at ho; cases ho; rw [hd'] at hd; cases hd
theorem Inv.funs (I : Inv X pins σ H s) : s.heap.FunFrames X.base X.outer := by
  have all : ∀ (l : List Env), (∀ b ∈ frs l, b ∈ X.fs) → X.s₀.heap.FunFrames X.base l → s.heap.FunFrames X.base l := by
    intro l
    induction l with
    | nil => intro _ _; trivial
    | cons env r ih =>
      intro hs hl
      obtain ⟨hk, ⟨L, o, hf, hn, ho, hd⟩, hr⟩ := hl
      have hL : L ∈ X.fs := hs L (by unfold frs; rw [List.filterMap_cons, hf]; exact List.mem_cons_self)
      obtain ⟨sl, e⟩ := I.base.slot L o ho (I.ok.frf L hL) hL fun z => I.ok.exfs L z hL
      exact ⟨hk, ⟨L, _, hf, hn, e, hd⟩, ih (fun b hb => hs b (by unfold frs; rw [List.filterMap_cons, hf]; exact List.mem_cons_of_mem _ hb)) hr⟩
  exact all X.outer (fun _ hb => hb) I.ok.funs
theorem Inv.stack (I : Inv X pins σ H s) : s.heap.FunFrames X.base X.stack := by
  rcases I.ok.stk with e | ⟨e, hf⟩
  · rw [e]; exact I.funs
  · rw [e]
    obtain ⟨m, hn, _⟩ := I.loc
    refine .cons (by rw [I.ok.kind]; decide) hf hn ?_ I.funs
    exact Heap.get?_none_of_le (Nat.le_trans I.ok.bsz I.ok.above)
theorem Inv.stkSub (I : Inv X pins σ H s) : ∀ b ∈ frs X.stack, b ∈ X.env.locals :: X.fs := fun b hb => by
  rcases I.ok.stk with e | ⟨e, hf⟩
  · rw [e] at hb; exact List.mem_cons_of_mem _ hb
  · rw [e] at hb
    unfold frs at hb
    rw [List.filterMap_cons, hf] at hb
    exact hb
theorem Inv.stkFree (I : Inv X pins σ H s) : ∀ b ∈ frs X.stack, H b = none := fun b hb => by
  rcases List.mem_cons.mp (I.stkSub b hb) with e | hb
  · rw [e]; exact I.free
  · obtain ⟨_, o, ho, _⟩ := I.ok.funs.mem hb
    exact I.base.free b o ho (I.ok.frf b hb) fun z => I.ok.exfs b z hb
theorem Inv.step {g' : Array GenState} {t' : Nat} {d' : Drawn} {ch : List Addr} (I : Inv X pins σ H s)
    (hch : ∀ b ∈ ch, (b ∈ X.ex ∨ X.s₀.heap.objs.size ≤ b) ∧ b ≠ X.env.locals ∧ (∀ x c, X.env.cells.lookup x = some c → c ≠ b) ∧ ∀ p ∈ X.pn ++ pins, p.1 ≠ b)
    (keep : ∀ b o, b ≠ X.env.locals → b ∉ X.fs → b ∉ ch → s.heap.get? b = some o → H b = none → h'.get? b = some o)
    (slot : ∀ b o, b ≠ X.env.locals → b ∈ X.fs → b ∉ ch → s.heap.get? b = some o → H b = none → ∃ sl, h'.get? b = some { o with slots := sl }) (free : ∀ b o, b ∉ ch → s.heap.get? b = some o → H b = none → H' b = none)
    (there : ∀ b o, b ∉ ch → s.heap.get? b = some o → ∃ o', h'.get? b = some o')
    (tups : ∀ b xs, H b = some (.tup xs) → H' b = some (.tup xs)) (frzs : ∀ b o u, H b = some (.frz o u) → H' b = some (.frz o u)) (tbls : ∀ b ps, H b = some (.tbl ps) → ∃ more, H' b = some (.tbl (ps ++ more)))
    (ns : ∀ m, s.heap.Ns X.env.locals m → h'.Ns X.env.locals m) (hok : HOk X.prog X.w H' h') (hg : GK s.gens g') :
    Inv X pins σ H' { s with heap := h', gens := g', drawn := d', toks := t' } := by
  have neL : ∀ b o, X.s₀.heap.get? b = some o → b ≠ X.env.locals := fun b o e => Nat.ne_of_lt (Nat.lt_of_lt_of_le (Heap.lt_size e) I.ok.above)
  have neC : ∀ b o, X.s₀.heap.get? b = some o → b ∉ X.ex → b ∉ ch := fun b o e hx hb => by
    rcases (hch b hb).1 with z | z
    · exact hx z
    · exact absurd (Nat.lt_of_lt_of_le (Heap.lt_size e) z) (Nat.lt_irrefl _)
  have cellK : ∀ x c, X.env.cells.lookup x = some c → ∀ v, s.heap.IsCell c v → h'.IsCell c v := fun x c e v ⟨o, ho, hd⟩ => by
    have nch : c ∉ ch := fun z => (hch c z).2.2.1 x c e rfl
    by_cases hc : c ∈ X.fs
    · obtain ⟨sl, q⟩ := slot c o (I.cne x c e) hc nch ho (I.freeC x c e)
      exact ⟨_, q, hd⟩
    · exact ⟨o, keep c o (I.cne x c e) hc nch ho (I.freeC x c e), hd⟩
  refine ⟨I.ok, I.os, I.bare.trans hg, ⟨fun b o e n hb hx => ?_, fun b o e n hb hx => ?_, fun b o e n hx => ?_, fun b o e hx => ?_, fun b xs e => tups b xs (I.base.tups b xs e), fun b o xs e => frzs b o xs (I.base.frzs b o xs e), fun b ps e => ?_⟩, ?_, fun x c e => ?_, ?_, fun x c e => ?_, fun p hp => ?_, hok, I.len⟩
  · exact keep b o (neL b o e) hb (neC b o e hx) (I.base.keep b o e n hb hx) (I.base.free b o e n hx)
  · obtain ⟨sl, e1⟩ := I.base.slot b o e n hb hx
    obtain ⟨sl', e2⟩ := slot b _ (neL b o e) hb (neC b o e hx) e1 (I.base.free b o e n hx)
    exact ⟨sl', e2⟩
  · obtain ⟨o', e1⟩ := I.base.there b o e hx
    exact free b o' (neC b o e hx) e1 (I.base.free b o e n hx)
  · obtain ⟨o', e1⟩ := I.base.there b o e hx
    exact there b o' (neC b o e hx) e1
  · obtain ⟨m1, e1⟩ := I.base.tbls b ps e
    obtain ⟨m2, e2⟩ := tbls b _ e1
    exact ⟨m1 ++ m2, by rw [e2, Array.append_assoc]⟩
  · obtain ⟨m, hn, hl⟩ := I.loc
    refine ⟨m, ns m hn, fun i x v e1 e2 e3 => ?_⟩
    obtain ⟨u, r, l⟩ := hl i x v e1 e2 e3
    refine ⟨u, r, ?_⟩
    rcases l with l | ⟨k, c, e, z⟩
    · exact .inl l
    · exact .inr ⟨k, c, e, cellK x c e _ z⟩
  · obtain ⟨v, z⟩ := I.cell x c e
    exact ⟨v, cellK x c e v z⟩
  · obtain ⟨m, ⟨o, _, _, ho, _⟩, _⟩ := I.loc
    exact free _ o (fun z => (hch _ z).2.1 rfl) ho I.free
  · obtain ⟨v, o, ho, hd⟩ := I.cell x c e
    exact free c o (fun z => (hch c z).2.2.1 x c e rfl) ho (I.freeC x c e)
  · obtain ⟨e, n, ne, nf, d⟩ := I.pin p hp
    have nch : p.1 ∉ ch := fun z => (hch p.1 z).2.2.2 p hp rfl
    exact ⟨keep p.1 p.2 ne nf nch e n, free p.1 p.2 nch e n, ne, nf, d⟩
theorem Inv.un {t' : Nat} (I : Inv X pins σ H s) (u : Un X.fs [] H H' s.heap h') (hok : HOk X.prog X.w H' h') : Inv X pins σ H' { s with heap := h', toks := t' } := by
  obtain ⟨m, ⟨o, es, ep, ho, r⟩, _⟩ := id I.loc
  obtain ⟨sl, hL⟩ := u.any ho I.free (by simp)
  exact I.step (g' := s.gens) (d' := s.drawn) (ch := []) (fun _ z => nomatch z) (fun b o _ hb _ e n => u.keep b o e n hb (by simp)) (fun b o _ hb _ e n => u.slot b o e n hb (by simp)) (fun b o _ e n => u.free b o e n (by simp)) (fun b o _ e => u.there b o e (by simp)) u.tups u.frzs u.tbls (fun m' hm => by
    obtain ⟨o', es', ep', ho', r'⟩ := hm
    rw [ho] at ho'; cases ho'
    exact ⟨_, es', ep', hL, r'⟩) hok I.bare.again
theorem Inv.call {g' : Array GenState} {t' : Nat} {d' : Drawn} {ch : List Addr} (I : Inv X pins σ H s) (u : Un (frs X.stack) ch H H' s.heap h') (hok : HOk X.prog X.w H' h') (hg : GK s.gens g')
    (hch : ∀ b ∈ ch, (b ∈ X.ex ∨ X.s₀.heap.objs.size ≤ b) ∧ b ≠ X.env.locals ∧ (∀ x c, X.env.cells.lookup x = some c → c ≠ b) ∧ ∀ p ∈ X.pn ++ pins, p.1 ≠ b) :
    Inv X pins σ H' { s with heap := h', gens := g', drawn := d', toks := t' } := by
  obtain ⟨m, ⟨o, es, ep, ho, r⟩, _⟩ := id I.loc
  obtain ⟨sl, hL⟩ := u.any ho I.free fun z => (hch _ z).2.1 rfl
  exact I.step (ch := ch) hch (fun b o hL hb hc e n => u.keep b o e n (fun z => (List.mem_cons.mp (I.stkSub b z)).elim hL hb) hc) (fun b o _ _ hc e n => u.any e n hc) (fun b o hc e n => u.free b o e n hc) (fun b o hc e => u.there b o e hc) u.tups u.frzs u.tbls (fun m' hm => by
    obtain ⟨o', es', ep', ho', r'⟩ := hm
    rw [ho] at ho'; cases ho'
    exact ⟨_, es', ep', hL, r'⟩) hok hg
theorem Inv.turned {t' : Nat} {it : Addr} (I : Inv X pins σ H s) (k : ∀ b o, b ≠ it → s.heap.get? b = some o → h'.get? b = some o) (hn : H it = none) (hL : it ≠ X.env.locals)
    (h1 : it ∈ X.ex ∨ X.s₀.heap.objs.size ≤ it) (h2 : ∀ x c, X.env.cells.lookup x = some c → c ≠ it) (h3 : ∀ p ∈ X.pn ++ pins, p.1 ≠ it) : Inv X pins σ H { s with heap := h', toks := t' } := by
  have nit : ∀ b u, H b = some u → b ≠ it := fun b u e z => by rw [z, hn] at e; cases e
  refine I.step (g' := s.gens) (d' := s.drawn) (ch := [it]) (fun b hb => ?_) (fun b o _ _ hc e _ => k b o (fun z => hc (by simp [z])) e) (fun b o _ _ hc e _ => ⟨o.slots, k b o (fun z => hc (by simp [z])) e⟩) (fun _ _ _ _ n => n)
    (fun b o hc e => ⟨o, k b o (fun z => hc (by simp [z])) e⟩) (fun _ _ e => e) (fun _ _ _ e => e) (fun b ps e => ⟨#[], by rw [e]; simp⟩) (fun m hm => ?_) (fun b u e => ?_) I.bare.again
  · have e : b = it := by simpa using hb
    subst e
    exact ⟨h1, hL, h2, h3⟩
  · obtain ⟨o, es, ep, ho, r⟩ := hm
    exact ⟨o, es, ep, k _ o (Ne.symm hL) ho, r⟩
  · refine (I.hok b u e).stay (fun c v hc q => k c v ?_ q) (fun _ q => q) fun _ _ q => q
    rcases hc with z | z
    · rw [z]; exact nit b u e
    · exact nit c _ z
theorem Inv.tok (I : Inv X pins σ H s) (t : Nat) : Inv X pins σ H { s with toks := t } := I.un (h' := s.heap) (t' := t) Un.refl I.hok
theorem Inv.kept {t' : Nat} (I : Inv X pins σ H s) (k : ∀ b u, s.heap.get? b = some u → h'.get? b = some u) : Inv X pins σ H { s with heap := h', toks := t' } := I.un (Un.kept k) (I.hok.kept k)
theorem Inv.laid {a : Addr} {o : HO} {t' : Nat} (I : Inv X pins σ H s) (k : ∀ b u, s.heap.get? b = some u → h'.get? b = some u) (hp : s.heap.objs.size ≤ a) (new : ObjOk X.prog X.w (upd H a o) h' a o) :
    Inv X pins σ (upd H a o) { s with heap := h', toks := t' } := I.un (Un.laid k hp (I.hok.fresh hp)) (I.hok.laid k hp new)
theorem Inv.write {x e : Addr} {o : HO} {t' : Nat} (I : Inv X pins σ H s) (mu : Mut (H x)) (he : e = x ∨ H e = some (.own x)) (k : ∀ b u, b ≠ e → s.heap.get? b = some u → h'.get? b = some u) (heo : ∃ u, h'.get? e = some u)
    (new : ObjOk X.prog X.w (upd H x o) h' x o) : Inv X pins σ (upd H x o) { s with heap := h', toks := t' } := I.un (Un.write mu he k heo) (I.hok.write mu he k heo new)
theorem Inv.weak {σ' : List (Option V)} (I : Inv X pins σ H s) (hl : σ'.length = σ.length) (w : ∀ (i : Nat) v, σ'[i]? = some (some v) → σ[i]? = some (some v)) : Inv X pins σ' H s :=
  ⟨I.ok, I.os, I.bare, I.base, let ⟨m, hn, hl'⟩ := I.loc; ⟨m, hn, fun i x v e1 e2 e3 => hl' i x v e1 (w i v e2) e3⟩, I.cell, I.free, I.freeC, I.pin, I.hok, hl.trans I.len⟩
theorem Inv.pins_of {pins' : List (Addr × Obj)} (I : Inv X pins σ H s) (h : ∀ p ∈ pins', s.heap.get? p.1 = some p.2 ∧ H p.1 = none ∧ p.1 ≠ X.env.locals ∧ p.1 ∉ X.fs ∧ ∀ v, p.2.data ≠ .cell v) : Inv X pins' σ H s :=
  ⟨I.ok, I.os, I.bare, I.base, I.loc, I.cell, I.free, I.freeC, fun p hp => (List.mem_append.mp hp).elim (fun z => I.pin p (List.mem_append_left _ z)) (h p), I.hok, I.len⟩
theorem nodup_ix {N : List Str} (hN : N.Nodup) {i j : Nat} {x : Str} (a : N[i]? = some x) (b : N[j]? = some x) : i = j := by
  obtain ⟨h1, e1⟩ := List.getElem?_eq_some_iff.mp a
  obtain ⟨h2, e2⟩ := List.getElem?_eq_some_iff.mp b
  exact (List.getElem_inj hN).mp (e1.trans e2.symm)
theorem store_ok2 {M : Model} {A : Around} {E : Value → Shared → Prop} {i : Nat} {x : Str} {v : V} {u : Value} {Q : Unit → Shared → Prop} (I : Inv X pins σ H s) (hN : X.N.Nodup) (hi : X.N[i]? = some x) (hx : Loc X.env.scope x) (r : RelV v u)
    (h : ∀ s', Inv X pins (σ.set i (some v)) H s' → (∃ a, Heap.SameBut a s.heap s'.heap ∧ (a = X.env.locals ∨ X.env.cells.lookup x = some a)) → Q () s') (hf : X.fn x = true ∨ X.env.scope.names.lookup x = some .local := by first | exact .inl rfl | exact .inr rfl | assumption) : wpAny M A (storeName X.env x u) Q E s := by
  obtain ⟨m, hn, hl⟩ := id I.loc
  have hcls : (X.env.scope.kind == .class || (X.env.scope.kind == .module && X.env.locals != X.env.globals)) = false := by rw [I.ok.kind]; rfl
  have hiσ : i < σ.length := by rw [I.len]; exact (List.getElem?_eq_some_iff.mp hi).1
  have cne := I.cne
  have tracked : ∀ {a : Addr} {h' : Heap}, (∃ o, s.heap.get? a = some o ∧ H a = none) → Heap.SameBut a s.heap h' → HOk X.prog X.w H h' := fun {a h'} ha hs b ob e => by
    obtain ⟨_, _, hfree⟩ := ha
    refine (I.hok b ob e).stay (fun c w' hc q => (hs.2 c ?_).trans q) (fun _ q => q) fun _ _ q => q
    rintro rfl
    rcases hc with rfl | hc
    · rw [hfree] at e; cases e
    · rw [hfree] at hc; cases hc
  rcases hx with hk | hk
  · refine wpAny_storeName_local hk hn (fun h' hn' hs => ?_) hcls
    obtain ⟨oL, _, _, hoL, _⟩ := id hn
    refine h _ ⟨I.ok, I.os, I.bare, ⟨fun b o e n hb hx => ?_, fun b o e n hb hx => ?_, I.base.free, fun b o e hx => ?_, I.base.tups, I.base.frzs, I.base.tbls⟩, ⟨_, hn', fun j y v' e1 e2 e3 => ?_⟩, fun y c e => ?_, I.free, I.freeC, fun p hp => ?_, tracked ⟨oL, hoL, I.free⟩ hs, by simpa using I.len⟩ ⟨_, hs, .inl rfl⟩
    · exact (hs.2 b (Nat.ne_of_lt (Nat.lt_of_lt_of_le (Heap.lt_size e) I.ok.above))).trans (I.base.keep b o e n hb hx)
    · obtain ⟨sl, e1⟩ := I.base.slot b o e n hb hx
      exact ⟨sl, (hs.2 b (Nat.ne_of_lt (Nat.lt_of_lt_of_le (Heap.lt_size e) I.ok.above))).trans e1⟩
    · obtain ⟨o', e1⟩ := I.base.there b o e hx
      exact ⟨o', (hs.2 b (Nat.ne_of_lt (Nat.lt_of_lt_of_le (Heap.lt_size e) I.ok.above))).trans e1⟩
    · by_cases hj : j = i
      · subst hj
        rw [hi] at e1; cases e1
        rw [List.getElem?_set_self hiσ] at e2
        cases e2
        exact ⟨u, r, .inl ⟨hk, by simp⟩⟩
      · rw [List.getElem?_set_ne (Ne.symm hj)] at e2
        obtain ⟨u', r', q⟩ := hl j y v' e1 e2 e3
        refine ⟨u', r', ?_⟩
        rcases q with ⟨k, e⟩ | ⟨k, c, e, z⟩
        · refine .inl ⟨k, ?_⟩
          have : y ≠ x := fun e => hj (nodup_ix hN e1 (e ▸ hi))
          simp [this, e]
        · exact .inr ⟨k, c, e, z.sameBut hs (cne y c e)⟩
    · obtain ⟨w', z⟩ := I.cell y c e
      exact ⟨w', z.sameBut hs (cne y c e)⟩
    · obtain ⟨e, n, ne, nf, d⟩ := I.pin p hp
      exact ⟨(hs.2 p.1 ne).trans e, n, ne, nf, d⟩
  · have hfn : X.fn x = true := by
      rcases hf with z | z
      · exact z
      · rw [z] at hk; cases hk
    obtain ⟨c, hc⟩ := I.ok.has x (.inl hk)
    obtain ⟨w', z⟩ := I.cell x c hc
    refine wpAny_storeName_cell I.ok.kind hk hc z (fun h' hc' hs => ?_)
    obtain ⟨oc, hoc, hocd⟩ := id z
    refine h { s with heap := h' } ⟨I.ok, I.os, I.bare, ⟨fun b o e n hb hx => ?_, fun b o e n hb hx => ?_, I.base.free, fun b o e hx => ?_, I.base.tups, I.base.frzs, I.base.tbls⟩, ⟨m, hn.sameBut hs (Ne.symm (cne x c hc)), fun j y v' e1 e2 e3 => ?_⟩, fun y c' e => ?_, I.free, I.freeC, fun p hp => ?_, tracked ⟨oc, hoc, I.freeC x c hc⟩ hs, by simpa using I.len⟩ ⟨c, hs, .inr hc⟩
    · exact (hs.2 b (Nat.ne_of_lt (Nat.lt_of_lt_of_le (Heap.lt_size e) (I.ok.cab x c hfn hc)))).trans (I.base.keep b o e n hb hx)
    · obtain ⟨sl, e1⟩ := I.base.slot b o e n hb hx
      exact ⟨sl, (hs.2 b (Nat.ne_of_lt (Nat.lt_of_lt_of_le (Heap.lt_size e) (I.ok.cab x c hfn hc)))).trans e1⟩
    · obtain ⟨o', e1⟩ := I.base.there b o e hx
      exact ⟨o', (hs.2 b (Nat.ne_of_lt (Nat.lt_of_lt_of_le (Heap.lt_size e) (I.ok.cab x c hfn hc)))).trans e1⟩
    · by_cases hj : j = i
      · subst hj
        rw [hi] at e1; cases e1
        rw [List.getElem?_set_self hiσ] at e2
        cases e2
        exact ⟨u, r, .inr ⟨.inl hk, c, hc, hc'⟩⟩
      · rw [List.getElem?_set_ne (Ne.symm hj)] at e2
        obtain ⟨u', r', q⟩ := hl j y v' e1 e2 e3
        refine ⟨u', r', ?_⟩
        rcases q with q | ⟨k, c', e, z'⟩
        · exact .inl q
        · refine .inr ⟨k, c', e, z'.sameBut hs ?_⟩
          rintro rfl
          exact hj (nodup_ix hN e1 (I.ok.inj _ _ _ e hc ▸ hi))
    · by_cases hcc : c' = c
      · subst hcc; exact ⟨_, hc'⟩
      · obtain ⟨w2, z2⟩ := I.cell y c' e
        exact ⟨w2, z2.sameBut hs hcc⟩
    · obtain ⟨e, n, ne, nf, d⟩ := I.pin p hp
      refine ⟨(hs.2 p.1 ?_).trans e, n, ne, nf, d⟩
      intro q
      rw [q, hoc] at e
      have q' : oc = p.2 := Option.some.inj e
      exact d w' (by rw [← q']; exact hocd)
theorem store_ok {M : Model} {A : Around} {E : Value → Shared → Prop} {i : Nat} {x : Str} {v : V} {u : Value} {Q : Unit → Shared → Prop} (I : Inv X pins σ H s) (hN : X.N.Nodup) (hi : X.N[i]? = some x) (hx : Loc X.env.scope x) (r : RelV v u)
    (h : ∀ s', Inv X pins (σ.set i (some v)) H s' → Q () s') (hf : X.fn x = true ∨ X.env.scope.names.lookup x = some .local := by first | exact .inl rfl | exact .inr rfl | assumption) : wpAny M A (storeName X.env x u) Q E s :=
  store_ok2 I hN hi hx r (fun s' I' _ => h s' I') hf
theorem Inv.call' {s' : Shared} {ch : List Addr} (I : Inv X pins σ H s) (ho : s'.os = s.os) (u : Un (frs X.stack) ch H H' s.heap s'.heap) (hok : HOk X.prog X.w H' s'.heap) (hg : GK s.gens s'.gens)
    (hch : ∀ b ∈ ch, (b ∈ X.ex ∨ X.s₀.heap.objs.size ≤ b) ∧ b ≠ X.env.locals ∧ (∀ x c, X.env.cells.lookup x = some c → c ≠ b) ∧ ∀ p ∈ X.pn ++ pins, p.1 ≠ b) : Inv X pins σ H' s' := by
  obtain ⟨h', g', d', t', o'⟩ := s'
  have e : o' = s.os := ho
  subst e
  exact I.call (g' := g') (t' := t') (d' := d') u hok hg hch
end
abbrev XK := Value → Option Addr → Hp → Prop
abbrev St := List (Option V)
abbrev VK := V → Hp → Prop
abbrev TE := St → Hp → VK → Prop
abbrev TT := St → Hp → (Bool → Hp → Prop) → Prop
abbrev TA := St → Hp → (List V → Hp → Prop) → Prop
structure Ends where
  nx : St → Hp → Prop
  rt : VK
  bk : St → Hp → Prop := fun _ _ => False
  ct : St → Hp → Prop := fun _ _ => False
abbrev TS := Ends → St → Hp → Prop
def EP (X : Cx) (pins : List (Addr × Obj)) (σ : St) (Q : VK) (u : Value) (s' : Shared) : Prop := ∃ v H', Inv X pins σ H' s' ∧ RelV v u ∧ Q v H'
def TP (X : Cx) (pins : List (Addr × Obj)) (σ : St) (Q : Bool → Hp → Prop) (b : Bool) (s' : Shared) : Prop := ∃ H', Inv X pins σ H' s' ∧ Q b H'
def AP (X : Cx) (pins : List (Addr × Obj)) (σ : St) (Q : List V → Hp → Prop) (us : List Value) (s' : Shared) : Prop := ∃ vs H', Inv X pins σ H' s' ∧ Vals vs us ∧ Q vs H'
def SP (X : Cx) (pins : List (Addr × Obj)) (D : Ends) (f : Flow) (s' : Shared) : Prop :=
  match f with
  | .next => ∃ σ' H', Inv X pins σ' H' s' ∧ D.nx σ' H'
  | .brk => ∃ σ' H', Inv X pins σ' H' s' ∧ D.bk σ' H'
  | .cont => ∃ σ' H', Inv X pins σ' H' s' ∧ D.ct σ' H'
  | .ret u => ∃ v σ' H', Inv X pins σ' H' s' ∧ RelV v u ∧ D.rt v H'
def PE (X : Cx) (e : Expr) (t : TE) : Prop :=
  ∀ (pins : List (Addr × Obj)) (s : Shared) (σ : St) (H : Hp) (Q : VK), Inv X pins σ H s → t σ H Q → wpAny (model X.prog X.w) X.A (eval e X.env) (EP X pins σ Q) X.xe s
def PT (X : Cx) (e : Expr) (t : TT) : Prop :=
  ∀ (pins : List (Addr × Obj)) (s : Shared) (σ : St) (H : Hp) (Q : Bool → Hp → Prop), Inv X pins σ H s → t σ H Q → wpAny (model X.prog X.w) X.A (isTrue e X.env (eval e X.env)) (TP X pins σ Q) X.xe s
def PW (X : Cx) (e : Expr) (t : TT) : Prop :=
  ∀ (whole : Sem Value) (pins : List (Addr × Obj)) (s : Shared) (σ : St) (H : Hp) (Q : Bool → Hp → Prop), Inv X pins σ H s → t σ H Q → wpAny (model X.prog X.w) X.A (isTrue e X.env whole) (TP X pins σ Q) X.xe s
theorem PW.pt {X : Cx} {e : Expr} {t : TT} (h : PW X e t) : PT X e t := h _
def PA (X : Cx) (es : List Expr) (t : TA) : Prop :=
  ∀ (pos : Pos) (pins : List (Addr × Obj)) (s : Shared) (σ : St) (H : Hp) (Q : List V → Hp → Prop), Inv X pins σ H s → t σ H Q → wpAny (model X.prog X.w) X.A (spliced (backTo pos (starEach es X.env))) (AP X pins σ Q) X.xe s
def PS (X : Cx) (st : Stmt) (t : TS) : Prop :=
  ∀ (pins : List (Addr × Obj)) (s : Shared) (σ : St) (H : Hp) (D : Ends), Inv X pins σ H s → t D σ H → wpAny (model X.prog X.w) X.A (exec st X.env) (SP X pins D) X.xe s
def PSs (X : Cx) (st : List Stmt) (t : TS) : Prop :=
  ∀ (pins : List (Addr × Obj)) (s : Shared) (σ : St) (H : Hp) (D : Ends), Inv X pins σ H s → t D σ H → wpAny (model X.prog X.w) X.A (execs st X.env) (SP X pins D) X.xe s
theorem thn {α : Type} {t : Sem α} {Q Q' : α → Shared → Prop} {M : Model} {A : Around} {E : Value → Shared → Prop} {s : Shared} (h : wpAny M A t Q E s) (hQ : ∀ a s, Q a s → Q' a s) : wpAny M A t Q' E s := wpAny_mono h hQ fun _ _ x => x
end L2
namespace L2
open PySem PySem.Spec PyProof.Rows
section
variable {X : Cx}
theorem bin {a b : Expr} {ta tb : TE} (ha : PE X a ta) (hb : PE X b tb) {pins : List (Addr × Obj)} {s : Shared} {σ : St} {H : Hp} {R : V → V → Hp → Prop} (I : Inv X pins σ H s) (h : ta σ H fun x H1 => tb σ H1 fun y H2 => R x y H2)
    {α : Type} {Q : α → Shared → Prop} {f : Value → Value → Sem α}
    (hf : ∀ v u s2 x y H2, Inv X pins σ H2 s2 → RelV x v → RelV y u → R x y H2 → wpAny (model X.prog X.w) X.A (f v u) Q X.xe s2) :
    wpAny (model X.prog X.w) X.A (eval a X.env) (fun v s₁ => wpAny (model X.prog X.w) X.A (eval b X.env) (fun u s₂ => wpAny (model X.prog X.w) X.A (f v u) Q X.xe s₂) X.xe s₁) X.xe s := by
  refine thn (ha pins s σ H _ I h) fun v s1 ⟨x, H1, I1, r1, q1⟩ => ?_
  refine thn (hb pins s1 σ H1 _ I1 q1) fun u s2 ⟨y, H2, I2, r2, q2⟩ => ?_
  exact hf v u s2 x y H2 I2 r1 r2 q2
def tVar (i : Nat) : TE := fun σ H Q => ∃ v, σ[i]? = some (some v) ∧ Q v H
def tC (v : V) : TE := fun _ H Q => Q v H
theorem pe_var {i : Nat} {x : Str} {pos : Pos} (hN : X.N[i]? = some x) (hv : Vis X.env.scope x) (hd : (x == ("__debug__" : Str)) = false := by decide) (hcd : (x == ("__classdict__" : Str)) = false := by decide) : PE X (.Name x pos) (tVar i) := by
  intro pins s σ H Q I h
  obtain ⟨v, e, h⟩ := h
  obtain ⟨m, hn, hl⟩ := I.loc
  obtain ⟨u, r, l⟩ := hl i x v hN e hv
  have fin : EP X pins σ Q u s := ⟨v, H, I, r, h⟩
  rcases l with ⟨hk, hm⟩ | ⟨hk, c, hc, hcell⟩
  · exact wpAny_Name (wpAny_loadName_local I.ok.kind hk hn hm fin) hd
  · rcases hk with hk | hk
    · exact wpAny_Name (wpAny_loadName_cell I.ok.kind hk hc hcell fin) hd
    · exact wpAny_Name (wpAny_loadName_free I.ok.kind hk hc hcell fin hcd) hd
theorem pe_int {i j pos} : PE X (.Constant (.int i) j pos) (tC (.int i)) := fun _ _ _ H _ I h => wpAny_Constant_int ⟨.int i, H, I.tok _, ⟨_, rfl⟩, h⟩
theorem pe_bl {b j pos} : PE X (.Constant (.bool b) j pos) (tC (.bl b)) := fun _ _ _ H _ I h => Constant_bool ⟨.bl b, H, I, rfl, h⟩
theorem pe_non {j pos} : PE X (.Constant .none j pos) (tC .non) := fun _ _ _ H _ I h => Constant_none ⟨.non, H, I, rfl, h⟩
theorem pe_str {x j pos} : PE X (.Constant (.str x) j pos) (tC (.str x)) := fun _ _ _ H _ I h => Calls.Constant_str ⟨.str x, H, I.tok _, ⟨_, rfl⟩, h⟩
def Gl (X : Cx) (x : Str) : Prop := X.env.kindOf x = some .globalImplicit
theorem ld_glob {E : Value → Shared → Prop} {pins : List (Addr × Obj)} {s : Shared} {σ : St} {H : Hp} {x : Str} {u : Value} {pos : Pos} {Q : Value → Shared → Prop} (I : Inv X pins σ H s) (hg : Gl X x) (hm : X.mg x = some u) (h : Q u s)
    (hd : (x == ("__debug__" : Str)) = false := by decide) : wpAny (model X.prog X.w) X.A (eval (.Name x pos) X.env) Q E s :=
  Calls.Name_function_global I.ok.kind hg (Calls.loadGlobal_global (by rw [I.ok.glob]; exact I.mod.glob.keeps I.bk) hm h) hd
theorem ld_blt {E : Value → Shared → Prop} {pins : List (Addr × Obj)} {s : Shared} {σ : St} {H : Hp} {x : Str} {u : Value} {pos : Pos} {Q : Value → Shared → Prop} (I : Inv X pins σ H s) (hg : Gl X x) (hm : X.mg x = none) (hv : bootBuiltins x = some u) (h : Q u s)
    (hn : x ≠ "__name__" := by decide) (hd : (x == ("__debug__" : Str)) = false := by decide) : wpAny (model X.prog X.w) X.A (eval (.Name x pos) X.env) Q E s := by
  obtain ⟨mb, h1, h2⟩ := I.mod.blt
  exact Calls.Name_function_global I.ok.kind hg (Calls.loadGlobal_builtin (by rw [I.ok.glob]; exact I.mod.glob.keeps I.bk) hm (by rw [I.ok.blt]; exact h1.keeps I.bk) ((h2 x hn).trans hv) h) hd
theorem pe_glob {x : Str} {v : V} {u : Value} {pos : Pos} (hg : Gl X x) (hm : X.mg x = some u) (r : RelV v u) (hd : (x == ("__debug__" : Str)) = false := by decide) : PE X (.Name x pos) (tC v) :=
  fun _ _ _ H _ I h => ld_glob I hg hm ⟨v, H, I, r, h⟩ hd
theorem pe_bltn {x : Str} {v : V} {u : Value} {pos : Pos} (hg : Gl X x) (hm : X.mg x = none) (hv : bootBuiltins x = some u) (r : RelV v u) (hn : x ≠ "__name__" := by decide) (hd : (x == ("__debug__" : Str)) = false := by decide) : PE X (.Name x pos) (tC v) :=
  fun _ _ _ H _ I h => ld_blt I hg hm hv ⟨v, H, I, r, h⟩ hn hd
variable {a b : Expr} {ta tb : TE} {pos : Pos}
theorem nobehind (b : Expr) {op : CmpOp} (h : op ≠ .In) (h2 : op ≠ .NotIn) : behindInMarks op b = false := by
  have e1 : (op == CmpOp.In) = false := by cases op <;> first | rfl | exact absurd rfl h
  have e2 : (op == CmpOp.NotIn) = false := by cases op <;> first | rfl | exact absurd rfl h2
  cases b <;> simp [behindInMarks, e1, e2]
variable {tA tB' : TT} {rest : List Expr}
def tAnd (t u : TT) : TT := fun σ H Q => t σ H fun c H1 => if c = true then u σ H1 Q else Q false H1
def tOr (t u : TT) : TT := fun σ H Q => t σ H fun c H1 => if c = true then Q true H1 else u σ H1 Q
def tNot (t : TT) : TT := fun σ H Q => t σ H fun c H1 => Q (!c) H1
theorem pw_and1 (ha : PT X a tA) : PW X (.BoolOp .And [a] pos) tA := by
  intro wh pins s σ H Q I h
  refine isTrue_and (thn (ha pins s σ H Q I h) fun c s1 e => ?_)
  cases c with
  | true => exact isTrue_and_nil e
  | false => exact e
theorem pw_or1 (ha : PT X a tA) : PW X (.BoolOp .Or [a] pos) tA := by
  intro wh pins s σ H Q I h
  refine isTrue_or (thn (ha pins s σ H Q I h) fun c s1 e => ?_)
  cases c with
  | false => exact isTrue_or_nil e
  | true => exact e
theorem pw_and (ha : PT X a tA) (hb : PW X (.BoolOp .And (b :: rest) pos) tB') : PW X (.BoolOp .And (a :: b :: rest) pos) (tAnd tA tB') := by
  intro wh pins s σ H Q I h
  refine isTrue_and (thn (ha pins s σ H _ I h) fun c s1 ⟨H1, I1, q1⟩ => ?_)
  cases c with
  | true => exact hb wh pins s1 σ H1 Q I1 q1
  | false => exact ⟨H1, I1, q1⟩
theorem pw_or (ha : PT X a tA) (hb : PW X (.BoolOp .Or (b :: rest) pos) tB') : PW X (.BoolOp .Or (a :: b :: rest) pos) (tOr tA tB') := by
  intro wh pins s σ H Q I h
  refine isTrue_or (thn (ha pins s σ H _ I h) fun c s1 ⟨H1, I1, q1⟩ => ?_)
  cases c with
  | true => exact ⟨H1, I1, q1⟩
  | false => exact hb wh pins s1 σ H1 Q I1 q1
theorem pt_not (ha : PT X a tA) : PT X (.UnaryOp .Not a pos) (tNot tA) := by
  intro pins s σ H Q I h
  exact isTrue_not (ha pins s σ H (fun c H1 => Q (!c) H1) I h)
def tAndV (ta tb : TE) : TE := fun σ H Q => ta σ H fun x H1 => ∃ c, x = .bl c ∧ if c = true then tb σ H1 Q else Q (.bl false) H1
def tNotV (ta : TE) : TE := fun σ H Q => ta σ H fun x H1 => ∃ c, x = .bl c ∧ Q (.bl (!c)) H1
theorem pe_one {op} {t : TE} (h : PE X a t) : PE X (.BoolOp op [a] pos) t := fun pins s σ H Q I hw => BoolOp_one (h pins s σ H Q I hw)
theorem pe_and (ha : PE X a ta) (hb : PE X (.BoolOp .And (b :: rest) pos) tb) : PE X (.BoolOp .And (a :: b :: rest) pos) (tAndV ta tb) := by
  intro pins s σ H Q I h
  refine BoolOp_and (thn (ha pins s σ H _ I h) fun v s1 ⟨x, H1, I1, r1, q1⟩ => ?_)
  obtain ⟨c, rfl, q1⟩ := q1
  cases r1
  refine wpAny_truthy_bool ?_
  cases c with
  | true => exact hb pins s1 σ H1 Q I1 q1
  | false => exact ⟨.bl false, H1, I1, rfl, q1⟩
theorem pe_not (ha : PE X a ta) : PE X (.UnaryOp .Not a pos) (tNotV ta) := by
  intro pins s σ H Q I h
  refine UnaryOp_ (thn (ha pins s σ H _ I h) fun v s1 ⟨x, H1, I1, r1, q1⟩ => ?_)
  obtain ⟨c, rfl, q1⟩ := q1
  cases r1
  exact not_of (wpAny_truthy_bool ⟨.bl (!c), H1, I1, rfl, q1⟩)
end
end L2
namespace L2
open PySem PySem.Spec PyProof.Rows
def SqL (K : PySem.W.Frag) (H : Hp) (a : Addr) (xs : List V) : Prop :=
  Rd H a (.lst xs) ∨
    ∃ (o : Obj) (its : Array Value) (n : Nat), K.lookup a = some o ∧ o.cls = .type "list" ∧ o.dict = none ∧ o.data = .seq its n ∧ its.size ≤ sizeLine ∧ Vals xs its.toList
def SqT (K : PySem.W.Frag) (H : Hp) (a : Addr) (xs : List V) : Prop :=
  Rd H a (.tup xs) ∨
    ∃ (o : Obj) (its : Array Value) (n : Nat), K.lookup a = some o ∧ o.cls = .type "tuple" ∧ o.data = .seq its n ∧ its.size ≤ sizeLine ∧ Vals xs its.toList
def absV : Value → Option V
  | .none => some .non
  | .bool b => some (.bl b)
  | .int i _ => some (.int i)
  | .str x _ => some (.str x)
  | .bytes b _ => some (.byt b)
  | .float b _ => some (.flt b)
  | .ref a => some (.ref a)
  | .type n => some (.ty n)
  | _ => none
theorem RelV.abs {x : V} {u : Value} (r : RelV x u) : absV u = some x := by
  cases x with
  | non => cases r; rfl
  | bl _ => cases r; rfl
  | int _ => obtain ⟨t, rfl⟩ := r; rfl
  | str _ => obtain ⟨t, rfl⟩ := r; rfl
  | byt _ => obtain ⟨t, rfl⟩ := r; rfl
  | flt _ => obtain ⟨t, rfl⟩ := r; rfl
  | ref _ => cases r; rfl
  | ty _ => cases r; rfl
theorem RelV.inj {x y : V} {u : Value} (r : RelV x u) (q : RelV y u) : x = y := Option.some.inj (r.abs.symm.trans q.abs)
theorem Vals.inj : ∀ {xs ys : List V} {us : List Value}, Vals xs us → Vals ys us → xs = ys
  | _, _, _, .nil, .nil => rfl
  | _, _, _, .cons r t, .cons r' t' => by rw [r.inj r', Vals.inj t t']
section
variable {X : Cx} {pins : List (Addr × Obj)} {σ : St} {H : Hp} {s : Shared} {a : Addr} {xs ys : List V}
theorem SqL.of {K : PySem.W.Frag} (h : H a = some (.lst xs)) : SqL K H a xs := .inl (.inl h)
theorem SqT.of {K : PySem.W.Frag} (h : H a = some (.tup xs)) : SqT K H a xs := .inl (.inl h)
theorem Inv.list (I : Inv X pins σ H s) (h : SqL X.K H a xs) : ∃ its : List Value, Vals xs its ∧ PlainL s.heap a its.toArray ∧ xs.length ≤ sizeLine := by
  rcases h with h | ⟨o, its, n, hk, hc, hd, hs, hz, r⟩
  · obtain ⟨z, its, n, r, e⟩ := h.ok I.hok
    exact ⟨its, r, ⟨_, n, e, rfl, rfl, rfl⟩, z⟩
  · refine ⟨its.toList, r, ⟨o, n, I.kIn a o hk, hc, hd, by simpa using hs⟩, ?_⟩
    have e := r.length
    simp only [Array.length_toList] at e
    omega
theorem Inv.tuple (I : Inv X pins σ H s) (h : SqT X.K H a xs) : ∃ its : List Value, Vals xs its ∧ IsTup s.heap a its.toArray ∧ xs.length ≤ sizeLine := by
  rcases h with h | ⟨o, its, n, hk, hc, hs, hz, r⟩
  · obtain ⟨z, its, r, p⟩ := h.ok I.hok
    exact ⟨its, r, p, z⟩
  · refine ⟨its.toList, r, ⟨o, I.kIn a o hk, hc, n, by simpa using hs⟩, ?_⟩
    have e := r.length
    simp only [Array.length_toList] at e
    omega
theorem Inv.list_inj (I : Inv X pins σ H s) (h : SqL X.K H a xs) (h' : SqL X.K H a ys) : xs = ys := by
  obtain ⟨its, r, ⟨o, n, e, _, _, d⟩, _⟩ := I.list h
  obtain ⟨its', r', ⟨o', n', e', _, _, d'⟩, _⟩ := I.list h'
  rw [e] at e'; cases e'
  rw [d] at d'
  injection d' with d1 _
  have : its = its' := by simpa using congrArg Array.toList d1
  subst this
  exact r.inj r'
theorem Inv.tuple_inj (I : Inv X pins σ H s) (h : SqT X.K H a xs) (h' : SqT X.K H a ys) : xs = ys := by
  obtain ⟨its, r, ⟨o, e, _, n, d⟩, _⟩ := I.tuple h
  obtain ⟨its', r', ⟨o', e', _, n', d'⟩, _⟩ := I.tuple h'
  rw [e] at e'; cases e'
  rw [d] at d'
  injection d' with d1 _
  have : its = its' := by simpa using congrArg Array.toList d1
  subst this
  exact r.inj r'
end
abbrev Cx.wish (X : Cx) (E : Value → Shared → Prop) : Cx := { X with xe := E }
abbrev Cx.nox (X : Cx) : Cx := X.wish fun _ _ => False
theorem Cx.Ok.wish {X : Cx} (ok : X.Ok) (E : Value → Shared → Prop) : (X.wish E).Ok :=
  ⟨ok.mod, ok.kind, ok.glob, ok.blt, ok.above, ok.inj, ok.has, ok.cab, ok.hd, ok.frames, ok.stk, ok.exf, ok.bs, ok.bsz, ok.noex, ok.exfs, ok.funs, ok.frf⟩
theorem Cx.Ok.unwish {X : Cx} {E : Value → Shared → Prop} (ok : (X.wish E).Ok) : X.Ok :=
  ⟨ok.mod, ok.kind, ok.glob, ok.blt, ok.above, ok.inj, ok.has, ok.cab, ok.hd, ok.frames, ok.stk, ok.exf, ok.bs, ok.bsz, ok.noex, ok.exfs, ok.funs, ok.frf⟩
section
variable {X : Cx} {pins : List (Addr × Obj)} {σ : St} {H : Hp} {s : Shared} {E : Value → Shared → Prop}
theorem Inv.wish (I : Inv X pins σ H s) (E : Value → Shared → Prop) : Inv (X.wish E) pins σ H s := ⟨I.ok.wish E, I.os, I.bare, I.base, I.loc, I.cell, I.free, I.freeC, I.pin, I.hok, I.len⟩
theorem Inv.unwish (I : Inv (X.wish E) pins σ H s) : Inv X pins σ H s := ⟨I.ok.unwish, I.os, I.bare, I.base, I.loc, I.cell, I.free, I.freeC, I.pin, I.hok, I.len⟩
theorem SP.unwish {D : Ends} {f : Flow} {s' : Shared} (h : SP (X.wish E) pins D f s') : SP X pins D f s' := by
  cases f with
  | next => obtain ⟨σ', H', I, q⟩ := h; exact ⟨σ', H', I.unwish, q⟩
  | brk => obtain ⟨σ', H', I, q⟩ := h; exact ⟨σ', H', I.unwish, q⟩
  | cont => obtain ⟨σ', H', I, q⟩ := h; exact ⟨σ', H', I.unwish, q⟩
  | ret u => obtain ⟨v, σ', H', I, r, q⟩ := h; exact ⟨v, σ', H', I.unwish, r, q⟩
theorem PE.nox {e : Expr} {t : TE} (h : PE X.nox e t) : PE X e t := fun pins s σ H Q I hw =>
  wpAny_mono (h pins s σ H Q (I.wish _) hw) (fun _ _ ⟨v, H', I', r, q⟩ => ⟨v, H', I'.unwish, r, q⟩) fun _ _ z => False.elim z
theorem PT.nox {e : Expr} {t : TT} (h : PT X.nox e t) : PT X e t := fun pins s σ H Q I hw =>
  wpAny_mono (h pins s σ H Q (I.wish _) hw) (fun _ _ ⟨H', I', q⟩ => ⟨H', I'.unwish, q⟩) fun _ _ z => False.elim z
theorem PSs.nox {st : List Stmt} {t : TS} (h : PSs X.nox st t) : PSs X st t := fun pins s σ H D I hw =>
  wpAny_mono (h pins s σ H D (I.wish _) hw) (fun _ _ q => q.unwish) fun _ _ z => False.elim z
end
section
variable {X : Cx} {st : Stmt} {rest : List Stmt} {t u : TS} {e : Expr} {te : TE} {pos : Pos}
def tNext : TS := fun D σ H => D.nx σ H
def tSeq (t u : TS) : TS := fun D σ H => t { D with nx := u D } σ H
theorem pss_nil : PSs X [] tNext := fun _ _ σ H _ I h => wpAny_execs_nil ⟨σ, H, I, h⟩
theorem pss_cons (h1 : PS X st t) (h2 : PSs X rest u) : PSs X (st :: rest) (tSeq t u) := by
  intro pins s σ H D I h
  refine wpAny_execs_cons (thn (h1 pins s σ H { D with nx := u D } I h) fun f s1 q => ?_)
  cases f with
  | next =>
    obtain ⟨σ', H', I', q⟩ := q
    exact h2 pins s1 σ' H' D I' q
  | ret v => exact q
  | brk => exact q
  | cont => exact q
theorem pss_one (h1 : PS X st t) : PSs X [st] t := by
  intro pins s σ H D I h
  refine wpAny_execs_cons (thn (h1 pins s σ H D I h) fun f s1 q => ?_)
  cases f with
  | next => exact wpAny_execs_nil q
  | ret v => exact q
  | brk => exact q
  | cont => exact q
def tBreak : TS := fun D σ H => D.bk σ H
theorem ps_break : PS X (.Break pos) tBreak := fun _ _ σ H _ I h => wpAny_Break ⟨σ, H, I, h⟩
theorem Inv.quiet {pins : List (Addr × Obj)} {σ : St} {H : Hp} {s : Shared} (I : Inv X pins σ H s) : interactive X.env = false := by simp [interactive, I.ok.kind]
def tDrop (te : TE) : TS := fun D σ H => te σ H fun _ H1 => D.nx σ H1
theorem ps_expr (he : PE X e te) (hs : swapsWith e none pos.line X.env = pure false := by rfl) : PS X (.Expr e pos) (tDrop te) := by
  intro pins s σ H D I h
  exact wpAny_Expr_any (thn (he pins s σ H _ I h) fun v s1 ⟨x, H1, I1, r1, q1⟩ => ⟨σ, H1, I1, q1⟩) I.quiet hs
def tRet (te : TE) : TS := fun D σ H => te σ H D.rt
theorem ps_ret (he : PE X e te) : PS X (.Return (some e) pos) (tRet te) := by
  intro pins s σ H D I h
  exact wpAny_Return_some (thn (he pins s σ H _ I h) fun v s1 ⟨x, H1, I1, r1, q1⟩ => ⟨x, σ, H1, I1, r1, q1⟩)
def tIfS (c : TT) (t u : TS) : TS := fun D σ H => c σ H fun b H1 => if b = true then t D σ H1 else u D σ H1
theorem ps_if {c : Expr} {a b : List Stmt} {tc : TT} (hc : PT X c tc) (ha : PSs X a t) (hb : PSs X b u) : PS X (.If c a b pos) (tIfS tc t u) := by
  intro pins s σ H D I h
  refine wpAny_If (thn (hc pins s σ H _ I h) fun d s1 ⟨H1, I1, q1⟩ => ?_)
  cases d with
  | true => exact ha pins s1 σ H1 D I1 q1
  | false => exact hb pins s1 σ H1 D I1 q1
end
abbrev TG := V → St → Hp → (St → Hp → Prop) → Prop
abbrev TGs := List V → St → Hp → (St → Hp → Prop) → Prop
def PG (X : Cx) (target : Expr) (t : TG) : Prop :=
  ∀ (pins : List (Addr × Obj)) (s : Shared) (σ : St) (H : Hp) (v : V) (u : Value) (Q : St → Hp → Prop), Inv X pins σ H s → RelV v u → t v σ H Q →
    wpAny (model X.prog X.w) X.A (assign target X.env u) (fun _ s' => ∃ σ' H', Inv X pins σ' H' s' ∧ Q σ' H') X.xe s
def PGs (X : Cx) (ts : List Expr) (t : TGs) : Prop :=
  ∀ (pins : List (Addr × Obj)) (s : Shared) (σ : St) (H : Hp) (vs : List V) (us : List Value) (Q : St → Hp → Prop), Inv X pins σ H s → Vals vs us → t vs σ H Q →
    wpAny (model X.prog X.w) X.A (assignInOrder ((assignEach ts X.env).map (·.2)) us) (fun _ s' => ∃ σ' H', Inv X pins σ' H' s' ∧ Q σ' H') X.xe s
abbrev TSet := V → V → V → Hp → (Hp → Prop) → Prop
def PSet (X : Cx) (t : TSet) : Prop :=
  ∀ (pins : List (Addr × Obj)) (s : Shared) (σ : St) (H : Hp) (o i v : V) (ov iv u : Value) (Q : Hp → Prop), Inv X pins σ H s → RelV o ov → RelV i iv → RelV v u → t o i v H Q →
    wpAny (model X.prog X.w) X.A (setItem ov iv u) (fun _ s' => ∃ H', Inv X pins σ H' s' ∧ Q H') X.xe s
section
variable {X : Cx} {pos : Pos}
def gName (i : Nat) : TG := fun v σ H Q => Q (σ.set i (some v)) H
theorem pg_name {i : Nat} {x : Str} (hN : X.N.Nodup) (hi : X.N[i]? = some x) (hx : Loc X.env.scope x) (hf : X.fn x = true ∨ X.env.scope.names.lookup x = some .local := by first | exact .inl rfl | exact .inr rfl | assumption) : PG X (.Name x pos) (gName i) := by
  intro pins s σ H v u Q I r h
  exact wpAny_assign_Name (store_ok I hN hi hx r (fun s' I' => ⟨_, H, I', h⟩) hf)
def gNil : TGs := fun vs σ H Q => vs = [] ∧ Q σ H
def gCons (t : TG) (u : TGs) : TGs := fun vs σ H Q => ∃ v r, vs = v :: r ∧ t v σ H fun σ' H' => u r σ' H' Q
theorem pgs_nil : PGs X [] gNil := by
  intro pins s σ H vs us Q I r h
  obtain ⟨e, h⟩ := h
  subst e
  cases r
  exact assignInOrder_nil ⟨σ, H, I, h⟩
theorem pgs_cons {e : Expr} {es : List Expr} {t : TG} {u : TGs} (h1 : PG X e t) (h2 : PGs X es u)
    (hs : (assignEach (e :: es) X.env).map (·.2) = assign e X.env :: (assignEach es X.env).map (·.2) := by rfl) : PGs X (e :: es) (gCons t u) := by
  intro pins s σ H vs us Q I r h
  obtain ⟨v, vr, e1, h⟩ := h
  subst e1
  cases r with
  | cons r rr =>
    rw [hs]
    refine assignInOrder_cons (thn (h1 pins s σ H _ _ _ I r h) fun _ s1 ⟨σ1, H1, I1, q1⟩ => ?_)
    exact h2 pins s1 σ1 H1 _ _ Q I1 rr q1
def gTup (K : PySem.W.Frag) (n : Nat) (t : TGs) : TG := fun v σ H Q => ∃ a xs, v = .ref a ∧ SqT K H a xs ∧ xs.length = n ∧ t xs σ H Q
theorem pg_tup {es : List Expr} {k : Nat} {t : TGs} {n : Nat} (hc : X.calm = true) (h : PGs X es t)
    (hn : (assignEach es X.env).length = n := by rfl) (hst : (assignEach es X.env).findIdx? (·.1) = none := by rfl) : PG X (.Tuple es k pos) (gTup X.K n t) := by
  intro pins s σ H v u Q I r hw
  obtain ⟨a, xs, e1, hq, hl, hw⟩ := hw
  subst e1
  cases r
  obtain ⟨its, rv, ht, hz⟩ := I.tuple hq
  refine assign_Tuple_tuple (I.ok.hd hc) ht (by simp [hn, ← hl, rv.length]) hst fun h' hx => ?_
  have I1 : Inv X pins σ H { s with heap := h' } := I.kept (t' := s.toks) fun b o e => hx b o (Nat.ne_of_lt (Heap.lt_size e)) e
  exact h pins _ σ H xs _ Q I1 (by simpa using rv) hw
def gSub (to ti : TE) (t : TSet) : TG := fun v σ H Q => to σ H fun o H1 => ti σ H1 fun i H2 => t o i v H2 fun H3 => Q σ H3
theorem pg_sub {o i : Expr} {to ti : TE} {t : TSet} (ho : PE X o to) (hi : PE X i ti) (hs : PSet X t)
    (ha : ∀ v, assign (.Subscript o i pos) X.env v = (do
      let ov ← holding [v] (eval o X.env)
      let iv ← holding [v, ov] (eval i X.env)
      standAt pos
      holding [v, ov, iv] (setItem ov iv v)
      release [v, ov, iv] []) := by intro _; rfl) : PG X (.Subscript o i pos) (gSub to ti t) := by
  intro pins s σ H v u Q I r h
  rw [ha]
  refine wpAny_bind (wpAny_holding (thn (ho pins s σ H _ I h) fun ov s1 ⟨x, H1, I1, r1, q1⟩ => ?_))
  refine wpAny_bind (wpAny_holding (thn (hi pins s1 σ H1 _ I1 q1) fun iv s2 ⟨y, H2, I2, r2, q2⟩ => ?_))
  refine wpAny_bind (wpAny_standAt (wpAny_bind (wpAny_holding (thn (hs pins s2 σ H2 x y v ov iv u _ I2 r1 r2 r q2) fun _ s3 ⟨H3, I3, q3⟩ => ?_))))
  exact wpAny_release ⟨σ, H3, I3, q3⟩
def tAsg (te : TE) (g : TG) : TS := fun D σ H => te σ H fun x H1 => g x σ H1 D.nx
theorem ps_asg {tg e : Expr} {te : TE} {g : TG} (he : PE X e te) (hg : PG X tg g) (hs : swapsWithSole [tg] e pos.line X.env = pure false := by rfl) (hw : swappedStores [tg] e X.env = pure none := by rfl)
    (h1 : (assignEach [tg] X.env).map (·.2) = [assign tg X.env] := by rfl) : PS X (.Assign [tg] e pos) (tAsg te g) := by
  intro pins s σ H D I h
  refine wpAny_Assign_stores (thn (he pins s σ H _ I h) fun v s1 ⟨x, H1, I1, r1, q1⟩ => ?_) hs hw
  rw [h1]
  exact thn (hg pins s1 σ H1 x v _ I1 r1 q1) fun _ s2 q => q
theorem ps_set {i : Nat} {x : Str} {e : Expr} {te : TE} {pos' : Pos} (hN : X.N.Nodup) (hi : X.N[i]? = some x) (hx : Loc X.env.scope x) (he : PE X e te) (hs : swapsWith e (some (.Name x pos')) pos.line X.env = pure false := by rfl) (hf : X.fn x = true ∨ X.env.scope.names.lookup x = some .local := by first | exact .inl rfl | exact .inr rfl | assumption) :
    PS X (.Assign [.Name x pos'] e pos) (tAsg te (gName i)) := by
  intro pins s σ H D I h
  refine wpAny_Assign_Name (thn (he pins s σ H _ I h) fun v s1 ⟨y, H1, I1, r1, q1⟩ => ?_) hs
  exact store_ok I1 hN hi hx r1 (fun s2 I2 => ⟨_, H1, I2, q1⟩) hf
def tPar (i j : Nat) (ta : TA) : TS := fun D σ H => ta σ H fun vs H1 => ∃ v w, vs = [v, w] ∧ D.nx ((σ.set i (some v)).set j (some w)) H1
theorem ps_par {i j : Nat} {x y : Str} {a b : Expr} {ta : TA} {px py pt : Pos} {kt k2 pt2} (hc : X.calm = true) (hN : X.N.Nodup) (hi : X.N[i]? = some x) (hj : X.N[j]? = some y) (hij : i ≠ j)
    (hx : X.env.scope.names.lookup x = some .local) (hy : X.env.scope.names.lookup y = some .local) (ha : PA X [a, b] ta)
    (hw : swappedStores [.Tuple [.Name x px, .Name y py] kt pt] (.Tuple [a, b] k2 pt2) X.env = pure (some [x, y]))
    (hs : swapsWithSole [.Tuple [.Name x px, .Name y py] kt pt] (.Tuple [a, b] k2 pt2) pos.line X.env = pure false := by rfl) :
    PS X (.Assign [.Tuple [.Name x px, .Name y py] kt pt] (.Tuple [a, b] k2 pt2) pos) (tPar i j ta) := by
  intro pins s σ H D I h
  rw [exec_Assign_arm]
  refine wpAny_bind (wpAny_standAt ?_)
  rw [hs]
  refine wpAny_bind (wpAny_pure ?_)
  rw [if_neg (by decide)]
  refine wpAny_bind (Tuple_ (thn (ha _ pins s σ H _ I h) fun us s1 ⟨vs, H1, I1, r1, q1⟩ => ?_))
  obtain ⟨v, w, e1, q1⟩ := q1
  subst e1
  obtain ⟨u1, u2, rfl, rv, rw'⟩ : ∃ u1 u2, us = [u1, u2] ∧ RelV v u1 ∧ RelV w u2 := by
    cases r1 with
    | cons p q =>
      cases q with
      | cons p' q' =>
        cases q'
        exact ⟨_, _, rfl, p, p'⟩
  refine wpAny_newObj_type ?_ (by show 2 ≤ sizeLine; decide)
  have I2 : Inv X pins σ H1 { s1 with heap := s1.heap.push { cls := .type "tuple", data := .seq [u1, u2].toArray } } := I1.kept (t' := s1.toks) fun b o e => Heap.get?_push_of_some _ e
  rw [hw]
  refine wpAny_bind (wpAny_pure ?_)
  show wpAny (model X.prog X.w) X.A (do rule "assign.swapped-stores"; let items ← unpackItems (.ref s1.heap.objs.size) 2 none; assignInOrder [fun v => bindName X.env y v, fun v => bindName X.env x v] items.reverse; pure Flow.next) _ _ _
  refine wpAny_bind (wpAny_rule (wpAny_bind (unpackItems_tuple (items := #[u1, u2]) (I.ok.hd hc) (IsTup.new s1.heap _) fun h' hx' => ?_)))
  have I3 := I2.kept (h' := h') (t' := s1.toks) fun b o e => hx' b o (Nat.ne_of_lt (Heap.lt_size e)) e
  show wpAny _ _ (assignInOrder [fun v => bindName X.env y v, fun v => bindName X.env x v] [u2, u1] >>= fun _ => pure Flow.next) _ _ _
  refine wpAny_bind (assignInOrder_cons (wpAny_bindName (store_ok I3 hN hj (.inl hy) rw' (fun s2 I4 => ?_) (.inr hy))))
  refine assignInOrder_cons (wpAny_bindName (store_ok I4 hN hi (.inl hx) rv (fun s3 I5 => assignInOrder_nil (wpAny_pure ?_)) (.inr hx)))
  rw [List.set_comm _ _ (Ne.symm hij)] at I5
  exact ⟨_, H1, I5, q1⟩
end
section
variable {X : Cx} {pos : Pos}
def tWhile (c : TT) (tb : TS) : TS := fun D σ H => ∃ W : Nat → St → Hp → Prop, (∃ m, W m σ H) ∧ ∀ m σ H, W m σ H →
  c σ H fun b H1 => if b = true then ∃ N : St → Hp → Prop, (∀ σ' H', N σ' H' → ∃ m', m' < m ∧ W m' σ' H') ∧ tb { D with nx := N, ct := N, bk := D.nx } σ H1 else D.nx σ H1
theorem ps_while {c : Expr} {body : List Stmt} {tc : TT} {tb : TS} (hp : PassesOwn (model X.prog X.w) X.A X.env X.xe) (hc : PT X c tc) (hb : PSs X body tb) : PS X (.While c body [] pos) (tWhile tc tb) := by
  intro pins s σ H D I h
  obtain ⟨W, ⟨m0, w0⟩, turn⟩ := h
  refine wpAny_While (codeAny_whileLoop (fun n s' => ∃ σ' H', Inv X pins σ' H' s' ∧ W n σ' H') ?_ m0 ⟨σ, H, I, w0⟩)
  rintro n s1 ⟨σ1, H1, I1, w1⟩
  refine wpAny_passesOwn hp (thn (hc pins s1 σ1 H1 _ I1 (turn n σ1 H1 w1)) fun b s2 ⟨H2, I2, q2⟩ => ?_)
  cases b with
  | true =>
    obtain ⟨N, hN, q2⟩ := q2
    rw [if_pos rfl]
    refine wpAny_passesOwn hp (thn (hb pins s2 σ1 H2 _ I2 q2) fun f s3 q3 => ?_)
    cases f with
    | next =>
      obtain ⟨σ3, H3, I3, n3⟩ := q3
      obtain ⟨m', hm, w3⟩ := hN σ3 H3 n3
      exact ⟨m', hm, σ3, H3, I3, w3⟩
    | cont =>
      obtain ⟨σ3, H3, I3, n3⟩ := q3
      obtain ⟨m', hm, w3⟩ := hN σ3 H3 n3
      exact ⟨m', hm, σ3, H3, I3, w3⟩
    | brk => exact q3
    | ret v => exact q3
  | false =>
    rw [if_neg Bool.false_ne_true]
    exact wpAny_execs_nil ⟨σ1, H2, I2, q2⟩
end
structure It where
  go : Nat → Hp → Prop
  yld : Nat → Hp → V → Hp → Prop
  stop : Nat → Hp → Prop
def FpOk (X : Cx) (pins : List (Addr × Obj)) (H : Hp) (b : Addr) : Prop :=
  H b = none ∧ b ≠ X.env.locals ∧ b ∉ X.fs ∧ (b ∈ X.ex ∨ X.s₀.heap.objs.size ≤ b) ∧ (∀ x c, X.env.cells.lookup x = some c → c ≠ b) ∧ ∀ p ∈ X.pn ++ pins, p.1 ≠ b
theorem Inv.fpOk {X : Cx} {pins : List (Addr × Obj)} {σ : St} {H H' : Hp} {s : Shared} {b : Addr} (I : Inv X pins σ H s) (hb : s.heap.objs.size ≤ b) (hn : H' b = none) : FpOk X pins H' b := by
  refine ⟨hn, Nat.ne_of_gt (Nat.lt_of_lt_of_le I.lt hb), I.nofs hb, .inr (Nat.le_trans I.sz hb), fun x c e z => ?_, fun p hp z => ?_⟩
  · obtain ⟨v, q⟩ := I.cell x c e
    exact absurd (Nat.lt_of_lt_of_le q.lt (by rw [z]; exact hb)) (Nat.lt_irrefl _)
  · exact absurd (Nat.lt_of_lt_of_le (Heap.lt_size (I.pin p hp).1) (by rw [z]; exact hb)) (Nat.lt_irrefl _)
structure Turn (P : Program) (w : World) (K : PySem.W.Frag) (tg : Expr) (J : It) (fp : List Addr) (it : Addr) (tn : Nat → Heap → Prop) : Prop where
  mem : it ∈ fp
  obj : ∀ i h, tn i h → ∀ b ∈ fp, ∃ o, h.get? b = some o ∧ ∀ v, o.data ≠ .cell v
  keep : ∀ i h h', tn i h → (∀ b ∈ fp, ∀ o, h.get? b = some o → h'.get? b = some o) → tn i h'
  item : ∀ (X : Cx), X.prog = P → X.w = w → X.K = K → X.calm = true → ∀ (i : Nat) (pins : List (Addr × Obj)) (s : Shared) (σ : St) (H : Hp) (E : Value → Shared → Prop), Inv X pins σ H s → (∀ b ∈ fp, FpOk X pins H b) → tn i s.heap → J.go i H →
    wpAny (model P w) X.A (pyNext (.ref it)) (fun r s1 => ∃ u, r = some u ∧
      wpAny (model P w) X.A (letOwnedTupleGo tg (.ref it) u) (fun _ s2 => ∃ x H', Inv X pins σ H' s2 ∧ RelV x u ∧ J.yld i H x H' ∧ tn (i + 1) s2.heap ∧ ∀ b ∈ fp, H' b = none) E s1) E s
  done : ∀ (X : Cx), X.prog = P → X.w = w → X.K = K → X.calm = true → ∀ (i : Nat) (pins : List (Addr × Obj)) (s : Shared) (σ : St) (H : Hp) (E : Value → Shared → Prop), Inv X pins σ H s → (∀ b ∈ fp, FpOk X pins H b) → tn i s.heap → J.stop i H →
    wpAny (model P w) X.A (pyNext (.ref it)) (fun r s1 => r = none ∧ Inv X pins σ H s1) E s
  self : ∀ (A : Around) (i : Nat) (s : Shared) (Q : Value → Shared → Prop) (E : Value → Shared → Prop), tn i s.heap → Q (.ref it) s → wpAny (model P w) A (pyIter (.ref it)) Q E s
abbrev TI := St → Hp → (It → Hp → Prop) → Prop
def PIE (X : Cx) (pins : List (Addr × Obj)) (σ : St) (tg : Expr) (R : It → Hp → Prop) (itv : Value) (s2 : Shared) : Prop :=
  ∃ (it : Addr) (fp : List Addr) (tn : Nat → Heap → Prop) (J : It) (H' : Hp), itv = .ref it ∧ Inv X pins σ H' s2 ∧ Turn X.prog X.w X.K tg J fp it tn ∧ tn 0 s2.heap ∧ (∀ b ∈ fp, FpOk X pins H' b) ∧ R J H'
def PI (X : Cx) (tg iter : Expr) (wi : TI) : Prop :=
  ∀ (pins : List (Addr × Obj)) (s : Shared) (σ : St) (H : Hp) (R : It → Hp → Prop), Inv X pins σ H s → wi σ H R →
    wpAny (model X.prog X.w) X.A (eval iter X.env) (fun v s1 => wpAny (model X.prog X.w) X.A (pyIter v) (PIE X pins σ tg R) X.xe s1) X.xe s
theorem go_of {M : Model} {A : Around} {E : Value → Shared → Prop} {s : Shared} {tg : Expr} {it : Addr} {u : Value} {o : Obj} {n : String} {vs : Array Value} {Q : Unit → Shared → Prop} (ho : s.heap.get? it = some o) (hc : o.cls = .type n) (hd : o.data = .fields vs)
    (hn : ["enumerate", "zip", "dict_itemiterator", "dict_reverseitemiterator", "odict_iterator", "itertools.zip_longest", "itertools.pairwise"].contains n = false) (hQ : Q () s) : wpAny M A (letOwnedTupleGo tg (.ref it) u) Q E s := by
  unfold letOwnedTupleGo
  cases tg <;> first
    | exact wpAny_pure hQ
    | (cases u <;> first
        | exact wpAny_pure hQ
        | (refine wpAny_bind (wpAny_load ho ?_)
           rw [hc, hd]
           show wpAny M A (if (["enumerate", "zip", "dict_itemiterator", "dict_reverseitemiterator", "odict_iterator", "itertools.zip_longest", "itertools.pairwise"].contains n && vs[0]? == some (rawInt _)) = true then _ else _) Q E s
           rw [if_neg (by intro h; rw [hn, Bool.false_and] at h; cases h)]
           exact wpAny_pure hQ))
def Itl (K : PySem.W.Frag) (a : Addr) : It :=
  ⟨fun i H => ∃ xs x, SqL K H a xs ∧ xs[i]? = some x, fun i H x H' => H' = H ∧ ∀ xs, SqL K H a xs → xs[i]? = some x, fun i H => ∃ xs, SqL K H a xs ∧ xs.length ≤ i⟩
def Itt (K : PySem.W.Frag) (a : Addr) : It :=
  ⟨fun i H => ∃ xs x, SqT K H a xs ∧ xs[i]? = some x, fun i H x H' => H' = H ∧ ∀ xs, SqT K H a xs → xs[i]? = some x, fun i H => ∃ xs, SqT K H a xs ∧ xs.length ≤ i⟩
def Itr (lo : Int) (n : Nat) : It := ⟨fun i _ => i < n, fun i H x H' => H' = H ∧ x = .int (lo + i), fun i _ => n ≤ i⟩
theorem turn_list {P : Program} {w : World} {K : PySem.W.Frag} {tg : Expr} (a it : Addr) : Turn P w K tg (Itl K a) [it] it (fun i h => h.IsListIter it a i) where
  mem := by simp
  obj := fun i h st b hb => by
    have e : b = it := by simpa using hb
    subst e
    obtain ⟨o, e, c, d⟩ := st
    exact ⟨o, e, fun v z => by rw [d] at z; cases z⟩
  keep := fun i h h' st k => st.at fun o e => k it (by simp) o e
  item := by
    intro X hP hw hK hc i pins s σ H E I hf st hg
    subst hP hw hK
    obtain ⟨xs, x, hq, hx⟩ := hg
    obtain ⟨its, rv, p, hz⟩ := I.list hq
    obtain ⟨u, hu, ru⟩ := rv.get hx
    obtain ⟨f0, f1, f2, f3, f4, f5⟩ := hf it (by simp)
    refine wpAny_pyNext_list_item st p.isList (x := u) (by simpa using hu) fun h' st' sb => ?_
    have I1 : Inv X pins σ H { s with heap := h' } := I.turned (t' := s.toks) (fun b o hb e => (sb.2 b hb).trans e) f0 f1 f3 f4 f5
    obtain ⟨o, e, c, d⟩ := id st'
    exact ⟨u, rfl, go_of (s := { s with heap := h' }) e c d (by decide) ⟨x, H, I1, ru, ⟨rfl, fun ys hy => by rw [I.list_inj hy hq]; exact hx⟩, st', fun b hb => (hf b hb).1⟩⟩
  done := by
    intro X hP hw hK hc i pins s σ H E I hf st hg
    subst hP hw hK
    obtain ⟨xs, hq, hx⟩ := hg
    obtain ⟨its, rv, p, hz⟩ := I.list hq
    obtain ⟨f0, f1, f2, f3, f4, f5⟩ := hf it (by simp)
    have hl := rv.length
    exact wpAny_pyNext_list_end (I.ok.hd hc) st p.isList (by simp; omega) fun h' eb => ⟨rfl, I.turned (t' := s.toks) (fun b o hb e => eb b o hb e) f0 f1 f3 f4 f5⟩
  self := fun _ _ _ _ _ st h => wpAny_pyIter_listiter st h
theorem turn_tuple {P : Program} {w : World} {K : PySem.W.Frag} {tg : Expr} (a it : Addr) : Turn P w K tg (Itt K a) [it] it (fun i h => h.IsTupleIter it a i) where
  mem := by simp
  obj := fun i h st b hb => by
    have e : b = it := by simpa using hb
    subst e
    obtain ⟨o, e, c, d⟩ := st
    exact ⟨o, e, fun v z => by rw [d] at z; cases z⟩
  keep := fun i h h' st k => st.at fun o e => k it (by simp) o e
  item := by
    intro X hP hw hK hc i pins s σ H E I hf st hg
    subst hP hw hK
    obtain ⟨xs, x, hq, hx⟩ := hg
    obtain ⟨its, rv, p, hz⟩ := I.tuple hq
    obtain ⟨u, hu, ru⟩ := rv.get hx
    obtain ⟨f0, f1, f2, f3, f4, f5⟩ := hf it (by simp)
    refine wpAny_pyNext_tuple_item st (show s.heap.IsTuple a its.toArray from p) (x := u) (by simpa using hu) fun h' st' sb => ?_
    have I1 : Inv X pins σ H { s with heap := h' } := I.turned (t' := s.toks) (fun b o hb e => (sb.2 b hb).trans e) f0 f1 f3 f4 f5
    obtain ⟨o, e, c, d⟩ := id st'
    exact ⟨u, rfl, go_of (s := { s with heap := h' }) e c d (by decide) ⟨x, H, I1, ru, ⟨rfl, fun ys hy => by rw [I.tuple_inj hy hq]; exact hx⟩, st', fun b hb => (hf b hb).1⟩⟩
  done := by
    intro X hP hw hK hc i pins s σ H E I hf st hg
    subst hP hw hK
    obtain ⟨xs, hq, hx⟩ := hg
    obtain ⟨its, rv, p, hz⟩ := I.tuple hq
    obtain ⟨f0, f1, f2, f3, f4, f5⟩ := hf it (by simp)
    have hl := rv.length
    exact wpAny_pyNext_tuple_end (I.ok.hd hc) st (show s.heap.IsTuple a its.toArray from p) (by simp; omega) fun h' eb => ⟨rfl, I.turned (t' := s.toks) (fun b o hb e => eb b o hb e) f0 f1 f3 f4 f5⟩
  self := fun _ _ _ _ _ st h => wpAny_pyIter_tupleiter st h
theorem turn_range {P : Program} {w : World} {K : PySem.W.Frag} {tg : Expr} (it : Addr) (lo : Int) (n : Nat) : Turn P w K tg (Itr lo n) [it] it (fun i h => IsRangeIter h it (lo + (i : Nat) * 1) ((n : Int) - (i : Nat)) 1) where
  mem := by simp
  obj := fun i h st b hb => by
    have e : b = it := by simpa using hb
    subst e
    exact ⟨_, st, fun v z => by
      have z' : Data.fields _ = Data.cell v := z
      cases z'⟩
  keep := fun i h h' st k => k it (by simp) _ st
  item := by
    intro X hP hw hK hc i pins s σ H E I hf st hg
    subst hP hw hK
    obtain ⟨f0, f1, f2, f3, f4, f5⟩ := hf it (by simp)
    have W := Walks.range (prog := X.prog) (w := X.w) (I.ok.hd hc) it lo 1 n
    refine W.item i s _ _ hg st fun v h' tk hv st' kk => ?_
    obtain ⟨t, rfl⟩ := hv
    have I1 : Inv X pins σ H { s with heap := h', toks := tk } := I.turned (fun b o hb e => kk b o (by simpa using hb) e) f0 f1 f3 f4 f5
    refine ⟨_, rfl, go_of (s := { s with heap := h', toks := tk }) (n := "range_iterator") st' rfl rfl (by decide) ⟨.int (lo + i), H, I1, ⟨t, ?_⟩, ⟨rfl, rfl⟩, st', fun b hb => (hf b hb).1⟩⟩
    rw [Int.mul_one]
  done := by
    intro X hP hw hK hc i pins s σ H E I hf st hg
    subst hP hw hK
    obtain ⟨f0, f1, f2, f3, f4, f5⟩ := hf it (by simp)
    exact wpAny_pyNext_range_end (I.ok.hd hc) st (by have : n ≤ i := hg; omega) fun h' eb => ⟨rfl, I.turned (t' := s.toks) (fun b o hb e => eb b o hb e) f0 f1 f3 f4 f5⟩
  self := fun _ _ _ _ _ st h => wpAny_pyIter_rangeiter st h
end L2
namespace L2
open PySem PySem.Spec PyProof.Rows
section
variable {X : Cx} {tg : Expr}
theorem range_it {pins : List (Addr × Obj)} {σ : St} {H : Hp} {s : Shared} {R : It → Hp → Prop} {E : Value → Shared → Prop} {lo hi : Int} {t u v : Tok} {tk : Nat} (I : Inv X pins σ H s) (h1 : -(2 ^ 62) ≤ lo) (h2 : lo < 2 ^ 62) (h3 : -(2 ^ 62) ≤ hi) (h4 : hi < 2 ^ 62)
    (q : R (Itr lo (hi - lo).toNat) H) : wpAny (model X.prog X.w) X.A (pyIter (.ref s.heap.objs.size)) (PIE X pins σ tg R) E { s with heap := s.heap.push { cls := .type "range", data := .fields #[.int lo t, .int hi u, .int 1 v] }, toks := tk } := by
  refine wpAny_pyIter_range (IsRange.new ..) (small_one h1 h2 h3 h4) ?_
  have I1 : Inv X pins σ H { s with heap := s.heap.push { cls := .type "range", data := .fields #[.int lo t, .int hi u, .int 1 v] }, toks := tk } := I.kept fun b o e => Heap.get?_push_of_some _ e
  refine ⟨(s.heap.push { cls := .type "range", data := .fields #[.int lo t, .int hi u, .int 1 v] }).objs.size, [(s.heap.push { cls := .type "range", data := .fields #[.int lo t, .int hi u, .int 1 v] }).objs.size], _, _, H, rfl,
    I1.kept (t' := tk) fun b o e => Heap.get?_push_of_some _ e, turn_range _ lo (hi - lo).toNat, ?_, fun b hb => ?_, q⟩
  · have e1 : lo + ((0 : Nat) : Int) * 1 = lo := by simp
    have e2 : (((hi - lo).toNat : Nat) : Int) - ((0 : Nat) : Int) = Builtin.Range.rangeSize lo hi 1 := by rw [rangeSize_one]; split <;> omega
    show IsRangeIter _ _ (lo + ((0 : Nat) : Int) * 1) ((((hi - lo).toNat : Nat) : Int) - ((0 : Nat) : Int)) 1
    rw [e1, e2]
    exact Heap.get?_push_size _ rfl
  · have e : b = (s.heap.push { cls := .type "range", data := .fields #[.int lo t, .int hi u, .int 1 v] }).objs.size := by simpa using hb
    subst e
    exact I1.fpOk (Nat.le_refl _) (I1.hok.fresh (Nat.le_refl _))
def iRng1 (ta : TA) : TI := fun σ H R => ta σ H fun vs H1 => ∃ j : Int, vs = [.int j] ∧ -(2 ^ 62) ≤ j ∧ j < 2 ^ 62 ∧ R (Itr 0 j.toNat) H1
theorem pi_range1 {a : Expr} {ta : TA} {p pos : Pos} (hg : Gl X "range") (hm : X.mg "range" = none) (ha : PA X [a] ta) (hs : starEach [a] X.env = [(false, eval a X.env)] := by rfl) : PI X tg (.Call (.Name "range" p) [a] [] pos) (iRng1 ta) := by
  intro pins s σ H R I h
  refine Call_ (ld_blt I hg hm boot_range (PyProof.Rows.callWith_type1 (thn (ha pos pins s σ H _ I h) fun us s1 ⟨vs, H1, I1, r1, q1⟩ => ?_) hs rfl))
  obtain ⟨j, e, q1, q2, q⟩ := q1
  subst e
  cases r1 with
  | cons r rr =>
    cases rr
    obtain ⟨t, rfl⟩ := r
    exact call_range_1 (range_it I1 (by omega) (by omega) q1 q2 (by simpa using q))
def tFor (wi : TI) (g : TG) (tb : TS) : TS := fun D σ H => wi σ H fun J H1 => ∃ W : Nat → Nat → St → Hp → Prop, (∃ m, W 0 m σ H1) ∧ ∀ i m σ H, W i m σ H →
  (J.stop i H ∧ D.nx σ H) ∨ (J.go i H ∧ ∃ N : St → Hp → Prop, (∀ σ' H', N σ' H' → ∃ m', m' < m ∧ W (i + 1) m' σ' H') ∧ ∀ x H', J.yld i H x H' → g x σ H' fun σ2 H2 => tb { D with nx := N, ct := N, bk := D.nx } σ2 H2)
def pinsAt (fp : List Addr) (h : Heap) : List (Addr × Obj) := fp.filterMap fun b => (h.get? b).map fun o => (b, o)
theorem mem_pinsAt {fp : List Addr} {h : Heap} {b : Addr} {o : Obj} (hb : b ∈ fp) (e : h.get? b = some o) : (b, o) ∈ pinsAt fp h := List.mem_filterMap.mpr ⟨b, hb, by rw [e]; rfl⟩
theorem of_pinsAt {fp : List Addr} {h : Heap} {p : Addr × Obj} (hp : p ∈ pinsAt fp h) : p.1 ∈ fp ∧ h.get? p.1 = some p.2 := by
  obtain ⟨b, hb, e⟩ := List.mem_filterMap.mp hp
  cases q : h.get? b with
  | none => rw [q] at e; cases e
  | some o =>
    rw [q] at e
    have e' : (b, o) = p := Option.some.inj e
    subst e'
    exact ⟨hb, q⟩
theorem Inv.pinned {pins : List (Addr × Obj)} {σ : St} {H : Hp} {s : Shared} {fp : List Addr} (I : Inv X pins σ H s) (hf : ∀ b ∈ fp, FpOk X pins H b) (ho : ∀ b ∈ fp, ∃ o, s.heap.get? b = some o ∧ ∀ v, o.data ≠ .cell v) : Inv X (pins ++ pinsAt fp s.heap) σ H s :=
  I.pins_of fun p hp => (List.mem_append.mp hp).elim (fun z => I.pin p (List.mem_append_right _ z)) fun z => by
    obtain ⟨hb, e⟩ := of_pinsAt z
    obtain ⟨f0, f1, f2, _⟩ := hf p.1 hb
    obtain ⟨o, e', d⟩ := ho p.1 hb
    rw [e] at e'; cases e'
    exact ⟨e, f0, f1, f2, d⟩
theorem Inv.unpinned {pins pl : List (Addr × Obj)} {σ : St} {H : Hp} {s : Shared} (I : Inv X (pins ++ pl) σ H s) : Inv X pins σ H s := I.pins_of fun p hp => I.pin p (List.mem_append_right _ (List.mem_append_left _ hp))
theorem ps_for {iter : Expr} {body : List Stmt} {wi : TI} {g : TG} {tb : TS} {pos : Pos} (hp : PassesOwn (model X.prog X.w) X.A X.env X.xe) (hc : X.calm = true) (hi : PI X tg iter wi) (hg : PG X tg g) (hb : PSs X body tb)
    (hs : ∀ x, foldedSetIterable iter X.env x = pure x := by intro _; rfl) : PS X (.For tg iter body [] pos) (tFor wi g tb) := by
  intro pins s σ H D I h
  refine wpAny_For (thn (hi pins s σ H _ I h) fun v s1 h1 => thn h1 fun itv s2 h2 => ?_) hs
  obtain ⟨it, fp, tn, J, H2, e, I2, T, st2, f2, W, ⟨m0, w0⟩, turn⟩ := h2
  subst e
  -- what stays true of the iterator's objects through the loop
  have stat : ∀ {H' : Hp}, (∀ b ∈ fp, H' b = none) → ∀ b ∈ fp, FpOk X pins H' b := fun hn b hb => ⟨hn b hb, (f2 b hb).2⟩
  refine codeAny_forLoop_any (fun n s' => ∃ i σ' H', Inv X pins σ' H' s' ∧ tn i s'.heap ∧ (∀ b ∈ fp, H' b = none) ∧ W i n σ' H') ?_ m0 ⟨0, σ, H2, I2, st2, fun b hb => (f2 b hb).1, w0⟩
  rintro n s3 ⟨i, σ3, H3, I3, st3, fr3, w3⟩
  rcases turn i n σ3 H3 w3 with ⟨stop, qn⟩ | ⟨go, N, hN, step⟩
  · refine wpAny_passesOwn hp (thn (T.done X rfl rfl rfl hc i pins s3 σ3 H3 X.xe I3 (stat fr3) st3 stop) fun r s4 ⟨hr, I4⟩ => ?_)
    subst hr
    exact wpAny_execs_nil ⟨σ3, H3, I4, qn⟩
  · refine wpAny_passesOwn hp (thn (T.item X rfl rfl rfl hc i pins s3 σ3 H3 X.xe I3 (stat fr3) st3 go) fun r s4 ⟨u, hr, h4⟩ => ?_)
    subst hr
    refine wpAny_passesOwn hp (thn h4 fun _ s5 ⟨x, H5, I5, r5, y5, st5, fr5⟩ => ?_)
    have I5' := I5.pinned (stat fr5) (T.obj _ _ st5)
    refine wpAny_passesOwn hp (thn (hg _ s5 σ3 H5 x u _ I5' r5 (step x H5 y5)) fun _ s6 ⟨σ6, H6, I6, q6⟩ => ?_)
    refine wpAny_passesOwn hp (thn (hb _ s6 σ6 H6 _ I6 q6) fun f s7 q7 => ?_)
    have again : ∀ {σ7 : St} {H7 : Hp}, Inv X (pins ++ pinsAt fp s5.heap) σ7 H7 s7 → N σ7 H7 → ∃ m, m < n ∧ ∃ i σ' H', Inv X pins σ' H' s7 ∧ tn i s7.heap ∧ (∀ b ∈ fp, H' b = none) ∧ W i m σ' H' := fun {σ7 H7} I7 n7 => by
      obtain ⟨m', hm, w7⟩ := hN σ7 H7 n7
      refine ⟨m', hm, i + 1, σ7, H7, I7.unpinned, T.keep _ _ _ st5 fun b hb o e => (I7.pin (b, o) (List.mem_append_right _ (List.mem_append_right _ (mem_pinsAt hb e)))).1, fun b hb => ?_, w7⟩
      obtain ⟨o, e, d⟩ := T.obj _ _ st5 b hb
      exact (I7.pin (b, o) (List.mem_append_right _ (List.mem_append_right _ (mem_pinsAt hb e)))).2.1
    cases f with
    | next => obtain ⟨σ7, H7, I7, n7⟩ := q7; exact again I7 n7
    | cont => obtain ⟨σ7, H7, I7, n7⟩ := q7; exact again I7 n7
    | brk => obtain ⟨σ7, H7, I7, q7⟩ := q7; exact ⟨σ7, H7, I7.unpinned, q7⟩
    | ret v => obtain ⟨x7, σ7, H7, I7, r7, q7⟩ := q7; exact ⟨x7, σ7, H7, I7.unpinned, r7, q7⟩
end
end L2
namespace L2
open PySem PySem.Spec PyProof.Rows
abbrev R2 := V → V → Hp → VK → Prop
def OpR (X : Cx) (f : Value → Value → Sem Value) (r : R2) : Prop :=
  ∀ (pins : List (Addr × Obj)) (s : Shared) (σ : St) (H : Hp) (x y : V) (v u : Value) (Q : VK), Inv X pins σ H s → RelV x v → RelV y u → r x y H Q →
    wpAny (model X.prog X.w) X.A (f v u) (EP X pins σ Q) X.xe s
def UnR (X : Cx) (f : Value → Sem Value) (r : V → Hp → VK → Prop) : Prop :=
  ∀ (pins : List (Addr × Obj)) (s : Shared) (σ : St) (H : Hp) (x : V) (v : Value) (Q : VK), Inv X pins σ H s → RelV x v → r x H Q →
    wpAny (model X.prog X.w) X.A (f v) (EP X pins σ Q) X.xe s
def CallR (X : Cx) (f : Value) (r : List V → Hp → VK → Prop) : Prop :=
  ∀ (pins : List (Addr × Obj)) (s : Shared) (σ : St) (H : Hp) (xs : List V) (us : List Value) (Q : VK), Inv X pins σ H s → Vals xs us → r xs H Q →
    wpAny (model X.prog X.w) X.A (call f us) (EP X pins σ Q) X.xe s
def TruR (X : Cx) (r : V → Hp → (Bool → Hp → Prop) → Prop) : Prop :=
  ∀ (pins : List (Addr × Obj)) (s : Shared) (σ : St) (H : Hp) (x : V) (v : Value) (Q : Bool → Hp → Prop), Inv X pins σ H s → RelV x v → r x H Q →
    wpAny (model X.prog X.w) X.A (truthy v) (TP X pins σ Q) X.xe s
def tOp (r : R2) (ta tb : TE) : TE := fun σ H Q => ta σ H fun x H1 => tb σ H1 fun y H2 => r x y H2 Q
def tUn (r : V → Hp → VK → Prop) (ta : TE) : TE := fun σ H Q => ta σ H fun x H1 => r x H1 Q
def rI (C : Int → Int → Prop) (g : Int → Int → V) : R2 := fun x y H Q => ∃ i j, x = .int i ∧ y = .int j ∧ C i j ∧ Q (g i j) H
def rI0 (g : Int → Int → V) : R2 := fun x y H Q => ∃ i j, x = .int i ∧ y = .int j ∧ Q (g i j) H
def rU (g : Int → V) : V → Hp → VK → Prop := fun x H Q => ∃ i, x = .int i ∧ Q (g i) H
section
variable {X : Cx} {a b c : Expr} {ta tb tc : TE} {pos : Pos}
theorem binT (ha : PE X a ta) (hb : PE X b tb) {pins : List (Addr × Obj)} {s : Shared} {σ : St} {H : Hp} {R : V → V → Hp → Prop} (I : Inv X pins σ H s)
    (h : ta σ H fun x H1 => tb σ H1 fun y H2 => R x y H2) {Q : Value → Shared → Prop} {f : Value → Value → Sem Value}
    (hf : ∀ v u s2 x y H2, Inv X pins σ H2 s2 → RelV x v → RelV y u → R x y H2 → wpAny (model X.prog X.w) X.A (f v u) Q X.xe s2) :
    wpAny (model X.prog X.w) X.A (eval a X.env) (fun v s₁ => wpAny (model X.prog X.w) X.A (eval b X.env) (fun u s₂ => wpAny (model X.prog X.w) X.A (f v u) Q X.xe s₂) X.xe s₁) X.xe s := by
  refine thn (ha pins s σ H _ I h) fun v s1 ⟨x, H1, I1, r1, q1⟩ => ?_
  refine thn (hb pins s1 σ H1 _ I1 q1) fun u s2 ⟨y, H2, I2, r2, q2⟩ => ?_
  exact hf v u s2 x y H2 I2 r1 r2 q2
theorem pe_op {op : Operator} {r : R2} (ho : OpR X (binaryOp op) r) (ha : PE X a ta) (hb : PE X b tb) : PE X (.BinOp a op b pos) (tOp r ta tb) := by
  intro pins s σ H Q I h
  exact wpAny_BinOp (binT ha hb I h fun v u s2 x y H2 I2 rx ry q => ho pins s2 σ H2 x y v u Q I2 rx ry q)
theorem pe_un {op : UnaryOp} {r : V → Hp → VK → Prop} (ho : UnR X (unaryOp op) r) (ha : PE X a ta) : PE X (.UnaryOp op a pos) (tUn r ta) := by
  intro pins s σ H Q I h
  exact UnaryOp_ (thn (ha pins s σ H _ I h) fun v s1 ⟨x, H1, I1, r1, q1⟩ => ho pins s1 σ H1 x v Q I1 r1 q1)
theorem opI {f : Value → Value → Sem Value} {C : Int → Int → Prop} {g : Int → Int → Int}
    (rule : ∀ (i j : Int) (t u : Tok) (s : Shared) (Q : Value → Shared → Prop) (E : Value → Shared → Prop), C i j → Q (.int (g i j) s.toks) { s with toks := s.toks + 1 } → wpAny (model X.prog X.w) X.A (f (.int i t) (.int j u)) Q E s) :
    OpR X f (rI C fun i j => .int (g i j)) := by
  intro pins s σ H x y v u Q I rx ry h
  obtain ⟨i, j, rfl, rfl, hc, q⟩ := h
  obtain ⟨t, rfl⟩ := rx
  obtain ⟨t', rfl⟩ := ry
  exact rule i j t t' s _ _ hc ⟨.int (g i j), H, I.tok _, ⟨_, rfl⟩, q⟩
theorem opI0 {f : Value → Value → Sem Value} {g : Int → Int → Int}
    (rule : ∀ (i j : Int) (t u : Tok) (s : Shared) (Q : Value → Shared → Prop) (E : Value → Shared → Prop), Q (.int (g i j) s.toks) { s with toks := s.toks + 1 } → wpAny (model X.prog X.w) X.A (f (.int i t) (.int j u)) Q E s) :
    OpR X f (rI0 fun i j => .int (g i j)) := by
  intro pins s σ H x y v u Q I rx ry h
  obtain ⟨i, j, rfl, rfl, q⟩ := h
  obtain ⟨t, rfl⟩ := rx
  obtain ⟨t', rfl⟩ := ry
  exact rule i j t t' s _ _ ⟨.int (g i j), H, I.tok _, ⟨_, rfl⟩, q⟩
theorem opB0 {f : Value → Value → Sem Value} {g : Int → Int → Bool}
    (rule : ∀ (i j : Int) (t u : Tok) (s : Shared) (Q : Value → Shared → Prop) (E : Value → Shared → Prop), Q (.bool (g i j)) s → wpAny (model X.prog X.w) X.A (f (.int i t) (.int j u)) Q E s) :
    OpR X f (rI0 fun i j => .bl (g i j)) := by
  intro pins s σ H x y v u Q I rx ry h
  obtain ⟨i, j, rfl, rfl, q⟩ := h
  obtain ⟨t, rfl⟩ := rx
  obtain ⟨t', rfl⟩ := ry
  exact rule i j t t' s _ _ ⟨.bl (g i j), H, I, rfl, q⟩
def CMul (i j : Int) : Prop := (-(2 ^ 64) < i ∧ i < 2 ^ 64) ∨ (-(2 ^ 64) < j ∧ j < 2 ^ 64)
theorem CMul.ok {i j : Int} (h : CMul i j) : IntMulOk i j := by
  rcases h with ⟨h1, h2⟩ | ⟨h1, h2⟩
  · exact .of_left (intBits_le_64 h1 h2)
  · exact .of_right (intBits_le_64 h1 h2)
theorem op_add : OpR X (binaryOp .Add) (rI0 fun i j => .int (i + j)) := opI0 fun _ _ _ _ _ _ _ q => add_int q
theorem op_sub : OpR X (binaryOp .Sub) (rI0 fun i j => .int (i - j)) := opI0 fun _ _ _ _ _ _ _ q => sub_int q
theorem op_modN : OpR X (binaryOp .Mod) (rI (fun _ j => j ≠ 0) fun i j => .int (i.fmod j)) := opI fun _ _ _ _ _ _ _ hc q => mod_int' hc q
theorem unI {f : Value → Sem Value} {g : Int → Int}
    (rule : ∀ (i : Int) (t : Tok) (s : Shared) (Q : Value → Shared → Prop) (E : Value → Shared → Prop), Q (.int (g i) s.toks) { s with toks := s.toks + 1 } → wpAny (model X.prog X.w) X.A (f (.int i t)) Q E s) :
    UnR X f (rU fun i => .int (g i)) := by
  intro pins s σ H x v Q I rx h
  obtain ⟨i, rfl, q⟩ := h
  obtain ⟨t, rfl⟩ := rx
  exact rule i t s _ _ ⟨.int (g i), H, I.tok _, ⟨_, rfl⟩, q⟩
theorem un_neg : UnR X (unaryOp .USub) (rU fun i => .int (-i)) := unI fun _ _ _ _ _ q => neg_int q
end
section
variable {X : Cx} {a b c : Expr} {ta tb tc : TE} {pos : Pos}
theorem op_lt : OpR X (compareOp .Lt) (rI0 fun i j => .bl (decide (i < j))) := opB0 fun _ _ _ _ _ _ _ q => lt_int q
theorem op_le : OpR X (compareOp .LtE) (rI0 fun i j => .bl (decide (i ≤ j))) := opB0 fun _ _ _ _ _ _ _ q => le_int q
theorem op_gt : OpR X (compareOp .Gt) (rI0 fun i j => .bl (decide (j < i))) := opB0 fun _ _ _ _ _ _ _ q => gt_int q
theorem op_ge : OpR X (compareOp .GtE) (rI0 fun i j => .bl (decide (j ≤ i))) := opB0 fun _ _ _ _ _ _ _ q => ge_int q
theorem OpR.or {f : Value → Value → Sem Value} {r r' : R2} (h : OpR X f r) (h' : OpR X f r') : OpR X f (fun x y H Q => r x y H Q ∨ r' x y H Q) := by
  intro pins s σ H x y v u Q I rx ry q
  rcases q with q | q
  · exact h pins s σ H x y v u Q I rx ry q
  · exact h' pins s σ H x y v u Q I rx ry q
theorem pe_cmpR {op : CmpOp} {r : R2} (ho : OpR X (compareOp op) r) (ha : PE X a ta) (hb : PE X b tb) (hm : behindInMarks op b = false) : PE X (.Compare a [op] [b] pos) (tOp r ta tb) := by
  intro pins s σ H Q I h
  exact wpAny_Compare1 (binT ha hb I h fun v u s2 x y H2 I2 rx ry q => ho pins s2 σ H2 x y v u Q I2 rx ry q) hm
def tTest (t : TE) : TT := fun σ H Q => t σ H fun x H' => ∃ k, x = .bl k ∧ Q k H'
theorem pt_cmpR {op : CmpOp} {r : R2} (ho : OpR X (compareOp op) r) (ha : PE X a ta) (hb : PE X b tb) (hm : behindInMarks op b = false) : PT X (.Compare a [op] [b] pos) (tTest (tOp r ta tb)) := by
  intro pins s σ H Q I h
  refine wpAny_isTrue_Compare1 (thn (ha pins s σ H _ I h) fun v s1 ⟨x, H1, I1, r1, q1⟩ => thn (hb pins s1 σ H1 _ I1 q1) fun u s2 ⟨y, H2, I2, r2, q2⟩ =>
    thn (ho pins s2 σ H2 x y v u _ I2 r1 r2 q2) fun c s3 ⟨z, H3, I3, r3, k, e, q3⟩ => ?_) hm
  subst e
  cases r3
  exact wpAny_truthy_bool ⟨H3, I3, q3⟩
def tChain (r r' : R2) (ta tb tc : TE) : TE := fun σ H Q => ta σ H fun x H1 => tb σ H1 fun y H2 => r x y H2 fun z H3 => ∃ k, z = .bl k ∧
  (if k = true then tc σ H3 fun w' H4 => r' y w' H4 Q else Q (.bl false) H3)
theorem pe_chain {op op' : CmpOp} {r r' : R2} (ho : OpR X (compareOp op) r) (ho' : OpR X (compareOp op') r') (ha : PE X a ta) (hb : PE X b tb) (hc : PE X c tc)
    (hm : lastMarks [op, op'] [b, c] = false := by with_unfolding_all rfl) : PE X (.Compare a [op, op'] [b, c] pos) (tChain r r' ta tb tc) := by
  intro pins s σ H Q I h
  refine Compare_chain (thn (ha pins s σ H _ I h) fun v s1 ⟨x, H1, I1, r1, q1⟩ => chain_link (thn (hb pins s1 σ H1 _ I1 q1) fun u s2 ⟨y, H2, I2, r2, q2⟩ =>
    thn (ho pins s2 σ H2 x y v u _ I2 r1 r2 q2) fun d s3 ⟨z, H3, I3, r3, k, e, q3⟩ => ?_)) hm
  subst e
  cases r3
  refine wpAny_truthy_bool ?_
  cases k with
  | false => exact ite_ff ⟨.bl false, H3, I3, rfl, q3⟩
  | true => exact ite_tt (chain_last (thn (hc pins s3 σ H3 _ I3 q3) fun w' s4 ⟨z', H4, I4, r4, q4⟩ => ho' pins s4 σ H4 y z' u w' Q I4 r2 r4 q4))
theorem pt_chain {op op' : CmpOp} {r r' : R2} (ho : OpR X (compareOp op) r) (ho' : OpR X (compareOp op') r') (ha : PE X a ta) (hb : PE X b tb) (hc : PE X c tc)
    (hm : lastMarks [op, op'] [b, c] = false := by with_unfolding_all rfl) : PT X (.Compare a [op, op'] [b, c] pos) (tTest (tChain r r' ta tb tc)) := by
  intro pins s σ H Q I h
  refine isTrue_chain (thn (ha pins s σ H _ I h) fun v s1 ⟨x, H1, I1, r1, q1⟩ => test_link (thn (hb pins s1 σ H1 _ I1 q1) fun u s2 ⟨y, H2, I2, r2, q2⟩ =>
    thn (ho pins s2 σ H2 x y v u _ I2 r1 r2 q2) fun d s3 ⟨z, H3, I3, r3, k, e, q3⟩ => ?_)) hm
  subst e
  cases r3
  refine wpAny_truthy_bool ?_
  cases k with
  | false =>
    obtain ⟨k', e', q'⟩ := q3
    cases e'
    exact ite_ff ⟨H3, I3, q'⟩
  | true =>
    refine ite_tt (test_last (thn (hc pins s3 σ H3 _ I3 q3) fun w' s4 ⟨z', H4, I4, r4, q4⟩ => thn (ho' pins s4 σ H4 y z' u w' _ I4 r2 r4 q4) fun d' s5 ⟨z2, H5, I5, r5, k2, e2, q5⟩ => ?_))
    subst e2
    cases r5
    exact wpAny_truthy_bool ⟨H5, I5, q5⟩
def TruV (K : PySem.W.Frag) (x : V) (H : Hp) (k : Bool) : Prop :=
  match x with
  | .non => k = false
  | .bl b => k = b
  | .int i => k = (i != 0)
  | .str y => y.length ≤ sizeLine ∧ k = ((y.length : Int) != 0)
  | .byt y => y.size ≤ sizeLine ∧ k = ((y.size : Int) != 0)
  | .ref p => (∃ xs, SqL K H p xs ∧ k = !xs.isEmpty) ∨ (∃ xs, SqT K H p xs ∧ k = !xs.isEmpty) ∨ ∃ kvs, H p = some (.dK kvs) ∧ k = !kvs.isEmpty
  | _ => False
theorem isEmpty_kv {κ : Type} {kvs : List (κ × V)} {vs : List (κ × Value)} (r : KV kvs vs) : (!vs.isEmpty) = !kvs.isEmpty := by
  cases r <;> rfl
theorem isEmpty_of {xs : List V} {its : List Value} (r : Vals xs its) : (!its.toArray.isEmpty) = !xs.isEmpty := by
  cases r <;> simp
theorem line63 : (sizeLine : Nat) < 2 ^ 63 := by rw [sizeLine_eq]; decide
theorem tru_ok : TruR X (fun x H Q => ∃ k, TruV X.K x H k ∧ Q k H) := by
  intro pins s σ H x v Q I rx h
  obtain ⟨k, e, q⟩ := h
  have hl := line63
  have hs : sizeLine = 16777216 := sizeLine_eq
  cases x with
  | non =>
    cases rx
    have e' : k = false := e
    subst e'
    exact truthy_none ⟨H, I, q⟩
  | bl b =>
    cases rx
    have e' : k = b := e
    subst e'
    exact wpAny_truthy_bool ⟨H, I, q⟩
  | int i =>
    obtain ⟨t, rfl⟩ := rx
    have e' : k = (i != 0) := e
    subst e'
    exact PySem.P.truthy_int ⟨H, I, q⟩
  | str y =>
    obtain ⟨t, rfl⟩ := rx
    obtain ⟨hy, e'⟩ : y.length ≤ sizeLine ∧ k = ((y.length : Int) != 0) := e
    subst e'
    exact PySem.P.truthy_str (by omega) ⟨H, I.tok _, q⟩
  | byt y =>
    obtain ⟨t, rfl⟩ := rx
    obtain ⟨hy, e'⟩ : y.size ≤ sizeLine ∧ k = ((y.size : Int) != 0) := e
    subst e'
    exact PySem.W.truthy_bytes (by omega) ⟨H, I.tok _, q⟩
  | ref p =>
    cases rx
    have e' : (∃ xs, SqL X.K H p xs ∧ k = !xs.isEmpty) ∨ (∃ xs, SqT X.K H p xs ∧ k = !xs.isEmpty) ∨ ∃ kvs, H p = some (.dK kvs) ∧ k = !kvs.isEmpty := e
    rcases e' with ⟨xs, hx, e'⟩ | ⟨xs, hx, e'⟩ | ⟨kvs, hx, e'⟩
    · subst e'
      obtain ⟨its, r, pl, hz⟩ := I.list hx
      have hlen := r.length
      exact wpAny_truthy_list pl.isList (by simp only [List.size_toArray]; omega) ⟨H, I.tok _, by rw [isEmpty_of r]; exact q⟩
    · subst e'
      obtain ⟨its, r, pl, hz⟩ := I.tuple hx
      have hlen := r.length
      exact truthy_tuple pl (by simp only [List.size_toArray]; omega) ⟨H, I.tok _, by rw [isEmpty_of r]; exact q⟩
    · subst e'
      obtain ⟨hz, hS, vs, r, m⟩ : kvs.length ≤ sizeLine ∧ (p == sysModules) = false ∧ ∃ vs, KV kvs vs ∧ s.heap.DictOf (mixKind X.prog X.w) p vs := I.hok p _ hx
      have hlen : kvs.length = vs.length := Paired.length r
      exact wpAny_truthy_dict hS m (by omega) ⟨H, I.tok _, by rw [isEmpty_kv r]; exact q⟩
  | _ => exact (show False from e).elim
theorem pt_truth (ha : PE X a ta) (he : ∀ whole, isTrue a X.env whole = (do let v ← whole; standAt a.pos; holding [v] (truthy v))) :
    PT X a (fun σ H Q => ta σ H fun x H' => ∃ k, TruV X.K x H' k ∧ Q k H') := by
  intro pins s σ H Q I h
  exact isTrue_plain (thn (ha pins s σ H _ I h) fun v s1 ⟨x, H1, I1, r1, q1⟩ => tru_ok pins s1 σ H1 x v Q I1 r1 q1) (he _)
theorem op_add_str : OpR X (binaryOp .Add) (fun x y H Q => ∃ i j, x = .str i ∧ y = .str j ∧ i.length + j.length ≤ sizeLine ∧ Q (.str (i ++ j)) H) := by
  intro pins s σ H x y v u Q I rx ry h
  obtain ⟨i, j, rfl, rfl, hz, q⟩ := h
  obtain ⟨t, rfl⟩ := rx
  obtain ⟨t', rfl⟩ := ry
  exact add_str (fun t' tk => ⟨.str (i ++ j), H, I.tok _, ⟨_, rfl⟩, q⟩) hz
theorem vals1 {x : V} {us : List Value} (r : Vals [x] us) : ∃ u, us = [u] ∧ RelV x u := by
  cases r with
  | cons r1 r2 => cases r2; exact ⟨_, rfl, r1⟩
theorem vals2 {x y : V} {us : List Value} (r : Vals [x, y] us) : ∃ u w', us = [u, w'] ∧ RelV x u ∧ RelV y w' := by
  cases r with
  | cons r1 r2 =>
    cases r2 with
    | cons r3 r4 => cases r4; exact ⟨_, _, rfl, r1, r3⟩
theorem call_abs : CallR X (.builtin "abs") (fun xs H Q => ∃ i, xs = [.int i] ∧ Q (.int (if i < 0 then -i else i)) H) := by
  intro pins s σ H xs us Q I r h
  obtain ⟨i, rfl, q⟩ := h
  obtain ⟨u, rfl, t, rfl⟩ := vals1 r
  exact call_abs_int fun u tk => ⟨.int (if i < 0 then -i else i), H, I.tok _, ⟨_, rfl⟩, q⟩
theorem call_min2 (hc : X.calm = true) : CallR X (.builtin "min") (fun xs H Q => ∃ i j, xs = [.int i, .int j] ∧ Q (.int (if j < i then j else i)) H) := by
  intro pins s σ H xs us Q I r h
  obtain ⟨i, j, rfl, q⟩ := h
  obtain ⟨u, w', rfl, ⟨t, rfl⟩, ⟨t', rfl⟩⟩ := vals2 r
  refine min_two_ints (I.ok.hd hc) fun h' tk k => ⟨_, H, I.kept k, ?_, q⟩
  by_cases hj : j < i
  · rw [if_pos hj, if_pos hj]; exact ⟨_, rfl⟩
  · rw [if_neg hj, if_neg hj]; exact ⟨_, rfl⟩
end
end L2
namespace L2
open PySem PySem.Spec PyProof.Rows
section
variable {prog : Program} {w : World} {A : Around} {E : Value → Shared → Prop} {s : Shared} {K : PySem.W.Frag} {x dx C f : Addr} {mA : Str → Option Value} {name : Str} {v : Value}
end
def putF (f : Str) (v : V) : List (Str × V) → List (Str × V)
  | [] => [(f, v)]
  | (g, x) :: r => if g = f then (g, v) :: r else (g, x) :: putF f v r
section
variable {P : Program} {w : World} {H H' : Hp} {h h' : Heap} {a C dx : Addr} {fs fs' : List (Str × V)}
end
structure Cls (K : PySem.W.Frag) (C : Addr) : Prop where
  pg : PySem.W.plainGet K C Str.empty = true
  hd : PySem.W.hasDictIn K C = true
  po : PySem.W.plainOver K C = true
  sa : PySem.W.findIn K (.ref C) "__setattr__" = some (some (.builtin "object.__setattr__"))
theorem Cls.get {K : PySem.W.Frag} {C : Addr} (c : Cls K C) (f : Str) : PySem.W.plainGet K C f = true := c.pg
section
variable {X : Cx} {pins : List (Addr × Obj)} {σ : St} {H : Hp} {s : Shared} {a C dx : Addr} {fs : List (Str × V)} {f : Str} {v : V} {A : Around} {E : Value → Shared → Prop}
end
section
variable {X : Cx} {o e value : Expr} {f : Str} {pos pos' tpos : Pos} {ta tv : TE}
end
section
variable {X : Cx} {pins : List (Addr × Obj)} {σ : St} {H : Hp} {s : Shared} {A : Around} {E : Value → Shared → Prop} {Q : Value → Shared → Prop} {c : Value} {b : Bool}
end
end L2
namespace L2
open PySem PySem.Spec PyProof.Rows
structure Room (k : Nat) (A : Around) : Prop where
  hd : A.handled = none
  dp : A.depth + 3 * k + 5 < recursionLimit
  un : A.units + 16 * k + 200 < cLine
theorem Room.mono {j k : Nat} {A : Around} (r : Room k A) (h : j ≤ k) : Room j A := ⟨r.hd, by have := r.dp; omega, by have := r.un; omega⟩
theorem Room.deeper {k : Nat} {A : Around} (r : Room (k + 1) A) (env : Env) : Room k (A.deeper env) :=
  ⟨r.hd, by have := r.dp; show A.depth + 1 + 3 * k + 5 < _; omega, by have := r.un; show A.units + 3 + 16 * k + 200 < _; omega⟩
theorem Room.in1 {k : Nat} {A : Around} (r : Room (k + 1) A) : Room k A.in1 :=
  ⟨r.hd, by have := r.dp; show A.depth + 3 * k + 5 < _; omega, by have := r.un; show A.units + 1 + 16 * k + 200 < _; omega⟩
theorem Room.depth {k : Nat} {A : Around} (r : Room k A) : A.depth < recursionLimit := by have := r.dp; omega
theorem Room.units {k : Nat} {A : Around} (r : Room k A) : A.units + 64 < cLine := by have := r.un; omega
def tNil : TA := fun _ H Q => Q [] H
def tCons (ta : TE) (tr : TA) : TA := fun σ H Q => ta σ H fun x H1 => tr σ H1 fun xs H2 => Q (x :: xs) H2
section
variable {X : Cx} {e : Expr} {es : List Expr} {te : TE} {t : TA} {pos : Pos}
theorem pa_nil : PA X [] tNil := fun _ _ _ _ H Q I h => Calls.spliced_nil ⟨[], H, I, .nil, h⟩
theorem pa_cons (ha : PE X e te) (hr : PA X es t) (hs : starEach (e :: es) X.env = (false, eval e X.env) :: starEach es X.env := by rfl) : PA X (e :: es) (tCons te t) := by
  intro pos pins s σ H Q I h
  rw [hs]
  show wpAny _ _ (spliced ((false, eval e X.env) :: backTo pos (starEach es X.env))) _ _ s
  refine Calls.spliced_cons (thn (ha pins s σ H _ I h) fun u s1 ⟨x, H1, I1, r1, q1⟩ => ?_)
  exact thn (hr pos pins s1 σ H1 _ I1 q1) fun us s2 ⟨xs, H2, I2, r2, q2⟩ => ⟨x :: xs, H2, I2, .cons r1 r2, q2⟩
def tTup (t : TA) : TE := fun σ H Q => t σ H fun xs H1 => xs.length ≤ sizeLine ∧ ∀ p, H1 p = none → Q (.ref p) (upd H1 p (.tup xs))
def tLst (t : TA) : TE := fun σ H Q => t σ H fun xs H1 => xs.length ≤ sizeLine ∧ ∀ p, H1 p = none → Q (.ref p) (upd H1 p (.lst xs))
theorem pe_tup {x1} (h : PA X es t) : PE X (.Tuple es x1 pos) (tTup t) := by
  intro pins s σ H Q I hq
  refine wpAny_Tuple_spliced (thn (h pos pins s σ H _ I hq) fun us s1 ⟨xs, H1, I1, r, z, q⟩ => ⟨by rw [← r.length]; exact z, ?_⟩)
  have hf : H1 s1.heap.objs.size = none := I1.hok.fresh (Nat.le_refl _)
  refine ⟨.ref s1.heap.objs.size, upd H1 s1.heap.objs.size (.tup xs), I1.laid (t' := s1.toks) (fun b u e => Heap.get?_push_of_some _ e) (Nat.le_refl _) ?_, rfl, q _ hf⟩
  exact ⟨z, us, r, ⟨_, Heap.get?_push_size _ rfl, rfl, _, rfl⟩⟩
theorem pe_lst (h : PA X es t) : PE X (.List es pos) (tLst t) := by
  intro pins s σ H Q I hq
  refine wpAny_List_spliced (thn (h pos pins s σ H _ I hq) fun us s1 ⟨xs, H1, I1, r, z, q⟩ => ⟨by rw [← r.length]; exact z, ?_⟩)
  have hf : H1 s1.heap.objs.size = none := I1.hok.fresh (Nat.le_refl _)
  refine ⟨.ref s1.heap.objs.size, upd H1 s1.heap.objs.size (.lst xs), I1.laid (t' := s1.toks) (fun b u e => Heap.get?_push_of_some _ e) (Nat.le_refl _) ?_, rfl, q _ hf⟩
  exact ⟨z, us, 0, r, Heap.get?_push_size _ rfl⟩
end
abbrev Sp := List V → Hp → VK → XK → Prop
abbrev CXT := List Env → Hp → Shared → XK → Value → Shared → Prop
structure Env0 (P : Program) (w : World) (K : PySem.W.Frag) (mg : Str → Option Value) (base : Heap) (A : Around) (outer : List Env) (s : Shared) (H : Hp) : Prop where
  frames : A.frames = some outer
  mod : Mod K mg base
  bs : ∀ b o, base.get? b = some o → s.heap.get? b = some o ∧ H b = none
  bsz : base.objs.size ≤ s.heap.objs.size
  funs : s.heap.FunFrames base outer
  frf : ∀ b ∈ frs outer, H b = none
  hok : HOk P w H s.heap
  bare : AllBare s.gens
def CE (outer : List Env) (P : Program) (w : World) (H : Hp) (s : Shared) (Q : VK) (u : Value) (s' : Shared) : Prop :=
  ∃ v H', s'.os = s.os ∧ GK s.gens s'.gens ∧ Un (frs outer) [] H H' s.heap s'.heap ∧ HOk P w H' s'.heap ∧ RelV v u ∧ Q v H'
def CR (CX : CXT) (outer : List Env) (P : Program) (w : World) (H : Hp) (s : Shared) (Q : VK) (E : XK) (r : Result) (s' : Shared) : Prop :=
  match r with
  | .ok (.ret u) => CE outer P w H s Q u s'
  | .ok _ => False
  | .error e => CX outer H s E e s'
structure FnOk (P : Program) (w : World) (K : PySem.W.Frag) (mg : Str → Option Value) (base : Heap) (CX : CXT) (k : Nat) (f : Addr) (fd : FuncData) (ps : List Str) (sp : Sp) : Prop where
  len : ∀ vs H Q E, sp vs H Q E → vs.length = ps.length
  run : ∀ (A : Around) (outer : List Env) (s : Shared) (H : Hp) (args : Args) (us : List Value) (vs : List V) (Q : VK) (E : XK), Room k A → Env0 P w K mg base A outer s H → BindsTo s fd args (ps.zip us) → Vals vs us → sp vs H Q E →
    codeAny (model P w) A (.call (.ref f) args) (CR CX outer P w H s Q E) s
theorem FnOk.mono {P : Program} {w : World} {K : PySem.W.Frag} {mg : Str → Option Value} {base : Heap} {CX : CXT} {j k : Nat} {f : Addr} {fd : FuncData} {ps : List Str} {sp : Sp} (F : FnOk P w K mg base CX j f fd ps sp) (h : j ≤ k) :
    FnOk P w K mg base CX k f fd ps sp := ⟨F.len, fun A outer s H args us vs Q E hr => F.run A outer s H args us vs Q E (hr.mono h)⟩
theorem FnOk.imp {P : Program} {w : World} {K : PySem.W.Frag} {mg : Str → Option Value} {base : Heap} {CX : CXT} {k : Nat} {f : Addr} {fd : FuncData} {ps : List Str} {sp sp' : Sp} (F : FnOk P w K mg base CX k f fd ps sp)
    (h : ∀ vs H Q E, sp' vs H Q E → sp vs H Q E) : FnOk P w K mg base CX k f fd ps sp' :=
  ⟨fun vs H Q E q => F.len vs H Q E (h _ _ _ _ q), fun A outer s H args us vs Q E hr he hb hv hs => F.run A outer s H args us vs Q E hr he hb hv (h _ _ _ _ hs)⟩
theorem Env0.in1 {P : Program} {w : World} {K : PySem.W.Frag} {mg : Str → Option Value} {base : Heap} {A : Around} {outer : List Env} {s : Shared} {H : Hp} (e : Env0 P w K mg base A outer s H) :
    Env0 P w K mg base A.in1 outer s H := ⟨e.frames, e.mod, e.bs, e.bsz, e.funs, e.frf, e.hok, e.bare⟩
section
variable {X : Cx} {pins : List (Addr × Obj)} {σ : St} {H : Hp} {s s' : Shared}
theorem Inv.env0 (I : Inv X pins σ H s) : Env0 X.prog X.w X.K X.mg X.base X.A X.stack s H :=
  ⟨I.ok.frames, I.ok.mod, I.bs, Nat.le_trans I.ok.bsz I.sz, I.stack, I.stkFree, I.hok, I.bare.bare⟩
theorem Inv.after {Q : VK} {u : Value} (I : Inv X pins σ H s) (h : CE X.stack X.prog X.w H s Q u s') : EP X pins σ Q u s' := by
  obtain ⟨v, H', os, bare, un, hok, r, q⟩ := h
  obtain ⟨hh, g, d, t, os'⟩ := s'
  obtain rfl : os' = s.os := os
  exact ⟨v, H', I.call (h' := hh) (g' := g) (d' := d) (t' := t) (ch := []) un hok bare (fun b z => absurd z (by simp)), r, q⟩
end
def tCall (sp : Sp) (dvs : List V) (E : XK) (t : TA) : TE := fun σ H Q => t σ H fun vs H1 => sp (vs ++ dvs) H1 Q E
def Binds (K : PySem.W.Frag) (fd : FuncData) (ps : List Str) (ds : List Value) : Prop :=
  ∀ (s : Shared) (us : List Value), K.In s.heap → (us ++ ds).length = ps.length → BindsTo s fd ⟨us, []⟩ (ps.zip (us ++ ds))
theorem Binds.all {K : PySem.W.Frag} {fd : FuncData} {ps : List Str} (h : ∀ us : List Value, us.length = ps.length → bindArgs fd ⟨us, []⟩ = pure (ps.zip us)) : Binds K fd ps [] := fun s us _ hl => by
  rw [List.append_nil] at hl ⊢
  exact .of_eq (h us hl)
def Passes (CX : CXT) (X : Cx) (E : XK) : Prop := ∀ (pins : List (Addr × Obj)) (σ : St) (H : Hp) (s : Shared) (e : Value) (s' : Shared), Inv X pins σ H s → CX X.stack H s E e s' → X.xe e s'
section
variable {X : Cx} {CX : CXT} {k : Nat} {f C : Addr} {fd : FuncData} {ps : List Str} {sp : Sp} {dvs : List V} {ds : List Value} {E : XK} {x m : Str} {p pos apos : Pos} {e o : Expr} {es : List Expr} {ta : TE} {t : TA}
theorem run_fn {pins : List (Addr × Obj)} {σ : St} {H : Hp} {s : Shared} {Q : VK} {us : List Value} {vs : List V} (F : FnOk X.prog X.w X.K X.mg X.base CX k f fd ps sp) (hr : Room k X.A) (hb : Binds X.K fd ps ds) (hd : Vals dvs ds) (hx : Passes CX X E)
    (I : Inv X pins σ H s) (r : Vals vs us) (h : sp (vs ++ dvs) H Q E) : wpAny (model X.prog X.w) X.A (call (.ref f) us) (EP X pins σ Q) X.xe s := by
  have r2 : Vals (vs ++ dvs) (us ++ ds) := r.append hd
  have hl : (us ++ ds).length = ps.length := by rw [← r2.length]; exact F.len _ _ _ _ h
  refine wpAny_call (codeAny_mono (F.run X.A X.stack s H ⟨us, []⟩ (us ++ ds) (vs ++ dvs) Q E hr I.env0 (hb s us I.kIn hl) r2 h) fun r s' hq => ?_)
  cases r with
  | error e => exact hx pins σ H s e s' I hq
  | ok fl =>
    cases fl with
    | ret u => exact I.after hq
    | next => exact False.elim hq
    | brk => exact False.elim hq
    | cont => exact False.elim hq
theorem pe_call (F : FnOk X.prog X.w X.K X.mg X.base CX k f fd ps sp) (hr : Room k X.A) (hg : Gl X x) (hm : X.mg x = some (.ref f)) (hk : PySem.W.keepIn X.K (.ref f) = true) (hb : Binds X.K fd ps ds) (hd : Vals dvs ds) (hx : Passes CX X E)
    (ha : PA X (e :: es) t) (hdb : (x == ("__debug__" : Str)) = false := by decide) (he : starEach (e :: es) X.env = (false, eval e X.env) :: starEach es X.env := by rfl) (hpl : (backTo pos (starEach es X.env)).any (·.1) = false := by rfl) :
    PE X (.Call (.Name x p) (e :: es) [] pos) (tCall sp dvs E t) := by
  intro pins s σ H Q I h
  refine wpAny_Call_Name_kw (ld_glob I hg hm ?_ hdb)
  refine PySem.W.callWith_K (h₀ := X.base) I.ok.mod.kin hk (thn (ha pos pins s σ H _ I h) fun us s1 ⟨vs, H1, I1, r, q⟩ => ⟨I1.kIn, ?_⟩) he hpl
  exact run_fn F hr hb hd hx I1 r q
end
section
variable {X : Cx} {CX : CXT} {k : Nat} {f C : Addr} {fd : FuncData} {ps ks : List Str} {sp : Sp} {E : XK} {x m : Str} {p pos apos kpos : Pos} {e o : Expr} {es : List Expr} {kws : List Keyword} {te ta : TE} {t tk : TA} {nm : Option Str}
structure KBinds (K : PySem.W.Frag) (fd : FuncData) (ps ks : List Str) (g : List Value → List Value → List Value) (gV : List V → List V → List V) : Prop where
  to : ∀ (s : Shared) (us ws : List Value), K.In s.heap → (g us ws).length = ps.length → BindsTo s fd ⟨us, ks.zip ws⟩ (ps.zip (g us ws))
  rel : ∀ {vs : List V} {us : List Value} {zs : List V} {ws : List Value}, Vals vs us → Vals zs ws → Vals (gV vs zs) (g us ws)
variable {g : List Value → List Value → List Value} {gV : List V → List V → List V}
end
structure FnScope (N P : List Str) (sc : Scope) : Prop where
  kind : sc.kind = .function
  co : sc.isCoroutine = false
  gen : sc.isGenerator = false
  nd : N.Nodup
  pre : N.take P.length = P
  par : ∀ x ∈ P, sc.names.lookup x = some .local ∨ sc.names.lookup x = some .cell
  nofree : ∀ y ∈ sc.names, y.2 ≠ .free
theorem bindL_out {kindOf : Str → Option NameKind} {x : Str} : ∀ {binds : List (Str × Value)} {m : Str → Option Value}, (∀ v, (x, v) ∉ binds) → bindL kindOf binds m x = m x
  | [], _, _ => rfl
  | (n, v) :: r, m, h => by
    unfold bindL
    rw [bindL_out fun w hw => h w (List.mem_cons_of_mem _ hw)]
    split
    · have : x ≠ n := by rintro rfl; exact h v List.mem_cons_self
      simp [this]
    · rfl
theorem bindC_out {kindOf : Str → Option NameKind} {x : Str} : ∀ {binds : List (Str × Value)} {m : Str → Option Value}, (∀ v, (x, v) ∉ binds) → bindC kindOf binds m x = m x
  | [], _, _ => rfl
  | (n, v) :: r, m, h => by
    unfold bindC
    rw [bindC_out fun w hw => h w (List.mem_cons_of_mem _ hw)]
    split
    · rfl
    · have : x ≠ n := by rintro rfl; exact h v List.mem_cons_self
      simp [this]
theorem bindL_get {kindOf : Str → Option NameKind} {x : Str} {v : Value} : ∀ {P : List Str} {vs : List Value} {i : Nat} {m : Str → Option Value}, P.Nodup → P[i]? = some x → vs[i]? = some v → kindOf x = some .local →
    bindL kindOf (P.zip vs) m x = some v
  | [], _, _, _, _, h, _, _ => by simp at h
  | _ :: _, [], _, _, _, _, h, _ => by simp at h
  | p :: P, w :: vs, 0, m, nd, h1, h2, hk => by
    simp at h1 h2; subst h1; subst h2
    show bindL kindOf ((p, w) :: P.zip vs) m p = _
    unfold bindL
    rw [bindL_out fun v hv => (List.nodup_cons.mp nd).1 (List.of_mem_zip hv).1, if_pos hk]
    simp
  | p :: P, w :: vs, i + 1, m, nd, h1, h2, hk => by
    show bindL kindOf ((p, w) :: P.zip vs) m x = _
    unfold bindL
    exact bindL_get (i := i) (List.nodup_cons.mp nd).2 (by simpa using h1) (by simpa using h2) hk
theorem bindC_get {kindOf : Str → Option NameKind} {x : Str} {v : Value} : ∀ {P : List Str} {vs : List Value} {i : Nat} {m : Str → Option Value}, P.Nodup → P[i]? = some x → vs[i]? = some v → kindOf x ≠ some .local →
    bindC kindOf (P.zip vs) m x = some v
  | [], _, _, _, _, h, _, _ => by simp at h
  | _ :: _, [], _, _, _, _, h, _ => by simp at h
  | p :: P, w :: vs, 0, m, nd, h1, h2, hk => by
    simp at h1 h2; subst h1; subst h2
    show bindC kindOf ((p, w) :: P.zip vs) m p = _
    unfold bindC
    rw [bindC_out fun v hv => (List.nodup_cons.mp nd).1 (List.of_mem_zip hv).1, if_neg hk]
    simp
  | p :: P, w :: vs, i + 1, m, nd, h1, h2, hk => by
    show bindC kindOf ((p, w) :: P.zip vs) m x = _
    unfold bindC
    exact bindC_get (i := i) (List.nodup_cons.mp nd).2 (by simpa using h1) (by simpa using h2) hk
def start (N : List Str) (vs : List V) : St := vs.map some ++ List.replicate (N.length - vs.length) none
def cxOf (CX : CXT) (P : Program) (w : World) (K : PySem.W.Frag) (mg : Str → Option Value) (base : Heap) (N : List Str) (qual : Str) (scope : Scope) (f : Addr) (cd : Value) (A : Around) (outer : List Env) (s : Shared) (H : Hp) (E : XK) : Cx where
  prog := P
  w := w
  K := K
  mg := mg
  base := base
  A := A.deeper (envOfC qual scope s.heap.objs.size f cd)
  N := N
  s₀ := s
  H₀ := H
  env := envOfC qual scope s.heap.objs.size f cd
  outer := outer
  stack := envOfC qual scope s.heap.objs.size f cd :: outer
  ex := []
  calm := true
  fn := fun _ => true
  pn := []
  xe := fun e s' => wpAny (model P w) (A.deeper (envOfC qual scope s.heap.objs.size f cd)) (leaving (envOfC qual scope s.heap.objs.size f cd) e) (fun _ s'' => CX outer H s E e s'') (fun e' s'' => CX outer H s E e' s'') s'
theorem cell_has {sc : Scope} {n : Nat} {x : Str} (h : sc.names.lookup x = some .cell) : ∃ c, (cellsFrom n sc.names []).lookup x = some c := by
  have q := PySem.W.cellsFrom_some sc.names n [] (.inl h)
  exact Option.isSome_iff_exists.mp q
theorem inv_start {CX : CXT} {P : Program} {w : World} {K : PySem.W.Frag} {mg : Str → Option Value} {base : Heap} {N ps : List Str} {qual : Str} {scope : Scope} {f : Addr} {cd : Value} {A : Around} {outer : List Env} {s s1 : Shared} {H : Hp} {E : XK} {us : List Value} {vs : List V}
    (S : FnScope N ps scope) (hd : A.handled = none) (e0 : Env0 P w K mg base A outer s H) (hl : vs.length = ps.length) (r : Vals vs us)
    (x : InCallC s s.heap.objs.size (bindL (envOfC qual scope s.heap.objs.size f cd).kindOf (ps.zip us) fun _ => none) (cellsFrom (s.heap.objs.size + 1) scope.names []) (bindC (envOfC qual scope s.heap.objs.size f cd).kindOf (ps.zip us) fun _ => none) s1) :
    Inv (cxOf CX P w K mg base N qual scope f cd A outer s H E) [] (start N vs) H s1 := by
  have hpl : ps.length ≤ N.length := by have := congrArg List.length S.pre; rw [List.length_take] at this; omega
  obtain ⟨h1, tk, rfl, hk⟩ := x.done
  have noA : ∀ b : Addr, b ∉ (cxOf CX P w K mg base N qual scope f cd A outer s H E).ex := fun b z => absurd (show b ∈ ([] : List Addr) from z) (by simp)
  refine ⟨⟨e0.mod, S.kind, rfl, rfl, Nat.le_refl _, fun y z c h1 h2 => ?_, fun y hy => ?_, fun y c _ h => ?_, fun _ => hd, Around.frames_deeper e0.frames, .inr ⟨rfl, rfl⟩, fun b z => absurd z (noA b), e0.bs, e0.bsz, fun b _ _ => noA b, fun b z => absurd z (noA b), e0.funs, e0.frf⟩,
    rfl, GK.refl e0.bare, Un.kept hk, ⟨_, x.toInCall.ns, fun i y v h1 h2 h3 => ?_⟩, fun y c h => ⟨_, x.cell y c h⟩, e0.hok.fresh (Nat.le_refl _), fun y c h => ?_, fun p hp => absurd (show p ∈ ([] : List (Addr × Obj)) from hp) (by simp), e0.hok.kept hk, ?_⟩
  · exact name_of_addr x.apart (PySem.mem_of_lookup h1) (PySem.mem_of_lookup h2)
  · have hy : scope.names.lookup y = some .cell ∨ scope.names.lookup y = some .free := hy
    rcases hy with hy | hy
    · exact cell_has hy
    · exact absurd rfl (S.nofree _ (PySem.mem_of_lookup hy))
  · exact Nat.le_of_lt (x.above y c (PySem.mem_of_lookup h))
  · have hi : i < vs.length := by
      unfold start at h2
      by_cases hi : i < vs.length
      · exact hi
      · rw [List.getElem?_append_right (by simpa using hi)] at h2
        rw [List.getElem?_replicate] at h2
        split at h2 <;> cases h2
    have ha : vs[i]? = some v := by
      unfold start at h2
      rw [List.getElem?_append_left (by simpa using hi), List.getElem?_map] at h2
      cases e : vs[i]? with
      | none => rw [e] at h2; cases h2
      | some a => rw [e] at h2; cases h2; rfl
    obtain ⟨u, hu, rv⟩ := r.get ha
    have hp : ps[i]? = some y := by
      rw [← S.pre, List.getElem?_take_of_lt (by omega)]; exact h1
    have ndP : ps.Nodup := by rw [← S.pre]; exact S.nd.sublist (List.take_sublist _ _)
    refine ⟨u, rv, ?_⟩
    rcases S.par y (List.mem_of_getElem? hp) with k | k
    · exact .inl ⟨k, bindL_get ndP hp hu k⟩
    · obtain ⟨c, e⟩ := cell_has (n := s.heap.objs.size + 1) k
      refine .inr ⟨.inl k, c, e, ?_⟩
      have q := x.cell y c e
      rw [bindC_get ndP hp hu (by show scope.names.lookup y ≠ _; rw [k]; decide)] at q
      exact q
  · exact e0.hok.fresh (Nat.le_of_lt (x.above y c (PySem.mem_of_lookup h)))
  · unfold start
    show _ = N.length
    rw [List.length_append, List.length_map, List.length_replicate]
    omega
theorem fn_of {CX : CXT} {P : Program} {w : World} {K : PySem.W.Frag} {mg : Str → Option Value} {base : Heap} {k : Nat} {f : Addr} {name qual : Str} {params : Arguments} {body : List Stmt} {scope : Scope} {dV kV doc pm cdv ct oc : Value} {an od : Option Addr}
    {osl : Array (Option Value)} {N ps : List Str} {sp : Sp} (lk : K.lookup f = some ⟨oc, od, .func (PySem.W.fnOf name qual params body scope dV kV doc pm an cdv ct), osl⟩) (hcd : PySem.W.codeIn K cdv qual = true) (S : FnScope N ps scope)
    (len : ∀ vs H Q E, sp vs H Q E → vs.length = ps.length)
    (hbody : ∀ (A : Around) (outer : List Env) (s : Shared) (H : Hp) (vs : List V) (Q : VK) (E : XK), Room k (A.deeper (envOfC qual scope s.heap.objs.size f cdv)) → sp vs H Q E →
      ∃ t, PSs (cxOf CX P w K mg base N qual scope f cdv A outer s H E) body t ∧ t { nx := fun _ H' => Q .non H', rt := Q } (start N vs) H) :
    FnOk P w K mg base CX (k + 1) f (PySem.W.fnOf name qual params body scope dV kV doc pm an cdv ct) ps sp := by
  refine ⟨len, fun A outer s H args us vs Q E hr e0 hb r hsp => ?_⟩
  have hl := len _ _ _ _ hsp
  have KX : K.In s.heap := e0.mod.kin.keeps fun b o e => (e0.bs b o e).1
  have lim : s.heap.NoLimit := e0.mod.nolimit.keeps fun b o e => (e0.bs b o e).1
  have hkind : ∀ y ∈ ps.zip us, scope.names.lookup y.1 = some .local ∨ (scope.names.lookup y.1 = some .cell ∧ ((cellsFrom (s.heap.objs.size + 1) scope.names []).lookup y.1).isSome = true) := fun ⟨n, v⟩ hy => by
    rcases S.par n (List.of_mem_zip hy).1 with q | q
    · exact .inl q
    · exact .inr ⟨q, PySem.W.cellsFrom_some _ _ _ (.inl q)⟩
  refine codeAny_call_function hr.depth (KX _ _ lk) rfl S.co S.gen rfl (PySem.W.codeRec_of KX hcd) (hb _ _ _ _ ?_)
  refine wpAny_newFunctionEnv_cells S.kind hkind fun env he s1 x => ?_
  subst he
  refine ⟨lim.keeps x.toInCall.keep, codeAny_func ?_⟩
  obtain ⟨t, ht, hq⟩ := hbody A outer s H vs Q E (hr.deeper _) hsp
  have I : Inv (cxOf CX P w K mg base N qual scope f cdv A outer s H E) [] (start N vs) H s1 := inv_start S hr.hd e0 hl r x
  refine wpAny_mono (ht [] s1 (start N vs) H _ I hq) (fun fl s' hs => ?_) fun e s' hs => hs
  have fin : ∀ {σ' : St} {H' : Hp} {v : V} {u : Value}, Inv (cxOf CX P w K mg base N qual scope f cdv A outer s H E) [] σ' H' s' → RelV v u → Q v H' → CE outer P w H s Q u s' :=
    fun {σ' H' v u} J rv q => ⟨v, H', J.os, J.bare, J.base, J.hok, rv, q⟩
  cases fl with
  | ret u =>
    obtain ⟨v, σ', H', J, rv, q⟩ := hs
    exact fin J rv q
  | next =>
    obtain ⟨σ', H', J, q⟩ := hs
    exact fin (v := V.non) (u := Value.none) J rfl q
  | brk =>
    obtain ⟨_, _, _, q⟩ := hs
    exact False.elim q
  | cont =>
    obtain ⟨_, _, _, q⟩ := hs
    exact False.elim q
end L2
namespace L2
open PySem PySem.Spec PyProof.Rows
section
variable {X : Cx} {x : Str} {p pos : Pos} {e : Expr} {es : List Expr} {t : TA} {id T : String} {r : List V → Hp → VK → Prop}
def tCB (r : List V → Hp → VK → Prop) (t : TA) : TE := fun σ H Q => t σ H fun vs H1 => r vs H1 Q
theorem pe_callB (hc : CallR X (.builtin id) r) (hg : Gl X x) (hm : X.mg x = none) (hv : bootBuiltins x = some (.builtin id)) (ha : PA X (e :: es) t) (hn : x ≠ "__name__" := by decide) (hdb : (x == ("__debug__" : Str)) = false := by decide)
    (he : starEach (e :: es) X.env = (false, eval e X.env) :: starEach es X.env := by rfl) (hpl : (backTo pos (starEach es X.env)).any (·.1) = false := by rfl) : PE X (.Call (.Name x p) (e :: es) [] pos) (tCB r t) := by
  intro pins s σ H Q I h
  refine wpAny_Call_Name_kw (ld_blt I hg hm hv ?_ hn hdb)
  exact PyProof.Rows.callWith_builtin1 (thn (ha pos pins s σ H _ I h) fun us s1 ⟨vs, H1, I1, r1, q1⟩ => hc pins s1 σ H1 vs us Q I1 r1 q1) he hpl
theorem pe_callTy (hc : CallR X (.type T) r) (hg : Gl X x) (hm : X.mg x = none) (hv : bootBuiltins x = some (.type T)) (ha : PA X (e :: es) t) (hn : x ≠ "__name__" := by decide) (hdb : (x == ("__debug__" : Str)) = false := by decide)
    (he : starEach (e :: es) X.env = (false, eval e X.env) :: starEach es X.env := by rfl) (hpl : (backTo pos (starEach es X.env)).any (·.1) = false := by rfl) : PE X (.Call (.Name x p) (e :: es) [] pos) (tCB r t) := by
  intro pins s σ H Q I h
  refine wpAny_Call_Name_kw (ld_blt I hg hm hv ?_ hn hdb)
  exact PyProof.Rows.callWith_type1 (thn (ha pos pins s σ H _ I h) fun us s1 ⟨vs, H1, I1, r1, q1⟩ => hc pins s1 σ H1 vs us Q I1 r1 q1) he hpl
end
end L2
namespace HT
open PySem PyProof.Rows
section
open PySem.SeqAt
open PySem.AutoSeq1 (wpAny_loadPart')
open PySem.MeetsSeq PySem.MeetsSeq2 PySem.MeetsSeq3
end
section
variable {prog : Program} {w : World} {A : Around} {E : Value → Shared → Prop} {s : Shared}
theorem cat_tup {t b : Addr} {vs ws : List Value} {Q : Value → Shared → Prop} (ht : IsTup s.heap t vs.toArray) (hb : IsTup s.heap b ws.toArray) (hv : vs ≠ [])
    (h1 : ws = [] → Q (.ref t) s) (h2 : ws ≠ [] → Q (.ref s.heap.objs.size) { s with heap := s.heap.push { cls := .type "tuple", data := .seq (vs ++ ws).toArray } })
    (hsz : vs.length + ws.length ≤ sizeLine) : wpAny (model prog w) A (binaryOp .Add (.ref t) (.ref b)) Q E s := by
  obtain ⟨⟨cls, dd, data, sl⟩, ho, hc, n, hd⟩ := id ht
  obtain ⟨⟨cls2, dd2, data2, sl2⟩, ho2, hc2, n2, hd2⟩ := id hb
  simp only at hc hd hc2 hd2
  subst hc hd hc2 hd2
  have e : vs.toArray ++ ws.toArray = (vs ++ ws).toArray := by simp
  by_cases hw : ws = []
  · exact concat_meets ⟨_, ho, rfl⟩ ⟨_, ho2, rfl⟩ noFill_tuple_add seq_tuple_add PySem.F.slot_tuple_add PySem.F.entry_tuple_add (PySem.F.args_tuple_add_2 _ _)
      (tuple_addW1 t b vs.toArray ws.toArray n n2 dd dd2 sl sl2 (by simpa using hv) (by simp [hw])) ⟨ho, ho2, h1 hw⟩
  · refine concat_meets ⟨_, ho, rfl⟩ ⟨_, ho2, rfl⟩ noFill_tuple_add seq_tuple_add PySem.F.slot_tuple_add PySem.F.entry_tuple_add (PySem.F.args_tuple_add_2 _ _)
      (tuple_addW2 t b vs.toArray ws.toArray n n2 dd dd2 sl sl2 (by simpa using hv) (by simpa using hw) (by rw [List.size_toArray, List.size_toArray]; exact hsz)) ⟨ho, ho2, ?_⟩
    rw [e]
    exact h2 hw
def sIx (n d : Nat) : Option Int → Nat
  | none => d
  | some v => if v < 0 then (v + (n : Int)).toNat else min v.toNat n
theorem sIx_le (n d : Nat) (hd : d ≤ n) (o : Option Int) : sIx n d o ≤ n := by
  cases o with
  | none => exact hd
  | some v =>
    show (if v < 0 then (v + (n : Int)).toNat else min v.toNat n) ≤ n
    by_cases hv : v < 0
    · rw [if_pos hv]; omega
    · rw [if_neg hv]; exact Nat.min_le_right _ _
theorem clip_eq (v : Int) (n d : Nat) : (if v < 0 then max (v + (n : Int)) 0 else min v (n : Int)) = ((sIx n d (some v) : Nat) : Int) := by
  show (if v < 0 then max (v + (n : Int)) 0 else min v (n : Int)) = (((if v < 0 then (v + (n : Int)).toNat else min v.toNat n) : Nat) : Int)
  by_cases hv : v < 0
  · simp only [if_pos hv]; omega
  · simp only [if_neg hv]; omega
theorem adjust_gen (lo hi : Option Int) (n : Nat) : Builtin.Slice.sliceAdjust lo hi 1 (n : Int) = (((sIx n 0 lo : Nat) : Int), ((sIx n n hi : Nat) : Int)) := by
  have h1 : ¬ ((1 : Int) < 0) := by omega
  unfold Builtin.Slice.sliceAdjust
  simp only [h1, if_false]
  refine Prod.ext ?_ ?_
  · cases lo with
    | none => rfl
    | some v => exact clip_eq v n 0
  · cases hi with
    | none => rfl
    | some v => exact clip_eq v n n
theorem places_gen (i j : Nat) : Builtin.Slice.slicePlaces (i : Int) (j : Int) 1 = j - i := by
  unfold Builtin.Slice.slicePlaces
  have h1 : (1 : Int) > 0 := by omega
  simp only [h1, if_true, Int.ediv_one]
  split <;> omega
theorem slicePart_ {v : Value} {o : Option Int} {Q : Option Int → Shared → Prop} (p : IsPart v o) (h : Q o s) : wpAny (model prog w) A (Builtin.Slice.slicePartIndex v) Q E s := by
  cases p with
  | none => exact slicePart_none h
  | int i t => exact slicePart_int h
theorem sliceApplied_gen {sl : Addr} {vl vu : Value} {lo hi : Option Int} {n : Nat} {Q : Int × Int × Nat → Shared → Prop} (hs : s.heap.IsSliceOf sl vl vu .none) (pl : IsPart vl lo) (pu : IsPart vu hi)
    (h : Q (((sIx n 0 lo : Nat) : Int), 1, sIx n n hi - sIx n 0 lo) s) : wpAny (model prog w) A (Builtin.Slice.sliceApplied (.ref sl) (pure (n : Int))) Q E s := by
  obtain ⟨os, hos, hcs, hds⟩ := id hs
  unfold Builtin.Slice.sliceApplied Builtin.Slice.sliceFields
  refine wpAny_bind (wpAny_bind (wpAny_field hos hds (x := vl) rfl (wpAny_bind (wpAny_field hos hds (x := vu) rfl (wpAny_bind (wpAny_field hos hds (x := .none) rfl (wpAny_pure ?_)))))))
  refine wpAny_bind (slicePart_none ?_)
  show wpAny _ _ (if ((1 : Int) == 0) = true then _ else _) _ _ s
  rw [if_neg (by decide)]
  refine wpAny_bind (slicePart_ pl (wpAny_bind (slicePart_ pu (wpAny_bind (wpAny_pure ?_)))))
  show wpAny _ _ (match Builtin.Slice.sliceAdjust lo hi 1 (n : Int) with | (lo, hi) => pure (lo, (1 : Int), Builtin.Slice.slicePlaces lo hi 1)) _ _ s
  rw [adjust_gen lo hi n]
  show wpAny _ _ (pure (((sIx n 0 lo : Nat) : Int), (1 : Int), Builtin.Slice.slicePlaces ((sIx n 0 lo : Nat) : Int) ((sIx n n hi : Nat) : Int) 1)) _ _ s
  rw [places_gen]
  exact wpAny_pure h
theorem pick_gen (xs : Array Value) (i k : Nat) : ((List.range k).filterMap fun (m : Nat) => xs[((i : Int) + (m : Int) * 1).toNat]?).toArray = ((xs.toList.drop i).take k).toArray := by
  have e : (fun (m : Nat) => xs[((i : Int) + (m : Int) * 1).toNat]?) = fun m => xs[i + m]? := by
    funext m
    have : ((i : Int) + (m : Int) * 1).toNat = i + m := by omega
    rw [this]
  rw [e]
  have := pick_run xs i k
  rw [List.filterMap_map] at this
  have e2 : ((fun x => xs[x]?) ∘ fun x => i + x) = fun m => xs[i + m]? := rfl
  rw [e2] at this
  rw [this]
theorem getItem_tuple_cut {t sl : Addr} {items : Array Value} {vl vu : Value} {lo hi : Option Int} {Q : Value → Shared → Prop} (ht : IsTup s.heap t items) (hs : s.heap.IsSliceOf sl vl vu .none) (pl : IsPart vl lo) (pu : IsPart vu hi)
    (hw : ¬ (sIx items.size 0 lo = 0 ∧ sIx items.size items.size hi = items.size))
    (h : Q (.ref s.heap.objs.size) { s with heap := s.heap.push { cls := .type "tuple", data := .seq ((items.toList.drop (sIx items.size 0 lo)).take (sIx items.size items.size hi - sIx items.size 0 lo)).toArray } })
    (hsz : items.size ≤ sizeLine) : wpAny (model prog w) A (getItem (.ref t) (.ref sl)) Q E s := by
  have htake : sizeOk (.seq ((items.toList.drop (sIx items.size 0 lo)).take (sIx items.size items.size hi - sIx items.size 0 lo)).toArray) := by
    show ((items.toList.drop (sIx items.size 0 lo)).take (sIx items.size items.size hi - sIx items.size 0 lo)).toArray.size ≤ sizeLine
    rw [List.size_toArray, List.length_take, List.length_drop, Array.length_toList]
    omega
  have hj : sIx items.size items.size hi ≤ items.size := sIx_le _ _ (Nat.le_refl _) hi
  obtain ⟨os, hos, hcs, hds⟩ := id hs
  have hTs : s.TypeIs (.ref sl) "slice" := ⟨os, hos, hcs⟩
  unfold getItem
  try with_reducible refine wpAny_holding ?_
  first | refine wpAny_bind (wpAny_pure ?_) | skip
  refine wpAny_bind (wpAny_sequenceKey ht.typeIs (by decide) ?_)
  refine wpAny_bind (wpAny_callSpecial?_slot (name := Str.ofString "__getitem__") ht.typeIs PyProof.Rows.slot_tuple_getitem
    (wpAny_call_entry PyProof.Rows.slot_tuple_getitem ht.typeIs entry_tuple_getitem ?_ (args_tuple_getitem _ _)))
  show wpAny _ _ (Builtin.Tuple.tupleItemsOf (.ref t) >>= _) _ _ s
  refine wpAny_bind (tupleItemsOf_ ht ?_)
  refine wpAny_bind (wpAny_typeOf hTs ?_)
  rw [if_pos (by decide)]
  refine wpAny_bind (sliceApplied_gen hs pl pu ?_)
  have hno : ¬ ((((sIx items.size 0 lo : Nat) : Int) == 0 && (1 : Int) == 1 && (sIx items.size items.size hi - sIx items.size 0 lo) == items.size) = true) := by
    intro q
    rw [Bool.and_eq_true, Bool.and_eq_true] at q
    have q1 : ((sIx items.size 0 lo : Nat) : Int) = 0 := eq_of_beq q.1.1
    have q2 : sIx items.size items.size hi - sIx items.size 0 lo = items.size := eq_of_beq q.2
    exact hw ⟨by omega, by omega⟩
  show wpAny _ _ (if (((sIx items.size 0 lo : Nat) : Int) == 0 && (1 : Int) == 1 && (sIx items.size items.size hi - sIx items.size 0 lo) == items.size) = true then _ else _) _ _ s
  rw [if_neg hno, pick_gen]
  first
    | exact wpAny_bind (m := Builtin.Tuple.tupleExact _) (wpAny_newObj_type (wpAny_pure ⟨_, rfl, wpAny_pure h⟩) htake)
    | exact wpAny_bind (m := Builtin.Tuple.tupleExact _) (wpAny_newObj_type (wpAny_bind (wpAny_pure (wpAny_pure ⟨_, rfl, wpAny_pure h⟩))) htake)
    | exact wpAny_bind (wpAny_bind (m := Builtin.Tuple.tupleExact _) (wpAny_newObj_type (wpAny_pure (wpAny_pure ⟨_, rfl, wpAny_pure h⟩)) htake))
    | exact wpAny_bind (wpAny_bind (m := Builtin.Tuple.tupleExact _) (wpAny_newObj_type (wpAny_pure ⟨_, rfl, wpAny_pure h⟩) htake))
end
end HT
namespace L2
open PySem PySem.Spec PyProof.Rows
abbrev TO := St → Hp → (Option Int → Hp → Prop) → Prop
def PO (X : Cx) (e : Option Expr) (t : TO) : Prop :=
  ∀ (pins : List (Addr × Obj)) (s : Shared) (σ : St) (H : Hp) (Q : Option Int → Hp → Prop), Inv X pins σ H s → t σ H Q →
    wpAny (model X.prog X.w) X.A (evalPart e X.env) (fun u s' => ∃ o H', Inv X pins σ H' s' ∧ IsPart u o ∧ Q o H') X.xe s
def tNoPart : TO := fun _ H Q => Q none H
def tPart (t : TE) : TO := fun σ H Q => t σ H fun x H1 => ∃ i, x = .int i ∧ Q (some i) H1
section
variable {X : Cx} {e : Expr} {te : TE} {lo hi : Option Expr} {tl th : TO} {pos p2 : Pos}
theorem po_none : PO X none tNoPart := by
  intro pins s σ H Q I h
  rw [evalPart_none]
  exact wpAny_pure ⟨none, H, I, .none, h⟩
theorem po_some (h : PE X e te) : PO X (some e) (tPart te) := by
  intro pins s σ H Q I hw
  rw [evalPart_some]
  refine thn (h pins s σ H _ I hw) fun u s1 ⟨x, H1, I1, r1, q1⟩ => ?_
  obtain ⟨i, rfl, q⟩ := q1
  obtain ⟨t, rfl⟩ := r1
  exact ⟨some i, H1, I1, .int i t, q⟩
def SlR (X : Cx) (r : V → Option Int → Option Int → Hp → VK → Prop) : Prop :=
  ∀ (pins : List (Addr × Obj)) (s : Shared) (σ : St) (H : Hp) (x : V) (v vl vu : Value) (lo hi : Option Int) (sl : Addr) (Q : VK), Inv X pins σ H s → RelV x v → s.heap.IsSliceOf sl vl vu .none → IsPart vl lo → IsPart vu hi → r x lo hi H Q →
    ∃ T id, typeLookup (.type T) "__getitem__" = pure (some (.builtin id)) ∧ s.TypeIs v T ∧ wpAny (model X.prog X.w) X.A (getItem v (.ref sl)) (EP X pins σ Q) X.xe s
theorem SlR.or {r r' : V → Option Int → Option Int → Hp → VK → Prop} (h : SlR X r) (h' : SlR X r') : SlR X (fun x lo hi H Q => r x lo hi H Q ∨ r' x lo hi H Q) := by
  intro pins s σ H x v vl vu lo hi sl Q I rx hs pl pu q
  rcases q with q | q
  · exact h pins s σ H x v vl vu lo hi sl Q I rx hs pl pu q
  · exact h' pins s σ H x v vl vu lo hi sl Q I rx hs pl pu q
def tSl (r : V → Option Int → Option Int → Hp → VK → Prop) (te : TE) (tl th : TO) : TE := fun σ H Q => te σ H fun x H1 => tl σ H1 fun l H2 => th σ H2 fun u H3 => r x l u H3 Q
theorem pe_slice {r : V → Option Int → Option Int → Hp → VK → Prop} (hr : SlR X r) (he : PE X e te) (hl : PO X lo tl) (hu : PO X hi th) : PE X (.Subscript e (.Slice lo hi none p2) pos) (tSl r te tl th) := by
  intro pins s σ H Q I h
  refine Subscript_ (thn (he pins s σ H _ I h) fun v s1 ⟨x, H1, I1, r1, q1⟩ => ?_)
  refine wpAny_Slice (thn (hl pins s1 σ H1 _ I1 q1) fun vl s2 ⟨l, H2, I2, pl, q2⟩ => thn (hu pins s2 σ H2 _ I2 q2) fun vu s3 ⟨u, H3, I3, pu, q3⟩ => ?_)
  rw [evalPart_none]
  refine wpAny_pure ?_
  have I4 : Inv X pins σ H3 { s3 with heap := s3.heap.push { cls := .type "slice", data := .fields #[vl, vu, .none] } } := I3.kept (t' := s3.toks) fun b ob q => Heap.get?_push_of_some _ q
  obtain ⟨T, id, hT, ht, hg⟩ := hr pins { s3 with heap := s3.heap.push { cls := .type "slice", data := .fields #[vl, vu, .none] } } σ H3 x v vl vu l u s3.heap.objs.size Q I4 r1 (Heap.IsSliceOf.new ..) pl pu q3
  show wpAny (model X.prog X.w) X.A (subscriptTail e (.Slice lo hi none p2) v (.ref s3.heap.objs.size)) (EP X pins σ Q) X.xe { s3 with heap := s3.heap.push { cls := .type "slice", data := .fields #[vl, vu, .none] } }
  exact tail_any (ops := [.ref s3.heap.objs.size, v]) ht hT hg (by with_unfolding_all rfl)
def cutV (xs : List V) (lo hi : Option Int) : List V := (xs.drop (HT.sIx xs.length 0 lo)).take (HT.sIx xs.length xs.length hi - HT.sIx xs.length 0 lo)
theorem cutV_length (xs : List V) (lo hi : Option Int) : (cutV xs lo hi).length ≤ xs.length := by
  unfold cutV
  rw [List.length_take, List.length_drop]
  omega
def rSlT (K : PySem.W.Frag) : V → Option Int → Option Int → Hp → VK → Prop := fun x lo hi H Q => ∃ a xs, x = .ref a ∧ SqT K H a xs ∧
  ¬ (HT.sIx xs.length 0 lo = 0 ∧ HT.sIx xs.length xs.length hi = xs.length) ∧ ∀ p, H p = none → Q (.ref p) (upd H p (.tup (cutV xs lo hi)))
theorem sl_tup : SlR X (rSlT X.K) := by
  intro pins s σ H x v vl vu lo hi sl Q I rx hs pl pu h
  obtain ⟨a, xs, rfl, hx, hw, q⟩ := h
  cases rx
  obtain ⟨its, r, ht, hz⟩ := I.tuple hx
  have hlen : its.toArray.size = xs.length := by rw [List.size_toArray]; exact r.length.symm
  refine ⟨"tuple", _, PyProof.Rows.slot_tuple_getitem.lookup, ht.typeIs, ?_⟩
  refine HT.getItem_tuple_cut ht hs pl pu (by rw [hlen]; exact hw) ?_ (by rw [hlen]; exact hz)
  rw [hlen]
  refine ⟨.ref s.heap.objs.size, _, I.laid (t' := s.toks) (o := .tup (cutV xs lo hi)) (fun b ob q => Heap.get?_push_of_some _ q) (Nat.le_refl _) ?_, rfl, q _ (I.hok.fresh (Nat.le_refl _))⟩
  exact ⟨Nat.le_trans (cutV_length xs lo hi) hz, _, (r.drop (HT.sIx xs.length 0 lo)).take (HT.sIx xs.length xs.length hi - HT.sIx xs.length 0 lo), IsTup.new _ _⟩
def rCatT (K : PySem.W.Frag) : R2 := fun x y H Q => ∃ a b xs ys, x = .ref a ∧ y = .ref b ∧ SqT K H a xs ∧ SqT K H b ys ∧ xs ≠ [] ∧ xs.length + ys.length ≤ sizeLine ∧
  (ys = [] → Q (.ref a) H) ∧ (ys ≠ [] → ∀ p, H p = none → Q (.ref p) (upd H p (.tup (xs ++ ys))))
theorem Vals.nil_iff {xs : List V} {us : List Value} (r : Vals xs us) : us = [] ↔ xs = [] := by
  cases r with
  | nil => simp
  | cons _ _ => simp
theorem op_catT : OpR X (binaryOp .Add) (rCatT X.K) := by
  intro pins s σ H x y v u Q I rx ry h
  obtain ⟨a, b, xs, ys, rfl, rfl, ha, hb, hx, hz, q1, q2⟩ := h
  cases rx
  cases ry
  obtain ⟨its, r1, p1, _⟩ := I.tuple ha
  obtain ⟨its2, r2, p2, _⟩ := I.tuple hb
  refine HT.cat_tup p1 p2 (fun z => hx (r1.nil_iff.mp z)) (fun z => ⟨.ref a, H, I, rfl, q1 (r2.nil_iff.mp z)⟩) (fun z => ?_) (by rw [← r1.length, ← r2.length]; exact hz)
  refine ⟨.ref s.heap.objs.size, _, I.laid (t' := s.toks) (o := .tup (xs ++ ys)) (fun b ob q => Heap.get?_push_of_some _ q) (Nat.le_refl _) ?_, rfl, q2 (fun w => z (r2.nil_iff.mpr w)) _ (I.hok.fresh (Nat.le_refl _))⟩
  exact ⟨by rw [List.length_append]; exact hz, _, r1.append r2, IsTup.new _ _⟩
end
end L2
namespace L2
open PySem PySem.Spec PyProof.Rows
def ixN (n : Nat) (i : Int) : Option Nat := if 0 ≤ i then (if i < n then some i.toNat else none) else if -(n : Int) ≤ i then some (i + n).toNat else none
def atI {α : Type} (xs : List α) (i : Int) : Option α := (ixN xs.length i).bind fun j => xs[j]?
theorem ixN_seq {n : Nat} {i : Int} {j : Nat} (h : ixN n i = some j) : seqIndex? i n = some j ∧ j < n ∧ -(n : Int) ≤ i ∧ i < n := by
  unfold ixN at h
  by_cases h0 : 0 ≤ i
  · rw [if_pos h0] at h
    by_cases h1 : i < n
    · rw [if_pos h1] at h
      have e : i.toNat = j := Option.some.inj h
      exact ⟨by rw [seqIndex_of h0 h1, e], by omega, by omega, h1⟩
    · rw [if_neg h1] at h; cases h
  · rw [if_neg h0] at h
    by_cases h1 : -(n : Int) ≤ i
    · rw [if_pos h1] at h
      have e : (i + n).toNat = j := Option.some.inj h
      exact ⟨by rw [seqIndex_neg (by omega) h1, e], by omega, h1, by omega⟩
    · rw [if_neg h1] at h; cases h
theorem atI_get {α : Type} {xs : List α} {i : Int} {v : α} (h : atI xs i = some v) : ∃ j, seqIndex? i xs.length = some j ∧ xs[j]? = some v ∧ j < xs.length ∧ -(xs.length : Int) ≤ i ∧ i < xs.length := by
  unfold atI at h
  cases e : ixN xs.length i with
  | none => rw [e] at h; cases h
  | some j =>
    rw [e] at h
    obtain ⟨h1, h2, h3, h4⟩ := ixN_seq e
    exact ⟨j, h1, h, h2, h3, h4⟩
theorem atI_nat {α : Type} {xs : List α} {j : Nat} {v : α} (h : xs[j]? = some v) : atI xs (j : Int) = some v := by
  have hj : j < xs.length := (List.getElem?_eq_some_iff.mp h).1
  have e : ixN xs.length (j : Int) = some j := by
    unfold ixN
    rw [if_pos (by omega), if_pos (by omega)]; simp
  unfold atI; rw [e]; exact h
theorem atI_last {α : Type} (xs : List α) (v : α) : atI (xs ++ [v]) (-1) = some v := by
  have hl : (xs ++ [v]).length = xs.length + 1 := by simp
  have e : ixN (xs ++ [v]).length (-1) = some xs.length := by
    unfold ixN
    rw [hl, if_neg (by decide), if_pos (by omega)]
    congr 1
    omega
  unfold atI
  rw [e]
  show (xs ++ [v])[xs.length]? = some v
  simp
def PlainIx (b : Expr) : Prop := ∀ o i, subscripted b false o i = operate [o, i] (getItem o i)
def IxR (X : Cx) (r : R2) : Prop :=
  ∀ (value slice : Expr) (pins : List (Addr × Obj)) (s : Shared) (σ : St) (H : Hp) (x y : V) (v u : Value) (Q : VK), Inv X pins σ H s → RelV x v → RelV y u → r x y H Q →
    subscripted slice false v u = operate [v, u] (getItem v u) → wpAny (model X.prog X.w) X.A (subscriptTail value slice v u) (EP X pins σ Q) X.xe s
def MtR (X : Cx) (id : String) (r : V → List V → Hp → VK → Prop) : Prop :=
  ∀ (pins : List (Addr × Obj)) (s : Shared) (σ : St) (H : Hp) (x : V) (xs : List V) (v : Value) (us : List Value) (Q : VK), Inv X pins σ H s → RelV x v → Vals xs us → r x xs H Q →
    wpAny (model X.prog X.w) X.A (call (.builtin id) (v :: us)) (EP X pins σ Q) X.xe s
section
variable {X : Cx} {a b : Expr} {ta tb : TE} {pos : Pos}
theorem IxR.or {r r' : R2} (h : IxR X r) (h' : IxR X r') : IxR X (fun x y H Q => r x y H Q ∨ r' x y H Q) := by
  intro value slice pins s σ H x y v u Q I rx ry q hs
  rcases q with q | q
  · exact h value slice pins s σ H x y v u Q I rx ry q hs
  · exact h' value slice pins s σ H x y v u Q I rx ry q hs
theorem MtR.or {id : String} {r r' : V → List V → Hp → VK → Prop} (h : MtR X id r) (h' : MtR X id r') : MtR X id (fun x xs H Q => r x xs H Q ∨ r' x xs H Q) := by
  intro pins s σ H x xs v us Q I rx rs q
  rcases q with q | q
  · exact h pins s σ H x xs v us Q I rx rs q
  · exact h' pins s σ H x xs v us Q I rx rs q
theorem pe_ix {r : R2} (hr : IxR X r) (ha : PE X a ta) (hb : PE X b tb) (hs : PlainIx b) : PE X (.Subscript a b pos) (tOp r ta tb) := by
  intro pins s σ H Q I h
  exact Subscript_ (binT ha hb I h fun v u s2 x y H2 I2 rx ry q => hr a b pins s2 σ H2 x y v u Q I2 rx ry q (hs _ _))
def rIxL (K : PySem.W.Frag) : R2 := fun x y H Q => ∃ p xs i v, x = .ref p ∧ y = .int i ∧ SqL K H p xs ∧ atI xs i = some v ∧ Q v H
def rIxT (K : PySem.W.Frag) : R2 := fun x y H Q => ∃ p xs i v, x = .ref p ∧ y = .int i ∧ SqT K H p xs ∧ atI xs i = some v ∧ Q v H
def rIxS : R2 := fun x y H Q => ∃ z i c, x = .str z ∧ y = .int i ∧ z.length ≤ sizeLine ∧ atI z.cps.toList i = some c ∧ Q (.str ⟨#[c]⟩) H
theorem ix_list : IxR X (rIxL X.K) := by
  intro value slice pins s σ H x y v u Q I rx ry h hs
  obtain ⟨p, xs, i, z, rfl, rfl, hq, he, q⟩ := h
  cases rx
  obtain ⟨t, rfl⟩ := ry
  obtain ⟨its, r, pl, hz⟩ := I.list hq
  obtain ⟨j, h1, h2, h3, h4, h5⟩ := atI_get he
  obtain ⟨w, ew, rw'⟩ := r.get h2
  have hl := r.length
  have hn := line63
  have fin : EP X pins σ Q w s := ⟨z, H, I, rw', q⟩
  by_cases h0 : 0 ≤ i
  · have hj : i.toNat = j := by
      rw [seqIndex_of h0 h5] at h1
      exact Option.some.inj h1
    exact item_listR pl.isList h0 (by omega) (by rw [hj]; simpa using ew) fin hs
  · have hj : (i + (its.toArray.size : Int)).toNat = j := by
      rw [seqIndex_neg (by omega) h4] at h1
      rw [List.size_toArray, ← hl]
      exact Option.some.inj h1
    exact subscriptTail_builtinR (x := w) pl.isList.typeIs slot_list_getitem.lookup
      (wpAny_getItem_list_neg (Q := fun r s' => r = w ∧ EP X pins σ Q r s') pl.isList (by omega) (by rw [List.size_toArray] <;> omega) (by omega) (by rw [hj]; simpa using ew) ⟨rfl, fin⟩) hs
theorem ix_tup : IxR X (rIxT X.K) := by
  intro value slice pins s σ H x y v u Q I rx ry h hs
  obtain ⟨p, xs, i, z, rfl, rfl, hq, he, q⟩ := h
  cases rx
  obtain ⟨t, rfl⟩ := ry
  obtain ⟨its, r, pl, hz⟩ := I.tuple hq
  obtain ⟨j, h1, h2, h3, h4, h5⟩ := atI_get he
  obtain ⟨w, ew, rw'⟩ := r.get h2
  have hl := r.length
  have hn := line63
  have fin : EP X pins σ Q w s := ⟨z, H, I, rw', q⟩
  exact subscriptTail_builtinR (x := w) pl.typeIs slot_tuple_getitem.lookup
    (getItem_tuple (j := j) (Q := fun r s' => r = w ∧ EP X pins σ Q r s') pl (by omega) (by omega) (by rw [List.size_toArray, ← hl]; exact h1) (by simpa using ew) ⟨rfl, fin⟩) hs
theorem ix_str : IxR X rIxS := by
  intro value slice pins s σ H x y v u Q I rx ry h hs
  obtain ⟨z, i, c, rfl, rfl, hz, he, q⟩ := h
  obtain ⟨t, rfl⟩ := rx
  obtain ⟨t', rfl⟩ := ry
  obtain ⟨j, h1, h2, h3, h4, h5⟩ := atI_get he
  have hl : z.cps.toList.length = z.length := by simp [Str.length]
  rw [hl] at h1 h4 h5
  have hn := line63
  exact tail_any (typeIs_str s z t) slot_str_getitem.lookup (getItem_str (c := c) (by
    have e1 : decide (i < -(2 ^ 63 : Int)) = false := decide_eq_false (by omega)
    have e2 : decide (i ≥ 2 ^ 63) = false := decide_eq_false (by omega)
    rw [e1, e2, Bool.or_false]) (by rw [h1]; simpa using h2) ⟨.str ⟨#[c]⟩, H, I.tok _, ⟨_, rfl⟩, q⟩) hs
def rIx (K : PySem.W.Frag) : R2 := fun x y H Q => rIxL K x y H Q ∨ rIxT K x y H Q ∨ rIxS x y H Q
theorem ix_seq : IxR X (rIx X.K) := ix_list.or (ix_tup.or ix_str)
theorem mapSeq_set (its : List Value) (n j : Nat) (u : Value) : Obj.mapSeq (·.setIfInBounds j u) { cls := .type "list", data := .seq its.toArray n } = { cls := .type "list", data := .seq (its.set j u).toArray n } := by
  simp [Obj.mapSeq]
theorem Inv.lst {pins : List (Addr × Obj)} {σ : St} {H : Hp} {s : Shared} {p : Addr} {xs : List V} (I : Inv X pins σ H s) (h : H p = some (.lst xs)) :
    ∃ (its : List Value) (n : Nat), Vals xs its ∧ s.heap.get? p = some { cls := .type "list", data := .seq its.toArray n } ∧ xs.length ≤ sizeLine := by
  obtain ⟨z, its, n, r, e⟩ := I.hok p _ h
  exact ⟨its, n, r, e, z⟩
theorem Inv.lstUpd {pins : List (Addr × Obj)} {σ : St} {H : Hp} {s : Shared} {p : Addr} {xs ys : List V} {its its' : List Value} {n n' : Nat} {f : Obj → Obj} (I : Inv X pins σ H s) (h : H p = some (.lst xs))
    (ho : s.heap.get? p = some { cls := .type "list", data := .seq its.toArray n }) (hf : f { cls := .type "list", data := .seq its.toArray n } = { cls := .type "list", data := .seq its'.toArray n' }) (r : Vals ys its') (hz : ys.length ≤ sizeLine) (t : Nat) :
    Inv X pins σ (upd H p (.lst ys)) { s with heap := s.heap.update p f, toks := t } := by
  have e : (s.heap.update p f).get? p = some { cls := .type "list", data := .seq its'.toArray n' } := by
    rw [Heap.get?_update_self f ho (by rw [hf] <;> rfl), hf]
  refine I.write (x := p) (e := p) (by rw [h]; trivial) (.inl rfl) (fun b u hb q => (Heap.get?_update_other _ _ (Ne.symm hb)).trans q) ⟨_, e⟩ ?_
  exact ⟨hz, its', n', r, e⟩
def rSetL : V → V → V → Hp → (Hp → Prop) → Prop := fun o i v H Q => ∃ p xs k j, o = .ref p ∧ i = .int k ∧ H p = some (.lst xs) ∧ ixN xs.length k = some j ∧ Q (upd H p (.lst (xs.set j v)))
theorem set_list : PSet X rSetL := by
  intro pins s σ H o i v ov iv u Q I ro ri rv h
  obtain ⟨p, xs, k, j, rfl, rfl, hp, hj, q⟩ := h
  cases ro
  obtain ⟨t, rfl⟩ := ri
  obtain ⟨its, n, r, ho, hz⟩ := I.lst hp
  obtain ⟨h1, h2, h3, h4⟩ := ixN_seq hj
  have hl := r.length
  have hn := line63
  have I' : Inv X pins σ (upd H p (.lst (xs.set j v))) { s with heap := s.heap.update p (Obj.mapSeq (·.setIfInBounds j u)) } :=
    I.lstUpd hp ho (mapSeq_set its n j u) (r.set rv j) (by rw [List.length_set]; exact hz) s.toks
  by_cases h0 : 0 ≤ k
  · have hk : k.toNat = j := by
      rw [seqIndex_of h0 h4] at h1
      exact Option.some.inj h1
    exact PySem.W.ki_setAt ho h0 (by omega) (by rw [List.size_toArray, ← hl]; exact h4) (by rw [hk]; exact ⟨_, I', q⟩)
  · have hk : (k + (its.toArray.size : Int)).toNat = j := by
      rw [seqIndex_neg (by omega) h3] at h1
      rw [List.size_toArray, ← hl]
      exact Option.some.inj h1
    exact PySem.W.ki_setBack ho (by omega) (by rw [List.size_toArray, ← hl]; exact h3) (by omega) (by rw [hk]; exact ⟨_, I', q⟩)
theorem slice_bounds (lo hi : Option Int) (n : Nat) : (sliceBounds lo hi none n).1 = ((HT.sIx n 0 lo : Nat) : Int) ∧ (sliceBounds lo hi none n).2.1 = ((HT.sIx n n hi : Nat) : Int) ∧ (sliceBounds lo hi none n).2.2 = 1 := by
  refine ⟨?_, ?_, rfl⟩
  · cases lo with
    | none => simp [sliceBounds, HT.sIx]
    | some i =>
      simp only [sliceBounds, HT.sIx, Option.getD_none, show (1 : Int) > 0 by decide, if_true]
      by_cases h : i < 0
      · simp only [h, if_true] <;> omega
      · simp only [h, if_false] <;> omega
  · cases hi with
    | none => simp [sliceBounds, HT.sIx]
    | some i =>
      simp only [sliceBounds, HT.sIx, Option.getD_none, show (1 : Int) > 0 by decide, if_true]
      by_cases h : i < 0
      · simp only [h, if_true] <;> omega
      · simp only [h, if_false] <;> omega
theorem slicePick_cut (its : List Value) (lo hi : Option Int) : slicePick its.toArray lo hi none = ((its.drop (HT.sIx its.length 0 lo)).take (HT.sIx its.length its.length hi - HT.sIx its.length 0 lo)).toArray := by
  obtain ⟨h1, h2, h3⟩ := slice_bounds lo hi its.toArray.size
  unfold slicePick
  rw [h1, h2, h3]
  simp only [sliceRange_one, pick_run, List.size_toArray] <;> rfl
def rSlL (K : PySem.W.Frag) : V → Option Int → Option Int → Hp → VK → Prop := fun x lo hi H Q => ∃ a xs, x = .ref a ∧ SqL K H a xs ∧ ∀ p, H p = none → Q (.ref p) (upd H p (.lst (cutV xs lo hi)))
theorem sl_list : SlR X (rSlL X.K) := by
  intro pins s σ H x v vl vu lo hi sl Q I rx hs pl pu h
  obtain ⟨a, xs, rfl, hx, q⟩ := h
  cases rx
  obtain ⟨its, r, ht, hz⟩ := I.list hx
  have hlen := r.length
  refine ⟨"list", _, slot_list_getitem.lookup, ht.isList.typeIs, ?_⟩
  refine wpAny_getItem_list_slice ht.isList hs pl pu .none (by simp) ?_ (by rw [List.size_toArray] <;> omega)
  rw [slicePick_cut, ← hlen]
  refine ⟨.ref s.heap.objs.size, _, I.laid (t' := s.toks) (o := .lst (cutV xs lo hi)) (fun b ob q => Heap.get?_push_of_some _ q) (Nat.le_refl _) ?_, rfl, q _ (I.hok.fresh (Nat.le_refl _))⟩
  exact ⟨Nat.le_trans (cutV_length xs lo hi) hz, _, 0, (r.drop (HT.sIx xs.length 0 lo)).take (HT.sIx xs.length xs.length hi - HT.sIx xs.length 0 lo), Heap.get?_push_size _ rfl⟩
theorem call_len_seq : CallR X (.builtin "len") (fun xs H Q => ∃ p ys, xs = [.ref p] ∧ (SqL X.K H p ys ∨ SqT X.K H p ys) ∧ Q (.int ys.length) H) := by
  intro pins s σ H xs us Q I r h
  obtain ⟨p, ys, rfl, hq, q⟩ := h
  obtain ⟨u, rfl, rx⟩ := vals1 r
  cases rx
  have hn := line63
  rcases hq with hq | hq
  · obtain ⟨its, r', pl, hz⟩ := I.list hq
    have hlen := r'.length
    exact Calls.call_len_list pl.isList (by simp only [List.size_toArray] <;> omega) ⟨.int ys.length, H, I.tok _, ⟨s.toks + 1, by rw [List.size_toArray, hlen]⟩, q⟩
  · obtain ⟨its, r', pl, hz⟩ := I.tuple hq
    have hlen := r'.length
    exact len_tuple pl (by simp only [List.size_toArray] <;> omega) ⟨.int ys.length, H, I.tok _, ⟨s.toks + 1, by rw [List.size_toArray, hlen]⟩, q⟩
theorem call_len_str : CallR X (.builtin "len") (fun xs H Q => ∃ z, xs = [.str z] ∧ z.length ≤ sizeLine ∧ Q (.int z.length) H) := by
  intro pins s σ H xs us Q I r h
  obtain ⟨z, rfl, hz, q⟩ := h
  obtain ⟨u, rfl, t, rfl⟩ := vals1 r
  have hn := line63
  exact len_str (by omega) ⟨.int z.length, H, I.tok _, ⟨_, rfl⟩, q⟩
theorem CallR.or {f : Value} {r r' : List V → Hp → VK → Prop} (h : CallR X f r) (h' : CallR X f r') : CallR X f (fun xs H Q => r xs H Q ∨ r' xs H Q) := by
  intro pins s σ H xs us Q I rs q
  rcases q with q | q
  · exact h pins s σ H xs us Q I rs q
  · exact h' pins s σ H xs us Q I rs q
theorem call_list_of : CallR X (.type "list") (fun xs H Q => ∃ p ys, xs = [.ref p] ∧ (SqL X.K H p ys ∨ SqT X.K H p ys) ∧ ∀ l, H l = none → Q (.ref l) (upd H l (.lst ys))) := by
  intro pins s σ H xs us Q I r h
  obtain ⟨p, ys, rfl, hq, q⟩ := h
  obtain ⟨u, rfl, rx⟩ := vals1 r
  cases rx
  have fin : ∀ (its : List Value), Vals ys its → ys.length ≤ sizeLine → ∀ (h' : Heap) (c' : Nat), (∀ b o', s.heap.get? b = some o' → h'.get? b = some o') →
      h'.get? s.heap.objs.size = some { cls := .type "list", dict := none, data := .seq its.toArray c', slots := #[] } → EP X pins σ Q (.ref s.heap.objs.size) { s with heap := h' } := fun its r' hz h' c' kp e =>
    ⟨.ref s.heap.objs.size, _, I.laid (t' := s.toks) kp (Nat.le_refl _) (show ObjOk X.prog X.w _ h' _ (.lst ys) from ⟨hz, its, c', r', e⟩), rfl, q _ (I.hok.fresh (Nat.le_refl _))⟩
  rcases hq with hq | hq
  · obtain ⟨its, r', pl, hz⟩ := I.list hq
    have hlen := r'.length
    obtain ⟨o, ho, hc, n, hd⟩ := pl.isList
    exact call_list_seq p (.inl rfl) ho hc hd (fun h' c' kp e => fin its r' hz h' c' kp e) (by simp only [List.size_toArray] <;> omega)
  · obtain ⟨its, r', pl, hz⟩ := I.tuple hq
    have hlen := r'.length
    obtain ⟨o, ho, hc, n, hd⟩ := pl
    exact call_list_seq p (.inr rfl) ho hc hd (fun h' c' kp e => fin its r' hz h' c' kp e) (by simp only [List.size_toArray] <;> omega)
theorem call_tuple_of : CallR X (.type "tuple") (fun xs H Q => ∃ p ys, xs = [.ref p] ∧ ((SqL X.K H p ys ∧ ∀ l, H l = none → Q (.ref l) (upd H l (.tup ys))) ∨ (SqT X.K H p ys ∧ Q (.ref p) H))) := by
  intro pins s σ H xs us Q I r h
  obtain ⟨p, ys, rfl, h⟩ := h
  obtain ⟨u, rfl, rx⟩ := vals1 r
  cases rx
  rcases h with ⟨hq, q⟩ | ⟨hq, q⟩
  · obtain ⟨its, r', pl, hz⟩ := I.list hq
    have hlen := r'.length
    refine call_tuple_list pl.isList (fun h' kp => ?_) (by simp only [List.size_toArray] <;> omega)
    have I1 : Inv X pins σ H { s with heap := h' } := I.kept (t' := s.toks) kp
    have I2 : Inv X pins σ (upd H h'.objs.size (.tup ys)) { s with heap := h'.push { cls := .type "tuple", data := .seq its.toArray } } :=
      I1.laid (t' := s.toks) (fun b o e => Heap.get?_push_of_some _ e) (Nat.le_refl _) (show ObjOk X.prog X.w _ _ _ (.tup ys) from ⟨hz, its, r', IsTup.new _ _⟩)
    exact ⟨.ref h'.objs.size, _, I2, rfl, q _ (I1.hok.fresh (Nat.le_refl _))⟩
  · obtain ⟨its, r', pl, hz⟩ := I.tuple hq
    exact call_tuple_same pl ⟨.ref p, H, I, rfl, q⟩
def tyV (K : PySem.W.Frag) (T : String) (x : V) (H : Hp) : Prop := match x with
  | .str _ => T = "str"
  | .int _ => T = "int"
  | .ref p => (T = "list" ∧ ∃ xs, SqL K H p xs) ∨ (T = "tuple" ∧ ∃ o, K.lookup p = some o ∧ o.cls = .type "tuple" ∧ o.dict = none) ∨
      (T = "dict" ∧ ((∃ kvs, H p = some (.dK kvs)) ∨ ∃ kvs, H p = some (.dT kvs))) ∨ (T = "set" ∧ ∃ S n, H p = some (.set S n))
  | _ => False
theorem tyV_is {pins : List (Addr × Obj)} {σ : St} {H : Hp} {s : Shared} {T : String} {x : V} {v : Value} (I : Inv X pins σ H s) (r : RelV x v) (ty : tyV X.K T x H) :
    s.TypeIs v T ∧ ∀ a, v = .ref a → ∃ ob, s.heap.get? a = some ob ∧ ob.dict = none := by
  cases x with
  | str z =>
    obtain ⟨t, rfl⟩ := r
    cases (show T = "str" from ty)
    exact ⟨typeIs_str s z t, fun _ e => nomatch e⟩
  | int i =>
    obtain ⟨t, rfl⟩ := r
    cases (show T = "int" from ty)
    exact ⟨typeIs_int s i t, fun _ e => nomatch e⟩
  | ref p =>
    cases r
    rcases ty with ⟨rfl, xs, hq⟩ | ⟨rfl, o, hk, hc, hd⟩ | ⟨rfl, hk⟩ | ⟨rfl, S, n, hk⟩
    · obtain ⟨its, _, pl, _⟩ := I.list hq
      refine ⟨pl.isList.typeIs, fun a e => ?_⟩
      cases e
      obtain ⟨o, n, e, c, hd, _⟩ := pl
      exact ⟨o, e, hd⟩
    · refine ⟨⟨o, I.kIn p o hk, hc⟩, fun a e => ?_⟩
      cases e
      exact ⟨o, I.kIn _ o hk, hd⟩
    · have z : ∃ o, s.heap.get? p = some o ∧ o.ExactDict := by
        rcases hk with ⟨kvs, hk⟩ | ⟨kvs, hk⟩
        · obtain ⟨_, _, _, _, o, _, _, e, ex, _⟩ := I.hok p _ hk
          exact ⟨o, e, ex⟩
        · obtain ⟨_, _, _, _, o, _, _, e, ex, _⟩ := I.hok p _ hk
          exact ⟨o, e, ex⟩
      obtain ⟨o, e, ex⟩ := z
      refine ⟨⟨o, e, ex.1⟩, fun a e2 => ?_⟩
      cases e2
      exact ⟨o, e, ex.2.1⟩
    · obtain ⟨o, _, _, _, e, ex, _⟩ := I.hok p _ hk
      refine ⟨⟨o, e, ex.1⟩, fun a e2 => ?_⟩
      cases e2
      exact ⟨o, e, ex.2.1⟩
  | _ => exact False.elim ty
def tBM (K : PySem.W.Frag) (T : String) (r : V → List V → Hp → VK → Prop) (to : TE) (t : TA) : TE := fun σ H Q => to σ H fun x H1 => tyV K T x H1 ∧ t σ H1 fun xs H2 => r x xs H2 Q
variable {o e : Expr} {es : List Expr} {to : TE} {t : TA} {name : Str} {apos cpos : Pos} {T id : String} {r : V → List V → Hp → VK → Prop}
theorem pe_bm (pa : PlainAttrs T) (slot : Slot T name id) (hty : typeOf (.builtin id) = pure (.type "method_descriptor")) (hm : MtR X id r) (ho : PE X o to) (ha : PA X (e :: es) t)
    (hbase : attributeBase o name X.env (eval o X.env) = eval o X.env := by rfl)
    (hfew : ((backTo cpos (starEach (e :: es) X.env)).all (fun x => !x.1) && (backToKw cpos (keywordEach [] X.env)).all (fun x => x.1.isSome)
      && decide ((e :: es).length + ([] : List Keyword).length + (if ([] : List Keyword).isEmpty then 0 else 1) < 30)) = true := by rfl)
    (hline : (apos.endLine == cpos.line) = true := by rfl) (hs : starEach (e :: es) X.env = (false, eval e X.env) :: starEach es X.env := by rfl) (hplain : (backTo cpos (starEach es X.env)).any (·.1) = false := by rfl) :
    PE X (.Call (.Attribute o name apos) (e :: es) [] cpos) (tBM X.K T r to t) := by
  intro pins s σ H Q I h
  refine wpAny_Call_method_late hbase hfew hline rfl (thn (ho pins s σ H _ I h) fun v s1 ⟨x, H1, I1, r1, ty, q1⟩ => ?_)
  obtain ⟨h1, h2⟩ := tyV_is I1 r1 ty
  refine ⟨T, id, pa, slot, hty, h1, h2, ?_⟩
  have hA := ha cpos pins s1 σ H1 _ I1 q1
  rw [hs] at hA ⊢
  refine Calls.callWith_builtin (by show (false || (backTo cpos (starEach es X.env)).any (·.1)) = false; rw [hplain] <;> rfl) (Calls.evalArgs_plain ?_)
  exact thn hA fun us s2 ⟨vs, H2, I2, r2, q2⟩ => hm pins s2 σ H2 x vs v us Q I2 r1 r2 q2
/- xs.append(e), list.index on a module's tuple .. are MtR facts of 06m -/
end
end L2
namespace L2
open PySem PySem.Spec PyProof.Rows
def MtM (X : Cx) (id : String) (r : V → List V → Hp → VK → Prop) : Prop :=
  ∀ (pins : List (Addr × Obj)) (s : Shared) (σ : St) (H : Hp) (x : V) (xs : List V) (v : Value) (us : List Value) (Q : VK), Inv X pins σ H s → RelV x v → Vals xs us → r x xs H Q →
    wpAny (model X.prog X.w) X.A (call (.builtin id) (v :: us)) (EP X pins σ Q) X.xe s
theorem Vals.one : ∀ {x : V} {us : List Value}, Vals [x] us → ∃ u, us = [u] ∧ RelV x u
  | _, _, .cons r .nil => ⟨_, rfl, r⟩
theorem Vals.two : ∀ {x y : V} {us : List Value}, Vals [x, y] us → ∃ u v, us = [u, v] ∧ RelV x u ∧ RelV y v
  | _, _, _, .cons r (.cons q .nil) => ⟨_, _, rfl, r, q⟩
theorem Vals.zero : ∀ {us : List Value}, Vals [] us → us = []
  | _, .nil => rfl
theorem Vals.dropLast {xs : List V} {us : List Value} (h : Vals xs us) : Vals xs.dropLast us.dropLast := by
  induction h with
  | nil => exact .nil
  | cons r t ih =>
    cases t with
    | nil => exact .nil
    | cons q t' => exact .cons r ih
theorem Vals.eraseIdx : ∀ {xs : List V} {us : List Value} (i : Nat), Vals xs us → Vals (xs.eraseIdx i) (us.eraseIdx i)
  | _, _, _, .nil => .nil
  | _, _, 0, .cons _ t => t
  | _, _, i + 1, .cons r t => .cons r (Vals.eraseIdx i t)
theorem Vals.reverse {xs : List V} {us : List Value} (h : Vals xs us) : Vals xs.reverse us.reverse := by
  induction h with
  | nil => exact .nil
  | cons r t ih => rw [List.reverse_cons, List.reverse_cons]; exact Vals.append ih (.cons r .nil)
theorem Vals.rep {xs : List V} {us : List Value} (h : Vals xs us) : ∀ k : Nat, Vals (List.replicate k xs).flatten (List.replicate k us).flatten
  | 0 => .nil
  | k + 1 => by
    rw [List.replicate_succ, List.replicate_succ, List.flatten_cons, List.flatten_cons]
    exact Vals.append h (Vals.rep h k)
theorem len_erase {α : Type} : ∀ (l : List α) (i : Nat), (l.eraseIdx i).length ≤ l.length
  | [], _ => Nat.le_refl _
  | _ :: _, 0 => Nat.le_succ _
  | _ :: r, i + 1 => Nat.succ_le_succ (len_erase r i)
theorem foldl_rep (its : List Value) : ∀ (k : Nat) (acc : List Value),
    List.foldl (fun x1 x2 => x1 ++ x2) acc.toArray (List.replicate k its.toArray) = (acc ++ (List.replicate k its).flatten).toArray
  | 0, acc => by simp
  | k + 1, acc => by
    have e : acc.toArray ++ its.toArray = (acc ++ its).toArray := by simp
    have e2 : (acc ++ its) ++ (List.replicate k its).flatten = acc ++ (List.replicate (k + 1) its).flatten := by
      rw [List.replicate_succ, List.flatten_cons, List.append_assoc]
    rw [← e2, ← foldl_rep its k (acc ++ its), ← e, List.replicate_succ, List.foldl_cons]
section
variable {X : Cx} {pins : List (Addr × Obj)} {σ : St} {H : Hp} {s : Shared} {l b : Addr} {xs ys zs : List V}
theorem Inv.lset {its its' : List Value} {n : Nat} {f : Array Value → Array Value} {t' : Nat} (I : Inv X pins σ H s) (hH : H l = some (.lst xs))
    (e : s.heap.get? l = some { cls := .type "list", data := .seq its.toArray n }) (hf : f its.toArray = its'.toArray) (hv : Vals ys its') (hz : ys.length ≤ sizeLine) :
    Inv X pins σ (upd H l (.lst ys)) { s with heap := s.heap.update l (Obj.mapSeq f), toks := t' } := by
  have q := PySem.IsL.update e f
  rw [hf] at q
  refine I.write (x := l) (e := l) (by rw [hH]; exact trivial) (.inl rfl) (fun b' u hb hu => (Heap.get?_update_other s.heap (Obj.mapSeq f) (Ne.symm hb)).trans hu) ⟨_, q⟩ ?_
  exact ⟨hz, its', _, hv, q⟩
theorem Inv.lnew {its : List Value} {t' : Nat} (I : Inv X pins σ H s) (hv : Vals ys its) (hz : ys.length ≤ sizeLine) :
    Inv X pins σ (upd H s.heap.objs.size (.lst ys)) { s with heap := s.heap.push { cls := .type "list", data := .seq its.toArray }, toks := t' } :=
  I.laid (fun _ _ q => Heap.get?_push_of_some _ q) (Nat.le_refl _) ⟨hz, its, 0, hv, Heap.get?_push_size _ rfl⟩
theorem Inv.fresh (I : Inv X pins σ H s) : H s.heap.objs.size = none := I.hok.fresh (Nat.le_refl _)
theorem Inv.lstM (I : Inv X pins σ H s) (hH : H l = some (.lst xs)) : xs.length ≤ sizeLine ∧ ∃ (its : List Value) (n : Nat), Vals xs its ∧ xs.length = its.length ∧ s.heap.get? l = some { cls := .type "list", data := .seq its.toArray n } := by
  obtain ⟨z, its, n, r, e⟩ := I.hok l _ hH
  exact ⟨z, its, n, r, r.length, e⟩
theorem notLongL {n : Nat} (h : n ≤ sizeLine) : Builtin.List.listTooLong n = false := by
  unfold Builtin.List.listTooLong
  exact decide_eq_false (by omega)
end
section
variable {X : Cx}
def rAppend : V → List V → Hp → VK → Prop := fun x vs H Q => ∃ l xs y, x = .ref l ∧ vs = [y] ∧ H l = some (.lst xs) ∧ xs.length < sizeLine ∧ Q .non (upd H l (.lst (xs ++ [y])))
theorem mt_append : MtM X "list.append" rAppend := by
  intro pins s σ H x vs v us Q I rx rv h
  obtain ⟨l, xs, y, rfl, rfl, hH, hz, q⟩ := h
  cases rx
  obtain ⟨u, rfl, ru⟩ := rv.one
  obtain ⟨z, its, n, r, hl, e⟩ := I.lstM hH
  refine call_meets F.slot_list_append ⟨_, e, rfl⟩ F.entry_list_append (F.args_list_append_2 _ _) (PySem.list_append l its.toArray n u (by rw [List.size_toArray]; omega)) ⟨e, ?_⟩
  refine ⟨.non, _, I.lset (its' := its ++ [u]) hH e (by simp) (r.append (.cons ru .nil)) ?_, rfl, q⟩
  rw [List.length_append, List.length_singleton]
  omega
def rExtend : V → List V → Hp → VK → Prop := fun x vs H Q => ∃ l b xs zs, x = .ref l ∧ vs = [.ref b] ∧ H l = some (.lst xs) ∧ H b = some (.lst zs) ∧ xs.length + zs.length ≤ sizeLine ∧ Q .non (upd H l (.lst (xs ++ zs)))
theorem mt_extend : MtM X "list.extend" rExtend := by
  intro pins s σ H x vs v us Q I rx rv h
  obtain ⟨l, b, xs, zs, rfl, rfl, hH, hB, hz, q⟩ := h
  cases rx
  obtain ⟨u, rfl, ru⟩ := rv.one
  cases ru
  obtain ⟨z, its, n, r, hl, e⟩ := I.lstM hH
  obtain ⟨z2, its2, n2, r2, hl2, e2⟩ := I.lstM hB
  have hsz : its.toArray.size + its2.toArray.size ≤ sizeLine := by rw [List.size_toArray, List.size_toArray]; omega
  have hlong : ¬ (!its.toArray.isEmpty && Builtin.List.listTooLong (its.toArray.size + its2.toArray.size)) = true := by
    rw [notLongL hsz, Bool.and_false]
    exact Bool.false_ne_true
  refine call_meets F.slot_list_extend ⟨_, e, rfl⟩ F.entry_list_extend (F.args_list_extend_2 _ _)
    (AutoSeq1.list_extend_list_list_0 l its.toArray n b its2.toArray n2 hlong (by rw [List.size_toArray]; omega) (by omega)) ⟨e, e2, ?_⟩
  refine ⟨.non, _, I.lset (its' := its ++ its2) hH e (by simp) (r.append r2) ?_, rfl, q⟩
  rw [List.length_append]
  omega
def rPopAt : V → List V → Hp → VK → Prop := fun x vs H Q => ∃ l xs i k y, x = .ref l ∧ vs = [.int i] ∧ H l = some (.lst xs) ∧ -(2 ^ 63) ≤ i ∧ i < 2 ^ 63 ∧ seqIndex? i xs.length = some k ∧ xs[k]? = some y ∧ Q y (upd H l (.lst (xs.eraseIdx k)))
theorem mt_popAt : MtM X "list.pop" rPopAt := by
  intro pins s σ H x vs v us Q I rx rv h
  obtain ⟨l, xs, i, k, y, rfl, rfl, hH, h1, h2, hk, hy, q⟩ := h
  cases rx
  obtain ⟨u, rfl, ru⟩ := rv.one
  obtain ⟨t, rfl⟩ := ru
  obtain ⟨z, its, n, r, hl, e⟩ := I.lstM hH
  obtain ⟨w, hw, rw'⟩ := r.get hy
  refine call_meets F.slot_list_pop ⟨_, e, rfl⟩ F.entry_list_pop (F.args_list_pop_2 _ _)
    (MeetsSeq.list_pop_at l its.toArray n i t k w (fitsIndex_both h1 h2) (by rw [List.size_toArray, ← hl]; exact hk) (by rw [← Array.getElem?_toList]; exact hw) (by rw [List.size_toArray]; omega)) ⟨e, ?_⟩
  refine ⟨y, _, I.lset (its' := its.eraseIdx k) hH e ?_ (r.eraseIdx k) ?_, rw', q⟩
  · show its.toArray.eraseIdxIfInBounds k = (its.eraseIdx k).toArray
    rw [List.eraseIdxIfInBounds_toArray]
  · have := len_erase xs k
    omega
def rCat : R2 := fun x y H Q => ∃ l b xs zs, x = .ref l ∧ y = .ref b ∧ H l = some (.lst xs) ∧ H b = some (.lst zs) ∧ xs.length + zs.length ≤ sizeLine ∧ ∀ p, H p = none → Q (.ref p) (upd H p (.lst (xs ++ zs)))
theorem op_cat : OpR X (binaryOp .Add) rCat := by
  intro pins s σ H x y v u Q I rx ry h
  obtain ⟨l, b, xs, zs, rfl, rfl, hH, hB, hz, q⟩ := h
  cases rx
  cases ry
  obtain ⟨z, its, n, r, hl, e⟩ := I.lstM hH
  obtain ⟨z2, its2, n2, r2, hl2, e2⟩ := I.lstM hB
  refine PySem.P.add_list e e2 ?_ (by rw [List.size_toArray, List.size_toArray]; omega)
  have ea : its.toArray ++ its2.toArray = (its ++ its2).toArray := by simp
  rw [ea]
  exact ⟨.ref _, _, I.lnew (t' := s.toks) (r.append r2) (by rw [List.length_append]; omega), rfl, q _ I.fresh⟩
def rRep : R2 := fun x y H Q => ∃ l k xs, x = .ref l ∧ y = .int k ∧ H l = some (.lst xs) ∧ -(2 ^ 63) ≤ k ∧ k < 2 ^ 63 ∧ xs.length * k.toNat ≤ sizeLine ∧
  ∀ p, H p = none → Q (.ref p) (upd H p (.lst (List.replicate k.toNat xs).flatten))
theorem len_rep {α : Type} (xs : List α) (k : Nat) : (List.replicate k xs).flatten.length = k * xs.length := by
  induction k with
  | zero => simp
  | succ k ih => rw [List.replicate_succ, List.flatten_cons, List.length_append, ih, Nat.succ_mul, Nat.add_comm]
theorem op_rep : OpR X (binaryOp .Mult) rRep := by
  intro pins s σ H x y v u Q I rx ry h
  obtain ⟨l, k, xs, rfl, rfl, hH, h1, h2, hz, q⟩ := h
  cases rx
  obtain ⟨t, rfl⟩ := ry
  obtain ⟨z, its, n, r, hl, e⟩ := I.lstM hH
  have hlen : its.toArray.size * k.toNat ≤ sizeLine := by rw [List.size_toArray, ← hl]; exact hz
  have hcap : ¬ its.toArray.size * k.toNat > (2 ^ 63 - 1) / 8 := by
    have : (sizeLine : Nat) ≤ (2 ^ 63 - 1) / 8 := by decide
    omega
  have hfit : ¬ (!Builtin.List.listFitsIndex k) = true := by
    rw [fitsIndex_both h1 h2]
    exact Bool.false_ne_true
  have hlong : ¬ Builtin.List.listTooLong (its.toArray.size * k.toNat) = true := by
    rw [notLongL hlen]
    exact Bool.false_ne_true
  have hnew : List.foldl (fun x1 x2 => x1 ++ x2) #[] (List.replicate (if its.toArray.isEmpty = true then 0 else k.toNat) its.toArray) = (List.replicate k.toNat its).flatten.toArray := by
    have f0 : ∀ m : Nat, List.foldl (fun x1 x2 => x1 ++ x2) #[] (List.replicate m its.toArray) = (List.replicate m its).flatten.toArray := fun m => by
      have := foldl_rep its m []
      rw [List.nil_append] at this
      exact this
    rw [f0]
    cases its with
    | nil => simp
    | cons a r' => rw [if_neg (by simp)]
  refine wpAny_binaryOp_repeat_ref (T := "list") (U := "int") (by decide) ⟨_, e, rfl⟩ (fun s' => typeIs_int s' k t) noFill_list_mul F.fills_int_mul F.slot_int_rmul repeat_list F.slot_int_index.lookup
    (call_meets F.slot_int_rmul (typeIs_int s k t) F.entry_int_rmul (F.args_int_rmul_2 _ _) (int___rmul___int_list k t l its.toArray n)
      ⟨e, rfl, ⟨_, e, rfl⟩, call_meets F.slot_list_mul ⟨_, e, rfl⟩ F.entry_list_mul (F.args_list_mul_2 _ _) (AutoListH.list___mul___list_int_3 l its.toArray n k t hfit hcap hlong) ⟨e, ?_⟩⟩)
  rw [hnew]
  exact ⟨.ref _, _, I.lnew (t' := s.toks) (r.rep k.toNat) (by rw [len_rep, Nat.mul_comm]; exact hz), rfl, q _ I.fresh⟩
end
section
variable {prog : Program} {w : World} {A : Around} {E : Value → Shared → Prop} {s : Shared}
end
section
variable {X : Cx}
end
end L2
namespace Att
open PySem PySem.W PySem.Calls PyProof.Rows
theorem ints_of_wellAll {P : Params} {h : Heap} : ∀ (ns : List Int) (vs : List Value), WellAll P h vs (ns.map WData.int) → IntsAre vs ns := by
  intro ns
  induction ns with
  | nil =>
    intro vs w
    rw [List.map_nil] at w
    cases w
    exact .nil
  | cons n ns ih =>
    intro vs w
    rw [List.map_cons] at w
    cases w with
    | cons a b =>
      cases a
      exact .cons _ _ (ih _ b)
theorem script_of {l : OpenLaw} {n : Nat} (hn : l.most = some n) {P : Params} {h : Heap} {args : List WData} {vals : List Value}
    (hpre : l.row.toRowW.claim.pre args = true) (hwl : WellAll P h vals args) :
    ∃ a vs ns, vals = [Value.ref a] ∧ args = [WData.list (ns.map WData.int)] ∧ h.get? a = some { cls := .type "list", data := .seq vs.toArray } ∧ IntsAre vs ns ∧ ns.length ≤ n := by
  have hsh : WShape.hasAll [] args [.list .int] = true := (pre_splitW hpre).1
  have hc : l.pre.holds [] { args := args } = true := (pre_splitW hpre).2
  obtain ⟨d, r, rfl, h1, h2⟩ := hasAllW_cons hsh
  obtain rfl := hasAllW_nil h2
  obtain ⟨xs, rfl, h3⟩ := hasW_list h1
  obtain ⟨ns, rfl⟩ := items_int h3
  have hlen : ns.length ≤ n := by
    unfold OpenLaw.pre at hc
    have h4 : (WTm.not (.lt (.lit (.int (n : Int))) (.len (.arg 0)))).holds [] { args := [.list (ns.map .int)] } = true := by
      have h4 := (holds_andW hc).1
      rw [hn] at h4
      exact h4
    have h5 := condW_of h4 (w_not (w_lt w_lit (w_len_list (w_arg rfl))))
    rw [List.length_map] at h5
    refine Nat.le_of_not_lt fun q => ?_
    have q' : (n : Int) < ((ns.length : Nat) : Int) := by omega
    first
      | (rw [decide_eq_true q'] at h5; exact absurd h5 (by decide))
      | (simp at h5; omega)
  cases hwl with
  | cons w1 w2 =>
    cases w2
    cases w1 with
    | list ho hall => exact ⟨_, _, ns, rfl, rfl, ho, ints_of_wellAll ns _ hall, hlen⟩
theorem post_true (l : OpenLaw) (args : List WData) : l.row.toRowW.claim.post args (.bool true) args = true :=
  postW_of (r := l.row.toRowW) (X := (true == true))
    (show WShape.has [] (.bool true) .bool = true by first | rfl | decide | simp [WShape.has, WShape.arms, WShape.armsAll])
    (show (WTm.eq .res (.lit (.bool true))).value [] { args := args, res := some (.bool true), after := args } = some (.bool (true == true)) from w_eq_bool (w_res rfl) w_lit) rfl
theorem attach_call {l : OpenLaw} {n : Nat} {q : Program} {loose : List Str} {XP : (Str → Option Value) → Heap → Prop} {YP : World → Heap → Prop} {d : DefRec}
    (hn : l.most = some n) (hdf : d.params.defaults = [])
    (call : ∀ (w : World) (s₀ s₁ : Shared) (mg mb : Str → Option Value) (fa : Addr) (o : Obj) (pm cd doc : Value) (a : Addr) (vs : List Value) (ns : List Int),
      Ground q loose [] XP w s₀ mg mb s₁.heap → YP w s₁.heap →
      s₁.heap.get? fa = some o → o.data = .func (docDef d.name d.params d.body d.scope pm cd doc) → s₁.heap.CodeRec cd d.name → mg d.name = some (.ref fa) →
      s₁.heap.get? a = some { cls := .type "list", data := .seq vs.toArray } → IntsAre vs ns → ns.length ≤ n → s₁.gens = #[] →
      codeAny (model l.prog w) callerA (.call (.ref fa) ⟨[.ref a], []⟩) (fun r s' => r = .ok (.ret (.bool true)) ∧ OldK s₁.heap s'.heap ∧ s'.os = s₁.os ∧ AllBare s'.gens) s₁) :
    WalkO q loose XP YP l.row.toRowW d [] (fun f vs => PySem.call f vs) := by
  intro w s₀ s₁ mg mb G Y fa o pm cd doc dV kV ho hd hcd hD hmg hg args vals as hpre hlay hrd hwl hlo
  obtain rfl : dV = .none := Dflts.none hD hdf
  obtain rfl : kV = .none := Dflts.noKw hD
  obtain ⟨a, vs, ns, rfl, rfl, hobj, hints, hlen⟩ := script_of hn hpre hwl
  refine enter_call (codeAny_mono (call w s₀ s₁ mg mb fa o pm cd doc a vs ns G Y ho (fd_plain hd) hcd hmg hobj hints hlen hg) fun r s' hq => ?_)
  obtain ⟨rfl, h2, h3, h4⟩ := hq
  exact ⟨.inl ⟨.bool true, .bool true, [], rfl, fun _ => rfl, .bool true, post_true l _, fun _ => ⟨List.Pairwise.nil, fun _ hm => (nomatch hm)⟩⟩, h2, h3, h4⟩
section
variable {prog : Program} {w : World} {A : Around} {E : Value → Shared → Prop} {s : Shared} {K : Frag}
end
end Att
namespace L2
open PySem PySem.Spec PyProof.Rows
theorem vals_ints : ∀ {vs : List Value} {ns : List Int}, IntsAre vs ns → Vals (ns.map V.int) vs
  | _, _, .nil => .nil
  | _, _, .cons n t h => .cons ⟨t, rfl⟩ (vals_ints h)
end L2
namespace L2
open PySem PySem.Spec PyProof.Rows
def defArgs (s : Stmt) : Arguments := match s with
  | .FunctionDef _ a _ _ _ _ _ _ _ _ => a
  | _ => { posonlyargs := [], args := [], vararg := none, kwonlyargs := [], kw_defaults := [], kwarg := none, defaults := [] }
def defBody (s : Stmt) : List Stmt := match s with
  | .FunctionDef _ _ b _ _ _ _ _ _ _ => b
  | _ => []
def defScope (s : Stmt) : Scope := match s with
  | .FunctionDef _ _ _ _ _ _ sc _ _ _ => sc
  | _ => { kind := .function, names := [], isGenerator := false, isCoroutine := false }
abbrev CX0 : CXT := fun _ _ _ _ _ _ => False
abbrev E0 : XK := fun _ _ _ => False
theorem pass0 {X : Cx} : Passes CX0 X E0 := fun _ _ _ _ _ _ _ h => h.elim
structure Fun (K : PySem.W.Frag) (x qual : Str) (st : Stmt) (f : Addr) (fd : FuncData) : Prop where
  ex : ∃ (oc : Value) (od : Option Addr) (kV doc pm : Value) (an : Option Addr) (cdv ct : Value) (osl : Array (Option Value)),
    fd = PySem.W.fnOf x qual (defArgs st) (defBody st) (defScope st) .none kV doc pm an cdv ct ∧ K.lookup f = some ⟨oc, od, .func fd, osl⟩ ∧ PySem.W.codeIn K cdv qual = true
  kp : PySem.W.keepIn K (.ref f) = true
section
variable {P : Program} {w : World} {K : PySem.W.Frag} {mg : Str → Option Value} {base : Heap}
theorem Fun.ok {x qual : Str} {st : Stmt} {f : Addr} {fd : FuncData} {N ps : List Str} {k : Nat} {sp : Sp} (F : Fun K x qual st f fd) (S : FnScope N ps (defScope st)) (len : ∀ vs H Q E, sp vs H Q E → vs.length = ps.length)
    (hbody : ∀ (cdv : Value) (A : Around) (outer : List Env) (s : Shared) (H : Hp) (vs : List V) (Q : VK) (E : XK), Room k (A.deeper (envOfC qual (defScope st) s.heap.objs.size f cdv)) → sp vs H Q E →
      ∃ t, PSs (cxOf CX0 P w K mg base N qual (defScope st) f cdv A outer s H E).nox (defBody st) t ∧ t { nx := fun _ H' => Q .non H', rt := Q } (start N vs) H) : FnOk P w K mg base CX0 (k + 1) f fd ps sp := by
  obtain ⟨oc, od, kV, doc, pm, an, cdv, ct, osl, rfl, lk, hcd⟩ := F.ex
  refine fn_of lk hcd S len fun A outer s H vs Q E hr hsp => ?_
  obtain ⟨t, h, q⟩ := hbody cdv A outer s H vs Q E hr hsp
  exact ⟨t, h.nox, q⟩
theorem Fun.binds {x qual : Str} {st : Stmt} {f : Addr} {fd : FuncData} {ps : List Str} (F : Fun K x qual st f fd)
    (h : ∀ (kV doc pm : Value) (an : Option Addr) (cdv ct : Value) (us : List Value), us.length = ps.length → bindArgs (PySem.W.fnOf x qual (defArgs st) (defBody st) (defScope st) .none kV doc pm an cdv ct) ⟨us, []⟩ = pure (ps.zip us)) : Binds K fd ps [] := by
  obtain ⟨oc, od, kV, doc, pm, an, cdv, ct, osl, rfl, lk, hcd⟩ := F.ex
  exact .all (h kV doc pm an cdv ct)
end
section
variable {X : Cx}
end
def Same (H H' : Hp) : Prop := ∀ b o, H b = some o → H' b = some o
theorem Same.refl (H : Hp) : Same H H := fun _ _ h => h
theorem Same.trans {H H1 H2 : Hp} (a : Same H H1) (b : Same H1 H2) : Same H H2 := fun c o h => b c o (a c o h)
theorem Same.free {H H' : Hp} (e : Same H H') {l : Addr} (h : H' l = Option.none) : H l = Option.none := by
  cases q : H l with
  | none => rfl
  | some o =>
    rw [e l o q] at h
    cases h
theorem Same.seq {K : PySem.W.Frag} {H H' : Hp} {a : Addr} {xs : List V} (e : Same H H') (h : SqL K H a xs) : SqL K H' a xs := by
  rcases h with (h | ⟨o, h⟩) | h
  · exact .inl (.inl (e _ _ h))
  · exact .inl (.inr ⟨o, e _ _ h⟩)
  · exact .inr h
end L2
set_option Elab.async false
set_option linter.all false
set_option maxRecDepth 100000
namespace L2
open PySem PySem.Spec PyProof.Rows
def Caps (X : Cx) : List Nat → List Str → Prop
  | [], [] => True
  | i :: is, x :: xs => (X.N[i]? = some x ∧ (X.env.kindOf x = some .cell ∨ X.env.kindOf x = some .free)) ∧ Caps X is xs
  | _, _ => False
theorem Caps.length {X : Cx} : ∀ {is : List Nat} {xs : List Str}, Caps X is xs → is.length = xs.length
  | [], [], _ => rfl
  | _ :: _, _ :: _, h => by rw [List.length_cons, List.length_cons, Caps.length h.2]
theorem Caps.get {X : Cx} : ∀ {is : List Nat} {xs : List Str} {j i : Nat}, Caps X is xs → is[j]? = some i → ∃ x, xs[j]? = some x ∧ X.N[i]? = some x ∧ (X.env.kindOf x = some .cell ∨ X.env.kindOf x = some .free)
  | [], [], _, _, _, e => by simp at e
  | i :: is, x :: xs, 0, k, h, e => by
    simp at e; subst e
    exact ⟨x, rfl, h.1⟩
  | i :: is, x :: xs, j + 1, k, h, e => by
    obtain ⟨y, e1, e2⟩ := Caps.get (j := j) (i := k) h.2 (by simpa using e)
    exact ⟨y, by simpa using e1, e2⟩
def capSt (σ : St) (is : List Nat) : St := is.map fun i => (σ[i]?).join
theorem capSt_get {σ : St} {is : List Nat} {j : Nat} {v : V} (e : (capSt σ is)[j]? = some (some v)) : ∃ i, is[j]? = some i ∧ σ[i]? = some (some v) := by
  unfold capSt at e
  rw [List.getElem?_map] at e
  cases q : is[j]? with
  | none => rw [q] at e; cases e
  | some i =>
    rw [q] at e
    have e1 : (σ[i]?).join = some v := by simpa using e
    cases q2 : σ[i]? with
    | none => rw [q2] at e1; cases e1
    | some o =>
      rw [q2] at e1
      have e2 : o = some v := e1
      subst e2
      exact ⟨i, rfl, q2⟩
def cloOf (env : Env) : List (Str × NameKind) → List (Str × Addr) → List (Str × Addr)
  | [], acc => acc
  | (n, k) :: r, acc => cloOf env r (if k == .free then (match env.cells.lookup n with | some c => (n, c) :: acc | none => acc) else acc)
theorem cloOf_eq {env : Env} : ∀ (names : List (Str × NameKind)) (acc : List (Str × Addr)), (∀ y ∈ names, y.2 = .free → ∃ c, env.cells.lookup y.1 = some c) →
    (forIn names acc fun (p : Str × NameKind) (r : List (Str × Addr)) => if p.2 == .free then (do let c ← cellOf env p.1; pure (ForInStep.yield ((p.1, c) :: r))) else pure (ForInStep.yield r) : Sem (List (Str × Addr))) = pure (cloOf env names acc)
  | [], acc, _ => rfl
  | (n, k) :: r, acc, h => by
    have hr := cloOf_eq (env := env) r
    rw [List.forIn_cons]
    unfold cloOf
    by_cases hk : (k == NameKind.free) = true
    · obtain ⟨c, hc⟩ := h (n, k) List.mem_cons_self (by simpa using hk)
      simp only [hk, if_true]
      unfold cellOf
      simp only at hc
      rw [hc]
      simp only [pure_bind]
      exact hr _ fun y hy => h y (List.mem_cons_of_mem _ hy)
    · simp only [hk]
      simp only [pure_bind, Bool.false_eq_true, if_false]
      exact hr _ fun y hy => h y (List.mem_cons_of_mem _ hy)
theorem closureFor_eq {scope : Scope} {env : Env} (h : ∀ y ∈ scope.names, y.2 = .free → ∃ c, env.cells.lookup y.1 = some c) : closureFor scope env = pure (cloOf env scope.names []) := by
  have e := cloOf_eq (env := env) scope.names [] h
  rw [← e]
  unfold closureFor
  simp only [bind_pure]
theorem cloOf_mem {env : Env} : ∀ {names : List (Str × NameKind)} {acc : List (Str × Addr)} {p : Str × Addr}, p ∈ cloOf env names acc → p ∈ acc ∨ env.cells.lookup p.1 = some p.2
  | [], acc, p, h => .inl h
  | (n, k) :: r, acc, p, h => by
    unfold cloOf at h
    rcases cloOf_mem h with h | h
    · split at h
      · split at h
        · rename_i c hc
          rcases List.mem_cons.mp h with e | h
          · subst e; exact .inr hc
          · exact .inl h
        · exact .inl h
      · exact .inl h
    · exact .inr h
theorem cloOf_out {env : Env} {x : Str} : ∀ {names : List (Str × NameKind)} {acc : List (Str × Addr)}, (∀ k, (x, k) ∈ names → k ≠ .free) → (cloOf env names acc).lookup x = acc.lookup x
  | [], acc, _ => rfl
  | (n, k) :: r, acc, h => by
    unfold cloOf
    rw [cloOf_out fun k hk => h k (List.mem_cons_of_mem _ hk)]
    by_cases hk : (k == NameKind.free) = true
    · rw [if_pos hk]
      have hne : x ≠ n := by
        rintro rfl
        exact h k List.mem_cons_self (by simpa using hk)
      split
      · rw [List.lookup_cons]
        have : (x == n) = false := by simpa using hne
        rw [this]
      · rfl
    · rw [if_neg hk]
theorem cloOf_in {env : Env} {x : Str} {c : Addr} (hc : env.cells.lookup x = some c) : ∀ {names : List (Str × NameKind)} {acc : List (Str × Addr)}, (x, NameKind.free) ∈ names ∨ acc.lookup x = some c → (cloOf env names acc).lookup x = some c
  | [], acc, h => by
    rcases h with h | h
    · simp at h
    · exact h
  | (n, k) :: r, acc, h => by
    unfold cloOf
    apply cloOf_in hc
    by_cases hr : (x, NameKind.free) ∈ r
    · exact .inl hr
    · right
      by_cases hx : x = n
      · subst hx
        by_cases hk : (k == NameKind.free) = true
        · rw [if_pos hk, hc]
          simp
        · rw [if_neg hk]
          rcases h with h | h
          · rcases List.mem_cons.mp h with e | h
            · exfalso; apply hk
              cases e; rfl
            · exact absurd h hr
          · exact h
      · have h' : acc.lookup x = some c := by
          rcases h with h | h
          · rcases List.mem_cons.mp h with e | h
            · cases e; exact absurd rfl hx
            · exact absurd h hr
          · exact h
        have hxn : (x == n) = false := by simpa using hx
        split
        · split
          · rw [List.lookup_cons, hxn]; exact h'
          · exact h'
        · exact h'
structure CO (lo : Nat) (h : Heap) (acc : List (Str × Addr)) : Prop where
  lt : ∀ p ∈ acc, p.2 < h.objs.size
  em : ∀ p ∈ acc, lo ≤ p.2 → h.IsCell p.2 none
  ap : ∀ p ∈ acc, ∀ q ∈ acc, p.2 = q.2 → lo ≤ p.2 → p.1 = q.1
theorem CO.go {lo : Nat} : ∀ (names : List (Str × NameKind)) (h : Heap) (acc : List (Str × Addr)), CO lo h acc → lo ≤ h.objs.size → CO lo (pushCells h names) (cellsFrom h.objs.size names acc)
  | [], h, acc, x, _ => x
  | (n, k) :: r, h, acc, x, hl => by
    unfold pushCells cellsFrom
    by_cases hk : (k == NameKind.cell) = true
    · rw [if_pos hk, if_pos hk]
      have := CO.go (lo := lo) r (h.push { cls := .type "cell", data := .cell none }) ((n, h.objs.size) :: acc) ⟨fun p hp => ?_, fun p hp hlo => ?_, fun p hp q hq e hlo => ?_⟩ (by rw [Heap.size_push]; omega)
      · rwa [Heap.size_push] at this
      · rw [Heap.size_push]
        rcases List.mem_cons.mp hp with e | hp
        · subst e; exact Nat.lt_succ_self _
        · exact Nat.lt_succ_of_lt (x.lt p hp)
      · rcases List.mem_cons.mp hp with e | hp
        · subst e; exact ⟨_, Heap.get?_push_size _ rfl, rfl⟩
        · exact (x.em p hp hlo).keeps fun b o e => Heap.get?_push_of_some _ e
      · rcases List.mem_cons.mp hp with e1 | hp <;> rcases List.mem_cons.mp hq with e2 | hq
        · subst e1; subst e2; rfl
        · subst e1
          have e' : h.objs.size = q.2 := e
          exact absurd (x.lt q hq) (by rw [← e']; exact Nat.lt_irrefl _)
        · subst e2
          have e' : p.2 = h.objs.size := e
          exact absurd (x.lt p hp) (by rw [e']; exact Nat.lt_irrefl _)
        · exact x.ap p hp q hq e hlo
    · rw [if_neg hk, if_neg hk]
      exact CO.go r h acc x hl
theorem cf_mem : ∀ {names : List (Str × NameKind)} {m : Nat} {acc : List (Str × Addr)} {p : Str × Addr}, p ∈ cellsFrom m names acc → p ∈ acc ∨ m ≤ p.2
  | [], m, acc, p, h => .inl h
  | (n, k) :: r, m, acc, p, h => by
    unfold cellsFrom at h
    by_cases hk : (k == NameKind.cell) = true
    · rw [if_pos hk] at h
      rcases cf_mem h with h | h
      · rcases List.mem_cons.mp h with e | h
        · subst e; exact .inr (Nat.le_refl _)
        · exact .inl h
      · exact .inr (by omega)
    · rw [if_neg hk] at h
      exact cf_mem h
theorem cf_out {x : Str} : ∀ {names : List (Str × NameKind)} {m : Nat} {acc : List (Str × Addr)}, (∀ k, (x, k) ∈ names → k ≠ .cell) → (cellsFrom m names acc).lookup x = acc.lookup x
  | [], m, acc, _ => rfl
  | (n, k) :: r, m, acc, h => by
    unfold cellsFrom
    by_cases hk : (k == NameKind.cell) = true
    · rw [if_pos hk, cf_out fun k hk => h k (List.mem_cons_of_mem _ hk), List.lookup_cons]
      have hne : x ≠ n := by
        rintro rfl
        exact h k List.mem_cons_self (by simpa using hk)
      have : (x == n) = false := by simpa using hne
      rw [this]
    · rw [if_neg hk]
      exact cf_out fun k hk => h k (List.mem_cons_of_mem _ hk)
section
variable {M : Model} {A : Around} {E : Value → Shared → Prop} {s : Shared}
theorem wpAny_newEnv0 {scope : Scope} {globals : Addr} {closure : List (Str × Addr)} {qual : Str} {func : Option Addr} {code : Value} {around : Option Env} {builtins : Addr} {Q : Env → Shared → Prop}
    (h : Q (newEnv scope s.heap.objs.size globals (cellsFrom (s.heap.objs.size + 1) scope.names closure) qual func code around builtins)
      { s with heap := pushCells (s.heap.push { cls := .type (if around.isSome then "dict" else "frame"), data := .dict #[] }) scope.names }) :
    wpAny M A (newFunctionEnv scope globals closure [] qual func code around builtins) Q E s := by
  simp only [newFunctionEnv]
  refine wpAny_bind (wpAny_alloc ?_)
  refine wpAny_bind (wpAny_layCells _ (fun name kind cells => by cases hkc : kind == NameKind.cell <;> simp [hkc]) _ _ _ _ ?_)
  rw [List.forIn_nil]
  refine wpAny_bind (wpAny_pure (wpAny_pure ?_))
  have e : (s.heap.push ({ cls := .type (if around.isSome then "dict" else "frame"), data := .dict #[] } : Obj)).objs.size = s.heap.objs.size + 1 := Heap.size_push ..
  rw [← e] at h
  cases around <;> exact h
end
end L2
set_option Elab.async false
set_option linter.all false
set_option maxRecDepth 100000
namespace L2
open PySem PySem.Spec PyProof.Rows
structure BlkScope (X : Cx) (own cap : List Str) (capI : List Nat) (scope : Scope) : Prop where
  kind : scope.kind = .function
  nd : (scope.names.map (·.1)).Nodup
  caps : Caps X capI cap
  fre : ∀ y ∈ scope.names, y.2 = .free → y.1 ∈ cap
  cfr : ∀ x ∈ cap, (x, NameKind.free) ∈ scope.names
theorem nodup_keys {x : Str} {k k' : NameKind} : ∀ {names : List (Str × NameKind)}, (names.map (·.1)).Nodup → (x, k) ∈ names → (x, k') ∈ names → k = k'
  | [], _, h, _ => by simp at h
  | p :: r, nd, h1, h2 => by
    rw [List.map_cons, List.nodup_cons] at nd
    rcases List.mem_cons.mp h1 with e1 | h1 <;> rcases List.mem_cons.mp h2 with e2 | h2
    · rw [← e2] at e1; exact (Prod.mk.inj e1).2
    · exact absurd (by rw [← e1]; exact List.mem_map.mpr ⟨_, h2, rfl⟩) nd.1
    · exact absurd (by rw [← e2]; exact List.mem_map.mpr ⟨_, h1, rfl⟩) nd.1
    · exact nodup_keys nd.2 h1 h2
theorem lookup_of_mem {α : Type} {x : Str} {k : α} : ∀ {names : List (Str × α)}, (names.map (·.1)).Nodup → (x, k) ∈ names → names.lookup x = some k
  | [], _, h => by simp at h
  | (n, k') :: r, nd, h => by
    rw [List.map_cons, List.nodup_cons] at nd
    rw [List.lookup_cons]
    rcases List.mem_cons.mp h with e | hr
    · cases e; simp
    · have hne : x ≠ n := by
        intro e
        subst e
        exact nd.1 (List.mem_map.mpr ⟨_, hr, rfl⟩)
      have : (x == n) = false := by simpa using hne
      rw [this]
      exact lookup_of_mem nd.2 hr
theorem relabel_mem {scope : Scope} {env : Env} {x : Str} {k : NameKind} (h : (x, k) ∈ (relabel scope env).names) : (x, k) ∈ scope.names ∨ (k = .cell ∧ (x, NameKind.free) ∈ scope.names) := by
  unfold relabel at h
  obtain ⟨⟨n, k'⟩, hm, e⟩ := List.mem_map.mp h
  dsimp only at e
  split at e
  · rename_i hc
    cases e
    have hk : k' = NameKind.free := by
      simp only [Bool.and_eq_true, beq_iff_eq] at hc
      exact hc.1.1
    subst hk
    exact .inr ⟨rfl, hm⟩
  · cases e; exact .inl hm
theorem relabel_keys {scope : Scope} {env : Env} : (relabel scope env).names.map (·.1) = scope.names.map (·.1) := by
  unfold relabel
  rw [List.map_map]
  apply List.map_congr_left
  rintro ⟨n, k⟩ _
  show (if _ then (n, NameKind.cell) else (n, k)).1 = n
  split <;> rfl
theorem relabel_free {scope : Scope} {env : Env} {x : Str} (nd : (scope.names.map (·.1)).Nodup) (h : (x, NameKind.free) ∈ scope.names) : (relabel scope env).names.lookup x = some .cell ∨ (relabel scope env).names.lookup x = some .free := by
  have nd' : ((relabel scope env).names.map (·.1)).Nodup := by rw [relabel_keys]; exact nd
  by_cases hc : (NameKind.free == NameKind.free && env.scope.kind == .function && env.kindOf x == some .cell) = true
  · left
    refine lookup_of_mem nd' ?_
    unfold relabel
    refine List.mem_map.mpr ⟨(x, NameKind.free), h, ?_⟩
    dsimp only
    rw [if_pos hc]
  · right
    refine lookup_of_mem nd' ?_
    unfold relabel
    refine List.mem_map.mpr ⟨(x, NameKind.free), h, ?_⟩
    dsimp only
    rw [if_neg hc]
def cxComp (X : Cx) (own cap : List Str) (scope : Scope) (cs : List (Str × Addr)) (C : Addr) (fp : List Addr) (s2 : Shared) (H2 : Hp) : Cx where
  prog := X.prog
  w := X.w
  K := X.K
  mg := X.mg
  base := X.base
  A := X.A
  N := own ++ cap
  s₀ := s2
  H₀ := H2
  env := compEnvC scope cs C X.env
  outer := X.stack
  stack := X.stack
  ex := fp
  fn := fun x => own.contains x
  calm := X.calm
  pn := []
  xe := fun _ _ => False
def blkSt (own : List Str) (σ : St) (capI : List Nat) : St := List.replicate own.length none ++ capSt σ capI
section
variable {X : Cx} {pins : List (Addr × Obj)} {σ : St} {H : Hp} {s : Shared} {own cap : List Str} {capI : List Nat} {scope : Scope}
theorem BlkScope.cells (B : BlkScope X own cap capI scope) (I : Inv X pins σ H s) : ∀ y ∈ scope.names, y.2 = .free → ∃ c, X.env.cells.lookup y.1 = some c := fun y hy e => by
  have hm := B.fre y hy e
  obtain ⟨j, hj⟩ := List.getElem?_of_mem hm
  have hlt : j < capI.length := by rw [B.caps.length]; exact (List.getElem?_eq_some_iff.mp hj).1
  obtain ⟨x, e1, _, k⟩ := B.caps.get (j := j) (i := capI[j]) (by simp [hlt])
  rw [hj] at e1
  cases e1
  exact I.ok.has _ k
theorem Inv.comp {fp : List Addr} {h0 h1 : Heap} {C : Addr} {tk : Nat} (I : Inv X pins σ H s) (B : BlkScope X own cap capI scope) (hown : ∀ x ∈ own, (x, NameKind.free) ∉ scope.names) (hf : ∀ b ∈ fp, FpOk X pins H b) (ho : ∀ b ∈ fp, ∃ o, s.heap.get? b = some o)
    (hk0 : ∀ b o, s.heap.get? b = some o → h0.get? b = some o) (hsz : s.heap.objs.size ≤ h0.objs.size) (hC : C = h0.objs.size) (h1e : h1 = pushCells (h0.push { cls := .type "dict", data := .dict #[] }) scope.names) :
    Inv (cxComp X own cap scope (cellsFrom (C + 1) scope.names (cloOf X.env scope.names [])) C fp s H) [] (blkSt own σ capI) H { s with heap := h1, toks := tk } := by
  have hCs : s.heap.objs.size ≤ C := by rw [hC]; exact hsz
  have hpush : (h0.push ({ cls := .type "dict", data := .dict #[] } : Obj)).objs.size = C + 1 := by rw [hC]; exact Heap.size_push ..
  have keep1 : ∀ b o, h0.get? b = some o → h1.get? b = some o := fun b o e => by rw [h1e]; exact pushCells_keeps _ _ _ _ (Heap.get?_push_of_some _ e)
  have keep : ∀ b o, s.heap.get? b = some o → h1.get? b = some o := fun b o e => keep1 b o (hk0 b o e)
  have hCo : h1.get? C = some { cls := .type "dict", data := .dict #[] } := by
    rw [h1e]
    refine pushCells_keeps _ _ _ _ ?_
    rw [hC]; exact Heap.get?_push_size _ rfl
  have clo_old : ∀ p ∈ cloOf X.env scope.names [], X.env.cells.lookup p.1 = some p.2 := fun p hp => (cloOf_mem hp).elim (fun z => by simp at z) id
  have old_lt : ∀ x c, X.env.cells.lookup x = some c → c < s.heap.objs.size := fun x c e => let ⟨v, q⟩ := I.cell x c e; q.lt
  have co0 : CO (C + 1) (h0.push { cls := .type "dict", data := .dict #[] }) (cloOf X.env scope.names []) := by
    refine ⟨fun p hp => ?_, fun p hp hlo => ?_, fun p hp q hq e hlo => ?_⟩
    · rw [hpush]; exact Nat.lt_succ_of_lt (Nat.lt_of_lt_of_le (old_lt _ _ (clo_old p hp)) hCs)
    · exact absurd (Nat.lt_of_lt_of_le (old_lt _ _ (clo_old p hp)) (Nat.le_trans hCs (Nat.le_trans (Nat.le_succ _) hlo))) (Nat.lt_irrefl _)
    · exact absurd (Nat.lt_of_lt_of_le (old_lt _ _ (clo_old p hp)) (Nat.le_trans hCs (Nat.le_trans (Nat.le_succ _) hlo))) (Nat.lt_irrefl _)
  have co := CO.go scope.names _ _ co0 (by rw [hpush]; exact Nat.le_refl _)
  rw [hpush, ← h1e] at co
  -- a cell of the block: young, or one of the frame around
  have csm : ∀ x c, (cellsFrom (C + 1) scope.names (cloOf X.env scope.names [])).lookup x = some c → (X.env.cells.lookup x = some c ∧ c < s.heap.objs.size) ∨ (C + 1 ≤ c ∧ h1.IsCell c none) := fun x c e => by
    have hm := PySem.mem_of_lookup e
    rcases cf_mem hm with z | z
    · have q := clo_old _ z
      exact .inl ⟨q, old_lt _ _ q⟩
    · exact .inr ⟨z, co.em _ hm z⟩
  have fresh : ∀ b, s.heap.objs.size ≤ b → H b = none := fun b hb => I.hok.fresh hb
  have eout : (cxComp X own cap scope (cellsFrom (C + 1) scope.names (cloOf X.env scope.names [])) C fp s H).fs = frs X.stack := rfl
  refine ⟨⟨I.ok.mod, ?_, I.ok.glob, I.ok.blt, hCs, ?_, ?_, ?_, I.ok.hd, I.ok.frames, .inl rfl, ?_, I.bs, Nat.le_trans I.ok.bsz I.sz, ?_, ?_, I.stack, I.stkFree⟩, rfl, I.bare.again, Un.kept keep, ?_, ?_, fresh C hCs, ?_, ?_, I.hok.kept keep, ?_⟩
  · exact B.kind
  · -- inj
    intro x y c e1 e2
    have e1' : (cellsFrom (C + 1) scope.names (cloOf X.env scope.names [])).lookup x = some c := e1
    have e2' : (cellsFrom (C + 1) scope.names (cloOf X.env scope.names [])).lookup y = some c := e2
    rcases csm x c e1' with ⟨z1, l1⟩ | ⟨z1, _⟩
    · rcases csm y c e2' with ⟨z2, _⟩ | ⟨z2, _⟩
      · exact I.ok.inj x y c z1 z2
      · exact absurd (Nat.lt_of_lt_of_le l1 (Nat.le_trans hCs (Nat.le_trans (Nat.le_succ _) z2))) (Nat.lt_irrefl _)
    · exact co.ap _ (PySem.mem_of_lookup e1') _ (PySem.mem_of_lookup e2') rfl z1
  · -- has
    intro x hx
    have hx' : (relabel scope X.env).names.lookup x = some .cell ∨ (relabel scope X.env).names.lookup x = some .free := hx
    have hm : (x, NameKind.cell) ∈ scope.names ∨ (x, NameKind.free) ∈ scope.names := by
      rcases hx' with e | e
      · rcases relabel_mem (PySem.mem_of_lookup e) with q | q
        · exact .inl q
        · exact .inr q.2
      · rcases relabel_mem (PySem.mem_of_lookup e) with q | q
        · exact .inr q
        · cases q.1
    rcases hm with q | q
    · exact Option.isSome_iff_exists.mp (PySem.W.cellsFrom_some scope.names (C + 1) _ (.inl (lookup_of_mem B.nd q)))
    · obtain ⟨c, hc⟩ := B.cells I _ q rfl
      exact Option.isSome_iff_exists.mp (PySem.W.cellsFrom_some scope.names (C + 1) _ (.inr (by rw [cloOf_in hc (.inl q)]; rfl)))
  · -- cab
    intro x c hx e
    have e' : (cellsFrom (C + 1) scope.names (cloOf X.env scope.names [])).lookup x = some c := e
    have hxo : x ∈ own := by simpa [cxComp] using hx
    rcases cf_mem (PySem.mem_of_lookup e') with z | z
    · exfalso
      have nf := hown x hxo
      have : (cloOf X.env scope.names []).lookup x = none := by
        rw [cloOf_out fun k hk => by rintro rfl; exact nf hk]; rfl
      -- x is in the closure list but lookup is none
      have hl : (cellsFrom (C + 1) scope.names (cloOf X.env scope.names [])).lookup x = some c := e'
      have q : ∀ (l : List (Str × Addr)), (x, c) ∈ l → l.lookup x ≠ none := by
        intro l
        induction l with
        | nil => intro h; simp at h
        | cons p r ih =>
          intro h
          obtain ⟨n, d⟩ := p
          rw [List.lookup_cons]
          by_cases hn : (x == n) = true
          · rw [hn]; simp
          · have hn' : (x == n) = false := by simpa using hn
            rw [hn']
            rcases List.mem_cons.mp h with e | h
            · cases e; simp at hn'
            · exact ih h
      exact q _ z this
    · exact Nat.le_trans hCs (Nat.le_trans (Nat.le_succ _) z)
  · -- exf
    intro b hb
    obtain ⟨o, hbo⟩ := ho b hb
    have hlt := Heap.lt_size hbo
    refine ⟨Nat.ne_of_lt (Nat.lt_of_lt_of_le hlt hCs), fun x c e => ?_⟩
    rcases csm x c e with ⟨z, _⟩ | ⟨z, _⟩
    · exact (hf b hb).2.2.2.2.1 x c z
    · exact Nat.ne_of_gt (Nat.lt_of_lt_of_le hlt (Nat.le_trans hCs (Nat.le_trans (Nat.le_succ _) z)))
  · -- noex
    intro b o e hb
    rcases (hf b hb).2.2.2.1 with z | z
    · exact I.ok.noex b o e z
    · exact absurd (Nat.lt_of_lt_of_le (Heap.lt_size e) (Nat.le_trans I.ok.bsz z)) (Nat.lt_irrefl _)
  · -- exfs
    intro b hb hz
    rcases List.mem_cons.mp (I.stkSub b hz) with z | z
    · exact (hf b hb).2.1 z
    · exact (hf b hb).2.2.1 z
  · -- loc
    obtain ⟨m, hn, hl⟩ := I.loc
    refine ⟨fun _ => none, ⟨_, #[], 0, hCo, rfl, by intro e he; simp at he, fun _ => rfl⟩, fun i x v e1 e2 hv => ?_⟩
    have e2' : (blkSt own σ capI)[i]? = some (some v) := e2
    have e1' : (own ++ cap)[i]? = some x := e1
    unfold blkSt at e2'
    by_cases hi : i < own.length
    · rw [List.getElem?_append_left (by simpa using hi), List.getElem?_replicate] at e2'
      split at e2' <;> cases e2'
    · rw [List.getElem?_append_right (by simpa using hi)] at e2'
      rw [List.getElem?_append_right (by simpa using hi)] at e1'
      rw [List.length_replicate] at e2'
      obtain ⟨i0, q1, q2⟩ := capSt_get e2'
      obtain ⟨y, q3, q4, q5⟩ := B.caps.get q1
      rw [e1'] at q3
      cases q3
      have hxf : (x, NameKind.free) ∈ scope.names := B.cfr x (List.mem_of_getElem? e1')
      have vis : Vis X.env.scope x := by
        rcases q5 with q5 | q5
        · exact .inr (.inl q5)
        · exact .inr (.inr q5)
      obtain ⟨u, ru, lk⟩ := hl i0 x v q4 q2 vis
      refine ⟨u, ru, .inr ⟨relabel_free B.nd hxf, ?_⟩⟩
      rcases lk with ⟨k, _⟩ | ⟨_, c, ec, hc⟩
      · rcases q5 with q5 | q5 <;> rw [k] at q5 <;> cases q5
      · refine ⟨c, ?_, hc.keeps keep⟩
        show (cellsFrom (C + 1) scope.names (cloOf X.env scope.names [])).lookup x = some c
        rw [cf_out fun k hk => ?_]
        · exact cloOf_in ec (.inl hxf)
        · rintro rfl
          cases nodup_keys B.nd hk hxf
  · -- cell
    intro x c e
    rcases csm x c e with ⟨z, _⟩ | ⟨_, z⟩
    · obtain ⟨v, q⟩ := I.cell x c z
      exact ⟨v, q.keeps keep⟩
    · exact ⟨none, z⟩
  · -- freeC
    intro x c e
    rcases csm x c e with ⟨z, _⟩ | ⟨z, _⟩
    · exact I.freeC x c z
    · exact fresh c (Nat.le_trans hCs (Nat.le_trans (Nat.le_succ _) z))
  · intro p hp
    exact absurd (show p ∈ ([] : List (Addr × Obj)) from hp) (by simp)
  · show (blkSt own σ capI).length = (own ++ cap).length
    unfold blkSt capSt
    rw [List.length_append, List.length_append, List.length_replicate, List.length_map, B.caps.length]
end
end L2
set_option Elab.async false
set_option linter.all false
set_option maxRecDepth 100000
namespace L2
open PySem PySem.Spec PyProof.Rows
section
variable {prog : Program} {w : World} {A : Around} {R : Result → Shared → Prop} {s : Shared}
theorem comp_loop {elt target iter : Expr} {ifs : List Expr} {scope : Scope} {pos : Pos} {it acc : Value} {env : Env} {E' : Value → Shared → Prop} (I : Nat → Shared → Prop)
    (hE : ∀ e s', E' e s' → notedBy (model prog w) A env (fun e s' => R (.error e) s') e s')
    (turn : ∀ n s, I n s → wpAny (model prog w) A (pyNext it) (fun r s₁ => match r with
      | none => R (.ok .next) s₁
      | some v => wpAny (model prog w) A (letOwnedTupleGo target it v) (fun _ s₂ => wpAny (model prog w) A (assign target env v) (fun _ s₃ =>
          wpAny (model prog w) A (forIn ifs true fun c r => if r = true then do let ok ← isTrue c env (eval c env); pure (ForInStep.yield ok) else pure (ForInStep.yield r)) (fun ok s₄ =>
            if ok = true then wpAny (model prog w) A (eval elt env) (fun x s₅ =>
              wpAny (model prog w) A (call (.builtin "list.append") [acc, x]) (fun _ s₆ => ∃ m, m < n ∧ I m s₆) E' s₅) E' s₄
            else ∃ m, m < n ∧ I m s₄) E' s₃) E' s₂) E' s₁) E' s)
    (n : Nat) (h : I n s) :
    codeAny (model prog w) A (.compLoop (.ListComp elt [⟨target, iter, ifs, 0⟩] scope pos) 0 it acc env) R s := by
  refine codeAny_loop rfl I (fun n s hI => ?_) n h
  show wpAny _ A ((compTurn (.ListComp elt [⟨target, iter, ifs, 0⟩] scope pos) 0 it acc env).onRaise (fun x => do noteFrame x env; theTreesLotGoes x)) _ _ s
  refine wpAny_noted ?_
  rw [compTurn_list]
  refine wpAny_bind (wpAny_standAt (wpAny_bind (wpAny_mono (turn n s hI) (fun r s₁ h₁ => ?_) hE)))
  cases r with
  | none => exact wpAny_pure h₁
  | some v =>
    refine wpAny_bind (wpAny_mono h₁ (fun _ s₂ h₂ => ?_) hE)
    refine wpAny_bind (wpAny_mono h₂ (fun _ s₂ h₂ => wpAny_bind (wpAny_mono h₂ (fun ok s₃ h₃ => ?_) hE)) hE)
    cases ok with
    | false => exact wpAny_pure ⟨rfl, h₃⟩
    | true =>
      exact wpAny_bind (wpAny_bind (wpAny_mono h₃ (fun x s₄ h₄ => wpAny_bind (wpAny_mono h₄ (fun _ s₅ h₅ => wpAny_pure (wpAny_pure ⟨rfl, h₅⟩)) hE)) hE))
end
def PIf (X : Cx) (ifs : List Expr) (t : TT) : Prop :=
  ∀ (pins : List (Addr × Obj)) (s : Shared) (σ : St) (H : Hp) (Q : Bool → Hp → Prop), Inv X pins σ H s → t σ H Q →
    wpAny (model X.prog X.w) X.A (forIn ifs true fun c r => if r = true then do let ok ← isTrue c X.env (eval c X.env); pure (ForInStep.yield ok) else pure (ForInStep.yield r)) (TP X pins σ Q) X.xe s
def tYes : TT := fun _ H Q => Q true H
section
variable {X : Cx} {c : Expr} {t : TT}
theorem pif_nil : PIf X [] tYes := fun _ _ _ H _ I h => wpAny_tests_nil ⟨H, I, h⟩
theorem pif_one (h : PT X c t) : PIf X [c] t := fun pins s σ H Q I hq => wpAny_tests_one (h pins s σ H Q I hq)
end
def Fits (a b : St) : Prop := b.length = a.length ∧ ∀ (i : Nat) v, a[i]? = some (some v) → b[i]? = some (some v)
def tLC (own : List Str) (capI : List Nat) (wi : TI) (g : TG) (tt : TT) (te : TE) : TE := fun σ H Q => wi σ H fun J H1 => ∃ W : Nat → Nat → List V → Hp → Prop, (∃ m, W 0 m [] H1) ∧ ∀ i m ys H, W i m ys H →
  (J.stop i H ∧ ∀ l, H l = none → Q (.ref l) (upd H l (.lst ys))) ∨
  (J.go i H ∧ ys.length < sizeLine ∧ ∀ x H', J.yld i H x H' → g x (blkSt own σ capI) H' fun σ2 H2 => Fits (blkSt own σ capI) σ2 ∧ tt σ2 H2 fun b H3 =>
    if b = true then te σ2 H3 (fun y H4 => ∃ m', m' < m ∧ W (i + 1) m' (ys ++ [y]) H4) else ∃ m', m' < m ∧ W (i + 1) m' ys H3)
abbrev accObj (us : List Value) (k : Nat) : Obj := { cls := .type "list", data := .seq us.toArray k }
section
variable {X : Cx} {tg iter elt : Expr} {ifs : List Expr} {wi : TI} {g : TG} {tt : TT} {te : TE} {own cap : List Str} {capI : List Nat} {scope : Scope} {pos : Pos}
theorem Inv.compEnd {X' : Cx} {pins pins' : List (Addr × Obj)} {σ σ' : St} {H H2 : Hp} {s2 s1 : Shared} {fp : List Addr} {l C : Addr} {ys : List V} {us : List Value} {k : Nat} {h' : Heap}
    (I2 : Inv X pins σ H2 s2) (f2 : ∀ b ∈ fp, FpOk X pins H2 b) (hP : X'.prog = X.prog) (hw : X'.w = X.w) (hfs : X'.fs = frs X.stack) (hex : X'.ex = fp) (hs : X'.s₀ = s2) (hH : X'.H₀ = H2) (hC : X'.env.locals = C)
    (I : Inv X' pins' σ' H s1) (hl : s2.heap.objs.size ≤ l) (hlC : l ≠ C) (hCs : s2.heap.objs.size ≤ C) (ho : s1.heap.get? l = some (accObj us k)) (hn : H l = none) (hv : Vals ys us) (hz : ys.length ≤ sizeLine)
    (sb : Heap.SameBut C s1.heap h') : Inv X pins σ (upd H l (.lst ys)) { s1 with heap := h' } := by
  subst hs hH hC
  have ne2 : ∀ b o, X'.s₀.heap.get? b = some o → b ≠ X'.env.locals ∧ b ≠ l := fun b o e => ⟨Nat.ne_of_lt (Nat.lt_of_lt_of_le (Heap.lt_size e) hCs), Nat.ne_of_lt (Nat.lt_of_lt_of_le (Heap.lt_size e) hl)⟩
  have ub := I.base
  rw [hfs, hex] at ub
  have nl : ∀ b u, H b = some u → b ≠ l := fun b u e z => by rw [z, hn] at e; cases e
  have nC : ∀ b u, H b = some u → b ≠ X'.env.locals := fun b u e z => by rw [z, I.free] at e; cases e
  refine I2.call' (ch := fp) (s' := { s1 with heap := h' }) I.os ⟨fun b o e n hb hx => ?_, fun b o e n hb hx => ?_, fun b o e n hx => ?_, fun b o e hx => ?_, fun b xs e => ?_, fun b o u e => ?_, fun b ps e => ?_⟩ ?_ I.bare fun b hb => ?_
  · exact (sb.2 b (ne2 b o e).1).trans (ub.keep b o e n hb hx)
  · obtain ⟨sl, q⟩ := ub.slot b o e n hb hx
    exact ⟨sl, (sb.2 b (ne2 b o e).1).trans q⟩
  · rw [upd_ne (ne2 b o e).2]
    exact ub.free b o e n hx
  · obtain ⟨o', q⟩ := ub.there b o e hx
    exact ⟨o', (sb.2 b (ne2 b o e).1).trans q⟩
  · have q := ub.tups b xs e
    rw [upd_ne (nl b _ q)]; exact q
  · have q := ub.frzs b o u e
    rw [upd_ne (nl b _ q)]; exact q
  · obtain ⟨more, q⟩ := ub.tbls b ps e
    exact ⟨more, by rw [upd_ne (nl b _ q)]; exact q⟩
  · intro a o e
    have hok := I.hok
    rw [hP, hw] at hok
    by_cases ha : a = l
    · subst ha
      rw [upd_same] at e
      cases e
      exact ⟨hz, us, k, hv, (sb.2 a hlC).trans ho⟩
    · rw [upd_ne ha] at e
      refine (hok a o e).stay (fun b u hb q => (sb.2 b ?_).trans q) (fun b q => by rw [upd_ne (nl b _ q)]; exact q) fun b xs q => by rw [upd_ne (nl b _ q)]; exact q
      rcases hb with z | z
      · rw [z]; exact nC a o e
      · exact nC b _ z
  · obtain ⟨q0, q1, q2, q3, q4, q5⟩ := f2 b hb
    exact ⟨q3.imp id fun z => z, q1, q4, q5⟩
theorem pe_lc (hc : X.calm = true) (B : BlkScope X own cap capI scope) (hown : ∀ x ∈ own, (x, NameKind.free) ∉ scope.names) (hi : PI X tg iter wi)
    (hg : ∀ cs C fp s2 H2, PG (cxComp X own cap scope cs C fp s2 H2) tg g) (ht : ∀ cs C fp s2 H2, PIf (cxComp X own cap scope cs C fp s2 H2) ifs tt) (he : ∀ cs C fp s2 H2, PE (cxComp X own cap scope cs C fp s2 H2) elt te)
    (hs : ∀ x, foldedSetIterable iter X.env x = pure x := by intro _; rfl) : PE X (.ListComp elt [⟨tg, iter, ifs, 0⟩] scope pos) (tLC own capI wi g tt te) := by
  intro pins s σ H Q I h
  rw [eval_ListComp]
  refine wpAny_comprehension_free (use := none) (cl := cloOf X.env scope.names []) rfl hs (closureFor_eq (B.cells I)) B.kind (fun y hy e => lookup_of_mem B.nd (by rw [← e]; exact hy)) ?_
  refine thn (hi pins s σ H _ I h) fun v s1 h1 => thn h1 fun itv s2 h2 => ?_
  obtain ⟨it, fp, tn, J, H2, e, I2, T, st2, f2, W, ⟨m0, w0⟩, turn⟩ := h2
  subst e
  refine wpAny_newObj_type (wpAny_newEnv0 ?_)
  dsimp only
  -- the names of things: l the new list, C the frame, h1 the heap at the block's start
  generalize hl : s2.heap.objs.size = l
  generalize hh0 : s2.heap.push { cls := .type "list", dict := none, data := .seq ([] : List Value).toArray } = h0
  have hsz0 : h0.objs.size = l + 1 := by rw [← hh0, Heap.size_push, hl]
  generalize hC : h0.objs.size = C
  generalize hh1 : pushCells (h0.push { cls := .type (if (some X.env).isSome = true then "dict" else "frame"), data := .dict #[] }) scope.names = h1
  have hl0 : h0.get? l = some (accObj [] 0) := by rw [← hh0, ← hl]; exact Heap.get?_push_size _ rfl
  have hk0 : ∀ b o, s2.heap.get? b = some o → h0.get? b = some o := fun b o e => by rw [← hh0]; exact Heap.get?_push_of_some _ e
  have hlC : l ≠ C := by rw [← hC, hsz0]; exact Nat.ne_of_lt (Nat.lt_succ_self _)
  have hls : s2.heap.objs.size ≤ l := Nat.le_of_eq hl
  have hCs : s2.heap.objs.size ≤ C := by rw [← hC, hsz0, hl]; exact Nat.le_succ _
  have ho2 : ∀ b ∈ fp, ∃ o, s2.heap.get? b = some o := fun b hb => let ⟨o, e, _⟩ := T.obj 0 _ st2 b hb; ⟨o, e⟩
  have hfl : ∀ b ∈ fp, b ≠ l ∧ b ≠ C := fun b hb => let ⟨o, e⟩ := ho2 b hb; ⟨Nat.ne_of_lt (Nat.lt_of_lt_of_le (Heap.lt_size e) hls), Nat.ne_of_lt (Nat.lt_of_lt_of_le (Heap.lt_size e) hCs)⟩
  have hl1 : h1.get? l = some (accObj [] 0) := by rw [← hh1]; exact pushCells_keeps _ _ _ _ (Heap.get?_push_of_some _ hl0)
  have keep1 : ∀ b o, s2.heap.get? b = some o → h1.get? b = some o := fun b o e => by rw [← hh1]; exact pushCells_keeps _ _ _ _ (Heap.get?_push_of_some _ (hk0 b o e))
  generalize hcs : cellsFrom (C + 1) scope.names (cloOf X.env scope.names []) = cs
  have I0 : Inv (cxComp X own cap scope cs C fp s2 H2) [] (blkSt own σ capI) H2 { s2 with heap := h1 } := by
    have q := I2.comp (tk := s2.toks) B hown f2 ho2 hk0 (by rw [hsz0, hl]; exact Nat.le_succ _) hC.symm hh1.symm
    rw [hcs] at q
    exact q
  have henv : (newEnv scope C X.env.globals cs X.env.qual none .none (some X.env) builtinsNs) = { compEnvC scope cs C X.env with scope := scope } := rfl
  have henv2 : ({ newEnv scope C X.env.globals cs X.env.qual none .none (some X.env) builtinsNs with scope := relabel scope X.env } : Env) = (cxComp X own cap scope cs C fp s2 H2).env := rfl
  generalize hX' : cxComp X own cap scope cs C fp s2 H2 = X' at I0 henv2
  have eP : X'.prog = X.prog := by rw [← hX']; rfl
  have eW : X'.w = X.w := by rw [← hX']; rfl
  have eK : X'.K = X.K := by rw [← hX']; rfl
  have eA : X'.A = X.A := by rw [← hX']; rfl
  have eFs : X'.fs = frs X.stack := by rw [← hX']; rfl
  have eEx : X'.ex = fp := by rw [← hX']; rfl
  have eS : X'.s₀ = s2 := by rw [← hX']; rfl
  have eH : X'.H₀ = H2 := by rw [← hX']; rfl
  have eL : X'.env.locals = C := by rw [← hX']; rfl
  have eC : X'.calm = true := by rw [← hX']; exact hc
  have eX : X'.xe = fun _ _ => False := by rw [← hX']; rfl
  have ePn : X'.pn = [] := by rw [← hX']; rfl
  have hg' : PG X' tg g := by rw [← hX']; exact hg cs C fp s2 H2
  have ht' : PIf X' ifs tt := by rw [← hX']; exact ht cs C fp s2 H2
  have he' : PE X' elt te := by rw [← hX']; exact he cs C fp s2 H2
  -- the iterator's records, seen from the block; P: records pinned besides
  have stat : ∀ {H' : Hp} {P : List (Addr × Obj)}, X'.Ok → (∀ b ∈ fp, H' b = none) → (∀ p ∈ P, p.1 = l) → ∀ b ∈ fp, FpOk X' P H' b := fun {H' P} ok hn hP b hb => by
    refine ⟨hn b hb, ?_, ?_, .inl (by rw [eEx]; exact hb), ?_, fun p hp => ?_⟩
    · exact (ok.exf b (by rw [eEx]; exact hb)).1
    · exact ok.exfs b (by rw [eEx]; exact hb)
    · exact (ok.exf b (by rw [eEx]; exact hb)).2
    · rw [ePn, List.nil_append] at hp
      rw [hP p hp]
      exact Ne.symm (hfl b hb).1
  have lfs : X'.Ok → l ∉ X'.fs := fun ok hz => by
    rw [eFs] at hz
    exact (Inv.nofs (X := X) I2 hls) ((List.mem_cons.mp (I2.stkSub l hz)).elim (fun z => absurd I2.lt (by rw [← z, hl]; exact Nat.lt_irrefl _)) id)
  have pinL : ∀ {σ' : St} {H' : Hp} {s' : Shared} {us : List Value} {k : Nat}, Inv X' [] σ' H' s' → s'.heap.get? l = some (accObj us k) → H' l = none → Inv X' [(l, accObj us k)] σ' H' s' := fun {σ' H' s' us k} I' e n =>
    I'.pins_of fun p hp => by
      obtain rfl : p = (l, accObj us k) := by simpa using hp
      exact ⟨e, n, by rw [eL]; exact hlC, lfs I'.ok, fun v z => by cases z⟩
  have loop : ∀ s3 : Shared, s3 = { s2 with heap := h1 } → codeAny (model X.prog X.w) X.A (.compLoop (.ListComp elt [⟨tg, iter, ifs, 0⟩] scope pos) 0 (.ref it) (.ref l) X'.env) (compPost (model X.prog X.w) X.A X.xe none (EP X pins σ Q) (.ref l) C) s3 := by
    rintro s3 rfl
    refine comp_loop (E' := fun _ _ => False) (fun n s' => ∃ i ys us k H', Inv X' [] (blkSt own σ capI) H' s' ∧ tn i s'.heap ∧ (∀ b ∈ fp, H' b = none) ∧ W i n ys H' ∧ Vals ys us ∧ s'.heap.get? l = some (accObj us k) ∧ H' l = none ∧ ys.length ≤ sizeLine) (fun _ _ z => z.elim) ?_ m0
      ⟨0, [], [], 0, H2, I0, T.keep _ _ _ st2 fun b _ o e => keep1 b o e, fun b hb => (f2 b hb).1, w0, .nil, hl1, I2.hok.fresh hls, Nat.zero_le _⟩
    rintro n s3 ⟨i, ys, us, k, H3, I3, st3, fr3, w3, v3, o3, n3, z3⟩
    have I3p := pinL I3 o3 n3
    have P1 : ∀ p ∈ [(l, accObj us k)], p.1 = l := fun p hp => by
      obtain rfl : p = (l, accObj us k) := by simpa using hp
      rfl
    rcases turn i n ys H3 w3 with ⟨stop, qn⟩ | ⟨go, hlt, step⟩
    · have q := T.done X' eP eW eK eC i _ s3 _ H3 (fun _ _ => False) I3p (stat I3.ok fr3 P1) st3 stop
      rw [eA] at q
      refine wpAny_mono q (fun r s4 ⟨hr, I4⟩ => ?_) fun _ _ z => z
      subst hr
      have pl := I4.pin (l, accObj us k) (by simp)
      obtain ⟨m4, hn4, _⟩ := I4.loc
      rw [eL] at hn4
      refine ⟨m4, hn4, fun h' sb => ⟨.ref l, upd H3 l (.lst ys), ?_, rfl, qn l n3⟩⟩
      exact I2.compEnd f2 eP eW eFs eEx eS eH eL I4 hls hlC hCs pl.1 n3 v3 z3 sb
    · have q := T.item X' eP eW eK eC i _ s3 _ H3 (fun _ _ => False) I3p (stat I3.ok fr3 P1) st3 go
      rw [eA] at q
      refine wpAny_mono q (fun r s4 ⟨u, hr, h4⟩ => ?_) fun _ _ z => z
      subst hr
      refine wpAny_mono h4 (fun _ s5 ⟨x, H5, I5, r5, y5, st5, fr5⟩ => ?_) fun _ _ z => z
      have I5' := I5.pinned (stat I5.ok fr5 P1) (T.obj _ _ st5)
      have a1 := hg' _ s5 _ H5 x u _ I5' r5 (step x H5 y5)
      rw [eP, eW, eA, eX] at a1
      refine wpAny_mono a1 (fun _ s6 ⟨σ6, H6, I6, ft6, q6⟩ => ?_) fun _ _ z => z
      have a2 := ht' _ s6 σ6 H6 _ I6 q6
      rw [eP, eW, eA, eX] at a2
      refine wpAny_mono a2 (fun ok s7 ⟨H7, I7, q7⟩ => ?_) fun _ _ z => z
      -- behind a turn: the iterator stands, the list is pinned
      have back : ∀ {H8 : Hp} {s8 : Shared}, Inv X' ([(l, accObj us k)] ++ pinsAt fp s5.heap) σ6 H8 s8 → Inv X' [] (blkSt own σ capI) H8 s8 ∧ tn (i + 1) s8.heap ∧ (∀ b ∈ fp, H8 b = none) ∧ s8.heap.get? l = some (accObj us k) ∧ H8 l = none := fun {H8 s8} I8 => by
        have pl := I8.pin (l, accObj us k) (by simp)
        refine ⟨(I8.weak ft6.1.symm ft6.2).pins_of fun p hp => absurd hp (by simp), T.keep _ _ _ st5 fun b hb o e => ?_, fun b hb => ?_, pl.1, pl.2.1⟩
        · exact (I8.pin (b, o) (List.mem_append_right _ (List.mem_append_right _ (mem_pinsAt hb e)))).1
        · obtain ⟨o, e, d⟩ := T.obj _ _ st5 b hb
          exact (I8.pin (b, o) (List.mem_append_right _ (List.mem_append_right _ (mem_pinsAt hb e)))).2.1
      cases ok with
      | false =>
        rw [if_neg Bool.false_ne_true]
        rw [if_neg Bool.false_ne_true] at q7
        obtain ⟨m', hm, w7⟩ := q7
        obtain ⟨I8, st8, fr8, o8, n8⟩ := back I7
        exact ⟨m', hm, i + 1, ys, us, k, H7, I8, st8, fr8, w7, v3, o8, n8, z3⟩
      | true =>
        rw [if_pos rfl]
        rw [if_pos rfl] at q7
        have a3 := he' _ s7 σ6 H7 _ I7 q7
        rw [eP, eW, eA, eX] at a3
        refine wpAny_mono a3 (fun yv s8 ⟨y, H8, I8', r8, m', hm, w8⟩ => ?_) fun _ _ z => z
        obtain ⟨I8, st8, fr8, o8, n8⟩ := back I8'
        refine append_at (hsz := by show us.toArray.size ≤ sizeLine; rw [List.size_toArray, ← v3.length]; exact z3) o8 fun h9 sb9 o9 => ?_
        have I9 : Inv X' [] (blkSt own σ capI) H8 { s8 with heap := h9 } := I8.turned (t' := s8.toks) (fun b o hb e => (sb9.2 b hb).trans e) n8 (by rw [eL]; exact hlC) (.inr (by rw [eS]; exact hls)) (fun x c e => by
          rintro rfl
          obtain ⟨v', ho', hd', hd''⟩ := I8.cell x c e
          rw [o8] at hd'
          cases hd'
          cases hd'') (fun p hp => by rw [ePn] at hp; exact absurd hp (by simp))
        refine ⟨m', hm, i + 1, ys ++ [y], us ++ [yv], k + 1, H8, I9, T.keep _ _ _ st8 fun b hb o e => (sb9.2 b (hfl b hb).1).trans e, fr8, w8, v3.append (.cons r8 .nil), ?_, n8, ?_⟩
        · rw [o9]
          simp [accObj]
        · rw [List.length_append]
          exact hlt
  have T0 := T.keep 0 s2.heap h1 st2 fun b _ o e => keep1 b o e
  rw [henv2]
  exact codeAny_compStart_list (loop _ rfl) (T.self X.A 0 _ _ _ T0 (loop _ rfl))
end
end L2
set_option Elab.async false
set_option linter.all false
set_option maxRecDepth 100000
namespace L2
open PySem PySem.Spec PyProof.Rows
def Seg1 (M : Model) (A : Around) (c : Code) (t : Sem Fin) (fs : List Frame) (s : Shared) (Φ : End → Shared → Prop) : Prop :=
  ∀ Γ p, Γ.code = c → Γ.Woken A → ∃ e s', Runs M Γ p t fs s e s' ∧ Φ e s'
section
variable {M : Model} {A : Around} {c : Code} {fs : List Frame} {s : Shared} {Φ : End → Shared → Prop}
theorem Seg1.wrap {α : Type} {m : Sem α} {K : α → Sem Fin} {H : Value → Sem Fin} {gd : Bool → Bool} {lv : List Value → List Value}
    (h : wpAny M (A.over c fs) m (fun a s' => Seg1 M A c (K a) fs s' Φ) (fun x s' => Seg1 M A c (H x) fs s' Φ) s) : Seg1 M A c (m.wrap K H gd lv) fs s Φ := by
  rintro Γ p rfl hΓ
  exact runs_wrap_of_wp K H gd lv m (h (Γ.over fs) p (hΓ.over fs)) (fun a p' s' h' => h' Γ p' rfl hΓ) (fun x p' s' h' => h' Γ p' rfl hΓ)
theorem Seg1.bindWrap {α β : Type} {m : Sem α} {K : α → Sem β} {K' : β → Sem Fin} {H' : Value → Sem Fin} {gd : Bool → Bool} {lv : List Value → List Value}
    (h : wpAny M (A.over c fs) m (fun a s' => Seg1 M A c ((K a).wrap K' H' gd lv) fs s' Φ) (fun x s' => Seg1 M A c (H' x) fs s' Φ) s) : Seg1 M A c ((m >>= K).wrap K' H' gd lv) fs s Φ := by
  rw [Sem.bind_eq_wrap', Sem.wrap_wrap]; exact Seg1.wrap h
theorem Seg1.at {p' : Pos} {k : Unit → Sem Fin} (h : Seg1 M A c (k ()) fs s Φ) : Seg1 M A c (.at p' k) fs s Φ :=
  Seg1.wrap (m := standAt p') (K := k) (H := .raise) (gd := id) (lv := id) (wpAny_standAt h)
theorem Seg1.again {c' : Code} (hq : c'.quiet = true) (hc : Seg1 M A c' (M.den c') fs s Φ) : Seg1 M A c (.pure (.again c')) fs s Φ := by
  rintro Γ p rfl hΓ
  obtain ⟨e, s', hr, he⟩ := hc (Γ.goto c') p rfl (hΓ.goto c')
  exact ⟨e, s', Runs.head (c₁ := c') (fun _ _ x => .again hq x) hr, he⟩
theorem Seg1.end (r : Result) (h : Φ (.ret r) s) : Seg1 M A c (leafOf r) [] s Φ := by
  rintro Γ p rfl _
  exact ⟨.ret r, s, Runs.leaf r, h⟩
theorem Seg1.yield {v : Value} {g : Bool} {l : List Value} {k : Resume → Sem Fin} (hfs : splitAtGen fs = none) (h : ∀ p, Φ (.susp v g l k c p fs) s) : Seg1 M A c (.yield v g l k) fs s Φ := by
  rintro Γ p rfl _
  exact ⟨_, s, Runs.yield' fs hfs, h p⟩
theorem Seg1.mono {t : Sem Fin} {Φ' : End → Shared → Prop} (h : Seg1 M A c t fs s Φ) (k : ∀ e s', Φ e s' → Φ' e s') : Seg1 M A c t fs s Φ' := fun Γ p e hΓ =>
  let ⟨e, s', hr, q⟩ := h Γ p e hΓ; ⟨e, s', hr, k e s' q⟩
def Goes1 (M : Model) (A : Around) (gs : GenState) (s : Shared) (Φ : End → Shared → Prop) : Prop :=
  match gs with
  | .fresh c => Seg1 M A c (M.den c) [] s Φ
  | .suspended k _ c _ fs _ => Seg1 M A c (k (.send .none)) fs s Φ
  | _ => False
theorem resume1 {E : Value → Shared → Prop} {g : Nat} {gs : GenState} {l : List Value} {α : Type} {k : GenResult → Sem α} {Q : α → Shared → Prop} (hg : s.gens[g]? = some gs)
    (hgo : Goes1 M A gs (s.setGen g .running) Φ) (hq : ∀ e s₁, Φ e s₁ → e.quiet = true) (hΦ : ∀ e s₁, Φ e s₁ → wpAny M A (k e.result) Q E (s₁.setGen g e.genState)) :
    wpAny M A (.resume g (.send .none) l k) Q E s := by
  intro Γ p hΓ
  rw [Sem.wp_resume]
  have hB : ∀ c, (Γ.wake c p).Woken A := fun c => hΓ.wake c p
  cases gs with
  | fresh c =>
    obtain ⟨e₁, s₁, hr, he⟩ := hgo (Γ.wake c p) p rfl (hB c)
    exact ⟨_, _, by unfold Wakes; rw [hg]; exact ⟨e₁, s₁, hr, hq e₁ s₁ he, rfl, rfl⟩, hΦ e₁ s₁ he Γ p hΓ⟩
  | suspended k₀ l₀ c₀ p₀ fs₀ cl =>
    obtain ⟨e₁, s₁, hr, he⟩ := hgo (Γ.wake c₀ p) p₀ rfl (hB c₀)
    exact ⟨_, _, by unfold Wakes; rw [hg]; exact ⟨e₁, s₁, hr, hq e₁ s₁ he, rfl, rfl⟩, hΦ e₁ s₁ he Γ p hΓ⟩
  | running => exact hgo.elim
  | finished => exact hgo.elim
end
section
variable {prog : Program} {w : World} {A : Around} {E : Value → Shared → Prop} {s : Shared} {Φ : End → Shared → Prop}
theorem pyNext_gen1 {a : Addr} {g : Nat} {gs : GenState} {Q : Option Value → Shared → Prop} (hh : A.handled = none) (hl : s.heap.NoLimit) (hroom : A.depth < recursionLimit)
    (hg : s.heap.IsGen a g) (hgs : s.gens[g]? = some gs) (hgo : Goes1 (model prog w) A.in1 gs (s.setGen g .running) Φ) (hq : ∀ e s₁, Φ e s₁ → e.quiet = true)
    (hΦ : ∀ e s₁, Φ e s₁ → (∃ v gd l k c p fs, e = .susp v gd l k c p fs ∧ Q (some v) (s₁.setGen g e.genState)) ∨
      (e = .ret (.ok .next) ∧ ∀ h', (∀ b o, s₁.heap.get? b = some o → h'.get? b = some o) → Q none { s₁.setGen g .finished with heap := h' })) :
    wpAny (model prog w) A (pyNext (.ref a)) Q E s := by
  unfold pyNext
  refine wpAny_bind (wpAny_attempt (wpAny_callSpecial?_slot (name := Str.ofString "__next__") hg.typeIs slot_gen_next
    (wpAny_call_entry slot_gen_next hg.typeIs entry_gen_next ?_ (args_gen_next _))))
  show wpAny _ A.in1 (Builtin.Generator.genWake (.ref a) (.send .none)) _ _ s
  unfold Builtin.Generator.genWake
  refine wpAny_bind (wpAny_holding (wpAny_genNumber hg (wpAny_bind (wpAny_genState hgs ?_))))
  cases gs with
  | running => exact hgo.elim
  | finished => exact hgo.elim
  | _ =>
    refine wpAny_bind (wpAny_roomToWake hl hroom ?_)
    show wpAny _ A.in1 (.resume g (.send .none) [] _) _ _ s
    refine resume1 hgs hgo hq fun e s₁ he => ?_
    rcases hΦ e s₁ he with ⟨v, gd, l, k, c, p, fs, rfl, hQ⟩ | ⟨rfl, hP⟩
    · exact wpAny_pure ⟨v, rfl, wpAny_pure hQ⟩
    · show wpAny _ A.in1 (newExc (.type "StopIteration") [] >>= _) _ _ _
      refine wpAny_bind ?_
      simp only [newExc, newTuple]
      refine wpAny_bind (wpAny_newObj_type ?_ (by size_fits))
      refine wpAny_bind (m := firstArgMember _ _) (wpAny_of_eq (a := Value.none) (by first | rfl | (simp only [firstArgMember]; rfl)) ?_)
      refine wpAny_newObj_type ?_ (by size_fits)
      simp only [raiseNew]
      refine wpAny_bind (wpAny_bind (wpAny_handled ?_))
      first | rw [show A.in1.handled = none from hh] | rw [hh]
      refine wpAny_throw ?_
      refine wpAny_bind (wpAny_isInstance (T := "StopIteration") (b := true) ⟨_, Heap.get?_push_size _ rfl, rfl⟩ isSubtype_stop ?_)
      exact wpAny_pure (hP _ fun b o hb => Heap.get?_push_of_some _ (Heap.get?_push_of_some _ hb))
end
end L2
set_option Elab.async false
set_option linter.all false
set_option maxRecDepth 100000
namespace L2
open PySem PySem.Spec PyProof.Rows
def cxGen (X : Cx) (AG : Around) (own cap : List Str) (scope : Scope) (cs : List (Str × Addr)) (C : Addr) (code : Value) (fp : List Addr) (s2 : Shared) (H2 : Hp) : Cx where
  prog := X.prog
  w := X.w
  K := X.K
  mg := X.mg
  base := X.base
  A := AG
  N := own ++ cap
  s₀ := { s2 with gens := s2.gens.push .running }
  H₀ := H2
  env := genEnv scope cs C code builtinsNs X.env
  outer := X.stack
  stack := genEnv scope cs C code builtinsNs X.env :: X.stack
  ex := fp
  fn := fun x => own.contains x
  calm := true
  pn := []
  xe := fun _ _ => False
section
variable {X : Cx} {pins : List (Addr × Obj)} {σ : St} {H : Hp} {s : Shared} {own cap : List Str} {capI : List Nat} {scope : Scope}
theorem Inv.gen {AG : Around} {fp : List Addr} {h1 : Heap} {C : Addr} {tk : Nat} {code : Value} {m : Str → Option Value} (I : Inv X pins σ H s) (B : BlkScope X own cap capI scope) (hown : ∀ x ∈ own, (x, NameKind.free) ∉ scope.names) (hnc : ∀ y ∈ scope.names, y.2 ≠ .cell)
    (hf : ∀ b ∈ fp, FpOk X pins H b) (ho : ∀ b ∈ fp, ∃ o, s.heap.get? b = some o)
    (keep : ∀ b o, s.heap.get? b = some o → h1.get? b = some o) (hCs : s.heap.objs.size ≤ C) (hm : h1.Ns C m) (hAf : AG.frames = some (genEnv scope (cloOf X.env scope.names []) C code builtinsNs X.env :: X.stack)) (hAh : AG.handled = none) :
    Inv (cxGen X AG own cap scope (cloOf X.env scope.names []) C code fp s H) [] (blkSt own σ capI) H { s with heap := h1, toks := tk, gens := s.gens.push .running } := by
  have clo_old : ∀ p ∈ cloOf X.env scope.names [], X.env.cells.lookup p.1 = some p.2 := fun p hp => (cloOf_mem hp).elim (fun z => by simp at z) id
  have old_lt : ∀ x c, X.env.cells.lookup x = some c → c < s.heap.objs.size := fun x c e => let ⟨v, q⟩ := I.cell x c e; q.lt
  have csm : ∀ x c, (cloOf X.env scope.names []).lookup x = some c → X.env.cells.lookup x = some c ∧ c < s.heap.objs.size := fun x c e => by
    have q := clo_old _ (PySem.mem_of_lookup e)
    exact ⟨q, old_lt _ _ q⟩
  have fresh : ∀ b, s.heap.objs.size ≤ b → H b = none := fun b hb => I.hok.fresh hb
  have brun : AllBare (s.gens.push .running) := AllBare.push I.bare.bare rfl
  refine ⟨⟨I.ok.mod, ?_, I.ok.glob, rfl, hCs, ?_, ?_, ?_, fun _ => hAh, hAf, .inr ⟨rfl, rfl⟩, ?_, I.bs, Nat.le_trans I.ok.bsz I.sz, ?_, ?_, I.stack, I.stkFree⟩, rfl, GK.refl brun, Un.kept keep, ?_, ?_, fresh C hCs, ?_, ?_, I.hok.kept keep, ?_⟩
  · exact B.kind
  · intro x y c e1 e2
    exact I.ok.inj x y c (csm x c e1).1 (csm y c e2).1
  · intro x hx
    have hx' : scope.names.lookup x = some .cell ∨ scope.names.lookup x = some .free := hx
    rcases hx' with e | e
    · exact absurd rfl (hnc _ (PySem.mem_of_lookup e))
    · have q := PySem.mem_of_lookup e
      obtain ⟨c, hc⟩ := B.cells I _ q rfl
      exact ⟨c, cloOf_in hc (.inl q)⟩
  · intro x c hx e
    exfalso
    have hxo : x ∈ own := by simpa [cxGen] using hx
    have nf := hown x hxo
    have q : (cloOf X.env scope.names []).lookup x = none := by
      rw [cloOf_out fun k hk => by rintro rfl; exact nf hk]; rfl
    have e' : (cloOf X.env scope.names []).lookup x = some c := e
    rw [q] at e'; cases e'
  · intro b hb
    obtain ⟨o, hbo⟩ := ho b hb
    have hlt := Heap.lt_size hbo
    exact ⟨Nat.ne_of_lt (Nat.lt_of_lt_of_le hlt hCs), fun x c e => (hf b hb).2.2.2.2.1 x c (csm x c e).1⟩
  · intro b o e hb
    rcases (hf b hb).2.2.2.1 with z | z
    · exact I.ok.noex b o e z
    · exact absurd (Nat.lt_of_lt_of_le (Heap.lt_size e) (Nat.le_trans I.ok.bsz z)) (Nat.lt_irrefl _)
  · intro b hb hz
    rcases List.mem_cons.mp (I.stkSub b hz) with z | z
    · exact (hf b hb).2.1 z
    · exact (hf b hb).2.2.1 z
  · obtain ⟨m', hn, hl⟩ := I.loc
    refine ⟨m, hm, fun i x v e1 e2 hv => ?_⟩
    have e2' : (blkSt own σ capI)[i]? = some (some v) := e2
    have e1' : (own ++ cap)[i]? = some x := e1
    unfold blkSt at e2'
    by_cases hi : i < own.length
    · rw [List.getElem?_append_left (by simpa using hi), List.getElem?_replicate] at e2'
      split at e2' <;> cases e2'
    · rw [List.getElem?_append_right (by simpa using hi)] at e2'
      rw [List.getElem?_append_right (by simpa using hi)] at e1'
      rw [List.length_replicate] at e2'
      obtain ⟨i0, q1, q2⟩ := capSt_get e2'
      obtain ⟨y, q3, q4, q5⟩ := B.caps.get q1
      rw [e1'] at q3
      cases q3
      have hxf : (x, NameKind.free) ∈ scope.names := B.cfr x (List.mem_of_getElem? e1')
      have vis : Vis X.env.scope x := by
        rcases q5 with q5 | q5
        · exact .inr (.inl q5)
        · exact .inr (.inr q5)
      obtain ⟨u, ru, lk⟩ := hl i0 x v q4 q2 vis
      refine ⟨u, ru, .inr ⟨.inr (lookup_of_mem B.nd hxf), ?_⟩⟩
      rcases lk with ⟨k, _⟩ | ⟨_, c, ec, hc⟩
      · rcases q5 with q5 | q5 <;> rw [k] at q5 <;> cases q5
      · exact ⟨c, cloOf_in ec (.inl hxf), hc.keeps keep⟩
  · intro x c e
    obtain ⟨v, q⟩ := I.cell x c (csm x c e).1
    exact ⟨v, q.keeps keep⟩
  · intro x c e
    exact I.freeC x c (csm x c e).1
  · intro p hp
    exact absurd (show p ∈ ([] : List (Addr × Obj)) from hp) (by simp)
  · show (blkSt own σ capI).length = (own ++ cap).length
    unfold blkSt capSt
    rw [List.length_append, List.length_append, List.length_replicate, List.length_map, B.caps.length]
end
abbrev genE (elt tg iter : Expr) (scope : Scope) (pos : Pos) : Expr := .GeneratorExp elt [⟨tg, iter, [], 0⟩] scope pos
abbrev genL (elt tg iter : Expr) (scope : Scope) (pos : Pos) (it : Addr) (cenv : Env) : Code := .compLoop (genE elt tg iter scope pos) 0 (.ref it) .none cenv
abbrev genS (elt tg iter : Expr) (scope : Scope) (pos : Pos) (it : Addr) (cenv : Env) : Code := .compStart (genE elt tg iter scope pos) 0 (.ref it) .none cenv
section
variable {X' : Cx} {A1 : Around} {elt tg iter : Expr} {scope : Scope} {pos : Pos} {it : Addr} {fp : List Addr} {tn : Nat → Heap → Prop} {J : It} {σb : St} {g : TG} {te : TE}
theorem gen_turn (T : Turn X'.prog X'.w X'.K tg J fp it tn) (hA : X'.A = A1.over (genL elt tg iter scope pos it X'.env) []) (hc : X'.calm = true) (hex : X'.ex = fp) (hpn : X'.pn = []) (hco : X'.env.scope.isCoroutine = false)
    (hxe : X'.xe = fun _ _ => False) (hg : PG X' tg g) (he : PE X' elt te) {i : Nat} {H : Hp} {s : Shared} {Q : VK} {P : List (Addr × Obj)} (hP : ∀ p ∈ P, p.1 ∉ fp) (I : Inv X' P σb H s) (st : tn i s.heap) (fr : ∀ b ∈ fp, H b = none)
    (go : J.go i H) (step : ∀ x H', J.yld i H x H' → g x σb H' fun σ2 H2 => Fits σb σ2 ∧ te σ2 H2 Q) :
    Seg1 (model X'.prog X'.w) A1 (genL elt tg iter scope pos it X'.env) ((model X'.prog X'.w).den (genL elt tg iter scope pos it X'.env)) [] s fun e s' =>
      ∃ v k p y H', e = .susp v false [] k (genL elt tg iter scope pos it X'.env) p [] ∧ k (.send .none) = .pure (.again (genL elt tg iter scope pos it X'.env)) ∧ RelV y v ∧ Q y H' ∧ Inv X' P σb H' s' ∧ tn (i + 1) s'.heap ∧ ∀ b ∈ fp, H' b = none := by
  have stat : ∀ {H' : Hp}, X'.Ok → (∀ b ∈ fp, H' b = none) → ∀ b ∈ fp, FpOk X' P H' b := fun {H'} ok hn b hb =>
    ⟨hn b hb, (ok.exf b (by rw [hex]; exact hb)).1, ok.exfs b (by rw [hex]; exact hb), .inl (by rw [hex]; exact hb), (ok.exf b (by rw [hex]; exact hb)).2, fun p hp e => by rw [hpn] at hp; exact hP p hp (e ▸ hb)⟩
  show Seg1 _ A1 _ ((compTurn (genE elt tg iter scope pos) 0 (.ref it) .none X'.env).onRaise (leaving X'.env)) [] s _
  rw [compTurn_gen, Sem.onRaise_eq_wrap]
  refine Seg1.bindWrap (wpAny_standAt ?_)
  have q := T.item X' rfl rfl rfl hc i P s σb H (fun _ _ => False) I (stat I.ok fr) st go
  rw [hA] at q
  refine Seg1.bindWrap (wpAny_mono q (fun r s1 ⟨u, hr, h1⟩ => ?_) fun _ _ z => z.elim)
  subst hr
  refine Seg1.bindWrap (wpAny_mono h1 (fun _ s2 ⟨x, H2, I2, r2, y2, st2, fr2⟩ => ?_) fun _ _ z => z.elim)
  have I2' := I2.pinned (stat I2.ok fr2) (T.obj _ _ st2)
  have a1 := hg _ s2 σb H2 x u _ I2' r2 (step x H2 y2)
  rw [hA, hxe] at a1
  refine Seg1.bindWrap (wpAny_mono a1 (fun _ s3 ⟨σ3, H3, I3, ft3, q3⟩ => ?_) fun _ _ z => z.elim)
  refine Seg1.bindWrap (wpAny_tests_nil ?_)
  simp only [if_true]
  have hy : ∀ v, yieldOut X'.env v = yieldValue v := fun v => by simp only [yieldOut, hco, Bool.false_eq_true, if_false]
  simp only [hy]
  rw [Sem.bind_eq_wrap', Sem.bind_eq_wrap', Sem.wrap_wrap, Sem.wrap_wrap]
  have a2 := he _ s3 σ3 H3 _ I3 q3
  rw [hA, hxe] at a2
  refine Seg1.wrap (wpAny_mono a2 (fun v s4 ⟨y, H4, I4, r4, q4⟩ => ?_) fun _ _ z => z.elim)
  refine Seg1.at (Seg1.yield rfl fun p => ⟨v, _, p, y, H4, rfl, rfl, r4, q4, (I4.weak ft3.1.symm ft3.2).unpinned, T.keep _ _ _ st2 fun b hb o e => ?_, fun b hb => ?_⟩)
  · exact (I4.pin (b, o) (List.mem_append_right _ (List.mem_append_right _ (mem_pinsAt hb e)))).1
  · obtain ⟨o, e, d⟩ := T.obj _ _ st2 b hb
    exact (I4.pin (b, o) (List.mem_append_right _ (List.mem_append_right _ (mem_pinsAt hb e)))).2.1
theorem gen_stop (T : Turn X'.prog X'.w X'.K tg J fp it tn) (hA : X'.A = A1.over (genL elt tg iter scope pos it X'.env) []) (hc : X'.calm = true) (hex : X'.ex = fp) (hpn : X'.pn = [])
    {i : Nat} {H : Hp} {s : Shared} {P : List (Addr × Obj)} (hP : ∀ p ∈ P, p.1 ∉ fp) (I : Inv X' P σb H s) (st : tn i s.heap) (fr : ∀ b ∈ fp, H b = none) (stop : J.stop i H) :
    Seg1 (model X'.prog X'.w) A1 (genL elt tg iter scope pos it X'.env) ((model X'.prog X'.w).den (genL elt tg iter scope pos it X'.env)) [] s fun e s' => e = .ret (.ok .next) ∧ Inv X' P σb H s' := by
  have stat : ∀ b ∈ fp, FpOk X' P H b := fun b hb =>
    ⟨fr b hb, (I.ok.exf b (by rw [hex]; exact hb)).1, I.ok.exfs b (by rw [hex]; exact hb), .inl (by rw [hex]; exact hb), (I.ok.exf b (by rw [hex]; exact hb)).2, fun p hp e => by rw [hpn] at hp; exact hP p hp (e ▸ hb)⟩
  show Seg1 _ A1 _ ((compTurn (genE elt tg iter scope pos) 0 (.ref it) .none X'.env).onRaise (leaving X'.env)) [] s _
  rw [compTurn_gen, Sem.onRaise_eq_wrap]
  refine Seg1.bindWrap (wpAny_standAt ?_)
  have q := T.done X' rfl rfl rfl hc i P s σb H (fun _ _ => False) I stat st stop
  rw [hA] at q
  refine Seg1.bindWrap (wpAny_mono q (fun r s1 ⟨hr, I1⟩ => ?_) fun _ _ z => z.elim)
  subst hr
  exact Seg1.end (.ok .next) ⟨rfl, I1⟩
theorem gen_start {A0 : Around} {P : Program} {w : World} {K : PySem.W.Frag} {cenv : Env} {Φ : End → Shared → Prop} {s : Shared} {i : Nat} (T : Turn P w K tg J fp it tn) (st : tn i s.heap)
    (h : Seg1 (model P w) A0 (genL elt tg iter scope pos it cenv) ((model P w).den (genL elt tg iter scope pos it cenv)) [] s Φ) :
    Seg1 (model P w) A0 (genS elt tg iter scope pos it cenv) ((model P w).den (genS elt tg iter scope pos it cenv)) [] s Φ := by
  show Seg1 _ A0 _ ((compStart (genE elt tg iter scope pos) 0 (.ref it) .none cenv).onRaise (leaving cenv)) [] s _
  unfold compStart
  rw [Sem.onRaise_eq_wrap]
  show Seg1 _ A0 _ ((ask >>= _).wrap _ _ _ _) [] s _
  refine Seg1.bindWrap (wpAny_askSetting ?_)
  split
  · exact Seg1.again rfl h
  · first
      | exact Seg1.bindWrap (wpAny_rule (Seg1.bindWrap (wpAny_standAt (Seg1.bindWrap (T.self _ i s _ _ st (Seg1.again rfl h))))))
      | (refine Seg1.bindWrap (wpAny_rule ?_); show Seg1 _ A0 _ ((standAt iter.pos >>= _).wrap _ _ _ _) [] s _; exact Seg1.bindWrap (wpAny_standAt (Seg1.bindWrap (T.self _ i s _ _ st (Seg1.again rfl h)))))
end
end L2
set_option Elab.async false
set_option linter.all false
set_option maxRecDepth 100000
namespace L2
open PySem PySem.Spec PyProof.Rows
structure Str' where
  nxt : Nat → Hp → (V → Hp → Prop) → Prop
  fin : Nat → Hp → Prop
structure Strm (X : Cx) (pins : List (Addr × Obj)) (σ : St) (A' : Around) (it : Addr) (lo : Nat) (S : Str') (SS : List (Addr × Obj) → Nat → Hp → Shared → Prop) : Prop where
  inv : ∀ {P i H s}, SS P i H s → Inv X (pins ++ P) σ H s
  next : ∀ {P i H s Q} (E : Value → Shared → Prop), SS P i H s → S.nxt i H Q → wpAny (model X.prog X.w) A' (pyNext (.ref it)) (fun r s1 => ∃ u y H', r = some u ∧ RelV y u ∧ Q y H' ∧ SS P (i + 1) H' s1) E s
  stop : ∀ {P i H s} (E : Value → Shared → Prop), SS P i H s → S.fin i H → wpAny (model X.prog X.w) A' (pyNext (.ref it)) (fun r s1 => r = none ∧ Inv X (pins ++ P) σ H s1) E s
  keep : ∀ {P i H s h' tk}, SS P i H s → (∀ b o, s.heap.get? b = some o → h'.get? b = some o) → SS P i H { s with heap := h', toks := tk }
  pin : ∀ {P i H s D o}, SS P i H s → lo ≤ D → s.heap.get? D = some o → H D = none → (∀ v, o.data ≠ .cell v) → SS ((D, o) :: P) i H s
  unpin : ∀ {p P i H s}, SS (p :: P) i H s → SS P i H s
  acc : ∀ {P i H s h' tk D}, SS P i H s → lo ≤ D → H D = none → (∀ p ∈ P, p.1 ≠ D) → (∀ b o, b ≠ D → s.heap.get? b = some o → h'.get? b = some o) → SS P i H { s with heap := h', toks := tk }
def Ready (X : Cx) (pins : List (Addr × Obj)) (σ : St) (S : Str') (v : Value) (H : Hp) (s : Shared) : Prop :=
  ∀ (A' : Around) (E : Value → Shared → Prop), A'.handled = none → A'.frames = some X.stack → A'.depth ≤ X.A.depth + 1 → A'.units ≤ X.A.units + 8 →
    wpAny (model X.prog X.w) A' (pyIter v) (fun itv s2 => ∃ it lo SS, itv = .ref it ∧ Strm X pins σ A' it lo S SS ∧ SS [] 0 H s2 ∧ lo ≤ s2.heap.objs.size) E s
abbrev TStr := St → Hp → (Str' → Hp → Prop) → Prop
def PStr (X : Cx) (e : Expr) (ts : TStr) : Prop :=
  ∀ (pins : List (Addr × Obj)) (s : Shared) (σ : St) (H : Hp) (R : Str' → Hp → Prop), Inv X pins σ H s → ts σ H R →
    wpAny (model X.prog X.w) X.A (eval e X.env) (fun v s1 => ∃ S H1, Inv X pins σ H1 s1 ∧ Ready X pins σ S v H1 s1 ∧ R S H1) X.xe s
def ReadyG (X : Cx) (pins : List (Addr × Obj)) (σ : St) (S : Str') (a : Addr) (H : Hp) (s : Shared) : Prop :=
  ∀ (A' : Around), A'.handled = none → A'.frames = some X.stack → A'.depth ≤ X.A.depth + 1 → A'.units ≤ X.A.units + 8 →
    ∃ lo SS, Strm X pins σ A' a lo S SS ∧ SS [] 0 H s ∧ a < lo ∧ lo ≤ s.heap.objs.size ∧ ∀ P i H s, SS P i H s → ∃ g, s.heap.IsGen a g
def PStrG (X : Cx) (e : Expr) (ts : TStr) : Prop :=
  ∀ (pins : List (Addr × Obj)) (s : Shared) (σ : St) (H : Hp) (R : Str' → Hp → Prop), Inv X pins σ H s → ts σ H R →
    wpAny (model X.prog X.w) X.A (eval e X.env) (fun v s1 => ∃ a S H1, v = .ref a ∧ Inv X pins σ H1 s1 ∧ ReadyG X pins σ S a H1 s1 ∧ R S H1) X.xe s
theorem pstr_of_gen {X : Cx} {e : Expr} {ts : TStr} (h : PStrG X e ts) : PStr X e ts := by
  intro pins s σ H R I hq
  refine thn (h pins s σ H R I hq) fun v s1 ⟨a, S, H1, e, I1, rdy, r⟩ => ⟨S, H1, I1, ?_, r⟩
  subst e
  intro A' E h1 h2 h3 h4
  obtain ⟨lo, SS, sm, s0, _, hl, hg⟩ := rdy A' h1 h2 h3 h4
  obtain ⟨g, ig⟩ := hg _ _ _ _ s0
  exact wpAny_pyIter_gen ig ⟨a, lo, SS, rfl, sm, s0, hl⟩
section
variable {X : Cx} {pins : List (Addr × Obj)} {σ : St} {H : Hp} {s : Shared}
theorem Inv.grown {h' : Heap} {g' : Array GenState} {tk : Nat} (I : Inv X pins σ H s) (k : ∀ b o, s.heap.get? b = some o → h'.get? b = some o) (hg : GK s.gens g') : Inv X pins σ H { s with heap := h', gens := g', toks := tk } :=
  I.call (ch := []) (g' := g') (t' := tk) (d' := s.drawn) (Un.kept k) (I.hok.kept k) hg fun b hb => absurd hb (by simp)
theorem Inv.more {Q : List (Addr × Obj)} (I : Inv X pins σ H s) (h : ∀ p ∈ Q, s.heap.get? p.1 = some p.2 ∧ H p.1 = none ∧ p.1 ≠ X.env.locals ∧ p.1 ∉ X.fs ∧ ∀ v, p.2.data ≠ .cell v) : Inv X (pins ++ Q) σ H s :=
  I.pins_of fun p hp => (List.mem_append.mp hp).elim (fun z => I.pin p (List.mem_append_right _ z)) (h p)
theorem upd_self {H : Hp} {P : Addr} {o : HO} (h : H P = some o) : upd H P o = H := by
  funext b
  by_cases e : b = P
  · subst e; rw [upd_same, h]
  · rw [upd_ne e]
theorem Inv.tbl {P : Addr} {ps ps' : Array Value} {h' : Heap} {tk : Nat} (I : Inv X pins σ H s) (hP : H P = some (.tbl ps)) (hm : ∃ more, ps' = ps ++ more) (k : ∀ b o, b ≠ P → s.heap.get? b = some o → h'.get? b = some o)
    (ho : h'.get? P = some { cls := .none, data := .fields ps' }) : Inv X pins σ (upd H P (.tbl ps')) { s with heap := h', toks := tk } := by
  have nP : ∀ b, H b = none → b ≠ P := fun b e z => by rw [z, hP] at e; cases e
  refine I.un ⟨fun b o e n _ _ => k b o (nP b n) e, fun b o e n _ _ => ⟨o.slots, k b o (nP b n) e⟩, fun b o e n _ => by rw [upd_ne (nP b n)]; exact n, fun b o e _ => ?_, fun b xs e => ?_, fun b o u e => ?_, fun b qs e => ?_⟩ fun a o e => ?_
  · by_cases z : b = P
    · subst z; exact ⟨_, ho⟩
    · exact ⟨o, k b o z e⟩
  · have z : b ≠ P := fun z => by rw [z, hP] at e; cases e
    rw [upd_ne z]; exact e
  · have z : b ≠ P := fun z => by rw [z, hP] at e; cases e
    rw [upd_ne z]; exact e
  · by_cases z : b = P
    · subst z
      rw [hP] at e; cases e
      obtain ⟨more, e⟩ := hm
      exact ⟨more, by rw [upd_same, e]⟩
    · exact ⟨#[], by rw [upd_ne z, e]; simp⟩
  · by_cases z : a = P
    · subst z
      rw [upd_same] at e; cases e
      exact ho
    · rw [upd_ne z] at e
      refine (I.hok a o e).stay (fun b u hb q => k b u ?_ q) (fun b q => ?_) fun b xs q => ?_
      · rcases hb with r | r
        · rw [r]; exact z
        · exact fun y => by rw [y, hP] at r; cases r
      · have y : b ≠ P := fun y => by rw [y, hP] at q; cases q
        rw [upd_ne y]; exact q
      · have y : b ≠ P := fun y => by rw [y, hP] at q; cases q
        rw [upd_ne y]; exact q
theorem gcode {c P : Addr} {ps : Array Value} {pos : Pos} {q : Str} {scope : Scope} {Q : Value → Shared → Prop} {A : Around} {E : Value → Shared → Prop} (I : Inv X pins σ H s) (hc : X.env.code = .ref c) (hd : PySem.W.CodeHd X.base c P) (hP : H P = some (.tbl ps)) (ht : TriplesOk ps.toList)
    (h : ∀ code s' ps', TriplesOk ps'.toList → (∃ more, ps' = ps ++ more) → Inv X pins σ (upd H P (.tbl ps')) s' → s'.gens = s.gens → (∀ b o, b ≠ P → s.heap.get? b = some o → s'.heap.get? b = some o) → Q code s') :
    wpAny (model X.prog X.w) A (genexprCode X.env pos q scope) Q E s := by
  have hd' : PySem.W.CodeHd s.heap c P := hd.keeps I.bk
  have oP : s.heap.get? P = some (PySem.W.tabObj ps) := I.hok P _ hP
  have hok : s.heap.IsCode c P ps := hd'.code oP ht
  have htab : s.heap.TableAt c P ps := hd'.tab oP
  cases hnf : codeAmong pos ps.toList with
  | some cv =>
    obtain ⟨o, vs, file, tf, flags, tg, inF, text, tt, op, ho, hdd, h11, h2, h7, h9, h10, hop, hpd, htr, hne⟩ := id hok
    unfold genexprCode codeAt
    rw [hc, if_neg (show ¬ ((Value.ref c == Value.none) = true) from Bool.false_ne_true)]
    refine wpAny_bind (wpAny_fieldsOf ho hdd ?_)
    rw [h11]
    refine wpAny_bind (wpAny_fieldsOf hop hpd ?_)
    rw [hnf]
    exact wpAny_pure (h cv s ps ht ⟨#[], by simp⟩ (by rw [upd_self hP]; exact I) rfl fun b o _ e => e)
  | none =>
    refine wpAny_genexprCodeX hc hok htab hnf fun c' h' tk hx hge hlt hcode hrec htab' _ => ?_
    refine h (.ref c') _ (ps ++ #[rawInt pos.line, rawInt pos.col, .ref c']) ?_ ⟨_, rfl⟩ (I.tbl hP ⟨_, rfl⟩ (fun b o hb e => hx b o hb e) htab'.2) rfl fun b o hb e => hx b o hb e
    have hl : (ps ++ #[rawInt pos.line, rawInt pos.col, Value.ref c']).toList = ps.toList ++ [rawInt pos.line, rawInt pos.col, .ref c'] := by simp
    rw [hl]; exact TriplesOk_snoc _ _ _ _ ht
end
def genStr (J : It) (g : TG) (te : TE) (σb : St) : Str' where
  nxt := fun i H Q => J.go i H ∧ ∀ x H', J.yld i H x H' → g x σb H' fun σ2 H2 => Fits σb σ2 ∧ te σ2 H2 Q
  fin := fun i H => J.stop i H
def tGen (own : List Str) (capI : List Nat) (P : Addr) (wi : TI) (g : TG) (te : TE) : TStr := fun σ H R => wi σ H fun J H1 => ∃ ps, H1 P = some (.tbl ps) ∧ TriplesOk ps.toList ∧
  ∀ ps', TriplesOk ps'.toList → (∃ more, ps' = ps ++ more) → R (genStr J g te (blkSt own σ capI)) (upd H1 P (.tbl ps'))
theorem over_frames {A : Around} {elt tg iter : Expr} {scope : Scope} {pos : Pos} {it : Addr} {cenv : Env} {l : List Env} (h : A.frames = some l) : (A.over (genL elt tg iter scope pos it cenv) []).frames = some (cenv :: l) := by
  unfold Around.over
  show pushEnvs (Code.envs (genL elt tg iter scope pos it cenv)) (pushEnvs (envsOf []) A.frames) = _
  rw [h]; rfl
theorem over_room {X : Cx} {A' : Around} {elt tg iter : Expr} {scope : Scope} {pos : Pos} {it : Addr} {cenv : Env} (hh : A'.handled = none) (hd : A'.depth ≤ X.A.depth + 1) (hu : A'.units ≤ X.A.units + 8) :
    ∀ k, Room (k + 1) X.A → Room k (A'.in1.over (genL elt tg iter scope pos it cenv) []) := fun k r => by
  have e1 : (A'.in1.over (genL elt tg iter scope pos it cenv) []).depth = A'.depth + 1 := rfl
  have e2 : (A'.in1.over (genL elt tg iter scope pos it cenv) []).units = A'.units + 1 + 3 := rfl
  have e3 : (A'.in1.over (genL elt tg iter scope pos it cenv) []).handled = A'.handled := rfl
  have := r.dp
  have := r.un
  exact ⟨e3.trans hh, by rw [e1]; omega, by rw [e2]; omega⟩
section
variable {X : Cx} {tg iter elt : Expr} {wi : TI} {g : TG} {te : TE} {own cap : List Str} {capI : List Nat} {scope : Scope} {pos : Pos} {P : Addr} {kr : Nat}
theorem pstr_gen (hc : X.calm = true) (hr : Room kr X.A) (B : BlkScope X own cap capI scope) (hown : ∀ x ∈ own, (x, NameKind.free) ∉ scope.names) (hnc : ∀ y ∈ scope.names, y.2 ≠ .cell) (h0 : scope.names.lookup (".0" : Str) = some NameKind.local)
    (hco : scope.isCoroutine = false) (htb : ∃ c, X.env.code = .ref c ∧ PySem.W.CodeHd X.base c P) (hi : PI X tg iter wi) (hg : ∀ AG cs C code fp s2 H2, PG (cxGen X AG own cap scope cs C code fp s2 H2) tg g)
    (he : ∀ AG cs C code fp s2 H2, (∀ k, Room (k + 1) X.A → Room k AG) → PE (cxGen X AG own cap scope cs C code fp s2 H2) elt te) (hs : ∀ x, genFold iter X.env x = pure x := by intro _; rfl) :
    PStrG X (genE elt tg iter scope pos) (tGen own capI P wi g te) := by
  intro pins s σ H R I h
  obtain ⟨c, hcode, hhd⟩ := htb
  refine wpAny_GeneratorExp_make hco (closureFor_eq (B.cells I)) hnc h0 B.kind hr.depth ?_ hs
  refine thn (hi pins s σ H _ I h) fun v s1 h1 => thn h1 fun itv s2 h2 => ?_
  obtain ⟨it, fp, tn, J, H2, e, I2, T, st2, f2, ps, hP, htr, hR⟩ := h2
  subst e
  refine ⟨I2.nolimit, gcode I2 hcode hhd hP htr fun code s4 ps' htr' hmore I4 hgens hk4 => ?_⟩
  obtain ⟨bm, ob, b1, b2, b3, b4, b5, b6⟩ := I4.mod.bmain
  refine wpAny_builtinsFor (bm := bm) (by rw [I4.ok.glob]; exact I4.mod.glob.keeps I4.bk) b1 b2 (I4.bk _ _ b3) b4 b5 b6 ?_
  intro h5 hn5 hs5
  -- names: C the frame, a the generator, gi its number
  generalize hC : s4.heap.objs.size = C at hn5 hs5 ⊢
  have hCs : s4.heap.objs.size ≤ C := Nat.le_of_eq hC
  have hR' := hR ps' htr' hmore
  generalize hH4 : upd H2 P (.tbl ps') = H4 at I4 hR'
  have k5 : ∀ b o, s4.heap.get? b = some o → h5.get? b = some o := fun b o e => hs5.extBut b o (Nat.ne_of_lt (Nat.lt_of_lt_of_le (Heap.lt_size e) hCs)) (Heap.get?_push_of_some _ e)
  have sz5 : h5.objs.size = C + 1 := by rw [hs5.1, Heap.size_push, hC]
  generalize ha : h5.objs.size = a
  have hCa : C < a := by rw [← ha, sz5]; exact Nat.lt_succ_self _
  generalize hgi : s4.gens.size = gi
  generalize hgo : ({ cls := .type "generator", data := .fields #[.int (gi : Int) 0, .str "<genexpr>" (s4.toks + 1), .str (X.env.qual ++ "<genexpr>") (s4.toks + 1 + 1)] } : Obj) = gob
  generalize hh6 : h5.push gob = h6
  have k6 : ∀ b o, h5.get? b = some o → h6.get? b = some o := fun b o e => by rw [← hh6]; exact Heap.get?_push_of_some _ e
  have k46 : ∀ b o, s4.heap.get? b = some o → h6.get? b = some o := fun b o e => k6 b o (k5 b o e)
  have oa6 : h6.get? a = some gob := by rw [← hh6, ← ha]; refine Heap.get?_push_size _ ?_; rw [← hgo]; rfl
  have isg : ∀ {h : Heap}, h.get? a = some gob → h.IsGen a gi := fun {h} e => ⟨gob, .str "<genexpr>" (s4.toks + 1), .str (X.env.qual ++ "<genexpr>") (s4.toks + 1 + 1), e, by rw [← hgo], by rw [← hgo], by rw [← hgo]⟩
  have hfr4 : ∀ b ∈ fp, H4 b = none := fun b hb => by
    rw [← hH4]
    have n2 := (f2 b hb).1
    rw [upd_ne (fun z => by rw [z, hP] at n2; cases n2)]
    exact n2
  have f4 : ∀ b ∈ fp, FpOk X pins H4 b := fun b hb => ⟨hfr4 b hb, (f2 b hb).2⟩
  have hbP : ∀ b ∈ fp, b ≠ P := fun b hb z => by have n2 := (f2 b hb).1; rw [z, hP] at n2; cases n2
  have o4 : ∀ b ∈ fp, ∃ o, s4.heap.get? b = some o := fun b hb => let ⟨o, e, _⟩ := T.obj 0 _ st2 b hb; ⟨o, hk4 b o (hbP b hb) e⟩
  have st4 : tn 0 s4.heap := T.keep _ _ _ st2 fun b hb o e => hk4 b o (hbP b hb) e
  have hfa : ∀ b ∈ fp, b ≠ a ∧ b ≠ C := fun b hb => let ⟨o, e⟩ := o4 b hb
    have l := Nat.lt_of_lt_of_le (Heap.lt_size e) hCs
    ⟨Nat.ne_of_lt (Nat.lt_trans l hCa), Nat.ne_of_lt l⟩
  generalize hcenv : genEnv scope (cloOf X.env scope.names []) C code builtinsNs X.env = cenv
  have gk6 : GK s4.gens (s4.gens.push (.fresh (genS elt tg iter scope pos it cenv))) := by
    refine ⟨AllBare.push I4.bare.bare rfl, fun k x e => ?_⟩
    have hlt : k < s4.gens.size := by
      rcases Nat.lt_or_ge k s4.gens.size with z | z
      · exact z
      · rw [Array.getElem?_eq_none z] at e; cases e
    rw [Array.getElem?_push_lt hlt, ← Array.getElem?_eq_getElem hlt]; exact e
  refine ⟨a, genStr J g te (blkSt own σ capI), H4, rfl, I4.grown k46 gk6, ?_, hR'⟩
  -- the stream
  intro A' hAh hAf hAd hAu
  have gi6 : (s4.gens.push (.fresh (genS elt tg iter scope pos it cenv)))[gi]? = some (.fresh (genS elt tg iter scope pos it cenv)) := by rw [← hgi]; simp
  generalize hX' : cxGen X (A'.in1.over (genL elt tg iter scope pos it cenv) []) own cap scope (cloOf X.env scope.names []) C code fp s4 H4 = X'
  have eP : X'.prog = X.prog := by rw [← hX']; rfl
  have eW : X'.w = X.w := by rw [← hX']; rfl
  have eK : X'.K = X.K := by rw [← hX']; rfl
  have eFs : X'.fs = frs X.stack := by rw [← hX']; rfl
  have eEx : X'.ex = fp := by rw [← hX']; rfl
  have eS : X'.s₀ = { s4 with gens := s4.gens.push .running } := by rw [← hX']; rfl
  have eH : X'.H₀ = H4 := by rw [← hX']; rfl
  have eL : X'.env.locals = C := by rw [← hX']; rfl
  have eC : X'.calm = true := by rw [← hX']; rfl
  have eX : X'.xe = fun _ _ => False := by rw [← hX']; rfl
  have ePn : X'.pn = [] := by rw [← hX']; rfl
  have eE : X'.env = cenv := by rw [← hX', ← hcenv]; rfl
  have eA : X'.A = A'.in1.over (genL elt tg iter scope pos it X'.env) [] := by rw [eE, ← hX']; rfl
  have eCo : X'.env.scope.isCoroutine = false := by rw [← hX']; exact hco
  have hg' : PG X' tg g := by rw [← hX']; exact hg _ _ _ _ _ _ _
  have he' : PE X' elt te := by rw [← hX']; exact he _ _ _ _ _ _ _ (over_room hAh hAd hAu)
  have T' : Turn X'.prog X'.w X'.K tg J fp it tn := by rw [eP, eW, eK]; exact T
  have pfp : ∀ {Q : List (Addr × Obj)}, (∀ p ∈ Q, a < p.1) → ∀ p ∈ (a, gob) :: Q, p.1 ∉ fp := fun {Q} hQ p hp hb => by
    obtain ⟨o, e⟩ := o4 _ hb
    have l := Nat.lt_of_lt_of_le (Heap.lt_size e) hCs
    rcases List.mem_cons.mp hp with z | z
    · subst z; exact absurd (Nat.lt_trans l hCa) (Nat.lt_irrefl _)
    · exact absurd (Nat.lt_trans (Nat.lt_trans l hCa) (hQ p z)) (Nat.lt_irrefl _)
  have afs : a ∉ X'.fs := fun hz => by
    rw [eFs] at hz
    have l4 : s4.heap.objs.size ≤ a := Nat.le_trans hCs (Nat.le_of_lt hCa)
    rcases List.mem_cons.mp (I4.stkSub a hz) with z | z
    · exact absurd I4.lt (by rw [← z]; exact Nat.not_lt.mpr l4)
    · exact I4.nofs l4 z
  -- gens at gi, by the running one
  have setg : ∀ (s : Shared) (x : GenState), (s.setGen gi x).gens = s.gens.setIfInBounds gi x := fun s x => rfl
  have hSS : ∀ {Q : List (Addr × Obj)} {i : Nat} {H : Hp} {s : Shared}, (∀ p ∈ Q, a < p.1) → Inv X' ((a, gob) :: Q) (blkSt own σ capI) H s → s.heap.get? a = some gob ∧ s.gens[gi]? = some .running ∧
      ∀ (x : GenState) (h' : Heap) (tk : Nat), x.bare = true → (∀ b o, s.heap.get? b = some o → h'.get? b = some o) → Inv X (pins ++ Q) σ H { s.setGen gi x with heap := h', toks := tk } := fun {Q i H s} hQ I' => by
    have pa := (I'.pin (a, gob) (by simp)).1
    have gr : s.gens[gi]? = some .running := I'.bare.kept gi .running (by rw [eS, ← hgi]; simp)
    refine ⟨pa, gr, fun x h' tk hx hk => ?_⟩
    have ub := I'.base
    rw [eFs, eEx, eS, eH] at ub
    have hok := I'.hok
    rw [eP, eW] at hok
    refine Inv.more ?_ fun p hp => by
      have q := I'.pin p (by simp [hp])
      have l4 : s4.heap.objs.size ≤ p.1 := Nat.le_trans hCs (Nat.le_of_lt (Nat.lt_trans hCa (hQ p hp)))
      exact ⟨hk _ _ q.1, q.2.1, fun z => absurd I4.lt (by rw [← z]; exact Nat.not_lt.mpr l4), I4.nofs l4, q.2.2.2.2⟩
    refine I4.call' (ch := fp) (s' := { s.setGen gi x with heap := h', toks := tk }) (by have := I'.os; rw [eS] at this; exact this)
      ⟨fun b o e n hb hx' => hk b o (ub.keep b o e n hb hx'), fun b o e n hb hx' => let ⟨sl, q⟩ := ub.slot b o e n hb hx'; ⟨sl, hk b _ q⟩, ub.free, fun b o e hx' => let ⟨o', q⟩ := ub.there b o e hx'; ⟨o', hk b o' q⟩, ub.tups, ub.frzs, ub.tbls⟩
      (hok.kept hk) ⟨fun y hy => ?_, fun k y e => ?_⟩ fun b hb => ?_
    · have hy' : y ∈ s.gens.setIfInBounds gi x := hy
      rcases Array.mem_or_eq_of_mem_setIfInBounds hy' with z | z
      · exact I'.bare.bare y z
      · rw [z]; exact hx
    · have hlt : k < gi := by
        rw [← hgi]
        rcases Nat.lt_or_ge k s4.gens.size with z | z
        · exact z
        · rw [Array.getElem?_eq_none z] at e; cases e
      have q := I'.bare.kept k y (by rw [eS]; show (s4.gens.push .running)[k]? = some y; rw [Array.getElem?_push_lt (by rw [hgi]; exact hlt), ← Array.getElem?_eq_getElem (by rw [hgi]; exact hlt)]; exact e)
      show (s.gens.setIfInBounds gi x)[k]? = some y
      rw [Array.getElem?_setIfInBounds_ne (Nat.ne_of_gt hlt)]
      exact q
    · obtain ⟨q0, q1, q2, q3, q4, q5⟩ := f4 b hb
      exact ⟨q3, q1, q4, q5⟩
  refine ⟨a + 1, fun Q i H s => (∀ p ∈ Q, a < p.1) ∧ Inv X (pins ++ Q) σ H s ∧ (∃ gs, s.gens[gi]? = some gs ∧ gs.bare = true ∧ (gs = .fresh (genS elt tg iter scope pos it X'.env) ∨ ∃ k l p cl, gs = .suspended k l (genL elt tg iter scope pos it X'.env) p [] cl ∧ k (.send .none) = .pure (.again (genL elt tg iter scope pos it X'.env)))) ∧
      Inv X' ((a, gob) :: Q) (blkSt own σ capI) H (s.setGen gi .running) ∧ tn i s.heap ∧ ∀ b ∈ fp, H b = none, ⟨fun st => st.2.1, ?_, ?_, ?_, ?_, ?_, ?_⟩, ?_, Nat.lt_succ_self _, ?_, fun Q i H s st => ⟨gi, isg (hSS (i := i) st.1 st.2.2.2.1).1⟩⟩
  · -- next
    rintro PP i H s Q E ⟨hQ, I1, ⟨gs, hgs, hb, hgs'⟩, Ib, st, fr⟩ ⟨go, step⟩
    have tr := gen_turn (A1 := A'.in1) (elt := elt) (tg := tg) (iter := iter) (scope := scope) (pos := pos) T' eA eC eEx ePn eCo eX hg' he' (pfp hQ) Ib st fr go step
    have oa := (hSS (i := i) hQ Ib).1
    rw [eP, eW] at tr
    refine pyNext_gen1 hAh I1.nolimit (by have := hr.dp; omega) (isg oa) hgs (Φ := fun e s' => ∃ v k p y H', e = .susp v false [] k (genL elt tg iter scope pos it X'.env) p [] ∧ k (.send .none) = .pure (.again (genL elt tg iter scope pos it X'.env)) ∧ RelV y v ∧ Q y H' ∧ Inv X' ((a, gob) :: PP) (blkSt own σ capI) H' s' ∧ tn (i + 1) s'.heap ∧ ∀ b ∈ fp, H' b = none) ?_ ?_ ?_
    · rcases hgs' with e | ⟨k, l, p, cl, e, ek⟩
      · subst e
        exact gen_start (i := i) T st tr
      · subst e
        show Seg1 _ _ _ (k (.send .none)) [] _ _
        rw [ek]
        exact Seg1.again rfl tr
    · rintro e s' ⟨v, k, p, y, H', rfl, _⟩
      rfl
    · rintro e s' ⟨v, k, p, y, H', rfl, ek, ry, qy, I', st', fr'⟩
      left
      refine ⟨v, false, [], k, _, p, [], rfl, v, y, H', rfl, ry, qy, ?_⟩
      obtain ⟨oa', gr', mk⟩ := hSS (i := i) hQ I'
      have e1 : ((s'.setGen gi (End.susp v false [] k (genL elt tg iter scope pos it X'.env) p []).genState).setGen gi .running) = s' := by
        have hl : gi < s'.gens.size := by
          rcases Nat.lt_or_ge gi s'.gens.size with z | z
          · exact z
          · rw [Array.getElem?_eq_none z] at gr'; cases gr'
        obtain ⟨hh, gg, dd, tt, oo⟩ := s'
        show (Shared.mk hh ((gg.setIfInBounds gi _).setIfInBounds gi .running) dd tt oo) = _
        congr 1
        apply Array.ext_getElem?
        intro j
        by_cases hj : gi = j
        · subst hj
          have gr'' : gg[gi]? = some .running := gr'
          have hl' : gi < gg.size := hl
          rw [gr'']
          simp [hl']
        · simp [hj]
      refine ⟨hQ, mk _ s'.heap s'.toks rfl fun b o e => e, ⟨_, setGen_self gr', rfl, .inr ⟨k, [], p, _, rfl, ek⟩⟩, by rw [e1]; exact I', st', fr'⟩
  · -- stop
    rintro PP i H s E ⟨hQ, I1, ⟨gs, hgs, hb, hgs'⟩, Ib, st, fr⟩ hfin
    have tr := gen_stop (A1 := A'.in1) (elt := elt) (tg := tg) (iter := iter) (scope := scope) (pos := pos) T' eA eC eEx ePn (pfp hQ) Ib st fr hfin
    have oa := (hSS (i := i) hQ Ib).1
    rw [eP, eW] at tr
    refine pyNext_gen1 hAh I1.nolimit (by have := hr.dp; omega) (isg oa) hgs (Φ := fun e s' => e = .ret (.ok .next) ∧ Inv X' ((a, gob) :: PP) (blkSt own σ capI) H s') ?_ ?_ ?_
    · rcases hgs' with e | ⟨k, l, p, cl, e, ek⟩
      · subst e
        exact gen_start (i := i) T st tr
      · subst e
        show Seg1 _ _ _ (k (.send .none)) [] _ _
        rw [ek]
        exact Seg1.again rfl tr
    · rintro e s' ⟨rfl, _⟩
      rfl
    · rintro e s' ⟨rfl, I'⟩
      right
      obtain ⟨oa', gr', mk⟩ := hSS (i := i) hQ I'
      exact ⟨rfl, fun h' hk => ⟨rfl, mk .finished h' s'.toks rfl hk⟩⟩
  · -- keep
    rintro PP i H s h' tk ⟨hQ, I1, hgs, Ib, st, fr⟩ hk
    exact ⟨hQ, I1.kept hk, hgs, Ib.kept (s := s.setGen gi .running) hk, T.keep _ _ _ st fun b _ o e => hk b o e, fr⟩
  · -- pin
    rintro PP i H s D o ⟨hQ, I1, hgs, Ib, st, fr⟩ hD ho hn hcell
    have hDa : a < D := hD
    have hD4 : s4.heap.objs.size ≤ D := Nat.le_of_lt (Nat.lt_of_le_of_lt hCs (Nat.lt_trans hCa hDa))
    refine ⟨fun p hp => ?_, ?_, hgs, ?_, st, fr⟩
    · rcases List.mem_cons.mp hp with z | z
      · subst z; exact hDa
      · exact hQ p z
    · refine I1.pins_of fun p hp => ?_
      rcases List.mem_append.mp hp with z | z
      · exact I1.pin p (by simp [z])
      · rcases List.mem_cons.mp z with z | z
        · subst z
          exact ⟨ho, hn, fun z => absurd I4.lt (by rw [← z]; exact Nat.not_lt.mpr hD4), I4.nofs hD4, hcell⟩
        · exact I1.pin p (by simp [z])
    · refine Ib.pins_of fun p hp => ?_
      rcases List.mem_cons.mp hp with z | z
      · exact Ib.pin p (by simp [z])
      · rcases List.mem_cons.mp z with z | z
        · subst z
          refine ⟨ho, hn, by rw [eL]; exact Nat.ne_of_gt (Nat.lt_trans hCa hDa), fun hz => ?_, hcell⟩
          rw [eFs] at hz
          rcases List.mem_cons.mp (I4.stkSub D hz) with z | z
          · exact absurd I4.lt (by rw [← z]; exact Nat.not_lt.mpr hD4)
          · exact I4.nofs hD4 z
        · exact Ib.pin p (by simp [z])
  · -- unpin
    rintro p PP i H s ⟨hQ, I1, hgs, Ib, st, fr⟩
    exact ⟨fun q hq => hQ q (List.mem_cons_of_mem _ hq), I1.pins_of fun q hq => I1.pin q (by rcases List.mem_append.mp hq with z | z <;> simp [z]), hgs, Ib.pins_of fun q hq => Ib.pin q (by rcases List.mem_cons.mp hq with z | z <;> simp [z]), st, fr⟩
  · -- acc
    rintro PP i H s h' tk D ⟨hQ, I1, hgs, Ib, st, fr⟩ hD hn hPD hk
    have hDa : a < D := hD
    have hDC : C < D := Nat.lt_trans hCa hDa
    have hD4 : s4.heap.objs.size ≤ D := Nat.le_of_lt (Nat.lt_of_le_of_lt hCs hDC)
    have l4 : ∀ b, b < s4.heap.objs.size → b ≠ D := fun b hb => Nat.ne_of_lt (Nat.lt_of_lt_of_le hb hD4)
    have cl4 : ∀ x c, X.env.cells.lookup x = some c → c ≠ D := fun x c e => let ⟨v, q⟩ := I4.cell x c e; l4 c q.lt
    refine ⟨hQ, I1.turned hk hn (Ne.symm (l4 _ I4.lt)) (.inr (Nat.le_trans I4.sz hD4)) cl4 (fun p hp => ?_), hgs, Ib.turned (s := s.setGen gi .running) hk hn (by rw [eL]; exact Nat.ne_of_gt hDC) (.inr (by rw [eS]; exact hD4)) (fun x c e => ?_) (fun p hp => ?_), T.keep _ _ _ st fun b hb o e => hk b o ?_ e, fr⟩
    · rcases List.mem_append.mp hp with z | z
      · exact l4 _ (Heap.lt_size (I4.pin p (by simp [z])).1)
      · rcases List.mem_append.mp z with z | z
        · exact l4 _ (Heap.lt_size (I4.pin p (by simp [z])).1)
        · exact hPD p z
    · obtain ⟨v, q⟩ := Ib.cell x c e
      have e' : (cloOf X.env scope.names []).lookup x = some c := by rw [← hX'] at e; exact e
      exact cl4 x c ((cloOf_mem (PySem.mem_of_lookup e')).elim (fun z => by simp at z) id)
    · rw [ePn, List.nil_append] at hp
      rcases List.mem_cons.mp hp with z | z
      · subst z; exact Nat.ne_of_lt hDa
      · exact hPD p z
    · obtain ⟨o', e'⟩ := o4 b hb
      exact l4 b (Heap.lt_size e')
  · -- at the start
    have Ib0 : Inv X' [] (blkSt own σ capI) H4 { s4 with heap := h6, toks := s4.toks + 1 + 1 + 1, gens := s4.gens.push .running } := by
      rw [← hX']
      refine I4.gen B hown hnc f4 o4 k46 hCs (hn5.at' fun o e => k6 _ o e) ?_ hAh
      rw [hcenv]
      exact over_frames hAf
    refine ⟨fun p hp => absurd hp (by simp), by rw [List.append_nil]; exact (I4.grown k46 gk6 : Inv X pins σ H4 _), ⟨_, gi6, rfl, .inl (by rw [eE])⟩, ?_, T.keep _ _ _ st4 fun b _ o e => k46 b o e, hfr4⟩
    have e1 : (Shared.setGen { s4 with gens := s4.gens.push (.fresh (genS elt tg iter scope pos it cenv)), toks := s4.toks + 1 + 1 + 1, heap := h6 } gi .running) = { s4 with heap := h6, toks := s4.toks + 1 + 1 + 1, gens := s4.gens.push .running } := by
      show Shared.mk _ ((s4.gens.push _).setIfInBounds gi .running) _ _ _ = _
      congr 1
      rw [← hgi]
      apply Array.ext_getElem?
      intro j
      by_cases hj : s4.gens.size = j
      · subst hj; simp
      · simp [hj, Array.getElem?_push, Ne.symm hj]
    rw [e1]
    exact Ib0.pins_of fun p hp => by
      obtain rfl : p = (a, gob) := by simpa using hp
      refine ⟨oa6, ?_, by rw [eL]; exact Nat.ne_of_gt hCa, afs, fun v z => ?_⟩
      · exact I4.hok.fresh (Nat.le_trans hCs (Nat.le_of_lt hCa))
      · rw [← hgo] at z; cases z
  · show a + 1 ≤ h6.objs.size
    rw [← hh6, Heap.size_push, ha]
    exact Nat.le_refl _
end
end L2
set_option Elab.async false
set_option linter.all false
set_option maxRecDepth 100000
namespace L3
open PySem PySem.Spec PyProof.Rows L2
inductive D where
  | non | bl (b : Bool) | int (i : Int) | str (x : Str) | tup (ds : List D) | lst (ds : List D) | ro (ds : List D) | dic (kvs : List (Key × D)) | cell (n : Nat)
abbrev Mu := List (Option (List D))
abbrev En := List (Option D)
mutual
def DenF (K : PySem.W.Frag) (F : Hp) (ad : List Addr) : D → V → Prop
  | .non, v => v = .non
  | .bl b, v => v = .bl b
  | .int i, v => v = .int i
  | .str x, v => v = .str x
  | .tup ds, v => ∃ a xs, v = .ref a ∧ SqT K F a xs ∧ DenFL K F ad ds xs
  | .lst ds, v => ∃ a xs, v = .ref a ∧ F a = some (.lst xs) ∧ DenFL K F ad ds xs
  | .ro ds, v => ∃ a xs, v = .ref a ∧ SqL K F a xs ∧ DenFL K F ad ds xs
  | .dic kvs, v => ∃ a ps, v = .ref a ∧ F a = some (.dK ps) ∧ DenFK K F ad kvs ps
  | .cell n, v => ∃ a, v = .ref a ∧ ad[n]? = some a
def DenFL (K : PySem.W.Frag) (F : Hp) (ad : List Addr) : List D → List V → Prop
  | [], vs => vs = []
  | d :: ds, vs => ∃ u us, vs = u :: us ∧ DenF K F ad d u ∧ DenFL K F ad ds us
def DenFK (K : PySem.W.Frag) (F : Hp) (ad : List Addr) : List (Key × D) → List (Key × V) → Prop
  | [], vs => vs = []
  | p :: ds, vs => ∃ u us, vs = u :: us ∧ (u.1 = p.1 ∧ DenF K F ad p.2 u.2) ∧ DenFK K F ad ds us
end
def AdLe (a b : List Addr) : Prop := ∀ (i : Nat) x, a[i]? = some x → b[i]? = some x
theorem AdLe.refl (a : List Addr) : AdLe a a := fun _ _ e => e
theorem AdLe.trans {a b c : List Addr} (x : AdLe a b) (y : AdLe b c) : AdLe a c := fun i z e => y i z (x i z e)
theorem SqT.mono {K : PySem.W.Frag} {F F' : Hp} {a : Addr} {xs : List V} (s : Same F F') (h : SqT K F a xs) : SqT K F' a xs := by
  rcases h with (h | ⟨o, h⟩) | h
  · exact .inl (.inl (s _ _ h))
  · exact .inl (.inr ⟨o, s _ _ h⟩)
  · exact .inr h
theorem SqL.mono {K : PySem.W.Frag} {F F' : Hp} {a : Addr} {xs : List V} (s : Same F F') (h : SqL K F a xs) : SqL K F' a xs := by
  rcases h with (h | ⟨o, h⟩) | h
  · exact .inl (.inl (s _ _ h))
  · exact .inl (.inr ⟨o, s _ _ h⟩)
  · exact .inr h
section
variable {K : PySem.W.Frag} {F F' : Hp} {ad ad' : List Addr}
mutual
theorem DenF.mono (s : Same F F') (l : AdLe ad ad') : ∀ (d : D) (v : V), DenF K F ad d v → DenF K F' ad' d v
  | .non, v, h => by unfold DenF at h ⊢; exact h
  | .bl _, v, h => by unfold DenF at h ⊢; exact h
  | .int _, v, h => by unfold DenF at h ⊢; exact h
  | .str _, v, h => by unfold DenF at h ⊢; exact h
  | .tup ds, v, h => by
    unfold DenF at h ⊢
    obtain ⟨a, xs, e, q, r⟩ := h
    exact ⟨a, xs, e, SqT.mono s q, DenFL.mono s l ds xs r⟩
  | .lst ds, v, h => by
    unfold DenF at h ⊢
    obtain ⟨a, xs, e, q, r⟩ := h
    exact ⟨a, xs, e, s _ _ q, DenFL.mono s l ds xs r⟩
  | .ro ds, v, h => by
    unfold DenF at h ⊢
    obtain ⟨a, xs, e, q, r⟩ := h
    exact ⟨a, xs, e, SqL.mono s q, DenFL.mono s l ds xs r⟩
  | .dic kvs, v, h => by
    unfold DenF at h ⊢
    obtain ⟨a, ps, e, q, r⟩ := h
    exact ⟨a, ps, e, s _ _ q, DenFK.mono s l kvs ps r⟩
  | .cell n, v, h => by
    unfold DenF at h ⊢
    obtain ⟨a, e, q⟩ := h
    exact ⟨a, e, l _ _ q⟩
theorem DenFL.mono (s : Same F F') (l : AdLe ad ad') : ∀ (ds : List D) (vs : List V), DenFL K F ad ds vs → DenFL K F' ad' ds vs
  | [], vs, h => by unfold DenFL at h ⊢; exact h
  | d :: ds, vs, h => by
    unfold DenFL at h ⊢
    obtain ⟨u, us, e, p, r⟩ := h
    exact ⟨u, us, e, DenF.mono s l d u p, DenFL.mono s l ds us r⟩
theorem DenFK.mono (s : Same F F') (l : AdLe ad ad') : ∀ (ds : List (Key × D)) (vs : List (Key × V)), DenFK K F ad ds vs → DenFK K F' ad' ds vs
  | [], vs, h => by unfold DenFK at h ⊢; exact h
  | p :: ds, vs, h => by
    unfold DenFK at h ⊢
    obtain ⟨u, us, e, ⟨p1, p2⟩, r⟩ := h
    exact ⟨u, us, e, ⟨p1, DenF.mono s l p.2 u.2 p2⟩, DenFK.mono s l ds us r⟩
end
theorem DenFL.nil : DenFL K F ad [] [] := by unfold DenFL; rfl
theorem DenFL.cons {d : D} {v : V} {ds : List D} {vs : List V} (h : DenF K F ad d v) (r : DenFL K F ad ds vs) : DenFL K F ad (d :: ds) (v :: vs) := by unfold DenFL; exact ⟨v, vs, rfl, h, r⟩
theorem DenFL.length : ∀ {ds : List D} {vs : List V}, DenFL K F ad ds vs → ds.length = vs.length
  | [], vs, h => by unfold DenFL at h; subst h; rfl
  | d :: ds, vs, h => by
    unfold DenFL at h
    obtain ⟨u, us, rfl, _, r⟩ := h
    rw [List.length_cons, List.length_cons, DenFL.length r]
theorem DenFL.get : ∀ {ds : List D} {vs : List V} {i : Nat} {d : D}, DenFL K F ad ds vs → ds[i]? = some d → ∃ v, vs[i]? = some v ∧ DenF K F ad d v
  | [], _, _, _, _, e => by simp at e
  | d :: ds, vs, 0, x, h, e => by
    unfold DenFL at h
    obtain ⟨u, us, rfl, p, r⟩ := h
    simp at e; subst e
    exact ⟨u, rfl, p⟩
  | d :: ds, vs, i + 1, x, h, e => by
    unfold DenFL at h
    obtain ⟨u, us, rfl, p, r⟩ := h
    obtain ⟨v, e1, e2⟩ := DenFL.get (i := i) r (by simpa using e)
    exact ⟨v, by simpa using e1, e2⟩
theorem DenFL.get' : ∀ {ds : List D} {vs : List V} {i : Nat} {v : V}, DenFL K F ad ds vs → vs[i]? = some v → ∃ d, ds[i]? = some d ∧ DenF K F ad d v
  | [], vs, i, v, h, e => by unfold DenFL at h; subst h; simp at e
  | d :: ds, vs, 0, x, h, e => by
    unfold DenFL at h
    obtain ⟨u, us, rfl, p, r⟩ := h
    simp at e; subst e
    exact ⟨d, rfl, p⟩
  | d :: ds, vs, i + 1, x, h, e => by
    unfold DenFL at h
    obtain ⟨u, us, rfl, p, r⟩ := h
    obtain ⟨y, e1, e2⟩ := DenFL.get' (i := i) r (by simpa using e)
    exact ⟨y, by simpa using e1, e2⟩
theorem DenFL.append : ∀ {ds es : List D} {vs us : List V}, DenFL K F ad ds vs → DenFL K F ad es us → DenFL K F ad (ds ++ es) (vs ++ us)
  | [], es, vs, us, h, r => by unfold DenFL at h; subst h; exact r
  | d :: ds, es, vs, us, h, r => by
    unfold DenFL at h
    obtain ⟨u, ws, rfl, p, q⟩ := h
    exact DenFL.cons p (DenFL.append q r)
theorem DenFL.drop : ∀ {ds : List D} {vs : List V} (n : Nat), DenFL K F ad ds vs → DenFL K F ad (ds.drop n) (vs.drop n)
  | ds, vs, 0, h => h
  | [], vs, n + 1, h => by unfold DenFL at h; subst h; exact DenFL.nil
  | d :: ds, vs, n + 1, h => by
    unfold DenFL at h
    obtain ⟨u, ws, rfl, p, q⟩ := h
    exact DenFL.drop n q
theorem DenFL.take : ∀ {ds : List D} {vs : List V} (n : Nat), DenFL K F ad ds vs → DenFL K F ad (ds.take n) (vs.take n)
  | ds, vs, 0, h => DenFL.nil
  | [], vs, n + 1, h => by unfold DenFL at h; subst h; exact DenFL.nil
  | d :: ds, vs, n + 1, h => by
    unfold DenFL at h
    obtain ⟨u, ws, rfl, p, q⟩ := h
    exact DenFL.cons p (DenFL.take n q)
theorem DenFL.set : ∀ {ds : List D} {vs : List V} (i : Nat) {d : D} {v : V}, DenFL K F ad ds vs → DenF K F ad d v → DenFL K F ad (ds.set i d) (vs.set i v)
  | [], vs, i, d, v, h, _ => by unfold DenFL at h; subst h; exact DenFL.nil
  | x :: ds, vs, 0, d, v, h, k => by
    unfold DenFL at h
    obtain ⟨u, ws, rfl, p, q⟩ := h
    exact DenFL.cons k q
  | x :: ds, vs, i + 1, d, v, h, k => by
    unfold DenFL at h
    obtain ⟨u, ws, rfl, p, q⟩ := h
    exact DenFL.cons p (DenFL.set i q k)
theorem DenFL.reverse : ∀ {ds : List D} {vs : List V}, DenFL K F ad ds vs → DenFL K F ad ds.reverse vs.reverse
  | [], vs, h => by unfold DenFL at h; subst h; exact DenFL.nil
  | d :: ds, vs, h => by
    unfold DenFL at h
    obtain ⟨u, ws, rfl, p, q⟩ := h
    rw [List.reverse_cons, List.reverse_cons]
    exact DenFL.append (DenFL.reverse q) (DenFL.cons p DenFL.nil)
theorem DenFL.two {d e : D} {vs : List V} (h : DenFL K F ad [d, e] vs) : ∃ u v, vs = [u, v] ∧ DenF K F ad d u ∧ DenF K F ad e v := by
  unfold DenFL at h
  obtain ⟨u, us, rfl, p, h⟩ := h
  unfold DenFL at h
  obtain ⟨v, ws, rfl, q, h⟩ := h
  unfold DenFL at h
  subst h
  exact ⟨u, v, rfl, p, q⟩
theorem DenFL.one {d : D} {vs : List V} (h : DenFL K F ad [d] vs) : ∃ u, vs = [u] ∧ DenF K F ad d u := by
  unfold DenFL at h
  obtain ⟨u, us, rfl, p, h⟩ := h
  unfold DenFL at h
  subst h
  exact ⟨u, rfl, p⟩
theorem DenFL.zero {vs : List V} (h : DenFL K F ad [] vs) : vs = [] := by unfold DenFL at h; exact h
end
structure Wd where
  H : Hp
  ad : List Addr
  mu : Mu
def Live (ad : List Addr) (mu : Mu) (b : Addr) : Prop := ∃ (i : Nat) (ds : List D), ad[i]? = some b ∧ mu[i]? = some (some ds)
open Classical in
noncomputable def Wd.fz (tb : List Addr) (W : Wd) : Hp := fun b => if Live W.ad W.mu b ∨ b ∈ tb then none else W.H b
abbrev Den (K : PySem.W.Frag) (tb : List Addr) (W : Wd) : D → V → Prop := DenF K (W.fz tb) W.ad
abbrev DenL (K : PySem.W.Frag) (tb : List Addr) (W : Wd) : List D → List V → Prop := DenFL K (W.fz tb) W.ad
structure WOk (K : PySem.W.Frag) (tb : List Addr) (W : Wd) : Prop where
  len : W.ad.length = W.mu.length
  cont : ∀ (i : Nat) a ds, W.ad[i]? = some a → W.mu[i]? = some (some ds) → ∃ xs, W.H a = some (.lst xs) ∧ DenL K tb W ds xs
  inj : ∀ (i j : Nat) a ds es, W.ad[i]? = some a → W.ad[j]? = some a → W.mu[i]? = some (some ds) → W.mu[j]? = some (some es) → i = j
  tab : ∀ P ∈ tb, ∃ ps, W.H P = some (.tbl ps) ∧ TriplesOk ps.toList
structure Le (tb : List Addr) (W W' : Wd) : Prop where
  same : Same (W.fz tb) (W'.fz tb)
  ad : AdLe W.ad W'.ad
theorem Le.refl {tb : List Addr} (W : Wd) : Le tb W W := ⟨Same.refl _, AdLe.refl _⟩
theorem Le.trans {tb : List Addr} {W W1 W2 : Wd} (a : Le tb W W1) (b : Le tb W1 W2) : Le tb W W2 := ⟨a.same.trans b.same, a.ad.trans b.ad⟩
section
variable {K : PySem.W.Frag} {tb : List Addr} {W W' : Wd} {d : D} {v : V} {ds : List D} {vs : List V}
theorem Den.mono' (h : Den K tb W d v) (l : Le tb W W') : Den K tb W' d v := DenF.mono l.same l.ad d v h
theorem DenL.mono' (h : DenL K tb W ds vs) (l : Le tb W W') : DenL K tb W' ds vs := DenFL.mono l.same l.ad ds vs h
theorem fz_some {b : Addr} {o : HO} (h : W.fz tb b = some o) : W.H b = some o ∧ ¬ Live W.ad W.mu b ∧ b ∉ tb := by
  unfold Wd.fz at h
  split at h
  · cases h
  · rename_i q
    exact ⟨h, fun z => q (.inl z), fun z => q (.inr z)⟩
theorem fz_of {b : Addr} (h1 : ¬ Live W.ad W.mu b) (h2 : b ∉ tb) : W.fz tb b = W.H b := by
  unfold Wd.fz
  rw [if_neg]
  rintro (z | z)
  · exact h1 z
  · exact h2 z
theorem SqT.fz {a : Addr} {xs : List V} (h : SqT K (W.fz tb) a xs) : SqT K W.H a xs := by
  rcases h with (h | ⟨o, h⟩) | h
  · exact .inl (.inl (fz_some h).1)
  · exact .inl (.inr ⟨o, (fz_some h).1⟩)
  · exact .inr h
theorem SqL.fz {a : Addr} {xs : List V} (h : SqL K (W.fz tb) a xs) : SqL K W.H a xs := by
  rcases h with (h | ⟨o, h⟩) | h
  · exact .inl (.inl (fz_some h).1)
  · exact .inl (.inr ⟨o, (fz_some h).1⟩)
  · exact .inr h
theorem WOk.live (ok : WOk K tb W) {b : Addr} (h : Live W.ad W.mu b) : ∃ xs, W.H b = some (.lst xs) := by
  obtain ⟨i, ds, e1, e2⟩ := h
  obtain ⟨xs, e, _⟩ := ok.cont i b ds e1 e2
  exact ⟨xs, e⟩
theorem WOk.alloc (ok : WOk K tb W) {p : Addr} {o : HO} (hp : W.H p = none) : WOk K tb ⟨upd W.H p o, W.ad, W.mu⟩ ∧ Le tb W ⟨upd W.H p o, W.ad, W.mu⟩ ∧ (Wd.fz tb ⟨upd W.H p o, W.ad, W.mu⟩) p = some o := by
  have nl : ¬ Live W.ad W.mu p := fun z => by obtain ⟨xs, e⟩ := ok.live z; rw [hp] at e; cases e
  have nt : p ∉ tb := fun z => by obtain ⟨ps, e, _⟩ := ok.tab p z; rw [hp] at e; cases e
  have le : Le tb W ⟨upd W.H p o, W.ad, W.mu⟩ := ⟨fun b u e => by
    obtain ⟨e1, e2, e3⟩ := fz_some e
    have hb : b ≠ p := ne_of_none e1 hp
    have q := fz_of (tb := tb) (W := ⟨upd W.H p o, W.ad, W.mu⟩) e2 e3
    rw [q]
    show upd W.H p o b = some u
    rw [upd_ne hb]; exact e1, AdLe.refl _⟩
  refine ⟨⟨ok.len, fun i a ds e1 e2 => ?_, ok.inj, fun P hP => ?_⟩, le, ?_⟩
  · obtain ⟨xs, e, r⟩ := ok.cont i a ds e1 e2
    refine ⟨xs, ?_, DenL.mono' r le⟩
    show upd W.H p o a = _
    rw [upd_ne (ne_of_none e hp)]; exact e
  · obtain ⟨ps, e, r⟩ := ok.tab P hP
    refine ⟨ps, ?_, r⟩
    show upd W.H p o P = _
    rw [upd_ne (ne_of_none e hp)]; exact e
  · have q := fz_of (tb := tb) (W := ⟨upd W.H p o, W.ad, W.mu⟩) nl nt
    rw [q]; exact upd_same
theorem WOk.new (ok : WOk K tb W) {p : Addr} (hp : W.H p = none) (r : DenL K tb W ds vs) :
    WOk K tb ⟨upd W.H p (.lst vs), W.ad ++ [p], W.mu ++ [some ds]⟩ ∧ Le tb W ⟨upd W.H p (.lst vs), W.ad ++ [p], W.mu ++ [some ds]⟩ ∧ Den K tb ⟨upd W.H p (.lst vs), W.ad ++ [p], W.mu ++ [some ds]⟩ (.cell W.mu.length) (.ref p) := by
  have adl : AdLe W.ad (W.ad ++ [p]) := fun i x e => by
    rw [List.getElem?_append_left (List.getElem?_eq_some_iff.mp e).1]; exact e
  have lv : ∀ b, Live (W.ad ++ [p]) (W.mu ++ [some ds]) b → Live W.ad W.mu b ∨ b = p := fun b ⟨i, es, e1, e2⟩ => by
    by_cases hi : i < W.ad.length
    · rw [List.getElem?_append_left hi] at e1
      rw [List.getElem?_append_left (by rw [← ok.len]; exact hi)] at e2
      exact .inl ⟨i, es, e1, e2⟩
    · rw [List.getElem?_append_right (Nat.le_of_not_lt hi)] at e1
      right
      have : (i - W.ad.length) = 0 := by
        have := (List.getElem?_eq_some_iff.mp e1).1
        simp at this
        omega
      rw [this] at e1
      simpa using e1.symm
  have le : Le tb W ⟨upd W.H p (.lst vs), W.ad ++ [p], W.mu ++ [some ds]⟩ := ⟨fun b u e => by
    obtain ⟨e1, e2, e3⟩ := fz_some e
    have hb : b ≠ p := ne_of_none e1 hp
    have q := fz_of (tb := tb) (W := ⟨upd W.H p (.lst vs), W.ad ++ [p], W.mu ++ [some ds]⟩) (b := b) (fun z => (lv b z).elim e2 hb) e3
    rw [q]
    show upd W.H p (.lst vs) b = some u
    rw [upd_ne hb]; exact e1, adl⟩
  refine ⟨⟨by simp [ok.len], fun i a es e1 e2 => ?_, fun i j a es fs e1 e2 e3 e4 => ?_, fun P hP => ?_⟩, le, ?_⟩
  · by_cases hi : i < W.ad.length
    · have e1' : W.ad[i]? = some a := by rw [← List.getElem?_append_left (l₂ := [p]) hi]; exact e1
      have e2' : W.mu[i]? = some (some es) := by rw [← List.getElem?_append_left (l₂ := [some ds]) (by rw [← ok.len]; exact hi)]; exact e2
      obtain ⟨xs, e, q⟩ := ok.cont i a es e1' e2'
      refine ⟨xs, ?_, DenL.mono' q le⟩
      show upd W.H p (.lst vs) a = _
      rw [upd_ne (ne_of_none e hp)]; exact e
    · have h0 : i = W.ad.length := by
        have h1 : i < (W.ad ++ [p]).length := (List.getElem?_eq_some_iff.mp e1).1
        simp at h1
        omega
      have e1' : (W.ad ++ [p])[i]? = some a := e1
      have e2' : (W.mu ++ [some ds])[i]? = some (some es) := e2
      rw [h0] at e1' e2'
      rw [ok.len] at e2'
      simp at e1' e2'
      subst e1' e2'
      exact ⟨vs, upd_same, DenL.mono' r le⟩
  · have old : ∀ (k : Nat) es, (W.ad ++ [p])[k]? = some a → (W.mu ++ [some ds])[k]? = some (some es) → (k < W.ad.length ∧ W.ad[k]? = some a ∧ W.mu[k]? = some (some es)) ∨ (k = W.ad.length ∧ a = p) := fun k es q1 q2 => by
      by_cases hk : k < W.ad.length
      · left
        refine ⟨hk, ?_, ?_⟩
        · rw [← List.getElem?_append_left (l₂ := [p]) hk]; exact q1
        · rw [← List.getElem?_append_left (l₂ := [some ds]) (by rw [← ok.len]; exact hk)]; exact q2
      · right
        have h1 : k < (W.ad ++ [p]).length := (List.getElem?_eq_some_iff.mp q1).1
        simp at h1
        have h0 : k = W.ad.length := by omega
        subst h0
        simp at q1
        exact ⟨rfl, q1.symm⟩
    rcases old i es e1 e3 with ⟨_, a1, a2⟩ | ⟨a1, a2⟩ <;> rcases old j fs e2 e4 with ⟨_, b1, b2⟩ | ⟨b1, b2⟩
    · exact ok.inj i j a es fs a1 b1 a2 b2
    · obtain ⟨xs, e, _⟩ := ok.cont i a es a1 a2
      rw [b2, hp] at e; cases e
    · obtain ⟨xs, e, _⟩ := ok.cont j a fs b1 b2
      rw [a2, hp] at e; cases e
    · rw [a1, b1]
  · obtain ⟨ps, e, q⟩ := ok.tab P hP
    refine ⟨ps, ?_, q⟩
    show upd W.H p (.lst vs) P = _
    rw [upd_ne (ne_of_none e hp)]; exact e
  · show DenF K _ _ (.cell W.mu.length) (.ref p)
    unfold DenF
    refine ⟨p, rfl, ?_⟩
    rw [← ok.len]
    simp
theorem WOk.write (ok : WOk K tb W) {i : Nat} {a : Addr} {es : List D} (e1 : W.ad[i]? = some a) (e2 : W.mu[i]? = some (some es)) (r : DenL K tb W ds vs) :
    WOk K tb ⟨upd W.H a (.lst vs), W.ad, W.mu.set i (some ds)⟩ ∧ Le tb W ⟨upd W.H a (.lst vs), W.ad, W.mu.set i (some ds)⟩ := by
  have hi : i < W.mu.length := (List.getElem?_eq_some_iff.mp e2).1
  have lv : ∀ b, Live W.ad (W.mu.set i (some ds)) b → Live W.ad W.mu b := fun b ⟨j, fs, q1, q2⟩ => by
    by_cases hj : i = j
    · subst hj; exact ⟨i, es, q1, e2⟩
    · rw [List.getElem?_set_ne hj] at q2; exact ⟨j, fs, q1, q2⟩
  have la : Live W.ad W.mu a := ⟨i, es, e1, e2⟩
  have le : Le tb W ⟨upd W.H a (.lst vs), W.ad, W.mu.set i (some ds)⟩ := ⟨fun b u e => by
    obtain ⟨p1, p2, p3⟩ := fz_some e
    have hb : b ≠ a := fun z => p2 (z ▸ la)
    have q := fz_of (tb := tb) (W := ⟨upd W.H a (.lst vs), W.ad, W.mu.set i (some ds)⟩) (b := b) (fun z => p2 (lv b z)) p3
    rw [q]
    show upd W.H a (.lst vs) b = some u
    rw [upd_ne hb]; exact p1, AdLe.refl _⟩
  refine ⟨⟨by show W.ad.length = (W.mu.set i (some ds)).length; rw [List.length_set]; exact ok.len, fun j b fs q1 q2 => ?_, fun j k b fs gs q1 q2 q3 q4 => ?_, fun P hP => ?_⟩, le⟩
  · have q2' : (W.mu.set i (some ds))[j]? = some (some fs) := q2
    by_cases hj : i = j
    · subst hj
      have q1' : W.ad[i]? = some b := q1
      rw [e1] at q1'; cases q1'
      rw [List.getElem?_set_self hi] at q2'
      cases q2'
      exact ⟨vs, upd_same, DenL.mono' r le⟩
    · rw [List.getElem?_set_ne hj] at q2'
      obtain ⟨xs, e, q⟩ := ok.cont j b fs q1 q2'
      refine ⟨xs, ?_, DenL.mono' q le⟩
      show upd W.H a (.lst vs) b = _
      have hba : b ≠ a := by
        intro z
        subst z
        exact hj (ok.inj i j b es fs e1 q1 e2 q2')
      rw [upd_ne hba]; exact e
  · have up : ∀ (j : Nat) fs, (W.mu.set i (some ds))[j]? = some (some fs) → ∃ gs, W.mu[j]? = some (some gs) := fun j fs q => by
      by_cases hj : i = j
      · subst hj; exact ⟨es, e2⟩
      · rw [List.getElem?_set_ne hj] at q; exact ⟨fs, q⟩
    obtain ⟨fs', q3'⟩ := up j fs q3
    obtain ⟨gs', q4'⟩ := up k gs q4
    exact ok.inj j k b fs' gs' q1 q2 q3' q4'
  · obtain ⟨ps, e, q⟩ := ok.tab P hP
    refine ⟨ps, ?_, q⟩
    show upd W.H a (.lst vs) P = _
    obtain ⟨xs, ea, _⟩ := ok.cont i a es e1 e2
    rw [upd_ne (ne_of e ea (by intro z; cases z))]; exact e
theorem WOk.freeze (ok : WOk K tb W) {i : Nat} {a : Addr} {es : List D} (e1 : W.ad[i]? = some a) (e2 : W.mu[i]? = some (some es)) :
    WOk K tb ⟨W.H, W.ad, W.mu.set i none⟩ ∧ Le tb W ⟨W.H, W.ad, W.mu.set i none⟩ ∧ Den K tb ⟨W.H, W.ad, W.mu.set i none⟩ (.lst es) (.ref a) := by
  have hi : i < W.mu.length := (List.getElem?_eq_some_iff.mp e2).1
  have up : ∀ (j : Nat) fs, (W.mu.set i none)[j]? = some (some fs) → i ≠ j ∧ W.mu[j]? = some (some fs) := fun j fs q => by
    by_cases hj : i = j
    · subst hj; rw [List.getElem?_set_self hi] at q; cases q
    · rw [List.getElem?_set_ne hj] at q; exact ⟨hj, q⟩
  have lv : ∀ b, Live W.ad (W.mu.set i none) b → Live W.ad W.mu b := fun b ⟨j, fs, q1, q2⟩ => ⟨j, fs, q1, (up j fs q2).2⟩
  have le : Le tb W ⟨W.H, W.ad, W.mu.set i none⟩ := ⟨fun b u e => by
    obtain ⟨p1, p2, p3⟩ := fz_some e
    have q := fz_of (tb := tb) (W := ⟨W.H, W.ad, W.mu.set i none⟩) (b := b) (fun z => p2 (lv b z)) p3
    rw [q]; exact p1, AdLe.refl _⟩
  obtain ⟨xs, ea, ra⟩ := ok.cont i a es e1 e2
  refine ⟨⟨by show W.ad.length = (W.mu.set i none).length; rw [List.length_set]; exact ok.len, fun j b fs q1 q2 => ?_, fun j k b fs gs q1 q2 q3 q4 => ?_, ok.tab⟩, le, ?_⟩
  · obtain ⟨xs, e, q⟩ := ok.cont j b fs q1 (up j fs q2).2
    exact ⟨xs, e, DenL.mono' q le⟩
  · exact ok.inj j k b fs gs q1 q2 (up j fs q3).2 (up k gs q4).2
  · show DenF K _ _ (.lst es) (.ref a)
    unfold DenF
    refine ⟨a, xs, rfl, ?_, DenL.mono' ra le⟩
    have nl : ¬ Live W.ad (W.mu.set i none) a := fun ⟨j, fs, q1, q2⟩ => by
      obtain ⟨hj, q⟩ := up j fs q2
      exact hj (ok.inj i j a es fs e1 q1 e2 q)
    have nt : a ∉ tb := fun z => by
      obtain ⟨ps, e, _⟩ := ok.tab a z
      rw [ea] at e; cases e
    have q := fz_of (tb := tb) (W := ⟨W.H, W.ad, W.mu.set i none⟩) nl nt
    rw [q]; exact ea
theorem WOk.tbl (ok : WOk K tb W) {P : Addr} {ps ps' : Array Value} (hP : P ∈ tb) (e : W.H P = some (.tbl ps)) (ht : TriplesOk ps'.toList) :
    WOk K tb ⟨upd W.H P (.tbl ps'), W.ad, W.mu⟩ ∧ Le tb W ⟨upd W.H P (.tbl ps'), W.ad, W.mu⟩ := by
  have le : Le tb W ⟨upd W.H P (.tbl ps'), W.ad, W.mu⟩ := ⟨fun b u q => by
    obtain ⟨p1, p2, p3⟩ := fz_some q
    have hb : b ≠ P := fun z => p3 (z ▸ hP)
    have q := fz_of (tb := tb) (W := ⟨upd W.H P (.tbl ps'), W.ad, W.mu⟩) (b := b) p2 p3
    rw [q]
    show upd W.H P (.tbl ps') b = some u
    rw [upd_ne hb]; exact p1, AdLe.refl _⟩
  refine ⟨⟨ok.len, fun i a ds e1 e2 => ?_, ok.inj, fun Q hQ => ?_⟩, le⟩
  · obtain ⟨xs, ea, r⟩ := ok.cont i a ds e1 e2
    refine ⟨xs, ?_, DenL.mono' r le⟩
    show upd W.H P (.tbl ps') a = _
    rw [upd_ne (ne_of ea e (by intro z; cases z))]; exact ea
  · by_cases hq : Q = P
    · subst hq; exact ⟨ps', upd_same, ht⟩
    · obtain ⟨qs, e', r⟩ := ok.tab Q hQ
      refine ⟨qs, ?_, r⟩
      show upd W.H P (.tbl ps') Q = _
      rw [upd_ne hq]; exact e'
end
end L3
set_option Elab.async false
set_option linter.all false
set_option maxRecDepth 100000
namespace L3
open PySem PySem.Spec PyProof.Rows L2
abbrev SV := L2.St
abbrev EF := En → Mu → Option (D × Mu)
abbrev AF := En → Mu → Option (List D × Mu)
abbrev TF := En → Mu → Option (Bool × Mu)
inductive Fl where
  | nx | bk | ct | rt (d : D)
abbrev SF := En → Mu → Option (Fl × En × Mu)
def DenE (K : PySem.W.Frag) (tb : List Addr) (W : Wd) (δ : En) (σ : SV) : Prop := δ.length = σ.length ∧ ∀ (i : Nat) d, δ[i]? = some (some d) → ∃ v, σ[i]? = some (some v) ∧ Den K tb W d v
section
variable {K : PySem.W.Frag} {tb : List Addr} {W W' : Wd} {δ : En} {σ : SV}
theorem DenE.mono' (h : DenE K tb W δ σ) (l : Le tb W W') : DenE K tb W' δ σ := ⟨h.1, fun i d e => let ⟨v, e1, e2⟩ := h.2 i d e; ⟨v, e1, Den.mono' e2 l⟩⟩
theorem DenE.set (h : DenE K tb W δ σ) {i : Nat} {d : D} {v : V} (r : Den K tb W d v) : DenE K tb W (δ.set i (some d)) (σ.set i (some v)) := by
  refine ⟨by rw [List.length_set, List.length_set]; exact h.1, fun j e q => ?_⟩
  by_cases hj : i = j
  · subst hj
    have hi : i < δ.length := by
      have := (List.getElem?_eq_some_iff.mp q).1
      rwa [List.length_set] at this
    rw [List.getElem?_set_self hi] at q
    cases q
    exact ⟨v, by rw [List.getElem?_set_self (by rw [← h.1]; exact hi)], r⟩
  · rw [List.getElem?_set_ne hj] at q ⊢
    exact h.2 j e q
end
def tD (K : PySem.W.Frag) (tb : List Addr) (f : EF) : TE := fun σ H Q => ∃ W δ d μ', W.H = H ∧ WOk K tb W ∧ DenE K tb W δ σ ∧ f δ W.mu = some (d, μ') ∧
  ∀ v W', WOk K tb W' → Le tb W W' → W'.mu = μ' → Den K tb W' d v → Q v W'.H
def tDA (K : PySem.W.Frag) (tb : List Addr) (f : AF) : TA := fun σ H Q => ∃ W δ ds μ', W.H = H ∧ WOk K tb W ∧ DenE K tb W δ σ ∧ f δ W.mu = some (ds, μ') ∧
  ∀ vs W', WOk K tb W' → Le tb W W' → W'.mu = μ' → DenL K tb W' ds vs → Q vs W'.H
def tDT (K : PySem.W.Frag) (tb : List Addr) (f : TF) : TT := fun σ H Q => ∃ W δ b μ', W.H = H ∧ WOk K tb W ∧ DenE K tb W δ σ ∧ f δ W.mu = some (b, μ') ∧
  ∀ W', WOk K tb W' → Le tb W W' → W'.mu = μ' → Q b W'.H
def EndD (K : PySem.W.Frag) (tb : List Addr) (E : Ends) (fl : Fl) (σ : SV) (W : Wd) : Prop := match fl with
  | .nx => E.nx σ W.H
  | .bk => E.bk σ W.H
  | .ct => E.ct σ W.H
  | .rt d => ∀ v, Den K tb W d v → E.rt v W.H
def tDS (K : PySem.W.Frag) (tb : List Addr) (g : SF) : TS := fun E σ H => ∃ W δ fl δ' μ', W.H = H ∧ WOk K tb W ∧ DenE K tb W δ σ ∧ g δ W.mu = some (fl, δ', μ') ∧
  ∀ σ' W', WOk K tb W' → Le tb W W' → W'.mu = μ' → DenE K tb W' δ' σ' → EndD K tb E fl σ' W'
def PD (X : Cx) (tb : List Addr) (e : Expr) (f : EF) : Prop := PE X e (tD X.K tb f)
def PAD (X : Cx) (tb : List Addr) (es : List Expr) (f : AF) : Prop := PA X es (tDA X.K tb f)
def PTD (X : Cx) (tb : List Addr) (e : Expr) (f : TF) : Prop := PT X e (tDT X.K tb f)
def PWD (X : Cx) (tb : List Addr) (e : Expr) (f : TF) : Prop := PW X e (tDT X.K tb f)
def PSD (X : Cx) (tb : List Addr) (st : Stmt) (g : SF) : Prop := PS X st (tDS X.K tb g)
def PSsD (X : Cx) (tb : List Addr) (st : List Stmt) (g : SF) : Prop := PSs X st (tDS X.K tb g)
theorem pe_le {X : Cx} {e : Expr} {t t' : TE} (h : PE X e t) (k : ∀ σ H Q, t' σ H Q → t σ H Q) : PE X e t' := fun pins s σ H Q I hq => h pins s σ H Q I (k σ H Q hq)
theorem pa_le {X : Cx} {e : List Expr} {t t' : TA} (h : PA X e t) (k : ∀ σ H Q, t' σ H Q → t σ H Q) : PA X e t' := fun pos pins s σ H Q I hq => h pos pins s σ H Q I (k σ H Q hq)
theorem pt_le {X : Cx} {e : Expr} {t t' : TT} (h : PT X e t) (k : ∀ σ H Q, t' σ H Q → t σ H Q) : PT X e t' := fun pins s σ H Q I hq => h pins s σ H Q I (k σ H Q hq)
theorem pw_le {X : Cx} {e : Expr} {t t' : TT} (h : PW X e t) (k : ∀ σ H Q, t' σ H Q → t σ H Q) : PW X e t' := fun wh pins s σ H Q I hq => h wh pins s σ H Q I (k σ H Q hq)
theorem ps_le {X : Cx} {e : Stmt} {t t' : TS} (h : PS X e t) (k : ∀ E σ H, t' E σ H → t E σ H) : PS X e t' := fun pins s σ H E I hq => h pins s σ H E I (k E σ H hq)
theorem pss_le {X : Cx} {e : List Stmt} {t t' : TS} (h : PSs X e t) (k : ∀ E σ H, t' E σ H → t E σ H) : PSs X e t' := fun pins s σ H E I hq => h pins s σ H E I (k E σ H hq)
def mVar (i : Nat) : EF := fun δ μ => match δ[i]? with
  | some (some d) => some (d, μ)
  | _ => none
def mC (d : D) : EF := fun _ μ => some (d, μ)
def M1 (fa : EF) (op : D → Mu → Option (D × Mu)) : EF := fun δ μ => (fa δ μ).bind fun r => op r.1 r.2
def M2 (fa fb : EF) (op : D → D → Mu → Option (D × Mu)) : EF := fun δ μ => (fa δ μ).bind fun r => (fb δ r.2).bind fun q => op r.1 q.1 q.2
def mNil : AF := fun _ μ => some ([], μ)
def mCons (f : EF) (fs : AF) : AF := fun δ μ => (f δ μ).bind fun r => (fs δ r.2).bind fun q => some (r.1 :: q.1, q.2)
def MC (fs : AF) (op : List D → Mu → Option (D × Mu)) : EF := fun δ μ => (fs δ μ).bind fun r => op r.1 r.2
def RD1 (K : PySem.W.Frag) (tb : List Addr) (r : V → Hp → VK → Prop) (op : D → Mu → Option (D × Mu)) : Prop := ∀ (W : Wd) (x : D) (v : V) (d : D) (μ' : Mu) (Q : VK), WOk K tb W → Den K tb W x v → op x W.mu = some (d, μ') →
  (∀ v W', WOk K tb W' → Le tb W W' → W'.mu = μ' → Den K tb W' d v → Q v W'.H) → r v W.H Q
def RD2 (K : PySem.W.Frag) (tb : List Addr) (r : R2) (op : D → D → Mu → Option (D × Mu)) : Prop := ∀ (W : Wd) (x y : D) (v u : V) (d : D) (μ' : Mu) (Q : VK), WOk K tb W → Den K tb W x v → Den K tb W y u → op x y W.mu = some (d, μ') →
  (∀ v W', WOk K tb W' → Le tb W W' → W'.mu = μ' → Den K tb W' d v → Q v W'.H) → r v u W.H Q
def RDN (K : PySem.W.Frag) (tb : List Addr) (r : List V → Hp → VK → Prop) (op : List D → Mu → Option (D × Mu)) : Prop := ∀ (W : Wd) (xs : List D) (vs : List V) (d : D) (μ' : Mu) (Q : VK), WOk K tb W → DenL K tb W xs vs → op xs W.mu = some (d, μ') →
  (∀ v W', WOk K tb W' → Le tb W W' → W'.mu = μ' → Den K tb W' d v → Q v W'.H) → r vs W.H Q
section
variable {K : PySem.W.Frag} {tb : List Addr}
theorem put {W : Wd} {Q : VK} {d : D} {v : V} (ok : WOk K tb W) (h : ∀ v W', WOk K tb W' → Le tb W W' → W'.mu = W.mu → Den K tb W' d v → Q v W'.H) (r : Den K tb W d v) : Q v W.H := h v W ok (Le.refl _) rfl r
theorem den_int {W : Wd} {i : Int} : Den K tb W (.int i) (.int i) := by show DenF _ _ _ _ _; unfold DenF; rfl
theorem den_bl {W : Wd} {b : Bool} : Den K tb W (.bl b) (.bl b) := by show DenF _ _ _ _ _; unfold DenF; rfl
theorem den_non {W : Wd} : Den K tb W .non .non := by show DenF _ _ _ _ _; unfold DenF; rfl
theorem den_str {W : Wd} {x : Str} : Den K tb W (.str x) (.str x) := by show DenF _ _ _ _ _; unfold DenF; rfl
theorem of_int {W : Wd} {i : Int} {v : V} (h : Den K tb W (.int i) v) : v = .int i := by have h : DenF _ _ _ _ _ := h; unfold DenF at h; exact h
theorem of_bl {W : Wd} {b : Bool} {v : V} (h : Den K tb W (.bl b) v) : v = .bl b := by have h : DenF _ _ _ _ _ := h; unfold DenF at h; exact h
theorem of_non {W : Wd} {v : V} (h : Den K tb W .non v) : v = .non := by have h : DenF _ _ _ _ _ := h; unfold DenF at h; exact h
theorem of_str {W : Wd} {x : Str} {v : V} (h : Den K tb W (.str x) v) : v = .str x := by have h : DenF _ _ _ _ _ := h; unfold DenF at h; exact h
theorem of_tup {W : Wd} {ds : List D} {v : V} (h : Den K tb W (.tup ds) v) : ∃ a xs, v = .ref a ∧ SqT K (W.fz tb) a xs ∧ DenL K tb W ds xs := by have h : DenF _ _ _ _ _ := h; unfold DenF at h; exact h
theorem of_lst' {W : Wd} {ds : List D} {v : V} (h : Den K tb W (.lst ds) v) : ∃ a xs, v = .ref a ∧ W.fz tb a = some (.lst xs) ∧ DenL K tb W ds xs := by have h : DenF _ _ _ _ _ := h; unfold DenF at h; exact h
theorem of_lst {W : Wd} {ds : List D} {v : V} (h : Den K tb W (.lst ds) v) : ∃ a xs, v = .ref a ∧ SqL K (W.fz tb) a xs ∧ DenL K tb W ds xs := let ⟨a, xs, e, q, r⟩ := of_lst' h; ⟨a, xs, e, SqL.of q, r⟩
theorem of_ro {W : Wd} {ds : List D} {v : V} (h : Den K tb W (.ro ds) v) : ∃ a xs, v = .ref a ∧ SqL K (W.fz tb) a xs ∧ DenL K tb W ds xs := by have h : DenF _ _ _ _ _ := h; unfold DenF at h; exact h
theorem of_dic {W : Wd} {kvs : List (Key × D)} {v : V} (h : Den K tb W (.dic kvs) v) : ∃ a ps, v = .ref a ∧ W.fz tb a = some (.dK ps) ∧ DenFK K (W.fz tb) W.ad kvs ps := by have h : DenF _ _ _ _ _ := h; unfold DenF at h; exact h
theorem of_cell {W : Wd} {n : Nat} {v : V} (h : Den K tb W (.cell n) v) : ∃ a, v = .ref a ∧ W.ad[n]? = some a := by have h : DenF _ _ _ _ _ := h; unfold DenF at h; exact h
theorem put_tup {W : Wd} {Q : VK} {ds : List D} {vs : List V} {p : Addr} (ok : WOk K tb W) (h : ∀ v W', WOk K tb W' → Le tb W W' → W'.mu = W.mu → Den K tb W' (.tup ds) v → Q v W'.H) (r : DenL K tb W ds vs) (hp : W.H p = none) : Q (.ref p) (upd W.H p (.tup vs)) := by
  obtain ⟨ok', le, e⟩ := ok.alloc (o := .tup vs) hp
  refine h (.ref p) _ ok' le rfl ?_
  show DenF _ _ _ _ _
  unfold DenF
  exact ⟨p, vs, rfl, .inl (.inl e), DenL.mono' r le⟩
theorem put_lst {W : Wd} {Q : VK} {ds : List D} {vs : List V} {p : Addr} (ok : WOk K tb W) (h : ∀ v W', WOk K tb W' → Le tb W W' → W'.mu = W.mu → Den K tb W' (.lst ds) v → Q v W'.H) (r : DenL K tb W ds vs) (hp : W.H p = none) : Q (.ref p) (upd W.H p (.lst vs)) := by
  obtain ⟨ok', le, e⟩ := ok.alloc (o := .lst vs) hp
  refine h (.ref p) _ ok' le rfl ?_
  show DenF _ _ _ _ _
  unfold DenF
  exact ⟨p, vs, rfl, e, DenL.mono' r le⟩
end
section
variable {X : Cx} {tb : List Addr} {a b c e : Expr} {fa fb fc f : EF} {pos : Pos}
theorem pd_var {i : Nat} {x : Str} (hN : X.N[i]? = some x) (hv : Vis X.env.scope x) (hd : (x == ("__debug__" : Str)) = false := by decide) (hcd : (x == ("__classdict__" : Str)) = false := by decide) : PD X tb (.Name x pos) (mVar i) :=
  pe_le (pe_var hN hv hd hcd) fun σ H Q ⟨W, δ, d, μ', e, ok, hd, hf, h⟩ => by
    subst e
    unfold mVar at hf
    split at hf
    · rename_i d' e
      cases hf
      obtain ⟨v, ev, r⟩ := hd.2 i _ e
      exact ⟨v, ev, put ok h r⟩
    · cases hf
theorem pd_const {d : D} {v : V} (hp : PE X e (tC v)) (hd : ∀ W, Den X.K tb W d v) : PD X tb e (mC d) :=
  pe_le hp fun σ H Q ⟨W, δ, d', μ', e, ok, _, hf, h⟩ => by
    subst e
    cases hf
    exact put ok h (hd W)
theorem pd_int {i j} : PD X tb (.Constant (.int i) j pos) (mC (.int i)) := pd_const pe_int fun _ => den_int
theorem pd_bl {i j} : PD X tb (.Constant (.bool i) j pos) (mC (.bl i)) := pd_const pe_bl fun _ => den_bl
theorem pd_non {j} : PD X tb (.Constant .none j pos) (mC .non) := pd_const pe_non fun _ => den_non
theorem pd_str {i j} : PD X tb (.Constant (.str i) j pos) (mC (.str i)) := pd_const pe_str fun _ => den_str
structure GD (K : PySem.W.Frag) (mg : Str → Option Value) (x : Str) (d : D) : Prop where
  is : ∃ u v, mg x = some u ∧ RelV v u ∧ ∀ F ad, DenF K F ad d v
theorem pd_glob {x : Str} {d : D} (G : GD X.K X.mg x d) (hg : Gl X x) (hd : (x == ("__debug__" : Str)) = false := by decide) : PD X tb (.Name x pos) (mC d) := by
  obtain ⟨u, v, e, r, q⟩ := G.is
  exact pd_const (pe_glob hg e r hd) fun W => q _ _
theorem pd_one {r : V → Hp → VK → Prop} {op : D → Mu → Option (D × Mu)} (hp : ∀ ta, PE X a ta → PE X e (tUn r ta)) (ho : RD1 X.K tb r op) (ha : PD X tb a fa) : PD X tb e (M1 fa op) :=
  pe_le (hp _ ha) fun σ H Q ⟨W, δ, d, μ', e, ok, hd, hf, h⟩ => by
    unfold M1 at hf
    obtain ⟨⟨x, μ1⟩, e1, e2⟩ := Option.bind_eq_some_iff.mp hf
    exact ⟨W, δ, x, μ1, e, ok, hd, e1, fun v W1 ok1 l1 m1 d1 => ho W1 x v d μ' Q ok1 d1 (by rw [m1]; exact e2) fun v' W' ok' l' m' d' => h v' W' ok' (l1.trans l') m' d'⟩
theorem pd_two {r : R2} {op : D → D → Mu → Option (D × Mu)} (hp : ∀ ta tb, PE X a ta → PE X b tb → PE X e (tOp r ta tb)) (ho : RD2 X.K tb r op) (ha : PD X tb a fa) (hb : PD X tb b fb) : PD X tb e (M2 fa fb op) :=
  pe_le (hp _ _ ha hb) fun σ H Q ⟨W, δ, d, μ', e, ok, hd, hf, h⟩ => by
    unfold M2 at hf
    obtain ⟨⟨x, μ1⟩, e1, hf⟩ := Option.bind_eq_some_iff.mp hf
    obtain ⟨⟨y, μ2⟩, e2, e3⟩ := Option.bind_eq_some_iff.mp hf
    refine ⟨W, δ, x, μ1, e, ok, hd, e1, fun v W1 ok1 l1 m1 d1 => ⟨W1, δ, y, μ2, rfl, ok1, hd.mono' l1, (by rw [m1]; exact e2), fun u W2 ok2 l2 m2 d2 => ?_⟩⟩
    exact ho W2 x y v u d μ' Q ok2 (Den.mono' d1 l2) d2 (by rw [m2]; exact e3) fun v' W' ok' l' m' d' => h v' W' ok' ((l1.trans l2).trans l') m' d'
theorem pad_nil : PAD X tb [] mNil := pa_le pa_nil fun σ H Q ⟨W, δ, d, μ', e, ok, hd, hf, h⟩ => by
  subst e; cases hf
  exact h [] W ok (Le.refl _) rfl DenFL.nil
theorem pad_cons {es : List Expr} {fs : AF} (ha : PD X tb e f) (hr : PAD X tb es fs) (hs : starEach (e :: es) X.env = (false, eval e X.env) :: starEach es X.env := by rfl) : PAD X tb (e :: es) (mCons f fs) :=
  pa_le (pa_cons ha hr hs) fun σ H Q ⟨W, δ, ds, μ', e, ok, hd, hf, h⟩ => by
    unfold mCons at hf
    obtain ⟨⟨x, μ1⟩, e1, hf⟩ := Option.bind_eq_some_iff.mp hf
    obtain ⟨⟨xs, μ2⟩, e2, e3⟩ := Option.bind_eq_some_iff.mp hf
    cases e3
    refine ⟨W, δ, x, μ1, e, ok, hd, e1, fun v W1 ok1 l1 m1 d1 => ⟨W1, δ, xs, _, rfl, ok1, hd.mono' l1, (by rw [m1]; exact e2), fun vs W2 ok2 l2 m2 d2 => ?_⟩⟩
    exact h (v :: vs) W2 ok2 (l1.trans l2) m2 (DenFL.cons (Den.mono' d1 l2) d2)
theorem pd_n {es : List Expr} {fs : AF} {r : List V → Hp → VK → Prop} {op : List D → Mu → Option (D × Mu)} (hp : ∀ ta, PA X es ta → PE X e (tCB r ta)) (ho : RDN X.K tb r op) (ha : PAD X tb es fs) : PD X tb e (MC fs op) :=
  pe_le (hp _ ha) fun σ H Q ⟨W, δ, d, μ', e, ok, hd, hf, h⟩ => by
    unfold MC at hf
    obtain ⟨⟨x, μ1⟩, e1, e2⟩ := Option.bind_eq_some_iff.mp hf
    exact ⟨W, δ, x, μ1, e, ok, hd, e1, fun v W1 ok1 l1 m1 d1 => ho W1 x v d μ' Q ok1 d1 (by rw [m1]; exact e2) fun v' W' ok' l' m' d' => h v' W' ok' (l1.trans l') m' d'⟩
def oTup (ds : List D) (μ : Mu) : Option (D × Mu) := if ds.length ≤ sizeLine then some (.tup ds, μ) else none
def oLst (ds : List D) (μ : Mu) : Option (D × Mu) := if ds.length ≤ sizeLine then some (.lst ds, μ) else none
theorem pd_tup {es : List Expr} {fs : AF} {x1} (h : PAD X tb es fs) : PD X tb (.Tuple es x1 pos) (MC fs oTup) :=
  pd_n (r := fun xs H Q => xs.length ≤ sizeLine ∧ ∀ p, H p = none → Q (.ref p) (upd H p (.tup xs))) (fun ta h => pe_tup h) (fun W xs vs d μ' Q ok r ho h => by
    unfold oTup at ho
    split at ho
    · rename_i hl
      cases ho
      exact ⟨by rw [← DenFL.length r]; exact hl, fun p hp => put_tup ok h r hp⟩
    · cases ho) h
theorem pd_lst {es : List Expr} {fs : AF} (h : PAD X tb es fs) : PD X tb (.List es pos) (MC fs oLst) :=
  pd_n (r := fun xs H Q => xs.length ≤ sizeLine ∧ ∀ p, H p = none → Q (.ref p) (upd H p (.lst xs))) (fun ta h => pe_lst h) (fun W xs vs d μ' Q ok r ho h => by
    unfold oLst at ho
    split at ho
    · rename_i hl
      cases ho
      exact ⟨by rw [← DenFL.length r]; exact hl, fun p hp => put_lst ok h r hp⟩
    · cases ho) h
def truD : D → Mu → Option Bool
  | .bl b, _ => some b
  | .int i, _ => some (i != 0)
  | .non, _ => some false
  | .tup ds, _ => some !ds.isEmpty
  | .lst ds, _ => some !ds.isEmpty
  | .cell n, μ => match μ[n]? with
    | some (some ds) => some !ds.isEmpty
    | _ => none
  | _, _ => none
end
end L3
set_option Elab.async false
set_option linter.all false
set_option maxRecDepth 100000
namespace L3
open PySem PySem.Spec PyProof.Rows L2
section
variable {K : PySem.W.Frag} {tb : List Addr}
theorem tru_den {W : Wd} {x : D} {v : V} {k : Bool} (ok : WOk K tb W) (h : Den K tb W x v) (e : truD x W.mu = some k) : TruV K v W.H k := by
  cases x with
  | non => rw [of_non h]; cases e; rfl
  | bl b => rw [of_bl h]; cases e; rfl
  | int i => rw [of_int h]; cases e; rfl
  | str y => cases e
  | dic y => cases e
  | ro y => cases e
  | tup ds =>
    obtain ⟨a, xs, rfl, q, r⟩ := of_tup h
    cases e
    refine .inr (.inl ⟨xs, SqT.fz q, ?_⟩)
    have := DenFL.length r
    cases ds <;> cases xs <;> simp_all
  | lst ds =>
    obtain ⟨a, xs, rfl, q, r⟩ := of_lst h
    cases e
    refine .inl ⟨xs, SqL.fz q, ?_⟩
    have := DenFL.length r
    cases ds <;> cases xs <;> simp_all
  | cell n =>
    obtain ⟨a, rfl, q⟩ := of_cell h
    have e' : (match W.mu[n]? with | some (some ds) => some !ds.isEmpty | _ => none) = some k := e
    cases e2 : W.mu[n]? with
    | none => rw [e2] at e'; cases e'
    | some o =>
      cases o with
      | none => rw [e2] at e'; cases e'
      | some ds =>
        rw [e2] at e'
        have e'' : some (!ds.isEmpty) = some k := e'
        cases e''
        obtain ⟨xs, e3, r⟩ := ok.cont n a ds q e2
        refine .inl ⟨xs, SqL.of e3, ?_⟩
        have := DenFL.length r
        cases ds <;> cases xs <;> simp_all
end
section
variable {X : Cx} {tb : List Addr} {a b c e : Expr} {fa fb fc f : EF} {ta tc : TF} {pos : Pos}
def toTr (f : EF) : TF := fun δ μ => (f δ μ).bind fun r => (truD r.1 r.2).map fun k => (k, r.2)
theorem ptd_val (h : PD X tb e f) (he : ∀ whole, isTrue e X.env whole = (do let v ← whole; standAt e.pos; holding [v] (truthy v)) := by intro _; rfl) : PTD X tb e (toTr f) :=
  pt_le (pt_truth h he) fun σ H Q ⟨W, δ, k, μ', e, ok, hd, hf, h⟩ => by
    unfold toTr at hf
    obtain ⟨⟨x, μ1⟩, e1, e2⟩ := Option.bind_eq_some_iff.mp hf
    obtain ⟨k', e3, e4⟩ := Option.map_eq_some_iff.mp e2
    cases e4
    exact ⟨W, δ, x, _, e, ok, hd, e1, fun v W1 ok1 l1 m1 d1 => ⟨k, tru_den ok1 d1 (by rw [m1]; exact e3), h W1 ok1 l1 m1⟩⟩
structure OpD (X : Cx) (tb : List Addr) (sem : Value → Value → Sem Value) (op : D → D → Mu → Option (D × Mu)) : Prop where
  ex : ∃ r, OpR X sem r ∧ RD2 X.K tb r op
theorem pd_bin {o : Operator} {op : D → D → Mu → Option (D × Mu)} (ho : OpD X tb (binaryOp o) op) (ha : PD X tb a fa) (hb : PD X tb b fb) : PD X tb (.BinOp a o b pos) (M2 fa fb op) := by
  obtain ⟨r, h1, h2⟩ := ho.ex
  exact pd_two (fun ta tb ha hb => pe_op h1 ha hb) h2 ha hb
theorem pd_cmp {o : CmpOp} {op : D → D → Mu → Option (D × Mu)} (ho : OpD X tb (compareOp o) op) (ha : PD X tb a fa) (hb : PD X tb b fb) (hm : behindInMarks o b = false := by first | exact nobehind _ (by decide) (by decide) | rfl) : PD X tb (.Compare a [o] [b] pos) (M2 fa fb op) := by
  obtain ⟨r, h1, h2⟩ := ho.ex
  exact pd_two (fun ta tb ha hb => pe_cmpR h1 ha hb hm) h2 ha hb
def toB (f : EF) : TF := fun δ μ => (f δ μ).bind fun r => match r.1 with
  | .bl k => some (k, r.2)
  | _ => none
theorem ptd_cmp {o : CmpOp} {op : D → D → Mu → Option (D × Mu)} (ho : OpD X tb (compareOp o) op) (ha : PD X tb a fa) (hb : PD X tb b fb) (hm : behindInMarks o b = false := by first | exact nobehind _ (by decide) (by decide) | rfl) : PTD X tb (.Compare a [o] [b] pos) (toB (M2 fa fb op)) := by
  obtain ⟨r, h1, h2⟩ := ho.ex
  refine pt_le (pt_cmpR h1 ha hb hm) fun σ H Q ⟨W, δ, k, μ', e, ok, hd, hf, h⟩ => ?_
  unfold toB at hf
  obtain ⟨⟨z, μz⟩, hf, ez⟩ := Option.bind_eq_some_iff.mp hf
  unfold M2 at hf
  obtain ⟨⟨x, μ1⟩, e1, hf⟩ := Option.bind_eq_some_iff.mp hf
  obtain ⟨⟨y, μ2⟩, e2, e3⟩ := Option.bind_eq_some_iff.mp hf
  cases z with
  | bl k' =>
    cases ez
    refine ⟨W, δ, x, μ1, e, ok, hd, e1, fun v W1 ok1 l1 m1 d1 => ⟨W1, δ, y, μ2, rfl, ok1, hd.mono' l1, (by rw [m1]; exact e2), fun u W2 ok2 l2 m2 d2 => ?_⟩⟩
    refine h2 W2 x y v u _ _ _ ok2 (Den.mono' d1 l2) d2 (by rw [m2]; exact e3) fun v' W' ok' l' m' d' => ?_
    exact ⟨k, of_bl d', h W' ok' ((l1.trans l2).trans l') m'⟩
  | _ => cases ez
def MCh (fa fb fc : EF) (op op' : D → D → Mu → Option (D × Mu)) : EF := fun δ μ => (fa δ μ).bind fun r => (fb δ r.2).bind fun q => (op r.1 q.1 q.2).bind fun z => match z.1 with
  | .bl true => (fc δ z.2).bind fun t => op' q.1 t.1 t.2
  | .bl false => some (.bl false, z.2)
  | _ => none
theorem mch_read {r r' : R2} {op op' : D → D → Mu → Option (D × Mu)} (h1 : RD2 X.K tb r op) (h2 : RD2 X.K tb r' op') {σ : SV} {H : Hp} {Q : VK} (h : tD X.K tb (MCh fa fb fc op op') σ H Q) : tChain r r' (tD X.K tb fa) (tD X.K tb fb) (tD X.K tb fc) σ H Q := by
  obtain ⟨W, δ, d, μ', e, ok, hd, hf, h⟩ := h
  unfold MCh at hf
  obtain ⟨⟨x, μ1⟩, e1, hf⟩ := Option.bind_eq_some_iff.mp hf
  obtain ⟨⟨y, μ2⟩, e2, hf⟩ := Option.bind_eq_some_iff.mp hf
  obtain ⟨⟨z, μ3⟩, e3, hf⟩ := Option.bind_eq_some_iff.mp hf
  refine ⟨W, δ, x, μ1, e, ok, hd, e1, fun v W1 ok1 l1 m1 d1 => ⟨W1, δ, y, μ2, rfl, ok1, hd.mono' l1, (by rw [m1]; exact e2), fun u W2 ok2 l2 m2 d2 => ?_⟩⟩
  refine h1 W2 x y v u _ _ _ ok2 (Den.mono' d1 l2) d2 (by rw [m2]; exact e3) fun v' W3 ok3 l3 m3 d3 => ?_
  cases z with
  | bl k =>
   cases k with
   | true =>
    refine ⟨true, of_bl d3, ?_⟩
    rw [if_pos rfl]
    obtain ⟨⟨t, μ4⟩, e4, e5⟩ := Option.bind_eq_some_iff.mp hf
    refine ⟨W3, δ, t, μ4, rfl, ok3, hd.mono' ((l1.trans l2).trans l3), (by rw [m3]; exact e4), fun w' W4 ok4 l4 m4 d4 => ?_⟩
    exact h2 W4 y t u w' _ _ _ ok4 (Den.mono' d2 (l3.trans l4)) d4 (by rw [m4]; exact e5) fun v'' W' ok' l' m' d' => h v'' W' ok' ((((l1.trans l2).trans l3).trans l4).trans l') m' d'
   | false =>
    cases hf
    refine ⟨false, of_bl d3, ?_⟩
    rw [if_neg Bool.false_ne_true]
    exact h _ W3 ok3 ((l1.trans l2).trans l3) m3 den_bl
  | _ => cases hf
theorem pd_chain {o o' : CmpOp} {op op' : D → D → Mu → Option (D × Mu)} (ho : OpD X tb (compareOp o) op) (ho' : OpD X tb (compareOp o') op') (ha : PD X tb a fa) (hb : PD X tb b fb) (hc : PD X tb c fc)
    (hm : lastMarks [o, o'] [b, c] = false := by with_unfolding_all rfl) : PD X tb (.Compare a [o, o'] [b, c] pos) (MCh fa fb fc op op') := by
  obtain ⟨r, h1, h2⟩ := ho.ex
  obtain ⟨r', h1', h2'⟩ := ho'.ex
  exact pe_le (pe_chain h1 h1' ha hb hc hm) fun σ H Q h => mch_read h2 h2' h
theorem ptd_chain {o o' : CmpOp} {op op' : D → D → Mu → Option (D × Mu)} (ho : OpD X tb (compareOp o) op) (ho' : OpD X tb (compareOp o') op') (ha : PD X tb a fa) (hb : PD X tb b fb) (hc : PD X tb c fc)
    (hm : lastMarks [o, o'] [b, c] = false := by with_unfolding_all rfl) : PTD X tb (.Compare a [o, o'] [b, c] pos) (toB (MCh fa fb fc op op')) := by
  obtain ⟨r, h1, h2⟩ := ho.ex
  obtain ⟨r', h1', h2'⟩ := ho'.ex
  refine pt_le (pt_chain h1 h1' ha hb hc hm) fun σ H Q ⟨W, δ, k, μ', e, ok, hd, hf, h⟩ => ?_
  unfold toB at hf
  obtain ⟨⟨z, μz⟩, hf2, ez⟩ := Option.bind_eq_some_iff.mp hf
  cases z with
  | bl k' =>
    cases ez
    exact mch_read h2 h2' ⟨W, δ, _, _, e, ok, hd, hf2, fun v W' ok' l' m' d' => ⟨k, of_bl d', h W' ok' l' m'⟩⟩
  | _ => cases ez
def tAndF (ta tc : TF) : TF := fun δ μ => (ta δ μ).bind fun r => if r.1 = true then tc δ r.2 else some (false, r.2)
def tOrF (ta tc : TF) : TF := fun δ μ => (ta δ μ).bind fun r => if r.1 = true then some (true, r.2) else tc δ r.2
def tNotF (ta : TF) : TF := fun δ μ => (ta δ μ).bind fun r => some (!r.1, r.2)
theorem pwd_and1 (ha : PTD X tb a ta) : PWD X tb (.BoolOp .And [a] pos) ta := pw_and1 ha
theorem pwd_or1 (ha : PTD X tb a ta) : PWD X tb (.BoolOp .Or [a] pos) ta := pw_or1 ha
theorem pwd_and {rest : List Expr} (ha : PTD X tb a ta) (hb : PWD X tb (.BoolOp .And (b :: rest) pos) tc) : PWD X tb (.BoolOp .And (a :: b :: rest) pos) (tAndF ta tc) :=
  pw_le (pw_and ha hb) fun σ H Q ⟨W, δ, k, μ', e, ok, hd, hf, h⟩ => by
    unfold tAndF at hf
    obtain ⟨⟨z, μz⟩, e1, e2⟩ := Option.bind_eq_some_iff.mp hf
    refine ⟨W, δ, z, μz, e, ok, hd, e1, fun W1 ok1 l1 m1 => ?_⟩
    cases z with
    | true => exact ⟨W1, δ, k, μ', rfl, ok1, hd.mono' l1, (by rw [m1]; exact e2), fun W' ok' l' m' => h W' ok' (l1.trans l') m'⟩
    | false => cases e2; exact h W1 ok1 l1 m1
theorem pwd_or {rest : List Expr} (ha : PTD X tb a ta) (hb : PWD X tb (.BoolOp .Or (b :: rest) pos) tc) : PWD X tb (.BoolOp .Or (a :: b :: rest) pos) (tOrF ta tc) :=
  pw_le (pw_or ha hb) fun σ H Q ⟨W, δ, k, μ', e, ok, hd, hf, h⟩ => by
    unfold tOrF at hf
    obtain ⟨⟨z, μz⟩, e1, e2⟩ := Option.bind_eq_some_iff.mp hf
    refine ⟨W, δ, z, μz, e, ok, hd, e1, fun W1 ok1 l1 m1 => ?_⟩
    cases z with
    | false => exact ⟨W1, δ, k, μ', rfl, ok1, hd.mono' l1, (by rw [m1]; exact e2), fun W' ok' l' m' => h W' ok' (l1.trans l') m'⟩
    | true => cases e2; exact h W1 ok1 l1 m1
theorem pwd_pt (h : PWD X tb a ta) : PTD X tb a ta := PW.pt h
theorem ptd_not (ha : PTD X tb a ta) : PTD X tb (.UnaryOp .Not a pos) (tNotF ta) :=
  pt_le (pt_not ha) fun σ H Q ⟨W, δ, k, μ', e, ok, hd, hf, h⟩ => by
    unfold tNotF at hf
    obtain ⟨⟨z, μz⟩, e1, e2⟩ := Option.bind_eq_some_iff.mp hf
    cases e2
    exact ⟨W, δ, z, _, e, ok, hd, e1, fun W1 ok1 l1 m1 => h W1 ok1 l1 m1⟩
def mAndV (fa fb : EF) : EF := fun δ μ => (fa δ μ).bind fun r => match r.1 with
  | .bl true => fb δ r.2
  | .bl false => some (.bl false, r.2)
  | _ => none
def mOrV (fa fb : EF) : EF := fun δ μ => (fa δ μ).bind fun r => match r.1 with
  | .bl false => fb δ r.2
  | .bl true => some (.bl true, r.2)
  | _ => none
def mNotV (fa : EF) : EF := fun δ μ => (fa δ μ).bind fun r => match r.1 with
  | .bl k => some (.bl !k, r.2)
  | _ => none
theorem pd_bone {o} (ha : PD X tb a fa) : PD X tb (.BoolOp o [a] pos) fa := pe_one ha
theorem pd_and {rest : List Expr} (ha : PD X tb a fa) (hb : PD X tb (.BoolOp .And (b :: rest) pos) fb) : PD X tb (.BoolOp .And (a :: b :: rest) pos) (mAndV fa fb) :=
  pe_le (pe_and ha hb) fun σ H Q ⟨W, δ, d, μ', e, ok, hd, hf, h⟩ => by
    unfold mAndV at hf
    obtain ⟨⟨z, μz⟩, e1, e2⟩ := Option.bind_eq_some_iff.mp hf
    refine ⟨W, δ, z, μz, e, ok, hd, e1, fun v W1 ok1 l1 m1 d1 => ?_⟩
    cases z with
    | bl k =>
     cases k with
     | true =>
      refine ⟨true, of_bl d1, ?_⟩
      rw [if_pos rfl]
      exact ⟨W1, δ, d, μ', rfl, ok1, hd.mono' l1, (by rw [m1]; exact e2), fun v W' ok' l' m' d' => h v W' ok' (l1.trans l') m' d'⟩
     | false =>
      cases e2
      refine ⟨false, of_bl d1, ?_⟩
      rw [if_neg Bool.false_ne_true]
      exact h _ W1 ok1 l1 m1 den_bl
    | _ => cases e2
theorem pd_not (ha : PD X tb a fa) : PD X tb (.UnaryOp .Not a pos) (mNotV fa) :=
  pe_le (pe_not ha) fun σ H Q ⟨W, δ, d, μ', e, ok, hd, hf, h⟩ => by
    unfold mNotV at hf
    obtain ⟨⟨z, μz⟩, e1, e2⟩ := Option.bind_eq_some_iff.mp hf
    refine ⟨W, δ, z, μz, e, ok, hd, e1, fun v W1 ok1 l1 m1 d1 => ?_⟩
    cases z with
    | bl k =>
      cases e2
      exact ⟨k, of_bl d1, h _ W1 ok1 l1 m1 den_bl⟩
    | _ => cases e2
def mIf (tc : TF) (fa fb : EF) : EF := fun δ μ => (tc δ μ).bind fun r => if r.1 = true then fa δ r.2 else fb δ r.2
end
def sNext : SF := fun δ μ => some (.nx, δ, μ)
def sBreak : SF := fun δ μ => some (.bk, δ, μ)
def sCont : SF := fun δ μ => some (.ct, δ, μ)
def sSeq (g h : SF) : SF := fun δ μ => (g δ μ).bind fun r => match r.1 with
  | .nx => h r.2.1 r.2.2
  | _ => some r
def sDrop (f : EF) : SF := fun δ μ => (f δ μ).bind fun r => some (.nx, δ, r.2)
def sRet (f : EF) : SF := fun δ μ => (f δ μ).bind fun r => some (.rt r.1, δ, r.2)
def sIf (c : TF) (g h : SF) : SF := fun δ μ => (c δ μ).bind fun r => if r.1 = true then g δ r.2 else h δ r.2
def sSet (i : Nat) (f : EF) : SF := fun δ μ => (f δ μ).bind fun r => some (.nx, δ.set i (some r.1), r.2)
section
variable {X : Cx} {tb : List Addr} {e : Expr} {f : EF} {g h : SF} {st : Stmt} {rest : List Stmt} {pos : Pos}
theorem pssd_nil : PSsD X tb [] sNext := pss_le pss_nil fun E σ H ⟨W, δ, fl, δ', μ', e, ok, hd, hf, h⟩ => by
  subst e; cases hf
  exact h σ W ok (Le.refl _) rfl hd
theorem pssd_one (h1 : PSD X tb st g) : PSsD X tb [st] g := pss_one h1
theorem pssd_cons (h1 : PSD X tb st g) (h2 : PSsD X tb rest h) : PSsD X tb (st :: rest) (sSeq g h) :=
  pss_le (pss_cons h1 h2) fun E σ H ⟨W, δ, fl, δ', μ', e, ok, hd, hf, k⟩ => by
    unfold sSeq at hf
    obtain ⟨⟨fl1, δ1, μ1⟩, e1, e2⟩ := Option.bind_eq_some_iff.mp hf
    refine ⟨W, δ, fl1, δ1, μ1, e, ok, hd, e1, fun σ1 W1 ok1 l1 m1 d1 => ?_⟩
    cases fl1 with
    | nx => exact ⟨W1, δ1, fl, δ', μ', rfl, ok1, d1, (by rw [m1]; exact e2), fun σ' W' ok' l' m' d' => k σ' W' ok' (l1.trans l') m' d'⟩
    | bk => cases e2; exact k σ1 W1 ok1 l1 m1 d1
    | ct => cases e2; exact k σ1 W1 ok1 l1 m1 d1
    | rt d => cases e2; exact k σ1 W1 ok1 l1 m1 d1
theorem psd_break : PSD X tb (.Break pos) sBreak := ps_le ps_break fun E σ H ⟨W, δ, fl, δ', μ', e, ok, hd, hf, h⟩ => by
  subst e; cases hf
  exact h σ W ok (Le.refl _) rfl hd
theorem psd_expr (he : PD X tb e f) (hs : swapsWith e none pos.line X.env = pure false := by rfl) : PSD X tb (.Expr e pos) (sDrop f) :=
  ps_le (ps_expr he hs) fun E σ H ⟨W, δ, fl, δ', μ', e, ok, hd, hf, h⟩ => by
    unfold sDrop at hf
    obtain ⟨⟨x, μ1⟩, e1, e2⟩ := Option.bind_eq_some_iff.mp hf
    cases e2
    exact ⟨W, δ, x, _, e, ok, hd, e1, fun v W1 ok1 l1 m1 d1 => h σ W1 ok1 l1 m1 (hd.mono' l1)⟩
theorem psd_ret (he : PD X tb e f) : PSD X tb (.Return (some e) pos) (sRet f) :=
  ps_le (ps_ret he) fun E σ H ⟨W, δ, fl, δ', μ', e, ok, hd, hf, h⟩ => by
    unfold sRet at hf
    obtain ⟨⟨x, μ1⟩, e1, e2⟩ := Option.bind_eq_some_iff.mp hf
    cases e2
    exact ⟨W, δ, x, _, e, ok, hd, e1, fun v W1 ok1 l1 m1 d1 => h σ W1 ok1 l1 m1 (hd.mono' l1) v d1⟩
theorem psd_if {c : Expr} {tc : TF} {as bs : List Stmt} (hc : PTD X tb c tc) (ha : PSsD X tb as g) (hb : PSsD X tb bs h) : PSD X tb (.If c as bs pos) (sIf tc g h) :=
  ps_le (ps_if hc ha hb) fun E σ H ⟨W, δ, fl, δ', μ', e, ok, hd, hf, k⟩ => by
    unfold sIf at hf
    obtain ⟨⟨z, μ1⟩, e1, e2⟩ := Option.bind_eq_some_iff.mp hf
    refine ⟨W, δ, z, μ1, e, ok, hd, e1, fun W1 ok1 l1 m1 => ?_⟩
    cases z with
    | true => exact ⟨W1, δ, fl, δ', μ', rfl, ok1, hd.mono' l1, (by rw [m1]; exact e2), fun σ' W' ok' l' m' d' => k σ' W' ok' (l1.trans l') m' d'⟩
    | false => exact ⟨W1, δ, fl, δ', μ', rfl, ok1, hd.mono' l1, (by rw [m1]; exact e2), fun σ' W' ok' l' m' d' => k σ' W' ok' (l1.trans l') m' d'⟩
theorem psd_set {i : Nat} {x : Str} {pos' : Pos} (hN : X.N.Nodup) (he : PD X tb e f) (hi : X.N[i]? = some x := by rfl) (hx : Loc X.env.scope x := by first | exact Or.inl rfl | exact Or.inr rfl) (hs : swapsWith e (some (.Name x pos')) pos.line X.env = pure false := by rfl)
    (hf : X.fn x = true ∨ X.env.scope.names.lookup x = some .local := by first | exact .inl rfl | exact .inr rfl | assumption) : PSD X tb (.Assign [.Name x pos'] e pos) (sSet i f) :=
  ps_le (ps_set hN hi hx he hs hf) fun E σ H ⟨W, δ, fl, δ', μ', e, ok, hd, hf, h⟩ => by
    unfold sSet at hf
    obtain ⟨⟨x, μ1⟩, e1, e2⟩ := Option.bind_eq_some_iff.mp hf
    cases e2
    exact ⟨W, δ, x, _, e, ok, hd, e1, fun v W1 ok1 l1 m1 d1 => h _ W1 ok1 l1 m1 ((hd.mono' l1).set d1)⟩
def sPar (i j : Nat) (fs : AF) : SF := fun δ μ => (fs δ μ).bind fun r => match r.1 with
  | [x, y] => some (.nx, (δ.set i (some x)).set j (some y), r.2)
  | _ => none
theorem psd_par {i j : Nat} {x y : Str} {a b : Expr} {fs : AF} {px py pt : Pos} {kt k2 pt2} (hc : X.calm = true) (hN : X.N.Nodup) (ha : PAD X tb [a, b] fs) (hij : i ≠ j := by decide) (hi : X.N[i]? = some x := by rfl) (hj : X.N[j]? = some y := by rfl)
    (hx : X.env.scope.names.lookup x = some .local := by rfl) (hy : X.env.scope.names.lookup y = some .local := by rfl)
    (hw : swappedStores [.Tuple [.Name x px, .Name y py] kt pt] (.Tuple [a, b] k2 pt2) X.env = pure (some [x, y]) := by rfl)
    (hs : swapsWithSole [.Tuple [.Name x px, .Name y py] kt pt] (.Tuple [a, b] k2 pt2) pos.line X.env = pure false := by rfl) :
    PSD X tb (.Assign [.Tuple [.Name x px, .Name y py] kt pt] (.Tuple [a, b] k2 pt2) pos) (sPar i j fs) :=
  ps_le (ps_par hc hN hi hj hij hx hy ha hw hs) fun E σ H ⟨W, δ, fl, δ', μ', e, ok, hd, hf, h⟩ => by
    unfold sPar at hf
    obtain ⟨⟨xs, μ1⟩, e1, e2⟩ := Option.bind_eq_some_iff.mp hf
    match xs, e1, e2 with
    | [x, y], e1, e2 =>
      cases e2
      refine ⟨W, δ, _, _, e, ok, hd, e1, fun vs W1 ok1 l1 m1 d1 => ?_⟩
      obtain ⟨u, v, rfl, du, dv⟩ := DenFL.two d1
      exact ⟨u, v, rfl, h _ W1 ok1 l1 m1 (((hd.mono' l1).set du).set dv)⟩
def whileN (c : TF) (b : SF) : Nat → SF
  | 0 => fun _ _ => none
  | n + 1 => fun δ μ => (c δ μ).bind fun r => if r.1 = true then (b δ r.2).bind fun q => match q.1 with
      | .nx => whileN c b n q.2.1 q.2.2
      | .ct => whileN c b n q.2.1 q.2.2
      | .bk => some (.nx, q.2)
      | .rt d => some (.rt d, q.2)
    else some (.nx, δ, r.2)
theorem whileN_mono {c : TF} {b : SF} : ∀ {n m : Nat} {δ : En} {μ : Mu} {r : Fl × En × Mu}, n ≤ m → whileN c b n δ μ = some r → whileN c b m δ μ = some r
  | 0, _, _, _, _, _, h => by cases h
  | n + 1, 0, _, _, _, hl, _ => by omega
  | n + 1, m + 1, δ, μ, r, hl, h => by
    unfold whileN at h ⊢
    obtain ⟨q, e1, e2⟩ := Option.bind_eq_some_iff.mp h
    rw [e1]
    show (if q.1 = true then _ else _) = _
    by_cases hq : q.1 = true
    · rw [if_pos hq] at e2 ⊢
      obtain ⟨t, e3, e4⟩ := Option.bind_eq_some_iff.mp e2
      rw [e3]
      show (match t.1 with | .nx => _ | .ct => _ | .bk => _ | .rt d => _) = _
      cases ht : t.1 with
      | nx => rw [ht] at e4; exact whileN_mono (by omega) e4
      | ct => rw [ht] at e4; exact whileN_mono (by omega) e4
      | bk => rw [ht] at e4; exact e4
      | rt d => rw [ht] at e4; exact e4
    · rw [if_neg hq] at e2 ⊢; exact e2
open Classical in
noncomputable def whileP (c : TF) (b : SF) : SF := fun δ μ => if h : ∃ n r, whileN c b n δ μ = some r then some (choose (choose_spec h)) else none
theorem whileP_of {c : TF} {b : SF} {n : Nat} {δ : En} {μ : Mu} {r : Fl × En × Mu} (h : whileN c b n δ μ = some r) : whileP c b δ μ = some r := by
  have hx : ∃ n r, whileN c b n δ μ = some r := ⟨n, r, h⟩
  unfold whileP
  rw [dif_pos hx]
  have q := Classical.choose_spec (Classical.choose_spec hx)
  have a := whileN_mono (Nat.le_max_left n (Classical.choose hx)) h
  have b := whileN_mono (Nat.le_max_right n (Classical.choose hx)) q
  rw [a] at b
  exact b.symm
theorem whileP_ex {c : TF} {b : SF} {δ : En} {μ : Mu} {r : Fl × En × Mu} (h : whileP c b δ μ = some r) : ∃ n, whileN c b n δ μ = some r := by
  unfold whileP at h
  split at h
  · rename_i hx
    cases h
    exact ⟨_, Classical.choose_spec (Classical.choose_spec hx)⟩
  · cases h
theorem psd_while {c : Expr} {tc : TF} {body : List Stmt} (hp : PassesOwn (model X.prog X.w) X.A X.env X.xe) (hc : PTD X tb c tc) (hb : PSsD X tb body g) : PSD X tb (.While c body [] pos) (whileP tc g) :=
  ps_le (ps_while hp hc hb) fun E σ H ⟨W, δ, fl, δ', μ', e, ok, hd, hf, h⟩ => by
    obtain ⟨n0, hn0⟩ := whileP_ex hf
    refine ⟨fun m σ1 H1 => ∃ W1 δ1, W1.H = H1 ∧ WOk X.K tb W1 ∧ Le tb W W1 ∧ DenE X.K tb W1 δ1 σ1 ∧ whileN tc g m δ1 W1.mu = some (fl, δ', μ'), ⟨n0, W, δ, e, ok, Le.refl _, hd, hn0⟩, ?_⟩
    rintro m σ1 H1 ⟨W1, δ1, rfl, ok1, l1, d1, hn⟩
    cases m with
    | zero => cases hn
    | succ m =>
      unfold whileN at hn
      obtain ⟨⟨k, μ2⟩, e1, e2⟩ := Option.bind_eq_some_iff.mp hn
      refine ⟨W1, δ1, k, μ2, rfl, ok1, d1, e1, fun W2 ok2 l2 m2 => ?_⟩
      cases k with
      | false =>
        cases e2
        rw [if_neg Bool.false_ne_true]
        exact h σ1 W2 ok2 (l1.trans l2) m2 (d1.mono' l2)
      | true =>
        rw [if_pos rfl]
        obtain ⟨⟨fl3, δ3, μ3⟩, e3, e4⟩ := Option.bind_eq_some_iff.mp e2
        refine ⟨fun σ3 H3 => ∃ W3, W3.H = H3 ∧ WOk X.K tb W3 ∧ Le tb W W3 ∧ DenE X.K tb W3 δ3 σ3 ∧ whileN tc g m δ3 W3.mu = some (fl, δ', μ'), fun σ3 H3 ⟨W3, q1, q2, q3, q4, q5⟩ => ⟨m, Nat.lt_succ_self _, W3, δ3, q1, q2, q3, q4, q5⟩, ?_⟩
        refine ⟨W2, δ1, fl3, δ3, μ3, rfl, ok2, d1.mono' l2, (by rw [m2]; exact e3), fun σ3 W3 ok3 l3 m3 d3 => ?_⟩
        cases fl3 with
        | nx => exact ⟨W3, rfl, ok3, (l1.trans l2).trans l3, d3, by rw [m3]; exact e4⟩
        | ct => exact ⟨W3, rfl, ok3, (l1.trans l2).trans l3, d3, by rw [m3]; exact e4⟩
        | bk => cases e4; exact h σ3 W3 ok3 ((l1.trans l2).trans l3) m3 d3
        | rt d => cases e4; exact h σ3 W3 ok3 ((l1.trans l2).trans l3) m3 d3
end
end L3
set_option Elab.async false
set_option linter.all false
set_option maxRecDepth 100000
namespace L3
open PySem PySem.Spec PyProof.Rows L2
abbrev GF := D → En → Mu → Option En
abbrev GsF := List D → En → Mu → Option En
def tDG (K : PySem.W.Frag) (tb : List Addr) (ts : List Nat) (h : GF) : TG := fun v σ H Q => ∃ W δ d δ', W.H = H ∧ WOk K tb W ∧ DenE K tb W δ σ ∧ Den K tb W d v ∧ h d δ W.mu = some δ' ∧
  ∀ σ', DenE K tb W δ' σ' → σ'.length = σ.length → (∀ i, i ∉ ts → σ'[i]? = σ[i]?) → Q σ' H
def tDGs (K : PySem.W.Frag) (tb : List Addr) (ts : List Nat) (h : GsF) : TGs := fun vs σ H Q => ∃ W δ ds δ', W.H = H ∧ WOk K tb W ∧ DenE K tb W δ σ ∧ DenL K tb W ds vs ∧ h ds δ W.mu = some δ' ∧
  ∀ σ', DenE K tb W δ' σ' → σ'.length = σ.length → (∀ i, i ∉ ts → σ'[i]? = σ[i]?) → Q σ' H
def PGD (X : Cx) (tb : List Addr) (tg : Expr) (ts : List Nat) (h : GF) : Prop := PG X tg (tDG X.K tb ts h)
def PGsD (X : Cx) (tb : List Addr) (tg : List Expr) (ts : List Nat) (h : GsF) : Prop := PGs X tg (tDGs X.K tb ts h)
theorem pg_le {X : Cx} {e : Expr} {t t' : TG} (h : PG X e t) (k : ∀ v σ H Q, t' v σ H Q → t v σ H Q) : PG X e t' := fun pins s σ H v u Q I r hq => h pins s σ H v u Q I r (k v σ H Q hq)
theorem pgs_le {X : Cx} {e : List Expr} {t t' : TGs} (h : PGs X e t) (k : ∀ v σ H Q, t' v σ H Q → t v σ H Q) : PGs X e t' := fun pins s σ H v u Q I r hq => h pins s σ H v u Q I r (k v σ H Q hq)
def hName (i : Nat) : GF := fun d δ _ => some (δ.set i (some d))
def hNil : GsF := fun ds δ _ => match ds with
  | [] => some δ
  | _ => none
def hCons (h : GF) (hs : GsF) : GsF := fun ds δ μ => match ds with
  | [] => none
  | d :: r => (h d δ μ).bind fun δ1 => hs r δ1 μ
def hTup (n : Nat) (hs : GsF) : GF := fun d δ μ => match d with
  | .tup ds => if ds.length = n then hs ds δ μ else none
  | _ => none
section
variable {X : Cx} {tb : List Addr} {e tg iter elt : Expr} {f : EF} {pos : Pos}
theorem pgd_name {i : Nat} {x : Str} (hN : X.N.Nodup) (hi : X.N[i]? = some x := by rfl) (hx : Loc X.env.scope x := by first | exact Or.inl rfl | exact Or.inr rfl)
    (hf : X.fn x = true ∨ X.env.scope.names.lookup x = some .local := by first | exact .inl rfl | exact .inr rfl | assumption) : PGD X tb (.Name x pos) [i] (hName i) :=
  pg_le (pg_name hN hi hx hf) fun v σ H Q ⟨W, δ, d, δ', e, ok, hd, dv, hh, h⟩ => by
    cases hh
    refine h _ (hd.set dv) (by rw [List.length_set]) fun j hj => ?_
    rw [List.getElem?_set_ne (fun z => hj (by simp [z]))]
theorem pgsd_nil : PGsD X tb [] [] hNil :=
  pgs_le pgs_nil fun vs σ H Q ⟨W, δ, ds, δ', e, ok, hd, dv, hh, h⟩ => by
    match ds, dv, hh with
    | [], dv, hh =>
      cases hh
      exact ⟨DenFL.zero dv, h σ hd rfl fun _ _ => rfl⟩
theorem pgsd_cons {es : List Expr} {ts us : List Nat} {h : GF} {hs : GsF} (h1 : PGD X tb e ts h) (h2 : PGsD X tb es us hs)
    (ha : (assignEach (e :: es) X.env).map (·.2) = assign e X.env :: (assignEach es X.env).map (·.2) := by rfl) : PGsD X tb (e :: es) (ts ++ us) (hCons h hs) :=
  pgs_le (pgs_cons h1 h2 ha) fun vs σ H Q ⟨W, δ, ds, δ', e, ok, hd, dv, hh, k⟩ => by
    match ds, dv, hh with
    | d :: r, dv, hh =>
      obtain ⟨δ1, e1, e2⟩ := Option.bind_eq_some_iff.mp hh
      have dv' : DenFL _ _ _ _ _ := dv
      unfold DenFL at dv'
      obtain ⟨u, us', rfl, p, q⟩ := dv'
      refine ⟨u, us', rfl, W, δ, d, δ1, e, ok, hd, p, e1, fun σ1 d1 l1 s1 => ⟨W, δ1, r, δ', e, ok, d1, q, e2, fun σ2 d2 l2 s2 => ?_⟩⟩
      exact k σ2 d2 (l2.trans l1) fun i hi => (s2 i fun z => hi (List.mem_append_right _ z)).trans (s1 i fun z => hi (List.mem_append_left _ z))
theorem pgd_tup {es : List Expr} {k : Nat} {ts : List Nat} {hs : GsF} {n : Nat} (hc : X.calm = true) (h : PGsD X tb es ts hs) (hn : (assignEach es X.env).length = n := by rfl) (hst : (assignEach es X.env).findIdx? (·.1) = none := by rfl) :
    PGD X tb (.Tuple es k pos) ts (hTup n hs) :=
  pg_le (pg_tup hc h hn hst) fun v σ H Q ⟨W, δ, d, δ', e, ok, hd, dv, hh, k⟩ => by
    cases d with
    | tup ds =>
      obtain ⟨a, xs, rfl, q, r⟩ := of_tup dv
      have hh' : (if ds.length = n then hs ds δ W.mu else none) = some δ' := hh
      by_cases hl : ds.length = n
      · rw [if_pos hl] at hh'
        have q' : SqT X.K H a xs := by rw [← e]; exact SqT.fz q
        have hl' : xs.length = n := by rw [← DenFL.length r]; exact hl
        exact ⟨a, xs, rfl, q', hl', ⟨W, δ, ds, δ', e, ok, hd, r, hh', k⟩⟩
      · rw [if_neg hl] at hh'; cases hh'
    | _ => cases hh
def sAsg (f : EF) (h : GF) : SF := fun δ μ => (f δ μ).bind fun r => (h r.1 δ r.2).bind fun δ' => some (.nx, δ', r.2)
theorem psd_asg {ts : List Nat} {h : GF} (he : PD X tb e f) (hg : PGD X tb tg ts h) (hs : swapsWithSole [tg] e pos.line X.env = pure false := by rfl) (hw : swappedStores [tg] e X.env = pure none := by rfl)
    (h1 : (assignEach [tg] X.env).map (·.2) = [assign tg X.env] := by rfl) : PSD X tb (.Assign [tg] e pos) (sAsg f h) :=
  ps_le (ps_asg he hg hs hw h1) fun E σ H ⟨W, δ, fl, δ', μ', e, ok, hd, hf, k⟩ => by
    unfold sAsg at hf
    obtain ⟨⟨x, μ1⟩, e1, hf⟩ := Option.bind_eq_some_iff.mp hf
    obtain ⟨δ1, e2, e3⟩ := Option.bind_eq_some_iff.mp hf
    cases e3
    refine ⟨W, δ, x, _, e, ok, hd, e1, fun v W1 ok1 l1 m1 d1 => ⟨W1, δ, x, _, rfl, ok1, hd.mono' l1, d1, (by rw [m1]; exact e2), fun σ1 d2 _ _ => ?_⟩⟩
    exact k σ1 W1 ok1 l1 m1 d2
structure Src where
  items : List D
  cel : Option Nat
def Src.ok (S : Src) (μ : Mu) : Prop := ∀ n, S.cel = some n → μ[n]? = some (some S.items)
theorem Src.ok_none {S : Src} {μ : Mu} (h : S.cel = none) : S.ok μ := fun n e => by rw [h] at e; cases e
abbrev IF := En → Mu → Option (Src × Mu)
structure ItOk (K : PySem.W.Frag) (tb : List Addr) (J : It) (S : Src) (W0 : Wd) : Prop where
  go : ∀ (i : Nat) W d, Le tb W0 W → WOk K tb W → S.ok W.mu → S.items[i]? = some d → J.go i W.H ∧ ∀ x H', J.yld i W.H x H' → ∃ W', W'.H = H' ∧ WOk K tb W' ∧ Le tb W W' ∧ W'.mu = W.mu ∧ Den K tb W' d x
  stop : ∀ (i : Nat) W, Le tb W0 W → WOk K tb W → S.ok W.mu → S.items.length ≤ i → J.stop i W.H
def tDI (K : PySem.W.Frag) (tb : List Addr) (f : IF) : TI := fun σ H R => ∃ W δ S μ', W.H = H ∧ WOk K tb W ∧ DenE K tb W δ σ ∧ f δ W.mu = some (S, μ') ∧
  ∀ J W', WOk K tb W' → Le tb W W' → W'.mu = μ' → ItOk K tb J S W' → R J W'.H
def PID (X : Cx) (tb : List Addr) (tg iter : Expr) (f : IF) : Prop := PI X tg iter (tDI X.K tb f)
theorem pi_le {w w' : TI} (h : PI X tg iter w) (k : ∀ σ H R, w' σ H R → w σ H R) : PI X tg iter w' := fun pins s σ H R I hq => h pins s σ H R I (k σ H R hq)
theorem pi_seq {l : Expr} {tl : TE} (hl : PE X l tl) : PI X tg l (fun σ H R => tl σ H fun x H1 => ∃ a, x = .ref a ∧ ((∃ xs, SqL X.K H1 a xs) ∧ R (Itl X.K a) H1 ∨ (∃ xs, SqT X.K H1 a xs) ∧ R (Itt X.K a) H1)) := by
  intro pins s σ H R I h
  refine thn (hl pins s σ H _ I h) fun v s1 ⟨x, H1, I1, r1, q1⟩ => ?_
  obtain ⟨a, e, q⟩ := q1
  subst e
  cases r1
  rcases q with ⟨⟨xs, hq⟩, q⟩ | ⟨⟨xs, hq⟩, q⟩
  · obtain ⟨its, rv, p, hz⟩ := I1.list hq
    refine wpAny_pyIter_list p.isList ?_
    refine ⟨s1.heap.objs.size, [s1.heap.objs.size], _, _, H1, rfl, I1.kept (t' := s1.toks) fun b o e => Heap.get?_push_of_some _ e, turn_list a _, ⟨_, Heap.get?_push_size _ rfl, rfl, rfl⟩, fun b hb => ?_, q⟩
    have e : b = s1.heap.objs.size := by simpa using hb
    subst e
    exact I1.fpOk (Nat.le_refl _) (I1.hok.fresh (Nat.le_refl _))
  · obtain ⟨its, rv, p, hz⟩ := I1.tuple hq
    refine wpAny_pyIter_tuple (show s1.heap.IsTuple a its.toArray from p) ?_
    refine ⟨s1.heap.objs.size, [s1.heap.objs.size], _, _, H1, rfl, I1.kept (t' := s1.toks) fun b o e => Heap.get?_push_of_some _ e, turn_tuple a _, ⟨_, Heap.get?_push_size _ rfl, rfl, rfl⟩, fun b hb => ?_, q⟩
    have e : b = s1.heap.objs.size := by simpa using hb
    subst e
    exact I1.fpOk (Nat.le_refl _) (I1.hok.fresh (Nat.le_refl _))
def srcOf (d : D) (μ : Mu) : Option Src := match d with
  | .tup ds => some ⟨ds, none⟩
  | .lst ds => some ⟨ds, none⟩
  | .cell n => match μ[n]? with
    | some (some ds) => some ⟨ds, some n⟩
    | _ => none
  | _ => none
theorem itl_ok {K : PySem.W.Frag} {W0 : Wd} {a : Addr} {xs : List V} {ds : List D} (q : SqL K (W0.fz tb) a xs) (r : DenL K tb W0 ds xs) : ItOk K tb (Itl K a) ⟨ds, none⟩ W0 where
  go := fun i W d l ok _ e => by
    have q' : SqL K W.H a xs := SqL.fz (SqL.mono l.same q)
    obtain ⟨v, ev, dv⟩ := DenFL.get (DenL.mono' r l) e
    exact ⟨⟨xs, v, q', ev⟩, fun x H' ⟨e1, e2⟩ => ⟨W, e1.symm, ok, Le.refl _, rfl, by have := e2 xs q'; rw [ev] at this; cases this; exact dv⟩⟩
  stop := fun i W l ok _ hi => ⟨xs, SqL.fz (SqL.mono l.same q), by rw [← DenFL.length r]; exact hi⟩
theorem itt_ok {K : PySem.W.Frag} {W0 : Wd} {a : Addr} {xs : List V} {ds : List D} (q : SqT K (W0.fz tb) a xs) (r : DenL K tb W0 ds xs) : ItOk K tb (Itt K a) ⟨ds, none⟩ W0 where
  go := fun i W d l ok _ e => by
    have q' : SqT K W.H a xs := SqT.fz (SqT.mono l.same q)
    obtain ⟨v, ev, dv⟩ := DenFL.get (DenL.mono' r l) e
    exact ⟨⟨xs, v, q', ev⟩, fun x H' ⟨e1, e2⟩ => ⟨W, e1.symm, ok, Le.refl _, rfl, by have := e2 xs q'; rw [ev] at this; cases this; exact dv⟩⟩
  stop := fun i W l ok _ hi => ⟨xs, SqT.fz (SqT.mono l.same q), by rw [← DenFL.length r]; exact hi⟩
theorem itc_ok {K : PySem.W.Frag} {W0 : Wd} {a : Addr} {n : Nat} {ds : List D} (q : W0.ad[n]? = some a) : ItOk K tb (Itl K a) ⟨ds, some n⟩ W0 where
  go := fun i W d l ok hs e => by
    obtain ⟨xs, ex, r⟩ := ok.cont n a ds (l.ad _ _ q) (hs n rfl)
    obtain ⟨v, ev, dv⟩ := DenFL.get r e
    exact ⟨⟨xs, v, SqL.of ex, ev⟩, fun x H' ⟨e1, e2⟩ => ⟨W, e1.symm, ok, Le.refl _, rfl, by have := e2 xs (SqL.of ex); rw [ev] at this; cases this; exact dv⟩⟩
  stop := fun i W l ok hs hi => by
    obtain ⟨xs, ex, r⟩ := ok.cont n a ds (l.ad _ _ q) (hs n rfl)
    exact ⟨xs, SqL.of ex, by rw [← DenFL.length r]; exact hi⟩
def iSeq (f : EF) : IF := fun δ μ => (f δ μ).bind fun r => (srcOf r.1 r.2).map fun S => (S, r.2)
theorem pid_seq (he : PD X tb e f) : PID X tb tg e (iSeq f) :=
  pi_le (pi_seq he) fun σ H R ⟨W, δ, S, μ', e, ok, hd, hf, h⟩ => by
    unfold iSeq at hf
    obtain ⟨⟨x, μ1⟩, e1, hf⟩ := Option.bind_eq_some_iff.mp hf
    obtain ⟨S', e2, e3⟩ := Option.map_eq_some_iff.mp hf
    cases e3
    refine ⟨W, δ, x, _, e, ok, hd, e1, fun v W1 ok1 l1 m1 d1 => ?_⟩
    cases x with
    | tup ds =>
      cases e2
      obtain ⟨a, xs, rfl, q, r⟩ := of_tup d1
      exact ⟨a, rfl, .inr ⟨⟨xs, SqT.fz q⟩, h _ W1 ok1 l1 m1 (itt_ok q r)⟩⟩
    | lst ds =>
      cases e2
      obtain ⟨a, xs, rfl, q, r⟩ := of_lst d1
      exact ⟨a, rfl, .inl ⟨⟨xs, SqL.fz q⟩, h _ W1 ok1 l1 m1 (itl_ok q r)⟩⟩
    | cell n =>
      obtain ⟨a, rfl, q⟩ := of_cell d1
      have e2' : (match μ1[n]? with | some (some ds) => some (⟨ds, some n⟩ : Src) | _ => none) = some S := e2
      cases e4 : μ1[n]? with
      | none => rw [e4] at e2'; cases e2'
      | some o =>
        cases o with
        | none => rw [e4] at e2'; cases e2'
        | some ds =>
          rw [e4] at e2'
          cases e2'
          obtain ⟨xs, ex, _⟩ := ok1.cont n a ds q (by rw [m1]; exact e4)
          exact ⟨a, rfl, .inl ⟨⟨xs, SqL.of ex⟩, h _ W1 ok1 l1 m1 (itc_ok q)⟩⟩
    | _ => cases e2
def rngI (lo : Int) (n : Nat) : List D := (List.range n).map fun (k : Nat) => D.int (lo + (k : Int))
theorem itr_ok {K : PySem.W.Frag} {W0 : Wd} {lo : Int} {n : Nat} : ItOk K tb (Itr lo n) ⟨rngI lo n, none⟩ W0 where
  go := fun i W d l ok _ e => by
    unfold rngI at e
    rw [List.getElem?_map] at e
    by_cases hi : i < n
    · rw [List.getElem?_range hi] at e
      cases e
      exact ⟨hi, fun x H' ⟨e1, e2⟩ => ⟨W, e1.symm, ok, Le.refl _, rfl, by rw [e2]; exact den_int⟩⟩
    · rw [List.getElem?_eq_none (by simpa using hi)] at e; cases e
  stop := fun i W l ok _ hi => by
    unfold rngI at hi
    have hi' : n ≤ i := by simpa using hi
    exact hi'
def iRngD1 (fs : AF) : IF := fun δ μ => (fs δ μ).bind fun r => match r.1 with
  | [.int j] => if -(2 ^ 62) ≤ j ∧ j < 2 ^ 62 then some (⟨rngI 0 j.toNat, none⟩, r.2) else none
  | _ => none
theorem pid_range1 {a : Expr} {fs : AF} {p : Pos} (hm : X.mg "range" = none) (ha : PAD X tb [a] fs) (hg : Gl X "range" := by rfl) (hs : starEach [a] X.env = [(false, eval a X.env)] := by rfl) : PID X tb tg (.Call (.Name "range" p) [a] [] pos) (iRngD1 fs) :=
  pi_le (pi_range1 hg hm ha hs) fun σ H R ⟨W, δ, S, μ', e, ok, hd, hf, h⟩ => by
    unfold iRngD1 at hf
    obtain ⟨⟨xs, μ1⟩, e1, e2⟩ := Option.bind_eq_some_iff.mp hf
    match xs, e1, e2 with
    | [.int j], e1, e2 =>
      have e2' : (if -(2 ^ 62) ≤ j ∧ j < 2 ^ 62 then some ((⟨rngI 0 j.toNat, none⟩ : Src), μ1) else none) = some (S, μ') := e2
      split at e2'
      · rename_i hj
        cases e2'
        refine ⟨W, δ, _, _, e, ok, hd, e1, fun vs W1 ok1 l1 m1 d1 => ?_⟩
        obtain ⟨u, rfl, du⟩ := DenFL.one d1
        rw [of_int du]
        exact ⟨j, rfl, hj.1, hj.2, h _ W1 ok1 l1 m1 itr_ok⟩
      · cases e2'
def iRngD2 (fs : AF) : IF := fun δ μ => (fs δ μ).bind fun r => match r.1 with
  | [.int i, .int j] => if (-(2 ^ 62) ≤ i ∧ i < 2 ^ 62) ∧ -(2 ^ 62) ≤ j ∧ j < 2 ^ 62 then some (⟨rngI i (j - i).toNat, none⟩, r.2) else none
  | _ => none
open Classical in
noncomputable def forL (S : Src) (h : GF) (b : SF) : List D → SF
  | [], δ, μ => if S.ok μ then some (.nx, δ, μ) else none
  | d :: r, δ, μ => if S.ok μ then (h d δ μ).bind fun δ1 => (b δ1 μ).bind fun q => match q.1 with
      | .nx => forL S h b r q.2.1 q.2.2
      | .ct => forL S h b r q.2.1 q.2.2
      | .bk => some (.nx, q.2)
      | .rt d => some (.rt d, q.2)
    else none
noncomputable def sFor (f : IF) (h : GF) (b : SF) : SF := fun δ μ => (f δ μ).bind fun r => forL r.1 h b r.1.items δ r.2
theorem psd_for {body : List Stmt} {fi : IF} {ts : List Nat} {h : GF} {b : SF} (hp : PassesOwn (model X.prog X.w) X.A X.env X.xe) (hc : X.calm = true) (hi : PID X tb tg iter fi) (hg : PGD X tb tg ts h) (hb : PSsD X tb body b)
    (hs : ∀ x, foldedSetIterable iter X.env x = pure x := by intro _; rfl) : PSD X tb (.For tg iter body [] pos) (sFor fi h b) :=
  ps_le (ps_for hp hc hi hg hb hs) fun E σ H ⟨W, δ, fl, δ', μ', e, ok, hd, hf, k⟩ => by
    unfold sFor at hf
    obtain ⟨⟨S, μ1⟩, e1, e2⟩ := Option.bind_eq_some_iff.mp hf
    refine ⟨W, δ, S, μ1, e, ok, hd, e1, fun J W1 ok1 l1 m1 io => ?_⟩
    refine ⟨fun i m σ2 H2 => m = S.items.length - i ∧ i ≤ S.items.length ∧ ∃ W2 δ2, W2.H = H2 ∧ WOk X.K tb W2 ∧ Le tb W1 W2 ∧ DenE X.K tb W2 δ2 σ2 ∧ forL S h b (S.items.drop i) δ2 W2.mu = some (fl, δ', μ'),
      ⟨S.items.length, rfl, Nat.zero_le _, W1, δ, rfl, ok1, Le.refl _, hd.mono' l1, by rw [m1]; exact e2⟩, ?_⟩
    rintro i m σ2 H2 ⟨hm, hi', W2, δ2, rfl, ok2, l2, d2, hn⟩
    by_cases hlt : i < S.items.length
    · right
      have hdr : S.items.drop i = S.items[i] :: S.items.drop (i + 1) := List.drop_eq_getElem_cons hlt
      rw [hdr] at hn
      unfold forL at hn
      split at hn
      · rename_i hok
        obtain ⟨δ3, e3, hn⟩ := Option.bind_eq_some_iff.mp hn
        obtain ⟨⟨fl4, δ4, μ4⟩, e4, e5⟩ := Option.bind_eq_some_iff.mp hn
        obtain ⟨go, yl⟩ := io.go i W2 S.items[i] l2 ok2 hok (by simp [hlt])
        refine ⟨go, fun σ5 H5 => ∃ W5, W5.H = H5 ∧ WOk X.K tb W5 ∧ Le tb W1 W5 ∧ DenE X.K tb W5 δ4 σ5 ∧ forL S h b (S.items.drop (i + 1)) δ4 W5.mu = some (fl, δ', μ'), fun σ5 H5 ⟨W5, q1, q2, q3, q4, q5⟩ => ⟨S.items.length - (i + 1), by omega, rfl, hlt, W5, δ4, q1, q2, q3, q4, q5⟩, fun x H' y => ?_⟩
        obtain ⟨W3, rfl, ok3, l3, m3, d3⟩ := yl x H' y
        refine ⟨W3, δ2, S.items[i], δ3, rfl, ok3, d2.mono' l3, d3, (by rw [m3]; exact e3), fun σ3 d3' _ _ => ?_⟩
        refine ⟨W3, δ3, fl4, δ4, μ4, rfl, ok3, d3', (by rw [m3]; exact e4), fun σ4 W4 ok4 l4 m4 d4 => ?_⟩
        cases fl4 with
        | nx => exact ⟨W4, rfl, ok4, (l2.trans l3).trans l4, d4, by rw [m4]; exact e5⟩
        | ct => exact ⟨W4, rfl, ok4, (l2.trans l3).trans l4, d4, by rw [m4]; exact e5⟩
        | bk => cases e5; exact k σ4 W4 ok4 (((l1.trans l2).trans l3).trans l4) m4 d4
        | rt d => cases e5; exact k σ4 W4 ok4 (((l1.trans l2).trans l3).trans l4) m4 d4
      · cases hn
    · left
      have hdr : S.items.drop i = [] := List.drop_of_length_le (by omega)
      rw [hdr] at hn
      unfold forL at hn
      split at hn
      · rename_i hok
        have hn' : some (Fl.nx, δ2, W2.mu) = some (fl, δ', μ') := hn
        cases hn'
        exact ⟨io.stop i W2 l2 ok2 hok (by omega), k σ2 W2 ok2 (l1.trans l2) rfl d2⟩
      · cases hn
abbrev LF := En → Mu → Option (List D × Mu)
def tDN (K : PySem.W.Frag) (tb : List Addr) (f : LF) : TE := fun σ H Q => ∃ W δ ds μ', W.H = H ∧ WOk K tb W ∧ DenE K tb W δ σ ∧ f δ W.mu = some (ds, μ') ∧
  ∀ p vs W', WOk K tb W' → Le tb W W' → W'.mu = μ' → W'.H p = none → DenL K tb W' ds vs → Q (.ref p) (upd W'.H p (.lst vs))
def PDN (X : Cx) (tb : List Addr) (e : Expr) (f : LF) : Prop := PE X e (tDN X.K tb f)
def mFz (f : LF) : EF := fun δ μ => (f δ μ).bind fun r => some (.lst r.1, r.2)
def mNew (f : LF) : EF := fun δ μ => (f δ μ).bind fun r => some (.cell r.2.length, r.2 ++ [some r.1])
theorem pdn_fz {f : LF} (h : PDN X tb e f) : PD X tb e (mFz f) := pe_le h fun σ H Q ⟨W, δ, d, μ', e, ok, hd, hf, k⟩ => by
  unfold mFz at hf
  obtain ⟨⟨ds, μ1⟩, e1, e2⟩ := Option.bind_eq_some_iff.mp hf
  cases e2
  refine ⟨W, δ, ds, _, e, ok, hd, e1, fun p vs W1 ok1 l1 m1 hp r => ?_⟩
  exact put_lst ok1 (fun v W' ok' l' m' d' => k v W' ok' (l1.trans l') (m'.trans m1) d') r hp
theorem pdn_new {f : LF} (h : PDN X tb e f) : PD X tb e (mNew f) := pe_le h fun σ H Q ⟨W, δ, d, μ', e, ok, hd, hf, k⟩ => by
  unfold mNew at hf
  obtain ⟨⟨ds, μ1⟩, e1, e2⟩ := Option.bind_eq_some_iff.mp hf
  cases e2
  refine ⟨W, δ, ds, μ1, e, ok, hd, e1, fun p vs W1 ok1 l1 m1 hp r => ?_⟩
  obtain ⟨ok2, l2, d2⟩ := ok1.new hp r
  exact k _ _ ok2 (l1.trans l2) (by show W1.mu ++ [some ds] = _; rw [m1]) (by rw [← m1]; exact d2)
def lLst (fs : AF) : LF := fun δ μ => (fs δ μ).bind fun r => if r.1.length ≤ sizeLine then some r else none
theorem pdn_lst {es : List Expr} {fs : AF} (h : PAD X tb es fs) : PDN X tb (.List es pos) (lLst fs) := pe_le (pe_lst h) fun σ H Q ⟨W, δ, ds, μ', e, ok, hd, hf, k⟩ => by
  unfold lLst at hf
  obtain ⟨⟨xs, μ1⟩, e1, e2⟩ := Option.bind_eq_some_iff.mp hf
  split at e2
  · rename_i hl
    cases e2
    exact ⟨W, δ, _, _, e, ok, hd, e1, fun vs W1 ok1 l1 m1 d1 => ⟨by rw [← DenFL.length d1]; exact hl, fun p hp => k p vs W1 ok1 l1 m1 hp d1⟩⟩
  · cases e2
def blkE (own : List Str) (δ : En) (capI : List Nat) : En := List.replicate own.length none ++ capI.map fun i => (δ[i]?).join
theorem blk_den {K : PySem.W.Frag} {W : Wd} {own : List Str} {capI : List Nat} {δ : En} {σ : SV} (h : DenE K tb W δ σ) : DenE K tb W (blkE own δ capI) (blkSt own σ capI) := by
  refine ⟨by unfold blkE blkSt capSt; simp, fun i d e => ?_⟩
  unfold blkE at e
  unfold blkSt capSt
  by_cases hi : i < own.length
  · rw [List.getElem?_append_left (by simpa using hi), List.getElem?_replicate] at e
    split at e <;> cases e
  · rw [List.getElem?_append_right (by simpa using hi), List.getElem?_map] at e
    rw [List.getElem?_append_right (by simpa using hi), List.getElem?_map]
    rw [List.length_replicate] at e ⊢
    cases q : capI[i - own.length]? with
    | none => rw [q] at e; cases e
    | some j =>
      rw [q] at e
      have e' : (δ[j]?).join = some d := by simpa using e
      cases q2 : δ[j]? with
      | none => rw [q2] at e'; cases e'
      | some o =>
        rw [q2] at e'
        have e2 : o = some d := e'
        subst e2
        obtain ⟨v, ev, dv⟩ := h.2 j d q2
        exact ⟨v, by simp [ev], dv⟩
theorem fits_of {own : List Str} {capI : List Nat} {σ σ' : SV} {ts : List Nat} (hts : ∀ i ∈ ts, i < own.length) (hl : σ'.length = (blkSt own σ capI).length) (h : ∀ i, i ∉ ts → σ'[i]? = (blkSt own σ capI)[i]?) : Fits (blkSt own σ capI) σ' :=
  ⟨hl, fun i v e => by
    rw [h i fun z => ?_]
    · exact e
    · unfold blkSt at e
      rw [List.getElem?_append_left (by simpa using hts i z), List.getElem?_replicate] at e
      split at e <;> cases e⟩
open Classical in
noncomputable def lcL (S : Src) (h : GF) (tt : TF) (fe : EF) (δb : En) : List D → Mu → Option (List D × Mu)
  | [], μ => if S.ok μ then some ([], μ) else none
  | d :: r, μ => if S.ok μ then (h d δb μ).bind fun δ1 => (tt δ1 μ).bind fun k => if k.1 = true then (fe δ1 k.2).bind fun y => (lcL S h tt fe δb r y.2).bind fun ys => some (y.1 :: ys.1, ys.2) else lcL S h tt fe δb r k.2 else none
noncomputable def lLC (own : List Str) (capI : List Nat) (fi : IF) (h : GF) (tt : TF) (fe : EF) : LF := fun δ μ => (fi δ μ).bind fun r => if r.1.items.length ≤ sizeLine then lcL r.1 h tt fe (blkE own δ capI) r.1.items r.2 else none
def PIfD (X : Cx) (tb : List Addr) (ifs : List Expr) (t : TF) : Prop := PIf X ifs (tDT X.K tb t)
def tYesF : TF := fun _ μ => some (true, μ)
theorem pif_le {X : Cx} {e : List Expr} {t t' : TT} (h : PIf X e t) (k : ∀ σ H Q, t' σ H Q → t σ H Q) : PIf X e t' := fun pins s σ H Q I hq => h pins s σ H Q I (k σ H Q hq)
theorem pifd_nil : PIfD X tb [] tYesF := pif_le pif_nil fun σ H Q ⟨W, δ, k, μ', e, ok, hd, hf, h⟩ => by
  subst e; cases hf
  exact h W ok (Le.refl _) rfl
theorem pifd_one {c : Expr} {t : TF} (h : PTD X tb c t) : PIfD X tb [c] t := pif_one h
theorem pdn_lc {ifs : List Expr} {fi : IF} {h : GF} {tt : TF} {fe : EF} {own cap : List Str} {capI ts : List Nat} {scope : Scope} (hc : X.calm = true) (B : BlkScope X own cap capI scope) (hown : ∀ x ∈ own, (x, NameKind.free) ∉ scope.names) (hi : PID X tb tg iter fi)
    (hg : ∀ cs C fp s2 H2, PGD (cxComp X own cap scope cs C fp s2 H2) tb tg ts h) (ht : ∀ cs C fp s2 H2, PIfD (cxComp X own cap scope cs C fp s2 H2) tb ifs tt) (he : ∀ cs C fp s2 H2, PD (cxComp X own cap scope cs C fp s2 H2) tb elt fe)
    (hts : ∀ i ∈ ts, i < own.length := by decide) (hs : ∀ x, foldedSetIterable iter X.env x = pure x := by intro _; rfl) : PDN X tb (.ListComp elt [⟨tg, iter, ifs, 0⟩] scope pos) (lLC own capI fi h tt fe) :=
  pe_le (pe_lc (g := tDG X.K tb ts h) (tt := tDT X.K tb tt) (te := tD X.K tb fe) hc B hown hi hg ht he hs) fun σ H Q ⟨W, δ, ds, μ', e, ok, hd, hf, k⟩ => by
    unfold lLC at hf
    obtain ⟨⟨S, μ1⟩, e1, e2⟩ := Option.bind_eq_some_iff.mp hf
    split at e2
    · rename_i hz
      refine ⟨W, δ, S, μ1, e, ok, hd, e1, fun J W1 ok1 l1 m1 io => ?_⟩
      refine ⟨fun i m ys H2 => m = S.items.length - i ∧ i ≤ S.items.length ∧ ys.length ≤ i ∧ ∃ W2 zs rs, W2.H = H2 ∧ WOk X.K tb W2 ∧ Le tb W1 W2 ∧ DenL X.K tb W2 zs ys ∧ lcL S h tt fe (blkE own δ capI) (S.items.drop i) W2.mu = some (rs, μ') ∧ zs ++ rs = ds,
        ⟨S.items.length, rfl, Nat.zero_le _, Nat.zero_le _, W1, [], ds, rfl, ok1, Le.refl _, DenFL.nil, by rw [m1]; exact e2, rfl⟩, ?_⟩
      rintro i m ys H2 ⟨hm, hi', hy, W2, zs, rs, rfl, ok2, l2, d2, hn, hzs⟩
      by_cases hlt : i < S.items.length
      · right
        have hdr : S.items.drop i = S.items[i] :: S.items.drop (i + 1) := List.drop_eq_getElem_cons hlt
        rw [hdr] at hn
        unfold lcL at hn
        split at hn
        · rename_i hok
          obtain ⟨δ3, e3, hn⟩ := Option.bind_eq_some_iff.mp hn
          obtain ⟨⟨kk, μ4⟩, e4, hn⟩ := Option.bind_eq_some_iff.mp hn
          obtain ⟨go, yl⟩ := io.go i W2 S.items[i] l2 ok2 hok (by simp [hlt])
          refine ⟨go, Nat.lt_of_lt_of_le (Nat.lt_of_le_of_lt hy hlt) hz, fun x H' y => ?_⟩
          obtain ⟨W3, rfl, ok3, l3, m3, d3⟩ := yl x H' y
          refine ⟨W3, blkE own δ capI, S.items[i], δ3, rfl, ok3, (blk_den hd).mono' ((l1.trans l2).trans l3), d3, (by rw [m3]; exact e3), fun σ3 d3' hl3 ht3 => ⟨fits_of hts hl3 ht3, ?_⟩⟩
          refine ⟨W3, δ3, kk, μ4, rfl, ok3, d3', (by rw [m3]; exact e4), fun W4 ok4 l4 m4 => ?_⟩
          cases kk with
          | false =>
            rw [if_neg Bool.false_ne_true]
            exact ⟨S.items.length - (i + 1), by omega, rfl, hlt, by omega, W4, zs, rs, rfl, ok4, (l2.trans l3).trans l4, DenL.mono' d2 (l3.trans l4), by rw [m4]; exact hn, hzs⟩
          | true =>
            rw [if_pos rfl]
            have hn' : ((fe δ3 μ4).bind fun y => (lcL S h tt fe (blkE own δ capI) (S.items.drop (i + 1)) y.2).bind fun ys => some (y.1 :: ys.1, ys.2)) = some (rs, μ') := hn
            obtain ⟨⟨yd, μ5⟩, e5, hn'⟩ := Option.bind_eq_some_iff.mp hn'
            obtain ⟨⟨rs', μ6⟩, e6, e7⟩ := Option.bind_eq_some_iff.mp hn'
            cases e7
            refine ⟨W4, δ3, yd, μ5, rfl, ok4, d3'.mono' l4, (by rw [m4]; exact e5), fun v W5 ok5 l5 m5 d5 => ?_⟩
            refine ⟨S.items.length - (i + 1), by omega, rfl, hlt, by rw [List.length_append]; simp; omega, W5, zs ++ [yd], rs', rfl, ok5, ((l2.trans l3).trans l4).trans l5, DenFL.append (DenL.mono' d2 ((l3.trans l4).trans l5)) (DenFL.cons d5 DenFL.nil), by rw [m5]; exact e6, by rw [List.append_assoc]; exact hzs⟩
        · cases hn
      · left
        have hdr : S.items.drop i = [] := List.drop_of_length_le (by omega)
        rw [hdr] at hn
        unfold lcL at hn
        split at hn
        · rename_i hok
          cases hn
          rw [List.append_nil] at hzs
          subst hzs
          exact ⟨io.stop i W2 l2 ok2 hok (by omega), fun l hl => k l ys W2 ok2 (l1.trans l2) rfl hl d2⟩
        · cases hn
    · cases e2
end
end L3
set_option Elab.async false
set_option linter.all false
set_option maxRecDepth 100000
namespace L2
open PySem PySem.Spec PyProof.Rows
theorem in1_ok {X : Cx} {pins : List (Addr × Obj)} {σ : L2.St} {H : Hp} {s : Shared} (I : Inv X pins σ H s) (hc : X.calm = true) {A' : Around} (h1 : A'.handled = X.A.handled) (h2 : A'.frames = X.A.frames) : A'.handled = none ∧ A'.frames = some X.stack :=
  ⟨h1.trans (I.ok.hd hc), h2.trans I.ok.frames⟩
theorem arg_one {X : Cx} {e : Expr} {pos : Pos} {s : Shared} {Q : List Value → Shared → Prop} (h : wpAny (model X.prog X.w) X.A (eval e X.env) (fun u s1 => Q [u] s1) X.xe s) (hs : starEach [e] X.env = (false, eval e X.env) :: starEach [] X.env := by rfl) :
    wpAny (model X.prog X.w) X.A (spliced (backTo pos (starEach [e] X.env))) Q X.xe s := by
  rw [hs]
  show wpAny _ _ (spliced ((false, eval e X.env) :: backTo pos (starEach [] X.env))) _ _ s
  exact Calls.spliced_cons (thn h fun u s1 q => Calls.spliced_nil q)
def TruI (y : V) (k : Bool) : Prop := y = .bl k ∨ ∃ i, y = .int i ∧ k = (i != 0)
theorem truI_ok {P : Program} {w : World} {A : Around} {E : Value → Shared → Prop} {s : Shared} {y : V} {v : Value} {k : Bool} {Q : Bool → Shared → Prop} (r : RelV y v) (h : TruI y k) (hq : Q k s) : wpAny (model P w) A (truthy v) Q E s := by
  rcases h with rfl | ⟨i, rfl, rfl⟩
  · cases r; exact wpAny_truthy_bool hq
  · obtain ⟨t, rfl⟩ := r; exact PySem.P.truthy_int hq
section
variable {X : Cx} {e : Expr} {ts : TStr} {p pos : Pos} {pins : List (Addr × Obj)} {σ : L2.St}
def tAllS (ts : TStr) : TE := fun σ H Q => ts σ H fun S H1 => ∃ W : Nat → Nat → Hp → Prop, (∃ m, W 0 m H1) ∧ ∀ i m H, W i m H →
  (S.fin i H ∧ Q (.bl true) H) ∨ S.nxt i H fun y H' => ∃ k, TruI y k ∧ if k = true then ∃ m', m' < m ∧ W (i + 1) m' H' else Q (.bl false) H'
theorem all_loop {it : Addr} {lo : Nat} {S : Str'} {SS : List (Addr × Obj) → Nat → Hp → Shared → Prop} {Q : VK} {W : Nat → Nat → Hp → Prop} (sm : Strm X pins σ X.A.in1 it lo S SS)
    (st : ∀ i m H, W i m H → (S.fin i H ∧ Q (.bl true) H) ∨ S.nxt i H fun y H' => ∃ k, TruI y k ∧ if k = true then ∃ m', m' < m ∧ W (i + 1) m' H' else Q (.bl false) H') :
    ∀ (m i : Nat) (H : Hp) (s : Shared), SS [] i H s → W i m H → codeAny (model X.prog X.w) X.A (.builtin "all.loop" ⟨[.ref it], []⟩) (fun r s' => ∃ u, r = .ok (.ret u) ∧ EP X pins σ Q u s') s := by
  intro m
  induction m using Nat.strongRecOn with
  | ind m ih =>
    intro i H s hs hw
    refine codeAny_builtin F.entry_all_loop ?_
    rw [Around.under_plainId F.plain_all_loop _]
    show wpAny _ X.A.in1 (pyNext (.ref it) >>= _) _ _ s
    rcases st i m H hw with ⟨hf, q⟩ | hn
    · refine wpAny_bind (wpAny_mono (sm.stop (fun _ _ => False) hs hf) (fun r s1 ⟨hr, I1⟩ => ?_) fun _ _ z => z.elim)
      subst hr
      refine wpAny_bind (wpAny_rule (wpAny_pure ⟨_, rfl, .bl true, H, ?_, rfl, q⟩))
      rw [List.append_nil] at I1
      exact I1
    · refine wpAny_bind (wpAny_mono (sm.next (fun _ _ => False) hs hn) (fun r s1 ⟨u, y, H', hr, ry, ⟨k, tk, q⟩, hs'⟩ => ?_) fun _ _ z => z.elim)
      subst hr
      refine wpAny_bind (wpAny_holding (truI_ok ry tk ?_))
      refine wpAny_bind (wpAny_letGo ?_)
      cases k with
      | true =>
        simp only [if_true]
        rw [if_pos rfl] at q
        obtain ⟨m', hm, hw'⟩ := q
        exact wpAny_pure ⟨plainId_quiet F.plain_all_loop _, ih m' hm (i + 1) H' s1 hs' hw'⟩
      | false =>
        simp only [Bool.false_eq_true, if_false]
        rw [if_neg Bool.false_ne_true] at q
        refine wpAny_bind (wpAny_rule (wpAny_pure ⟨_, rfl, .bl false, H', ?_, rfl, q⟩))
        have I1 := sm.inv hs'
        rw [List.append_nil] at I1
        exact I1
theorem pe_allS (hc : X.calm = true) (hm : X.mg "all" = none) (hstr : PStr X e ts) (hg : Gl X "all" := by rfl) (hs : starEach [e] X.env = (false, eval e X.env) :: starEach [] X.env := by rfl) : PE X (.Call (.Name "all" p) [e] [] pos) (tAllS ts) := by
  intro pins s σ H Q I h
  refine wpAny_Call_Name_kw (ld_blt I hg hm boot_all ?_ (by decide) (by decide))
  refine PyProof.Rows.callWith_builtin1 (arg_one (thn (hstr pins s σ H _ I h) fun u s1 ⟨S, H1, I1, rdy, W, ⟨m, w0⟩, st⟩ => ?_) hs) hs rfl
  refine call_function_tree F.kind_all F.plain_all F.entry_all (F.args_all1 _) ?_
  unfold Builtin.«all»
  refine wpAny_bind (m := oneArg "all" _) (wpAny_pure ?_)
  obtain ⟨a1, a2⟩ := in1_ok I1 hc (A' := X.A.in1) rfl rfl
  refine wpAny_bind (wpAny_mono (rdy X.A.in1 (fun _ _ => False) a1 a2 (Nat.le_succ _) (by show X.A.units + 1 ≤ _; omega)) (fun itv s2 ⟨it, lo, SS, e, sm, s0, _⟩ => ?_) fun _ _ z => z.elim)
  subst e
  refine wpAny_pure ⟨plainId_quiet F.plain_all_loop _, codeAny_mono (all_loop sm st m 0 H1 s2 s0 w0) fun r s' ⟨u, hr, q⟩ => ?_⟩
  subst hr
  exact q
end
end L2
set_option Elab.async false
set_option linter.all false
set_option maxRecDepth 100000
namespace L2
open PySem PySem.Spec PyProof.Rows
section
variable {X : Cx} {e : Expr} {ts : TStr} {p pos : Pos} {pins : List (Addr × Obj)} {σ : L2.St}
end
end L2
set_option Elab.async false
set_option linter.all false
set_option maxRecDepth 100000
namespace L3
open PySem PySem.Spec PyProof.Rows L2
abbrev Thunk' := Mu → Option (D × Mu)
structure StrOk (K : PySem.W.Frag) (tb : List Addr) (S : Str') (ths : List Thunk') (W0 : Wd) : Prop where
  nxt : ∀ (i : Nat) W th d μ' Q, Le tb W0 W → WOk K tb W → ths[i]? = some th → th W.mu = some (d, μ') → (∀ v W', WOk K tb W' → Le tb W W' → W'.mu = μ' → Den K tb W' d v → Q v W'.H) → S.nxt i W.H Q
  fin : ∀ (i : Nat) W, Le tb W0 W → WOk K tb W → ths.length ≤ i → S.fin i W.H
abbrev StF := En → Mu → Option (List Thunk' × Mu)
def tDStr (K : PySem.W.Frag) (tb : List Addr) (f : StF) : TStr := fun σ H R => ∃ W δ ths μ', W.H = H ∧ WOk K tb W ∧ DenE K tb W δ σ ∧ f δ W.mu = some (ths, μ') ∧
  ∀ S W', WOk K tb W' → Le tb W W' → W'.mu = μ' → StrOk K tb S ths W' → R S W'.H
def PStrD (X : Cx) (tb : List Addr) (e : Expr) (f : StF) : Prop := PStr X e (tDStr X.K tb f)
def PStrGD (X : Cx) (tb : List Addr) (e : Expr) (f : StF) : Prop := PStrG X e (tDStr X.K tb f)
section
variable {X : Cx} {tb : List Addr} {e tg iter elt : Expr} {f : EF} {pos p : Pos} {fs : StF}
theorem pstrg_le {t t' : TStr} (h : PStrG X e t) (k : ∀ σ H R, t' σ H R → t σ H R) : PStrG X e t' := fun pins s σ H R I hq => h pins s σ H R I (k σ H R hq)
theorem pstrd_of (h : PStrGD X tb e fs) : PStrD X tb e fs := pstr_of_gen h
def thE (d : D) : Thunk' := fun μ => some (d, μ)
def stSeq (f : EF) : StF := fun δ μ => (f δ μ).bind fun r => match r.1 with
  | .tup ds => some (ds.map thE, r.2)
  | .lst ds => some (ds.map thE, r.2)
  | _ => none
def thG (h : GF) (fe : EF) (δb : En) (d : D) : Thunk' := fun μ => (h d δb μ).bind fun δ1 => fe δ1 μ
def stGen (own : List Str) (capI : List Nat) (fi : IF) (h : GF) (fe : EF) : StF := fun δ μ => (fi δ μ).bind fun r => match r.1.cel with
  | none => some (r.1.items.map (thG h fe (blkE own δ capI)), r.2)
  | some _ => none
theorem pstrd_gen {fi : IF} {h : GF} {fe : EF} {own cap : List Str} {capI ts : List Nat} {scope : Scope} {P : Addr} {kr : Nat} (hc : X.calm = true) (hr : Room kr X.A) (B : BlkScope X own cap capI scope) (hown : ∀ x ∈ own, (x, NameKind.free) ∉ scope.names) (hnc : ∀ y ∈ scope.names, y.2 ≠ .cell)
    (hP : P ∈ tb) (htb : ∃ c, X.env.code = .ref c ∧ PySem.W.CodeHd X.base c P) (hi : PID X tb tg iter fi)
    (hg : ∀ AG cs C code fp s2 H2, PGD (cxGen X AG own cap scope cs C code fp s2 H2) tb tg ts h)
    (he : ∀ AG cs C code fp s2 H2, (∀ k, Room (k + 1) X.A → Room k AG) → PD (cxGen X AG own cap scope cs C code fp s2 H2) tb elt fe)
    (hts : ∀ i ∈ ts, i < own.length := by decide) (h0 : scope.names.lookup (".0" : Str) = some NameKind.local := by rfl) (hco : scope.isCoroutine = false := by rfl) (hs : ∀ x, genFold iter X.env x = pure x := by intro _; rfl) :
    PStrGD X tb (.GeneratorExp elt [⟨tg, iter, [], 0⟩] scope pos) (stGen own capI fi h fe) :=
  pstrg_le (pstr_gen (g := tDG X.K tb ts h) (te := tD X.K tb fe) hc hr B hown hnc h0 hco htb hi hg he hs) fun σ H R ⟨W, δ, ths, μ', e, ok, hd, hf, k⟩ => by
    unfold stGen at hf
    obtain ⟨⟨S, μ1⟩, e1, e2⟩ := Option.bind_eq_some_iff.mp hf
    obtain ⟨items, cel⟩ := S
    cases cel with
    | some n => cases e2
    | none =>
      cases e2
      refine ⟨W, δ, ⟨items, none⟩, _, e, ok, hd, e1, fun J W1 ok1 l1 m1 io => ?_⟩
      obtain ⟨ps, ep, tp⟩ := ok1.tab P hP
      refine ⟨ps, ep, tp, fun ps' tp' hmore => ?_⟩
      obtain ⟨ok2, l2⟩ := ok1.tbl hP ep tp'
      refine k _ ⟨upd W1.H P (.tbl ps'), W1.ad, W1.mu⟩ ok2 (l1.trans l2) m1 ⟨fun i W3 th d μ3 Q l3 ok3 e3 e4 hQ => ?_, fun i W3 l3 ok3 hi3 => ?_⟩
      · rw [List.getElem?_map] at e3
        cases q : items[i]? with
        | none => rw [q] at e3; cases e3
        | some d0 =>
          rw [q] at e3
          cases e3
          unfold thG at e4
          obtain ⟨δ1, e5, e6⟩ := Option.bind_eq_some_iff.mp e4
          obtain ⟨go, yl⟩ := io.go i W3 d0 (l2.trans l3) ok3 (Src.ok_none rfl) q
          refine ⟨go, fun x H' y => ?_⟩
          obtain ⟨W4, rfl, ok4, l4, m4, d4⟩ := yl x H' y
          refine ⟨W4, blkE own δ capI, d0, δ1, rfl, ok4, (blk_den hd).mono' (((l1.trans l2).trans l3).trans l4), d4, (by rw [m4]; exact e5), fun σ' d' hl ht => ⟨fits_of hts hl ht, ?_⟩⟩
          exact ⟨W4, δ1, d, μ3, rfl, ok4, d', (by rw [m4]; exact e6), fun v W5 ok5 l5 m5 d5 => hQ v W5 ok5 (l4.trans l5) m5 d5⟩
      · exact io.stop i W3 (l2.trans l3) ok3 (Src.ok_none rfl) (by simpa using hi3)
def truI : D → Option Bool
  | .bl b => some b
  | .int i => some (i != 0)
  | _ => none
theorem truI_den {K : PySem.W.Frag} {W : Wd} {x : D} {v : V} {k : Bool} (h : Den K tb W x v) (e : truI x = some k) : TruI v k := by
  cases x with
  | bl b => cases e; exact .inl (of_bl h)
  | int i => cases e; exact .inr ⟨i, of_int h, rfl⟩
  | _ => cases e
def allT : List Thunk' → Mu → Option (Bool × Mu)
  | [], μ => some (true, μ)
  | t :: r, μ => (t μ).bind fun x => (truI x.1).bind fun k => if k = true then allT r x.2 else some (false, x.2)
def anyT : List Thunk' → Mu → Option (Bool × Mu)
  | [], μ => some (false, μ)
  | t :: r, μ => (t μ).bind fun x => (truI x.1).bind fun k => if k = true then some (true, x.2) else anyT r x.2
def colT : List Thunk' → Mu → Option (List D × Mu)
  | [], μ => some ([], μ)
  | t :: r, μ => (t μ).bind fun x => (colT r x.2).bind fun q => some (x.1 :: q.1, q.2)
def sumT : Int → List Thunk' → Mu → Option (Int × Mu)
  | a, [], μ => some (a, μ)
  | a, t :: r, μ => (t μ).bind fun x => match x.1 with
    | .int j => sumT (a + j) r x.2
    | _ => none
def mAll (f : StF) : EF := fun δ μ => (f δ μ).bind fun r => (allT r.1 r.2).bind fun q => some (.bl q.1, q.2)
def mAny (f : StF) : EF := fun δ μ => (f δ μ).bind fun r => (anyT r.1 r.2).bind fun q => some (.bl q.1, q.2)
def mTupG (f : StF) : EF := fun δ μ => (f δ μ).bind fun r => if r.1.length ≤ sizeLine then (colT r.1 r.2).bind fun q => some (.tup q.1, q.2) else none
def mSum (f : StF) : EF := fun δ μ => (f δ μ).bind fun r => (sumT 0 r.1 r.2).bind fun q => some (.int q.1, q.2)
theorem pd_all (hc : X.calm = true) (hm : X.mg "all" = none) (hstr : PStrD X tb e fs) (hg : Gl X "all" := by rfl) (hs : starEach [e] X.env = (false, eval e X.env) :: starEach [] X.env := by rfl) : PD X tb (.Call (.Name "all" p) [e] [] pos) (mAll fs) :=
  pe_le (pe_allS hc hm hstr hg hs) fun σ H Q ⟨W, δ, d, μ', e, ok, hd, hf, h⟩ => by
    unfold mAll at hf
    obtain ⟨⟨ths, μ1⟩, e1, hf⟩ := Option.bind_eq_some_iff.mp hf
    obtain ⟨⟨b, μ2⟩, e2, e3⟩ := Option.bind_eq_some_iff.mp hf
    cases e3
    refine ⟨W, δ, ths, μ1, e, ok, hd, e1, fun S W1 ok1 l1 m1 so => ?_⟩
    refine ⟨fun i m H2 => m = ths.length - i ∧ ∃ W2, W2.H = H2 ∧ WOk X.K tb W2 ∧ Le tb W1 W2 ∧ allT (ths.drop i) W2.mu = some (b, μ2), ⟨_, rfl, W1, rfl, ok1, Le.refl _, by rw [m1]; exact e2⟩, ?_⟩
    rintro i m H2 ⟨rfl, W2, rfl, ok2, l2, ha⟩
    by_cases hlt : i < ths.length
    · right
      rw [List.drop_eq_getElem_cons hlt] at ha
      unfold allT at ha
      obtain ⟨⟨x, μ3⟩, e3, ha⟩ := Option.bind_eq_some_iff.mp ha
      obtain ⟨k, e4, ha⟩ := Option.bind_eq_some_iff.mp ha
      refine so.nxt i W2 ths[i] x μ3 _ l2 ok2 (by simp [hlt]) e3 fun v W3 ok3 l3 m3 d3 => ⟨k, truI_den d3 e4, ?_⟩
      cases k with
      | true =>
        rw [if_pos rfl]
        exact ⟨ths.length - (i + 1), by omega, rfl, W3, rfl, ok3, l2.trans l3, by rw [m3]; exact ha⟩
      | false =>
        rw [if_neg Bool.false_ne_true]
        cases ha
        exact h _ W3 ok3 ((l1.trans l2).trans l3) m3 den_bl
    · left
      rw [List.drop_of_length_le (by omega)] at ha
      cases ha
      exact ⟨so.fin i W2 l2 ok2 (by omega), h _ W2 ok2 (l1.trans l2) rfl den_bl⟩
end
abbrev FF := List D → Mu → Option (D × Mu)
def spD (K : PySem.W.Frag) (tb : List Addr) (n : Nat) (φ : FF) : Sp := fun vs H Q _ => ∃ W ds d μ', W.H = H ∧ WOk K tb W ∧ DenL K tb W ds vs ∧ ds.length = n ∧ φ ds W.mu = some (d, μ') ∧
  ∀ v W', WOk K tb W' → Le tb W W' → W'.mu = μ' → Den K tb W' d v → Q v W'.H
structure FI (P : Program) (w : World) (K : PySem.W.Frag) (mg : Str → Option Value) (base : Heap) (tb : List Addr) (x : Str) (n k : Nat) (φ : FF) : Prop where
  is : ∃ f fd ps, FnOk P w K mg base CX0 k f fd ps (spD K tb n φ) ∧ mg x = some (.ref f) ∧ PySem.W.keepIn K (.ref f) = true ∧ Binds K fd ps []
theorem FI.imp {P : Program} {w : World} {K : PySem.W.Frag} {mg : Str → Option Value} {base : Heap} {tb : List Addr} {x : Str} {n k : Nat} {φ ψ : FF} (F : FI P w K mg base tb x n k φ) (h : ∀ ds μ r, ds.length = n → ψ ds μ = some r → φ ds μ = some r) : FI P w K mg base tb x n k ψ := by
  obtain ⟨f, fd, ps, h1, h2⟩ := F.is
  exact ⟨f, fd, ps, h1.imp fun vs H Q E ⟨W, ds, d, μ', e, ok, dl, hl, hf, k⟩ => ⟨W, ds, d, μ', e, ok, dl, hl, h ds _ _ hl hf, k⟩, h2⟩
theorem FI.more {P : Program} {w : World} {K : PySem.W.Frag} {mg : Str → Option Value} {base : Heap} {tb : List Addr} {x : Str} {n k k' : Nat} {φ : FF} (F : FI P w K mg base tb x n k φ) (h : k ≤ k') : FI P w K mg base tb x n k' φ := by
  obtain ⟨f, fd, ps, h1, h2⟩ := F.is
  exact ⟨f, fd, ps, h1.mono h, h2⟩
def bodyF (m : Nat) (g : SF) : FF := fun ds μ => (g (ds.map some ++ List.replicate (m - ds.length) none) μ).bind fun r => match r.1 with
  | .rt d => some (d, r.2.2)
  | .nx => some (.non, r.2.2)
  | _ => none
section
variable {X : Cx} {tb : List Addr} {e : Expr} {es : List Expr} {fs : AF} {x : Str} {n k : Nat} {φ : FF} {p pos : Pos}
theorem pd_call (F : FI X.prog X.w X.K X.mg X.base tb x n k φ) (hr : Room k X.A) (ha : PAD X tb (e :: es) fs) (hn : ∀ δ μ r, fs δ μ = some r → r.1.length = n) (hg : Gl X x := by rfl) (hdb : (x == ("__debug__" : Str)) = false := by decide)
    (he : starEach (e :: es) X.env = (false, eval e X.env) :: starEach es X.env := by rfl) (hpl : (backTo pos (starEach es X.env)).any (·.1) = false := by rfl) : PD X tb (.Call (.Name x p) (e :: es) [] pos) (MC fs φ) := by
  obtain ⟨f, fd, ps, h1, h2, h3, h4⟩ := F.is
  refine pe_le (pe_call (E := E0) h1 hr hg h2 h3 h4 .nil pass0 ha hdb he hpl) fun σ H Q ⟨W, δ, d, μ', e, ok, hd, hf, h⟩ => ?_
  unfold MC at hf
  obtain ⟨⟨xs, μ1⟩, e1, e2⟩ := Option.bind_eq_some_iff.mp hf
  refine ⟨W, δ, xs, μ1, e, ok, hd, e1, fun vs W1 ok1 l1 m1 d1 => ?_⟩
  refine ⟨W1, xs, d, μ', rfl, ok1, by rw [List.append_nil]; exact d1, hn _ _ _ e1, (by rw [m1]; exact e2), fun v W' ok' l' m' d' => h v W' ok' (l1.trans l') m' d'⟩
theorem len_nil (δ : En) (μ : Mu) (r : List D × Mu) (h : mNil δ μ = some r) : r.1.length = 0 := by cases h; rfl
theorem len_cons {f : EF} {fs : AF} {n : Nat} (hk : ∀ δ μ r, fs δ μ = some r → r.1.length = n) (δ : En) (μ : Mu) (r : List D × Mu) (h : mCons f fs δ μ = some r) : r.1.length = n + 1 := by
  unfold mCons at h
  obtain ⟨q, _, h⟩ := Option.bind_eq_some_iff.mp h
  obtain ⟨t, e, h⟩ := Option.bind_eq_some_iff.mp h
  cases h
  rw [List.length_cons, hk _ _ _ e]
end
structure FunP (K : PySem.W.Frag) (x qual : Str) (st : Stmt) (f : Addr) (fd : FuncData) (P : Addr) : Prop where
  ex : ∃ (oc : Value) (od : Option Addr) (kV doc pm : Value) (an : Option Addr) (c : Addr) (ct : Value) (osl : Array (Option Value)),
    fd = PySem.W.fnOf x qual (defArgs st) (defBody st) (defScope st) .none kV doc pm an (.ref c) ct ∧ K.lookup f = some ⟨oc, od, .func fd, osl⟩ ∧ PySem.W.codeIn K (.ref c) qual = true ∧ ∀ h : Heap, K.In h → PySem.W.CodeHd h c P
  kp : PySem.W.keepIn K (.ref f) = true
theorem fi_of {P : Program} {w : World} {K : PySem.W.Frag} {mg : Str → Option Value} {base : Heap} {tb : List Addr} {x qual : Str} {st : Stmt} {f : Addr} {fd : FuncData} {T : Addr} {N ps : List Str} {n k : Nat} {g : SF} (F : FunP K x qual st f fd T) (KB : K.In base) (hmg : mg x = some (.ref f)) (S : FnScope N ps (defScope st)) (hps : ps.length = n)
    (hb : ∀ (kV doc pm : Value) (an : Option Addr) (cdv ct : Value) (us : List Value), us.length = ps.length → bindArgs (PySem.W.fnOf x qual (defArgs st) (defBody st) (defScope st) .none kV doc pm an cdv ct) ⟨us, []⟩ = pure (ps.zip us))
    (hbody : ∀ (c : Addr) (A : Around) (outer : List Env) (s : Shared) (H : Hp) (E : XK), PySem.W.CodeHd base c T → Room k (A.deeper (envOfC qual (defScope st) s.heap.objs.size f (.ref c))) →
      PSsD (cxOf CX0 P w K mg base N qual (defScope st) f (.ref c) A outer s H E).nox tb (defBody st) g) : FI P w K mg base tb x n (k + 1) (bodyF N.length g) := by
  obtain ⟨oc, od, kV, doc, pm, an, c, ct, osl, rfl, lk, hcd, hhd⟩ := F.ex
  refine ⟨f, _, ps, fn_of lk hcd S (fun vs H Q E ⟨W, ds, d, μ', e, ok, dl, hl, _⟩ => by rw [← DenFL.length dl, hl, hps]) fun A outer s H vs Q E hr hsp => ?_, hmg, F.kp, .all (hb kV doc pm an (.ref c) ct)⟩
  obtain ⟨W, ds, d, μ', e, ok, dl, hl, hf, k⟩ := hsp
  refine ⟨_, (hbody c A outer s H E (hhd base KB) hr).nox, ?_⟩
  unfold bodyF at hf
  obtain ⟨⟨fl, δ', μ1⟩, e1, e2⟩ := Option.bind_eq_some_iff.mp hf
  refine ⟨W, _, fl, δ', μ1, e, ok, ?_, e1, fun σ' W' ok' l' m' d' => ?_⟩
  · have hlen := DenFL.length dl
    refine ⟨by unfold L2.start; simp [hlen], fun i y q => ?_⟩
    unfold L2.start
    by_cases hi : i < ds.length
    · rw [List.getElem?_append_left (by simpa using hi), List.getElem?_map] at q
      cases q2 : ds[i]? with
      | none => rw [q2] at q; cases q
      | some z =>
        rw [q2] at q
        cases q
        obtain ⟨v, ev, dv⟩ := DenFL.get dl q2
        exact ⟨v, by rw [List.getElem?_append_left (by rw [List.length_map, ← hlen]; exact hi), List.getElem?_map, ev]; rfl, dv⟩
    · rw [List.getElem?_append_right (by simpa using hi), List.getElem?_replicate] at q
      split at q <;> cases q
  · cases fl with
    | nx => cases e2; exact k .non W' ok' l' m' den_non
    | rt d0 => cases e2; exact fun v dv => k v W' ok' l' m' dv
    | bk => cases e2
    | ct => cases e2
end L3
set_option Elab.async false
set_option linter.all false
set_option maxRecDepth 100000
namespace L2
open PySem PySem.Spec PyProof.Rows
section
variable {X : Cx} {a b c e : Expr} {ta tb tc te : TE} {pos : Pos}
def bitsSum (i j : Int) : Nat := Builtin.Int.intBits i + Builtin.Int.intBits j
theorem op_mulB : OpR X (binaryOp .Mult) (rI (fun i j => bitsSum i j ≤ 134217728) fun i j => .int (i * j)) := opI fun _ _ _ _ _ _ _ hc q => mul_int q (IntMulOk.of_le (Nat.le_refl _) (Nat.le_refl _) hc)
theorem op_fdivB : OpR X (binaryOp .FloorDiv) (rI (fun _ j => j ≠ 0 ∧ j.natAbs.log2 < 9000) fun i j => .int (i.fdiv j)) := opI fun _ _ _ _ _ _ _ hc q => floordiv_int hc.1 q (.inl (PyProof.noPylong_of_log2 hc.2))
theorem op_powB : OpR X (binaryOp .Pow) (rI (fun i j => 0 ≤ j ∧ (Builtin.Int.intBits i : Int) * j ≤ 2 ^ 27) fun i j => .int (i ^ j.toNat)) := opI fun _ _ _ _ _ _ _ hc q => pow_int hc.1 hc.2 q
def rCatW (K : PySem.W.Frag) : R2 := fun x y H Q => ∃ a b xs ys, x = .ref a ∧ y = .ref b ∧ SqT K H a xs ∧ SqT K H b ys ∧ xs.length + ys.length ≤ sizeLine ∧
  (xs = [] → Q (.ref b) H) ∧ (xs ≠ [] → ys = [] → Q (.ref a) H) ∧ (xs ≠ [] → ys ≠ [] → ∀ p, H p = none → Q (.ref p) (upd H p (.tup (xs ++ ys))))
theorem op_catW : OpR X (binaryOp .Add) (rCatW X.K) := by
  intro pins s σ H x y v u Q I rx ry h
  obtain ⟨t, b, xs, ys, rfl, rfl, ha, hb, hz, q0, q1, q2⟩ := h
  by_cases hx : xs = []
  · subst hx
    cases rx
    cases ry
    obtain ⟨its, r1, p1, _⟩ := I.tuple ha
    obtain ⟨its2, r2, p2, _⟩ := I.tuple hb
    cases r1
    obtain ⟨⟨cls, dd, data, sl⟩, ho, hc, n, hd⟩ := id p1
    obtain ⟨⟨cls2, dd2, data2, sl2⟩, ho2, hc2, n2, hd2⟩ := id p2
    simp only at hc hd hc2 hd2
    subst hc hd hc2 hd2
    exact concat_meets ⟨_, ho, rfl⟩ ⟨_, ho2, rfl⟩ noFill_tuple_add seq_tuple_add PySem.F.slot_tuple_add PySem.F.entry_tuple_add (PySem.F.args_tuple_add_2 _ _)
      (tuple_addW0 t b _ _ n n2 dd dd2 sl sl2 (by simp)) ⟨ho, ho2, ⟨.ref b, H, I, rfl, q0 rfl⟩⟩
  · exact op_catT pins s σ H _ _ v u Q I rx ry ⟨t, b, xs, ys, rfl, rfl, ha, hb, hx, hz, q1 hx, q2 hx⟩
theorem noFill_tuple_mul : fillsNumberSlot (.type "tuple") "mul" = pure false :=
  PySem.fillsNumberSlot_seq (id := "tuple.__mul__") (r := some (.builtin "tuple.__rmul__")) F.slot_tuple_mul.lookup (by decide +kernel) F.slot_tuple_rmul.lookup (by decide +kernel)
theorem repeat_tuple : seqRepeat? (.type "tuple") = pure (some (.builtin "tuple.__mul__")) := by
  unfold seqRepeat?
  rw [PySem.seqSlot_of (T := "tuple") (name := "__mul__") (id := "tuple.__mul__") F.slot_tuple_mul.lookup (by decide +kernel), PySem.seqSlot_of (T := "tuple") (name := "__rmul__") (id := "tuple.__rmul__") F.slot_tuple_rmul.lookup (by decide +kernel)]
  rfl
theorem int_rmul_tuple (a : Int) (t : Tok) (l : Addr) (items : Array Value) (n : Nat) (dd : Option Addr) (sl : Array (Option Value)) :
    Meets (Builtin.«int.__rmul__» ⟨[.int a t, .ref l], []⟩) (fun _ R s => s.heap.get? l = some { cls := .type "tuple", dict := dd, data := .seq items n, slots := sl } ∧ R (.ok (.ret Value.notImplemented)) s) :=
  .of_wp fun prog w A R s h => by obtain ⟨hp, g, d, tk, os⟩ := s; obtain ⟨hl, h⟩ := h; wp_walk; exact ⟨_, rfl, h⟩
theorem tuple_mul_same (l : Addr) (items : Array Value) (n : Nat) (x : Int) (u : Tok) (dd : Option Addr) (sl : Array (Option Value)) (h0 : (decide (x < -2 ^ 63) || decide (x ≥ 2 ^ 63)) = false) (h1 : (items.isEmpty || x == 1) = true) :
    Meets (Builtin.«tuple.__mul__» ⟨[.ref l, .int x u], []⟩) (fun _ R s => s.heap.get? l = some { cls := .type "tuple", dict := dd, data := .seq items n, slots := sl } ∧ R (.ok (.ret (Value.ref l))) s) :=
  .of_wp fun prog w A R s h => by
    obtain ⟨hp, g, d, tk, os⟩ := s; obtain ⟨hl, h⟩ := h
    unfold Builtin.«tuple.__mul__»
    wp_walk using AutoSeq1.wpAny_loadPart' hl
    refine wpAny_ite_false (decide_eq_false (by rw [h0]; exact Bool.false_ne_true)) ?_
    wp_walk using AutoSeq1.wpAny_loadPart' hl
    exact ⟨_, rfl, h⟩
theorem tuple_mul_none (l : Addr) (items : Array Value) (n : Nat) (x : Int) (u : Tok) (dd : Option Addr) (sl : Array (Option Value)) (h0 : (decide (x < -2 ^ 63) || decide (x ≥ 2 ^ 63)) = false) (h1 : (items.isEmpty || x == 1) = false) (h2 : (decide (x ≤ 0) || items.isEmpty) = true) :
    Meets (Builtin.«tuple.__mul__» ⟨[.ref l, .int x u], []⟩) (fun _ R s => s.heap.get? l = some { cls := .type "tuple", dict := dd, data := .seq items n, slots := sl } ∧ R (.ok (.ret (Value.ref s.heap.objs.size))) { s with heap := s.heap.push { cls := Value.type "tuple", data := Data.seq #[] }, toks := s.toks }) :=
  .of_wp fun prog w A R s h => by
    obtain ⟨hp, g, d, tk, os⟩ := s; obtain ⟨hl, h⟩ := h
    unfold Builtin.«tuple.__mul__»
    wp_walk using AutoSeq1.wpAny_loadPart' hl
    refine wpAny_ite_false (decide_eq_false (by rw [h0]; exact Bool.false_ne_true)) ?_
    wp_walk using AutoSeq1.wpAny_loadPart' hl
    exact ⟨_, rfl, h⟩
theorem tuple_mul_rep (l : Addr) (items : Array Value) (n : Nat) (x : Int) (u : Tok) (dd : Option Addr) (sl : Array (Option Value)) (h0 : (decide (x < -2 ^ 63) || decide (x ≥ 2 ^ 63)) = false) (h1 : (items.isEmpty || x == 1) = false) (h2 : (decide (x ≤ 0) || items.isEmpty) = false)
    (h3 : ¬ (items.size : Int) * x > (2 ^ 63 - 1) / 8) (h4 : Builtin.Tuple.tupleTooMany ((items.size : Int) * x) = false) (h5 : ((List.replicate x.toNat items).foldl (· ++ ·) #[]).size ≤ sizeLine) :
    Meets (Builtin.«tuple.__mul__» ⟨[.ref l, .int x u], []⟩) (fun _ R s => s.heap.get? l = some { cls := .type "tuple", dict := dd, data := .seq items n, slots := sl } ∧ R (.ok (.ret (Value.ref s.heap.objs.size))) { s with heap := s.heap.push { cls := Value.type "tuple", data := Data.seq ((List.replicate x.toNat items).foldl (· ++ ·) #[]) }, toks := s.toks }) :=
  .of_wp fun prog w A R s h => by
    obtain ⟨hp, g, d, tk, os⟩ := s; obtain ⟨hl, h⟩ := h
    unfold Builtin.«tuple.__mul__»
    wp_walk using AutoSeq1.wpAny_loadPart' hl
    refine wpAny_ite_false (decide_eq_false (by rw [h0]; exact Bool.false_ne_true)) ?_
    wp_walk using AutoSeq1.wpAny_loadPart' hl
    refine wpAny_ite_false (decide_eq_false h3) ?_
    wp_walk using AutoSeq1.wpAny_loadPart' hl
    exact ⟨_, rfl, h⟩
def rRepT (K : PySem.W.Frag) : R2 := fun x y H Q => ∃ l k xs, x = .ref l ∧ y = .int k ∧ SqT K H l xs ∧ -(2 ^ 63) ≤ k ∧ k < 2 ^ 63 ∧ xs.length * k.toNat ≤ sizeLine ∧
  ((xs = [] ∨ k = 1) → Q (.ref l) H) ∧ (¬ (xs = [] ∨ k = 1) → ∀ p, H p = none → Q (.ref p) (upd H p (.tup (List.replicate k.toNat xs).flatten)))
theorem op_repT : OpR X (binaryOp .Mult) (rRepT X.K) := by
  intro pins s σ H x y v u Q I rx ry h
  obtain ⟨l, k, xs, rfl, rfl, hH, h1, h2, hz, q1, q2⟩ := h
  cases rx
  obtain ⟨t, rfl⟩ := ry
  obtain ⟨its, r, p, hz0⟩ := I.tuple hH
  have hl := r.length
  obtain ⟨⟨cls, dd, data, sl⟩, e, hc, n, hd⟩ := id p
  simp only at hc hd
  subst hc hd
  have h0 : (decide (k < -2 ^ 63) || decide (k ≥ 2 ^ 63)) = false := by
    rw [decide_eq_false (by omega), decide_eq_false (by omega)]; rfl
  refine wpAny_binaryOp_repeat_ref (T := "tuple") (U := "int") (by decide) ⟨_, e, rfl⟩ (fun s' => typeIs_int s' k t) noFill_tuple_mul F.fills_int_mul F.slot_int_rmul repeat_tuple F.slot_int_index.lookup
    (call_meets F.slot_int_rmul (typeIs_int s k t) F.entry_int_rmul (F.args_int_rmul_2 _ _) (int_rmul_tuple k t l its.toArray n dd sl) ⟨e, rfl, ⟨_, e, rfl⟩, ?_⟩)
  by_cases hs : xs = [] ∨ k = 1
  · refine call_meets F.slot_tuple_mul ⟨_, e, rfl⟩ F.entry_tuple_mul (F.args_tuple_mul_2 _ _) (tuple_mul_same l its.toArray n k t dd sl h0 ?_) ⟨e, ⟨.ref l, H, I, rfl, q1 hs⟩⟩
    rcases hs with hs | hs
    · subst hs; cases r; rfl
    · subst hs; simp
  · have hne : (its.toArray.isEmpty || k == 1) = false := by
      rw [Bool.or_eq_false_iff]
      refine ⟨?_, by simpa using fun z => hs (.inr z)⟩
      cases its with
      | nil => cases r; exact absurd (Or.inl rfl) hs
      | cons a b => simp
    have hne' : its.toArray.isEmpty = false := (Bool.or_eq_false_iff.mp hne).1
    by_cases hk : k ≤ 0
    · refine call_meets F.slot_tuple_mul ⟨_, e, rfl⟩ F.entry_tuple_mul (F.args_tuple_mul_2 _ _) (tuple_mul_none l its.toArray n k t dd sl h0 hne (by rw [decide_eq_true hk]; rfl)) ⟨e, ?_⟩
      have hk0 : k.toNat = 0 := by omega
      refine ⟨.ref s.heap.objs.size, _, I.laid (t' := s.toks) (o := .tup []) (fun b ob q => Heap.get?_push_of_some _ q) (Nat.le_refl _) ⟨Nat.zero_le _, [], .nil, IsTup.new _ _⟩, rfl, ?_⟩
      have := q2 hs _ (I.hok.fresh (Nat.le_refl _))
      rw [hk0] at this
      exact this
    · have hp : its.length * k.toNat ≤ sizeLine := by rw [← hl]; exact hz
      have hsz := sizeLine_eq
      have hcast : ((its.toArray.size : Int)) * k = ((its.length * k.toNat : Nat) : Int) := by
        rw [List.size_toArray, Int.natCast_mul, Int.toNat_of_nonneg (by omega)]
      have hfold : List.foldl (fun x1 x2 => x1 ++ x2) #[] (List.replicate k.toNat its.toArray) = (List.replicate k.toNat its).flatten.toArray := by
        have := foldl_rep its k.toNat []
        rw [List.nil_append] at this
        exact this
      have hlen : (List.replicate k.toNat its).flatten.length ≤ sizeLine := by rw [len_rep, Nat.mul_comm]; exact hp
      refine call_meets F.slot_tuple_mul ⟨_, e, rfl⟩ F.entry_tuple_mul (F.args_tuple_mul_2 _ _) (tuple_mul_rep l its.toArray n k t dd sl h0 hne (by rw [decide_eq_false hk, hne']; rfl) ?_ ?_ ?_) ⟨e, ?_⟩
      · rw [hcast]
        have : (sizeLine : Int) ≤ (2 ^ 63 - 1) / 8 := by decide
        omega
      · rw [hcast]
        unfold Builtin.Tuple.tupleTooMany
        exact decide_eq_false (by omega)
      · rw [hfold, List.size_toArray]; exact hlen
      · rw [hfold]
        refine ⟨.ref s.heap.objs.size, _, I.laid (t' := s.toks) (o := .tup (List.replicate k.toNat xs).flatten) (fun b ob q => Heap.get?_push_of_some _ q) (Nat.le_refl _) ⟨by rw [len_rep, Nat.mul_comm]; exact hz, _, r.rep k.toNat, IsTup.new _ _⟩, rfl, q2 hs _ (I.hok.fresh (Nat.le_refl _))⟩
def IsiV (K : PySem.W.Frag) (T : String) (x : V) (H : Hp) (k : Bool) : Prop := match x with
  | .non => k = false
  | .bl _ => k = (T == "bool" || T == "int")
  | .int _ => k = (T == "int")
  | .str _ => k = (T == "str")
  | .ref p => (k = (T == "list") ∧ ∃ xs, SqL K H p xs) ∨ (k = (T == "tuple") ∧ ∃ xs, SqT K H p xs) ∨ (k = (T == "dict") ∧ ∃ xs, H p = some (.dK xs))
  | _ => False
def isiT : List String := ["bool", "int", "str", "list", "tuple", "dict"]
theorem call_isi : CallR X (.builtin "isinstance") (fun xs H Q => ∃ x T k, xs = [x, .ty T] ∧ T ∈ isiT ∧ IsiV X.K T x H k ∧ Q (.bl k) H) := by
  intro pins s σ H xs us Q I r h
  obtain ⟨x, T, k, rfl, hT, hx, q⟩ := h
  obtain ⟨u, w', rfl, rx, rt⟩ := vals2 r
  cases rt
  have fin : EP X pins σ Q (.bool k) s := ⟨.bl k, H, I, rfl, q⟩
  have fin1 : EP X pins σ Q (.bool k) { s with toks := s.toks + 1 } := ⟨.bl k, H, I.tok _, rfl, q⟩
  simp only [isiT, List.mem_cons, List.not_mem_nil, or_false] at hT
  cases x with
  | non =>
    cases rx
    have hk : k = false := hx
    subst hk
    rcases hT with rfl | rfl | rfl | rfl | rfl | rfl
    · exact IsiPair.NoneType_bool fin1
    · exact IsiPair.NoneType_int fin1
    · exact IsiPair.NoneType_str fin1
    · exact IsiPair.NoneType_list fin1
    · exact IsiPair.NoneType_tuple fin1
    · exact IsiPair.NoneType_dict fin1
  | bl b =>
    cases rx
    have hk : k = _ := hx
    subst hk
    rcases hT with rfl | rfl | rfl | rfl | rfl | rfl
    · exact IsiPair.bool_bool fin
    · exact IsiPair.bool_int fin
    · exact IsiPair.bool_str fin1
    · exact IsiPair.bool_list fin1
    · exact IsiPair.bool_tuple fin1
    · exact IsiPair.bool_dict fin1
  | int b =>
    obtain ⟨t, rfl⟩ := rx
    have hk : k = _ := hx
    subst hk
    rcases hT with rfl | rfl | rfl | rfl | rfl | rfl
    · exact IsiPair.int_bool fin1
    · exact IsiPair.int_int fin
    · exact IsiPair.int_str fin1
    · exact IsiPair.int_list fin1
    · exact IsiPair.int_tuple fin1
    · exact IsiPair.int_dict fin1
  | str b =>
    obtain ⟨t, rfl⟩ := rx
    have hk : k = _ := hx
    subst hk
    rcases hT with rfl | rfl | rfl | rfl | rfl | rfl
    · exact IsiPair.str_bool fin1
    · exact IsiPair.str_int fin1
    · exact IsiPair.str_str fin
    · exact IsiPair.str_list fin1
    · exact IsiPair.str_tuple fin1
    · exact IsiPair.str_dict fin1
  | ref p =>
    cases rx
    rcases hx with ⟨hk, xs, hq⟩ | ⟨hk, xs, hq⟩ | ⟨hk, xs, hq⟩
    · subst hk
      obtain ⟨its, _, pl, _⟩ := I.list hq
      obtain ⟨o, ho, hc, _⟩ := pl.isList
      rcases hT with rfl | rfl | rfl | rfl | rfl | rfl
      · exact IsiPair.list_bool ho hc fin1
      · exact IsiPair.list_int ho hc fin1
      · exact IsiPair.list_str ho hc fin1
      · exact IsiPair.list_list ho hc fin
      · exact IsiPair.list_tuple ho hc fin1
      · exact IsiPair.list_dict ho hc fin1
    · subst hk
      obtain ⟨its, _, pl, _⟩ := I.tuple hq
      obtain ⟨o, ho, hc, _⟩ := pl
      rcases hT with rfl | rfl | rfl | rfl | rfl | rfl
      · exact IsiPair.tuple_bool ho hc fin1
      · exact IsiPair.tuple_int ho hc fin1
      · exact IsiPair.tuple_str ho hc fin1
      · exact IsiPair.tuple_list ho hc fin1
      · exact IsiPair.tuple_tuple ho hc fin
      · exact IsiPair.tuple_dict ho hc fin1
    · subst hk
      obtain ⟨_, _, vs, _, o, _, _, ho, ex, _⟩ := I.hok p _ hq
      have hc := ex.1
      rcases hT with rfl | rfl | rfl | rfl | rfl | rfl
      · exact IsiPair.dict_bool ho hc fin1
      · exact IsiPair.dict_int ho hc fin1
      · exact IsiPair.dict_str ho hc fin1
      · exact IsiPair.dict_list ho hc fin1
      · exact IsiPair.dict_tuple ho hc fin1
      · exact IsiPair.dict_dict ho hc fin
  | _ => exact hx.elim
end
end L2
set_option Elab.async false
set_option linter.all false
set_option maxRecDepth 100000
namespace L3
open PySem PySem.Spec PyProof.Rows L2
abbrev O2 := D → D → Mu → Option (D × Mu)
abbrev O1' := D → Mu → Option (D × Mu)
abbrev ON := List D → Mu → Option (D × Mu)
def oAdd : O2
  | .int i, .int j, μ => some (.int (i + j), μ)
  | .tup xs, .tup ys, μ => if xs.length + ys.length ≤ sizeLine then some (.tup (xs ++ ys), μ) else none
  | .lst xs, .lst ys, μ => if xs.length + ys.length ≤ sizeLine then some (.lst (xs ++ ys), μ) else none
  | .str x, .str y, μ => if x.length + y.length ≤ sizeLine then some (.str (x ++ y), μ) else none
  | _, _, _ => none
def oSub : O2
  | .int i, .int j, μ => some (.int (i - j), μ)
  | _, _, _ => none
def oMul : O2
  | .int i, .int j, μ => if bitsSum i j ≤ 134217728 then some (.int (i * j), μ) else none
  | .tup xs, .int k, μ => if -(2 ^ 63) ≤ k ∧ k < 2 ^ 63 ∧ xs.length * k.toNat ≤ sizeLine then some (.tup (List.replicate k.toNat xs).flatten, μ) else none
  | .lst xs, .int k, μ => if -(2 ^ 63) ≤ k ∧ k < 2 ^ 63 ∧ xs.length * k.toNat ≤ sizeLine then some (.lst (List.replicate k.toNat xs).flatten, μ) else none
  | _, _, _ => none
def oDiv : O2
  | .int i, .int j, μ => if j ≠ 0 ∧ j.natAbs.log2 < 9000 then some (.int (i.fdiv j), μ) else none
  | _, _, _ => none
def oMod : O2
  | .int i, .int j, μ => if j ≠ 0 then some (.int (i.fmod j), μ) else none
  | _, _, _ => none
def oPow : O2
  | .int i, .int j, μ => if 0 ≤ j ∧ (Builtin.Int.intBits i : Int) * j ≤ 2 ^ 27 then some (.int (i ^ j.toNat), μ) else none
  | _, _, _ => none
def oLt : O2
  | .int i, .int j, μ => some (.bl (decide (i < j)), μ)
  | _, _, _ => none
def oLe : O2
  | .int i, .int j, μ => some (.bl (decide (i ≤ j)), μ)
  | _, _, _ => none
def oGt : O2
  | .int i, .int j, μ => some (.bl (decide (j < i)), μ)
  | _, _, _ => none
def oGe : O2
  | .int i, .int j, μ => some (.bl (decide (j ≤ i)), μ)
  | _, _, _ => none
section
variable {X : Cx} {tb : List Addr}
theorem rep_den {K : PySem.W.Frag} {F : Hp} {ad : List Addr} {ds : List D} {vs : List V} (h : DenFL K F ad ds vs) : ∀ k : Nat, DenFL K F ad (List.replicate k ds).flatten (List.replicate k vs).flatten
  | 0 => DenFL.nil
  | k + 1 => by
    rw [List.replicate_succ, List.replicate_succ, List.flatten_cons, List.flatten_cons]
    exact DenFL.append h (rep_den h k)
theorem nil_iff {K : PySem.W.Frag} {F : Hp} {ad : List Addr} {ds : List D} {vs : List V} (h : DenFL K F ad ds vs) : vs = [] ↔ ds = [] := by
  have := DenFL.length h
  cases ds <;> cases vs <;> simp_all
theorem rep_one {α : Type} (xs : List α) : (List.replicate (1 : Int).toNat xs).flatten = xs := by simp
theorem od_add : OpD X tb (binaryOp .Add) oAdd := ⟨_, op_add.or (op_catW.or (op_cat.or op_add_str)), fun W x y v u d μ' Q ok dx dy ho h => by
  cases x with
  | int i =>
    cases y with
    | int j => cases ho; rw [of_int dx, of_int dy]; exact .inl ⟨i, j, rfl, rfl, put ok h den_int⟩
    | _ => cases ho
  | tup xs =>
    cases y with
    | tup ys =>
      have ho' : (if xs.length + ys.length ≤ sizeLine then some (D.tup (xs ++ ys), W.mu) else none) = some (d, μ') := ho
      split at ho'
      · rename_i hz
        cases ho'
        obtain ⟨a, us, rfl, q1, r1⟩ := of_tup dx
        obtain ⟨b, ws, rfl, q2, r2⟩ := of_tup dy
        refine .inr (.inl ⟨a, b, us, ws, rfl, rfl, SqT.fz q1, SqT.fz q2, by rw [← DenFL.length r1, ← DenFL.length r2]; exact hz, fun e => ?_, fun _ e => ?_, fun _ _ p hp => put_tup ok h (DenFL.append r1 r2) hp⟩)
        · have e' := (nil_iff r1).mp e
          subst e'
          exact put ok h dy
        · have e' := (nil_iff r2).mp e
          subst e'
          rw [List.append_nil] at h
          exact put ok h dx
      · cases ho'
    | _ => cases ho
  | lst xs =>
    cases y with
    | lst ys =>
      have ho' : (if xs.length + ys.length ≤ sizeLine then some (D.lst (xs ++ ys), W.mu) else none) = some (d, μ') := ho
      split at ho'
      · rename_i hz
        cases ho'
        obtain ⟨a, us, rfl, q1, r1⟩ := of_lst' dx
        obtain ⟨b, ws, rfl, q2, r2⟩ := of_lst' dy
        exact .inr (.inr (.inl ⟨a, b, us, ws, rfl, rfl, (fz_some q1).1, (fz_some q2).1, by rw [← DenFL.length r1, ← DenFL.length r2]; exact hz, fun p hp => put_lst ok h (DenFL.append r1 r2) hp⟩))
      · cases ho'
    | _ => cases ho
  | str x =>
    cases y with
    | str y =>
      have ho' : (if x.length + y.length ≤ sizeLine then some (D.str (x ++ y), W.mu) else none) = some (d, μ') := ho
      split at ho'
      · rename_i hz
        cases ho'
        rw [of_str dx, of_str dy]
        exact .inr (.inr (.inr ⟨x, y, rfl, rfl, hz, put ok h den_str⟩))
      · cases ho'
    | _ => cases ho
  | _ => cases y <;> cases ho⟩
theorem od_sub : OpD X tb (binaryOp .Sub) oSub := ⟨_, op_sub, fun W x y v u d μ' Q ok dx dy ho h => by
  cases x with
  | int i =>
    cases y with
    | int j => cases ho; rw [of_int dx, of_int dy]; exact ⟨i, j, rfl, rfl, put ok h den_int⟩
    | _ => cases ho
  | _ => cases y <;> cases ho⟩
theorem od_mul : OpD X tb (binaryOp .Mult) oMul := ⟨_, op_mulB.or (op_repT.or op_rep), fun W x y v u d μ' Q ok dx dy ho h => by
  cases x with
  | int i =>
    cases y with
    | int j =>
      have ho' : (if bitsSum i j ≤ 134217728 then some (D.int (i * j), W.mu) else none) = some (d, μ') := ho
      split at ho'
      · rename_i hz
        cases ho'
        rw [of_int dx, of_int dy]; exact .inl ⟨i, j, rfl, rfl, hz, put ok h den_int⟩
      · cases ho'
    | _ => cases ho
  | tup xs =>
    cases y with
    | int k =>
      have ho' : (if -(2 ^ 63) ≤ k ∧ k < 2 ^ 63 ∧ xs.length * k.toNat ≤ sizeLine then some (D.tup (List.replicate k.toNat xs).flatten, W.mu) else none) = some (d, μ') := ho
      split at ho'
      · rename_i hz
        cases ho'
        obtain ⟨a, us, rfl, q1, r1⟩ := of_tup dx
        rw [of_int dy]
        refine .inr (.inl ⟨a, k, us, rfl, rfl, SqT.fz q1, hz.1, hz.2.1, by rw [← DenFL.length r1]; exact hz.2.2, fun e => ?_, fun _ p hp => put_tup ok h (rep_den r1 _) hp⟩)
        rcases e with e | e
        · have e' := (nil_iff r1).mp e
          subst e'
          have e2 : (List.replicate k.toNat ([] : List D)).flatten = [] := by simp
          rw [e2] at h
          exact put ok h dx
        · subst e
          rw [rep_one] at h
          exact put ok h dx
      · cases ho'
    | _ => cases ho
  | lst xs =>
    cases y with
    | int k =>
      have ho' : (if -(2 ^ 63) ≤ k ∧ k < 2 ^ 63 ∧ xs.length * k.toNat ≤ sizeLine then some (D.lst (List.replicate k.toNat xs).flatten, W.mu) else none) = some (d, μ') := ho
      split at ho'
      · rename_i hz
        cases ho'
        obtain ⟨a, us, rfl, q1, r1⟩ := of_lst' dx
        rw [of_int dy]
        exact .inr (.inr ⟨a, k, us, rfl, rfl, (fz_some q1).1, hz.1, hz.2.1, by rw [← DenFL.length r1]; exact hz.2.2, fun p hp => put_lst ok h (rep_den r1 _) hp⟩)
      · cases ho'
    | _ => cases ho
  | _ => cases y <;> cases ho⟩
theorem od_div : OpD X tb (binaryOp .FloorDiv) oDiv := ⟨_, op_fdivB, fun W x y v u d μ' Q ok dx dy ho h => by
  cases x with
  | int i =>
    cases y with
    | int j =>
      have ho' : (if j ≠ 0 ∧ j.natAbs.log2 < 9000 then some (D.int (i.fdiv j), W.mu) else none) = some (d, μ') := ho
      split at ho'
      · rename_i hz
        cases ho'
        rw [of_int dx, of_int dy]; exact ⟨i, j, rfl, rfl, hz, put ok h den_int⟩
      · cases ho'
    | _ => cases ho
  | _ => cases y <;> cases ho⟩
theorem od_mod : OpD X tb (binaryOp .Mod) oMod := ⟨_, op_modN, fun W x y v u d μ' Q ok dx dy ho h => by
  cases x with
  | int i =>
    cases y with
    | int j =>
      have ho' : (if j ≠ 0 then some (D.int (i.fmod j), W.mu) else none) = some (d, μ') := ho
      split at ho'
      · rename_i hz
        cases ho'
        rw [of_int dx, of_int dy]; exact ⟨i, j, rfl, rfl, hz, put ok h den_int⟩
      · cases ho'
    | _ => cases ho
  | _ => cases y <;> cases ho⟩
theorem od_pow : OpD X tb (binaryOp .Pow) oPow := ⟨_, op_powB, fun W x y v u d μ' Q ok dx dy ho h => by
  cases x with
  | int i =>
    cases y with
    | int j =>
      have ho' : (if 0 ≤ j ∧ (Builtin.Int.intBits i : Int) * j ≤ 2 ^ 27 then some (D.int (i ^ j.toNat), W.mu) else none) = some (d, μ') := ho
      split at ho'
      · rename_i hz
        cases ho'
        rw [of_int dx, of_int dy]; exact ⟨i, j, rfl, rfl, hz, put ok h den_int⟩
      · cases ho'
    | _ => cases ho
  | _ => cases y <;> cases ho⟩
theorem od_lt : OpD X tb (compareOp .Lt) oLt := ⟨_, op_lt, fun W x y v u d μ' Q ok dx dy ho h => by
  cases x with
  | int i =>
    cases y with
    | int j => cases ho; rw [of_int dx, of_int dy]; exact ⟨i, j, rfl, rfl, put ok h den_bl⟩
    | _ => cases ho
  | _ => cases y <;> cases ho⟩
theorem od_le : OpD X tb (compareOp .LtE) oLe := ⟨_, op_le, fun W x y v u d μ' Q ok dx dy ho h => by
  cases x with
  | int i =>
    cases y with
    | int j => cases ho; rw [of_int dx, of_int dy]; exact ⟨i, j, rfl, rfl, put ok h den_bl⟩
    | _ => cases ho
  | _ => cases y <;> cases ho⟩
theorem od_gt : OpD X tb (compareOp .Gt) oGt := ⟨_, op_gt, fun W x y v u d μ' Q ok dx dy ho h => by
  cases x with
  | int i =>
    cases y with
    | int j => cases ho; rw [of_int dx, of_int dy]; exact ⟨i, j, rfl, rfl, put ok h den_bl⟩
    | _ => cases ho
  | _ => cases y <;> cases ho⟩
theorem od_ge : OpD X tb (compareOp .GtE) oGe := ⟨_, op_ge, fun W x y v u d μ' Q ok dx dy ho h => by
  cases x with
  | int i =>
    cases y with
    | int j => cases ho; rw [of_int dx, of_int dy]; exact ⟨i, j, rfl, rfl, put ok h den_bl⟩
    | _ => cases ho
  | _ => cases y <;> cases ho⟩
end
end L3
set_option Elab.async false
set_option linter.all false
set_option maxRecDepth 100000
namespace L3
open PySem PySem.Spec PyProof.Rows L2 PySem.SeqAt
mutual
def eqD : D → D → Bool
  | .non, .non => true
  | .bl a, .bl b => a == b
  | .bl a, .int b => (if a then 1 else 0) == b
  | .int a, .bl b => a == (if b then 1 else 0)
  | .int a, .int b => a == b
  | .str a, .str b => a == b
  | .tup xs, .tup ys => eqDL xs ys
  | .lst xs, .lst ys => eqDL xs ys
  | _, _ => false
def eqDL : List D → List D → Bool
  | [], [] => true
  | x :: xs, y :: ys => eqD x y && eqDL xs ys
  | _, _ => false
end
mutual
def depD : D → Nat
  | .tup ds => depDL ds + 1
  | .lst ds => depDL ds + 1
  | _ => 0
def depDL : List D → Nat
  | [] => 0
  | d :: ds => max (depD d) (depDL ds)
end
mutual
def pureD : D → Bool
  | .non => true
  | .bl _ => true
  | .int _ => true
  | .str _ => true
  | .tup ds => pureDL ds
  | .lst ds => pureDL ds
  | _ => false
def pureDL : List D → Bool
  | [] => true
  | d :: ds => pureD d && pureDL ds
end
mutual
def DV (K : PySem.W.Frag) (H : Hp) : D → V → Prop
  | .non, v => v = .non
  | .bl b, v => v = .bl b
  | .int i, v => v = .int i
  | .str x, v => v = .str x
  | .tup ds, v => ∃ a xs, v = .ref a ∧ SqT K H a xs ∧ DVL K H ds xs
  | .lst ds, v => ∃ a xs, v = .ref a ∧ SqL K H a xs ∧ DVL K H ds xs
  | .ro _, _ => False
  | .dic _, _ => False
  | .cell _, _ => False
def DVL (K : PySem.W.Frag) (H : Hp) : List D → List V → Prop
  | [], vs => vs = []
  | d :: ds, vs => ∃ u us, vs = u :: us ∧ DV K H d u ∧ DVL K H ds us
end
section
variable {K : PySem.W.Frag} {tb : List Addr} {W : Wd}
mutual
theorem dv_of : ∀ (d : D) (v : V), pureD d = true → DenF K (W.fz tb) W.ad d v → DV K W.H d v
  | .non, v, _, h => by unfold DenF at h; unfold DV; exact h
  | .bl _, v, _, h => by unfold DenF at h; unfold DV; exact h
  | .int _, v, _, h => by unfold DenF at h; unfold DV; exact h
  | .str _, v, _, h => by unfold DenF at h; unfold DV; exact h
  | .tup ds, v, p, h => by
    unfold DenF at h; unfold DV; unfold pureD at p
    obtain ⟨a, xs, e, q, r⟩ := h
    exact ⟨a, xs, e, SqT.fz q, dvl_of ds xs p r⟩
  | .lst ds, v, p, h => by
    unfold DenF at h; unfold DV; unfold pureD at p
    obtain ⟨a, xs, e, q, r⟩ := h
    exact ⟨a, xs, e, SqL.of (fz_some q).1, dvl_of ds xs p r⟩
  | .ro ds, v, p, h => by unfold pureD at p; cases p
  | .dic ds, v, p, h => by unfold pureD at p; cases p
  | .cell ds, v, p, h => by unfold pureD at p; cases p
theorem dvl_of : ∀ (ds : List D) (vs : List V), pureDL ds = true → DenFL K (W.fz tb) W.ad ds vs → DVL K W.H ds vs
  | [], vs, _, h => by unfold DenFL at h; unfold DVL; exact h
  | d :: ds, vs, p, h => by
    unfold DenFL at h; unfold DVL; unfold pureDL at p
    rw [Bool.and_eq_true] at p
    obtain ⟨u, us, e, q, r⟩ := h
    exact ⟨u, us, e, dv_of d u p.1 q, dvl_of ds us p.2 r⟩
end
end
def eqAtN (xs ys : List D) (j : Nat) : Bool := match xs[j]?, ys[j]? with
  | some x, some y => eqD x y
  | _, _ => false
theorem eqDL_range : ∀ (xs ys : List D), xs.length = ys.length → (List.range xs.length).all (eqAtN xs ys) = eqDL xs ys
  | [], [], _ => by unfold eqDL; rfl
  | x :: xs, y :: ys, h => by
    unfold eqDL
    rw [List.length_cons, List.range_succ_eq_map, List.all_cons, List.all_map, ← eqDL_range xs ys (by simpa using h)]
    rfl
theorem eqDL_len : ∀ (xs ys : List D), xs.length ≠ ys.length → eqDL xs ys = false
  | [], [], h => absurd rfl h
  | [], y :: ys, _ => by unfold eqDL; rfl
  | x :: xs, [], _ => by unfold eqDL; rfl
  | x :: xs, y :: ys, h => by
    unfold eqDL
    rw [eqDL_len xs ys (by simpa using h), Bool.and_false]
theorem eqDL_min (xs ys : List D) : ((List.range (min xs.length ys.length)).all (eqAtN xs ys) && xs.length == ys.length) = eqDL xs ys := by
  by_cases h : xs.length = ys.length
  · rw [← h, Nat.min_self, eqDL_range xs ys h]; simp
  · rw [eqDL_len xs ys h, beq_false_of_ne h, Bool.and_false]
section
variable {X : Cx} {pins : List (Addr × Obj)} {σ : L2.St} {H : Hp} {s : Shared}
theorem DVL.length {K : PySem.W.Frag} : ∀ {ds : List D} {vs : List V}, DVL K H ds vs → ds.length = vs.length
  | [], vs, h => by unfold DVL at h; subst h; rfl
  | d :: ds, vs, h => by
    unfold DVL at h
    obtain ⟨u, us, rfl, _, r⟩ := h
    rw [List.length_cons, List.length_cons, DVL.length r]
theorem DVL.get' {K : PySem.W.Frag} : ∀ {ds : List D} {vs : List V} {i : Nat} {v : V}, DVL K H ds vs → vs[i]? = some v → ∃ d, ds[i]? = some d ∧ DV K H d v
  | [], vs, i, v, h, e => by unfold DVL at h; subst h; simp at e
  | d :: ds, vs, 0, x, h, e => by
    unfold DVL at h
    obtain ⟨u, us, rfl, p, r⟩ := h
    simp at e; subst e
    exact ⟨d, rfl, p⟩
  | d :: ds, vs, i + 1, x, h, e => by
    unfold DVL at h
    obtain ⟨u, us, rfl, p, r⟩ := h
    obtain ⟨y, e1, e2⟩ := DVL.get' (i := i) r (by simpa using e)
    exact ⟨y, by simpa using e1, e2⟩
theorem not_both {a : Addr} {xs ys : List V} (I : Inv X pins σ H s) (h : SqL X.K H a xs) (h' : SqT X.K H a ys) : False := by
  obtain ⟨its, _, pl, _⟩ := I.list h
  obtain ⟨its', _, pt, _⟩ := I.tuple h'
  obtain ⟨o, ho, hc, _⟩ := pl.isList
  obtain ⟨o', ho', hc', _⟩ := pt
  rw [ho] at ho'; cases ho'
  rw [hc] at hc'
  exact absurd hc' (by decide)
mutual
theorem eqD_same (I : Inv X pins σ H s) : ∀ (x y : D) (v : V), DV X.K H x v → DV X.K H y v → eqD x y = true
  | .non, .non, v, h, k => by unfold eqD; rfl
  | .non, .bl b, v, h, k => by unfold DV at h k; subst h; cases k
  | .non, .int b, v, h, k => by unfold DV at h k; subst h; cases k
  | .non, .str b, v, h, k => by unfold DV at h k; subst h; cases k
  | .non, .tup ys, v, h, k => by unfold DV at h k; obtain ⟨a, us, rfl, q, r⟩ := k; cases h
  | .non, .lst ys, v, h, k => by unfold DV at h k; obtain ⟨a, us, rfl, q, r⟩ := k; cases h
  | .bl a, .non, v, h, k => by unfold DV at h k; subst h; cases k
  | .bl a, .bl b, v, h, k => by unfold DV at h k; subst h; cases k; unfold eqD; simp
  | .bl a, .int b, v, h, k => by unfold DV at h k; subst h; cases k
  | .bl a, .str b, v, h, k => by unfold DV at h k; subst h; cases k
  | .bl a, .tup ys, v, h, k => by unfold DV at h k; obtain ⟨a, us, rfl, q, r⟩ := k; cases h
  | .bl a, .lst ys, v, h, k => by unfold DV at h k; obtain ⟨a, us, rfl, q, r⟩ := k; cases h
  | .int a, .non, v, h, k => by unfold DV at h k; subst h; cases k
  | .int a, .bl b, v, h, k => by unfold DV at h k; subst h; cases k
  | .int a, .int b, v, h, k => by unfold DV at h k; subst h; cases k; unfold eqD; simp
  | .int a, .str b, v, h, k => by unfold DV at h k; subst h; cases k
  | .int a, .tup ys, v, h, k => by unfold DV at h k; obtain ⟨a, us, rfl, q, r⟩ := k; cases h
  | .int a, .lst ys, v, h, k => by unfold DV at h k; obtain ⟨a, us, rfl, q, r⟩ := k; cases h
  | .str a, .non, v, h, k => by unfold DV at h k; subst h; cases k
  | .str a, .bl b, v, h, k => by unfold DV at h k; subst h; cases k
  | .str a, .int b, v, h, k => by unfold DV at h k; subst h; cases k
  | .str a, .str b, v, h, k => by unfold DV at h k; subst h; cases k; unfold eqD; simp
  | .str a, .tup ys, v, h, k => by unfold DV at h k; obtain ⟨a, us, rfl, q, r⟩ := k; cases h
  | .str a, .lst ys, v, h, k => by unfold DV at h k; obtain ⟨a, us, rfl, q, r⟩ := k; cases h
  | .tup xs, .non, v, h, k => by unfold DV at h k; obtain ⟨a, us, rfl, q, r⟩ := h; cases k
  | .tup xs, .bl b, v, h, k => by unfold DV at h k; obtain ⟨a, us, rfl, q, r⟩ := h; cases k
  | .tup xs, .int b, v, h, k => by unfold DV at h k; obtain ⟨a, us, rfl, q, r⟩ := h; cases k
  | .tup xs, .str b, v, h, k => by unfold DV at h k; obtain ⟨a, us, rfl, q, r⟩ := h; cases k
  | .tup xs, .tup ys, v, h, k => by
    unfold DV at h k
    obtain ⟨a, us, rfl, q, r⟩ := h
    obtain ⟨a', us', e, q', r'⟩ := k
    cases e
    have := I.tuple_inj q q'
    subst this
    unfold eqD
    exact eqDL_same I xs ys us r r'
  | .tup xs, .lst ys, v, h, k => by
    unfold DV at h k
    obtain ⟨a, us, rfl, q, r⟩ := h
    obtain ⟨a', us', e, q', r'⟩ := k
    cases e
    exact (not_both I q' q).elim
  | .lst xs, .non, v, h, k => by unfold DV at h k; obtain ⟨a, us, rfl, q, r⟩ := h; cases k
  | .lst xs, .bl b, v, h, k => by unfold DV at h k; obtain ⟨a, us, rfl, q, r⟩ := h; cases k
  | .lst xs, .int b, v, h, k => by unfold DV at h k; obtain ⟨a, us, rfl, q, r⟩ := h; cases k
  | .lst xs, .str b, v, h, k => by unfold DV at h k; obtain ⟨a, us, rfl, q, r⟩ := h; cases k
  | .lst xs, .tup ys, v, h, k => by
    unfold DV at h k
    obtain ⟨a, us, rfl, q, r⟩ := h
    obtain ⟨a', us', e, q', r'⟩ := k
    cases e
    exact (not_both I q q').elim
  | .lst xs, .lst ys, v, h, k => by
    unfold DV at h k
    obtain ⟨a, us, rfl, q, r⟩ := h
    obtain ⟨a', us', e, q', r'⟩ := k
    cases e
    have := I.list_inj q q'
    subst this
    unfold eqD
    exact eqDL_same I xs ys us r r'
  | .ro _, _, v, h, _ => by unfold DV at h; exact h.elim
  | .dic _, _, v, h, _ => by unfold DV at h; exact h.elim
  | .cell _, _, v, h, _ => by unfold DV at h; exact h.elim
  | .non, .ro _, v, _, k => by unfold DV at k; exact k.elim
  | .non, .dic _, v, _, k => by unfold DV at k; exact k.elim
  | .non, .cell _, v, _, k => by unfold DV at k; exact k.elim
  | .bl _, .ro _, v, _, k => by unfold DV at k; exact k.elim
  | .bl _, .dic _, v, _, k => by unfold DV at k; exact k.elim
  | .bl _, .cell _, v, _, k => by unfold DV at k; exact k.elim
  | .int _, .ro _, v, _, k => by unfold DV at k; exact k.elim
  | .int _, .dic _, v, _, k => by unfold DV at k; exact k.elim
  | .int _, .cell _, v, _, k => by unfold DV at k; exact k.elim
  | .str _, .ro _, v, _, k => by unfold DV at k; exact k.elim
  | .str _, .dic _, v, _, k => by unfold DV at k; exact k.elim
  | .str _, .cell _, v, _, k => by unfold DV at k; exact k.elim
  | .tup _, .ro _, v, _, k => by unfold DV at k; exact k.elim
  | .tup _, .dic _, v, _, k => by unfold DV at k; exact k.elim
  | .tup _, .cell _, v, _, k => by unfold DV at k; exact k.elim
  | .lst _, .ro _, v, _, k => by unfold DV at k; exact k.elim
  | .lst _, .dic _, v, _, k => by unfold DV at k; exact k.elim
  | .lst _, .cell _, v, _, k => by unfold DV at k; exact k.elim
theorem eqDL_same (I : Inv X pins σ H s) : ∀ (xs ys : List D) (vs : List V), DVL X.K H xs vs → DVL X.K H ys vs → eqDL xs ys = true
  | [], [], vs, _, _ => by unfold eqDL; rfl
  | [], y :: ys, vs, h, k => by unfold DVL at h k; subst h; obtain ⟨u, us, e, _⟩ := k; cases e
  | x :: xs, [], vs, h, k => by unfold DVL at h k; subst k; obtain ⟨u, us, e, _⟩ := h; cases e
  | x :: xs, y :: ys, vs, h, k => by
    unfold DVL at h k
    obtain ⟨u, us, rfl, p, r⟩ := h
    obtain ⟨u', us', e, p', r'⟩ := k
    cases e
    unfold eqDL
    rw [eqD_same I x y u p p', eqDL_same I xs ys us r r']; rfl
end
mutual
theorem eqAt_D (I : Inv X pins σ H s) : ∀ (x y : D) (v u : V) (vv uu : Value) (A : Around), DV X.K H x v → DV X.K H y u → RelV v vv → RelV u uu → A.units + depD x < cLine → EqAt A s vv uu (eqD x y)
  | .non, .non, v, u, vv, uu, A, h, k, rv, ru, hu => by unfold DV at h k; subst h; cases rv; subst k; cases ru; unfold eqD; exact EqAt.same _
  | .non, .bl b0, v, u, vv, uu, A, h, k, rv, ru, hu => by unfold DV at h k; subst h; cases rv; subst k; cases ru; unfold eqD; exact EqAt.none_bool _
  | .non, .int b0, v, u, vv, uu, A, h, k, rv, ru, hu => by unfold DV at h k; subst h; cases rv; subst k; obtain ⟨t1, rfl⟩ := ru; unfold eqD; exact EqAt.none_int _ _
  | .non, .str b0, v, u, vv, uu, A, h, k, rv, ru, hu => by unfold DV at h k; subst h; cases rv; subst k; obtain ⟨t1, rfl⟩ := ru; unfold eqD; exact EqAt.none_str _ _
  | .non, .tup ys, v, u, vv, uu, A, h, k, rv, ru, hu => by unfold DV at h k; subst h; cases rv; obtain ⟨b, ws, rfl, p, r2⟩ := k; cases ru; obtain ⟨its1, iv1, pl1, hz1⟩ := I.tuple p; unfold eqD; exact EqAt.none_tuple pl1 (by omega)
  | .non, .lst ys, v, u, vv, uu, A, h, k, rv, ru, hu => by unfold DV at h k; subst h; cases rv; obtain ⟨b, ws, rfl, p, r2⟩ := k; cases ru; obtain ⟨its1, iv1, pl1, hz1⟩ := I.list p; unfold eqD; exact EqAt.none_list pl1.isList (by omega)
  | .bl a0, .non, v, u, vv, uu, A, h, k, rv, ru, hu => by unfold DV at h k; subst h; cases rv; subst k; cases ru; unfold eqD; exact EqAt.bool_none _
  | .bl a0, .bl b0, v, u, vv, uu, A, h, k, rv, ru, hu => by unfold DV at h k; subst h; cases rv; subst k; cases ru; unfold eqD; exact EqAt.bool_bool _ _
  | .bl a0, .int b0, v, u, vv, uu, A, h, k, rv, ru, hu => by unfold DV at h k; subst h; cases rv; subst k; obtain ⟨t1, rfl⟩ := ru; unfold eqD; exact EqAt.bool_int _ _ _
  | .bl a0, .str b0, v, u, vv, uu, A, h, k, rv, ru, hu => by unfold DV at h k; subst h; cases rv; subst k; obtain ⟨t1, rfl⟩ := ru; unfold eqD; exact EqAt.bool_str _ _ _
  | .bl a0, .tup ys, v, u, vv, uu, A, h, k, rv, ru, hu => by unfold DV at h k; subst h; cases rv; obtain ⟨b, ws, rfl, p, r2⟩ := k; cases ru; obtain ⟨its1, iv1, pl1, hz1⟩ := I.tuple p; unfold eqD; exact EqAt.bool_tuple _ pl1 (by omega)
  | .bl a0, .lst ys, v, u, vv, uu, A, h, k, rv, ru, hu => by unfold DV at h k; subst h; cases rv; obtain ⟨b, ws, rfl, p, r2⟩ := k; cases ru; obtain ⟨its1, iv1, pl1, hz1⟩ := I.list p; unfold eqD; exact EqAt.bool_list _ pl1.isList (by omega)
  | .int a0, .non, v, u, vv, uu, A, h, k, rv, ru, hu => by unfold DV at h k; subst h; obtain ⟨t0, rfl⟩ := rv; subst k; cases ru; unfold eqD; exact EqAt.int_none _ _
  | .int a0, .bl b0, v, u, vv, uu, A, h, k, rv, ru, hu => by unfold DV at h k; subst h; obtain ⟨t0, rfl⟩ := rv; subst k; cases ru; unfold eqD; exact EqAt.int_bool _ _ _
  | .int a0, .int b0, v, u, vv, uu, A, h, k, rv, ru, hu => by unfold DV at h k; subst h; obtain ⟨t0, rfl⟩ := rv; subst k; obtain ⟨t1, rfl⟩ := ru; unfold eqD; exact EqAt.int_int _ _ _ _
  | .int a0, .str b0, v, u, vv, uu, A, h, k, rv, ru, hu => by unfold DV at h k; subst h; obtain ⟨t0, rfl⟩ := rv; subst k; obtain ⟨t1, rfl⟩ := ru; unfold eqD; exact EqAt.int_str _ _ _ _
  | .int a0, .tup ys, v, u, vv, uu, A, h, k, rv, ru, hu => by unfold DV at h k; subst h; obtain ⟨t0, rfl⟩ := rv; obtain ⟨b, ws, rfl, p, r2⟩ := k; cases ru; obtain ⟨its1, iv1, pl1, hz1⟩ := I.tuple p; unfold eqD; exact EqAt.int_tuple _ _ pl1 (by omega)
  | .int a0, .lst ys, v, u, vv, uu, A, h, k, rv, ru, hu => by unfold DV at h k; subst h; obtain ⟨t0, rfl⟩ := rv; obtain ⟨b, ws, rfl, p, r2⟩ := k; cases ru; obtain ⟨its1, iv1, pl1, hz1⟩ := I.list p; unfold eqD; exact EqAt.int_list _ _ pl1.isList (by omega)
  | .str a0, .non, v, u, vv, uu, A, h, k, rv, ru, hu => by unfold DV at h k; subst h; obtain ⟨t0, rfl⟩ := rv; subst k; cases ru; unfold eqD; exact EqAt.str_none _ _
  | .str a0, .bl b0, v, u, vv, uu, A, h, k, rv, ru, hu => by unfold DV at h k; subst h; obtain ⟨t0, rfl⟩ := rv; subst k; cases ru; unfold eqD; exact EqAt.str_bool _ _ _
  | .str a0, .int b0, v, u, vv, uu, A, h, k, rv, ru, hu => by unfold DV at h k; subst h; obtain ⟨t0, rfl⟩ := rv; subst k; obtain ⟨t1, rfl⟩ := ru; unfold eqD; exact EqAt.str_int _ _ _ _
  | .str a0, .str b0, v, u, vv, uu, A, h, k, rv, ru, hu => by unfold DV at h k; subst h; obtain ⟨t0, rfl⟩ := rv; subst k; obtain ⟨t1, rfl⟩ := ru; unfold eqD; exact EqAt.str_str _ _ _ _
  | .str a0, .tup ys, v, u, vv, uu, A, h, k, rv, ru, hu => by unfold DV at h k; subst h; obtain ⟨t0, rfl⟩ := rv; obtain ⟨b, ws, rfl, p, r2⟩ := k; cases ru; obtain ⟨its1, iv1, pl1, hz1⟩ := I.tuple p; unfold eqD; exact EqAt.str_tuple _ _ pl1 (by omega)
  | .str a0, .lst ys, v, u, vv, uu, A, h, k, rv, ru, hu => by unfold DV at h k; subst h; obtain ⟨t0, rfl⟩ := rv; obtain ⟨b, ws, rfl, p, r2⟩ := k; cases ru; obtain ⟨its1, iv1, pl1, hz1⟩ := I.list p; unfold eqD; exact EqAt.str_list _ _ pl1.isList (by omega)
  | .tup xs, .non, v, u, vv, uu, A, h, k, rv, ru, hu => by unfold DV at h k; obtain ⟨a, us, rfl, q, r⟩ := h; cases rv; obtain ⟨its0, iv0, pl0, hz0⟩ := I.tuple q; subst k; cases ru; unfold eqD; exact EqAt.tuple_none pl0 (by omega)
  | .tup xs, .bl b0, v, u, vv, uu, A, h, k, rv, ru, hu => by unfold DV at h k; obtain ⟨a, us, rfl, q, r⟩ := h; cases rv; obtain ⟨its0, iv0, pl0, hz0⟩ := I.tuple q; subst k; cases ru; unfold eqD; exact EqAt.tuple_bool _ pl0 (by omega)
  | .tup xs, .int b0, v, u, vv, uu, A, h, k, rv, ru, hu => by unfold DV at h k; obtain ⟨a, us, rfl, q, r⟩ := h; cases rv; obtain ⟨its0, iv0, pl0, hz0⟩ := I.tuple q; subst k; obtain ⟨t1, rfl⟩ := ru; unfold eqD; exact EqAt.tuple_int _ _ pl0 (by omega)
  | .tup xs, .str b0, v, u, vv, uu, A, h, k, rv, ru, hu => by unfold DV at h k; obtain ⟨a, us, rfl, q, r⟩ := h; cases rv; obtain ⟨its0, iv0, pl0, hz0⟩ := I.tuple q; subst k; obtain ⟨t1, rfl⟩ := ru; unfold eqD; exact EqAt.tuple_str _ _ pl0 (by omega)
  | .tup xs, .tup ys, v, u, vv, uu, A, h, k, rv, ru, hu => by
    have h0 := h
    have k0 := k
    unfold DV at h k; unfold depD at hu
    obtain ⟨a, us, rfl, q, r⟩ := h; cases rv; obtain ⟨its0, iv0, pl0, hz0⟩ := I.tuple q; obtain ⟨b, ws, rfl, p, r2⟩ := k; cases ru; obtain ⟨its1, iv1, pl1, hz1⟩ := I.tuple p
    by_cases hab : a = b
    · subst hab
      rw [eqD_same I _ _ _ h0 k0]
      exact EqAt.same _
    · unfold eqD
      refine EqAt.of_refs hab ?_
      have hl0 : its0.toArray.size = xs.length := by rw [List.size_toArray, ← iv0.length, ← DVL.length r]
      have hl1 : its1.toArray.size = ys.length := by rw [List.size_toArray, ← iv1.length, ← DVL.length r2]
      have rc := RcAt.tuples (A := A) (e := eqAtN xs ys) pl0 pl1 (by omega) (fun j h1 h2 => by
          have h1' : j < its0.length := by simpa using h1
          have h2' : j < its1.length := by simpa using h2
          obtain ⟨d, e1, dv⟩ := DVL.get' r (show us[j]? = some (us[j]'(by rw [iv0.length]; exact h1')) by simp)
          obtain ⟨d', e2, dv'⟩ := DVL.get' r2 (show ws[j]? = some (ws[j]'(by rw [iv1.length]; exact h2')) by simp)
          obtain ⟨z, ez, rz⟩ := iv0.get (show us[j]? = some (us[j]'(by rw [iv0.length]; exact h1')) by simp)
          obtain ⟨z', ez', rz'⟩ := iv1.get (show ws[j]? = some (ws[j]'(by rw [iv1.length]; exact h2')) by simp)
          have f1 : its0.toArray[j] = z := by simpa [h1'] using ez
          have f2 : its1.toArray[j] = z' := by simpa [h2'] using ez'
          rw [f1, f2]
          have := eqAtL_D I xs ys us ws its0 its1 A.in1 r r2 iv0 iv1 (by rw [units_in1]; omega) j d d' e1 e2 z z' ez ez'
          unfold eqAtN
          rw [e1, e2]
          exact this)
      rw [hl0, hl1, eqDL_min] at rc
      exact rc
  | .tup xs, .lst ys, v, u, vv, uu, A, h, k, rv, ru, hu => by unfold DV at h k; obtain ⟨a, us, rfl, q, r⟩ := h; cases rv; obtain ⟨its0, iv0, pl0, hz0⟩ := I.tuple q; obtain ⟨b, ws, rfl, p, r2⟩ := k; cases ru; obtain ⟨its1, iv1, pl1, hz1⟩ := I.list p; unfold eqD; exact EqAt.tuple_list pl0 pl1.isList (by omega)
  | .lst xs, .non, v, u, vv, uu, A, h, k, rv, ru, hu => by unfold DV at h k; obtain ⟨a, us, rfl, q, r⟩ := h; cases rv; obtain ⟨its0, iv0, pl0, hz0⟩ := I.list q; subst k; cases ru; unfold eqD; exact EqAt.list_none pl0.isList (by omega)
  | .lst xs, .bl b0, v, u, vv, uu, A, h, k, rv, ru, hu => by unfold DV at h k; obtain ⟨a, us, rfl, q, r⟩ := h; cases rv; obtain ⟨its0, iv0, pl0, hz0⟩ := I.list q; subst k; cases ru; unfold eqD; exact EqAt.list_bool _ pl0.isList (by omega)
  | .lst xs, .int b0, v, u, vv, uu, A, h, k, rv, ru, hu => by unfold DV at h k; obtain ⟨a, us, rfl, q, r⟩ := h; cases rv; obtain ⟨its0, iv0, pl0, hz0⟩ := I.list q; subst k; obtain ⟨t1, rfl⟩ := ru; unfold eqD; exact EqAt.list_int _ _ pl0.isList (by omega)
  | .lst xs, .str b0, v, u, vv, uu, A, h, k, rv, ru, hu => by unfold DV at h k; obtain ⟨a, us, rfl, q, r⟩ := h; cases rv; obtain ⟨its0, iv0, pl0, hz0⟩ := I.list q; subst k; obtain ⟨t1, rfl⟩ := ru; unfold eqD; exact EqAt.list_str _ _ pl0.isList (by omega)
  | .lst xs, .tup ys, v, u, vv, uu, A, h, k, rv, ru, hu => by unfold DV at h k; obtain ⟨a, us, rfl, q, r⟩ := h; cases rv; obtain ⟨its0, iv0, pl0, hz0⟩ := I.list q; obtain ⟨b, ws, rfl, p, r2⟩ := k; cases ru; obtain ⟨its1, iv1, pl1, hz1⟩ := I.tuple p; unfold eqD; exact EqAt.list_tuple pl0.isList pl1 (by omega)
  | .lst xs, .lst ys, v, u, vv, uu, A, h, k, rv, ru, hu => by
    have h0 := h
    have k0 := k
    unfold DV at h k; unfold depD at hu
    obtain ⟨a, us, rfl, q, r⟩ := h; cases rv; obtain ⟨its0, iv0, pl0, hz0⟩ := I.list q; obtain ⟨b, ws, rfl, p, r2⟩ := k; cases ru; obtain ⟨its1, iv1, pl1, hz1⟩ := I.list p
    by_cases hab : a = b
    · subst hab
      rw [eqD_same I _ _ _ h0 k0]
      exact EqAt.same _
    · unfold eqD
      refine EqAt.of_refs hab ?_
      have hl0 : its0.toArray.size = xs.length := by rw [List.size_toArray, ← iv0.length, ← DVL.length r]
      have hl1 : its1.toArray.size = ys.length := by rw [List.size_toArray, ← iv1.length, ← DVL.length r2]
      by_cases hlen : xs.length = ys.length
      · have rc := RcAt.lists (A := A) (e := eqAtN xs ys) pl0.isList pl1.isList (by rw [hl0, hl1, hlen]) (by omega) (fun j h1 h2 => by
          have h1' : j < its0.length := by simpa using h1
          have h2' : j < its1.length := by simpa using h2
          obtain ⟨d, e1, dv⟩ := DVL.get' r (show us[j]? = some (us[j]'(by rw [iv0.length]; exact h1')) by simp)
          obtain ⟨d', e2, dv'⟩ := DVL.get' r2 (show ws[j]? = some (ws[j]'(by rw [iv1.length]; exact h2')) by simp)
          obtain ⟨z, ez, rz⟩ := iv0.get (show us[j]? = some (us[j]'(by rw [iv0.length]; exact h1')) by simp)
          obtain ⟨z', ez', rz'⟩ := iv1.get (show ws[j]? = some (ws[j]'(by rw [iv1.length]; exact h2')) by simp)
          have f1 : its0.toArray[j] = z := by simpa [h1'] using ez
          have f2 : its1.toArray[j] = z' := by simpa [h2'] using ez'
          rw [f1, f2]
          have := eqAtL_D I xs ys us ws its0 its1 A.in1 r r2 iv0 iv1 (by rw [units_in1]; omega) j d d' e1 e2 z z' ez ez'
          unfold eqAtN
          rw [e1, e2]
          exact this)
        rw [hl0, eqDL_range _ _ hlen] at rc
        exact rc
      · rw [eqDL_len _ _ hlen]
        exact RcAt.lists_lengths pl0.isList pl1.isList (by rw [hl0, hl1]; simpa using hlen) (by omega)
  | .ro _, _, v, u, vv, uu, A, h, _, _, _, _ => by unfold DV at h; exact h.elim
  | .dic _, _, v, u, vv, uu, A, h, _, _, _, _ => by unfold DV at h; exact h.elim
  | .cell _, _, v, u, vv, uu, A, h, _, _, _, _ => by unfold DV at h; exact h.elim
  | .non, .ro _, v, u, vv, uu, A, _, k, _, _, _ => by unfold DV at k; exact k.elim
  | .non, .dic _, v, u, vv, uu, A, _, k, _, _, _ => by unfold DV at k; exact k.elim
  | .non, .cell _, v, u, vv, uu, A, _, k, _, _, _ => by unfold DV at k; exact k.elim
  | .bl _, .ro _, v, u, vv, uu, A, _, k, _, _, _ => by unfold DV at k; exact k.elim
  | .bl _, .dic _, v, u, vv, uu, A, _, k, _, _, _ => by unfold DV at k; exact k.elim
  | .bl _, .cell _, v, u, vv, uu, A, _, k, _, _, _ => by unfold DV at k; exact k.elim
  | .int _, .ro _, v, u, vv, uu, A, _, k, _, _, _ => by unfold DV at k; exact k.elim
  | .int _, .dic _, v, u, vv, uu, A, _, k, _, _, _ => by unfold DV at k; exact k.elim
  | .int _, .cell _, v, u, vv, uu, A, _, k, _, _, _ => by unfold DV at k; exact k.elim
  | .str _, .ro _, v, u, vv, uu, A, _, k, _, _, _ => by unfold DV at k; exact k.elim
  | .str _, .dic _, v, u, vv, uu, A, _, k, _, _, _ => by unfold DV at k; exact k.elim
  | .str _, .cell _, v, u, vv, uu, A, _, k, _, _, _ => by unfold DV at k; exact k.elim
  | .tup _, .ro _, v, u, vv, uu, A, _, k, _, _, _ => by unfold DV at k; exact k.elim
  | .tup _, .dic _, v, u, vv, uu, A, _, k, _, _, _ => by unfold DV at k; exact k.elim
  | .tup _, .cell _, v, u, vv, uu, A, _, k, _, _, _ => by unfold DV at k; exact k.elim
  | .lst _, .ro _, v, u, vv, uu, A, _, k, _, _, _ => by unfold DV at k; exact k.elim
  | .lst _, .dic _, v, u, vv, uu, A, _, k, _, _, _ => by unfold DV at k; exact k.elim
  | .lst _, .cell _, v, u, vv, uu, A, _, k, _, _, _ => by unfold DV at k; exact k.elim
theorem eqAtL_D (I : Inv X pins σ H s) : ∀ (xs ys : List D) (vs us : List V) (vvs uus : List Value) (A : Around), DVL X.K H xs vs → DVL X.K H ys us → Vals vs vvs → Vals us uus → A.units + depDL xs < cLine →
    ∀ (j : Nat) (x y : D), xs[j]? = some x → ys[j]? = some y → ∀ (z z' : Value), vvs[j]? = some z → uus[j]? = some z' → EqAt A s z z' (eqD x y)
  | [], ys, vs, us, vvs, uus, A, _, _, _, _, _ => fun j x y e => by simp at e
  | x :: xs, [], vs, us, vvs, uus, A, _, _, _, _, _ => fun j _ y _ e => by simp at e
  | x :: xs, y :: ys, vs, us, vvs, uus, A, h, k, rv, ru, hu => by
    unfold DVL at h k
    unfold depDL at hu
    obtain ⟨v, vs', rfl, p, r⟩ := h
    obtain ⟨u, us', rfl, p', r'⟩ := k
    cases rv with
    | cons rv1 rv2 =>
      cases ru with
      | cons ru1 ru2 =>
        intro j x' y' e1 e2 z z' ez ez'
        cases j with
        | zero =>
          simp at e1 e2 ez ez'
          subst e1 e2 ez ez'
          exact eqAt_D I x y v u _ _ A p p' rv1 ru1 (by omega)
        | succ j =>
          exact eqAtL_D I xs ys vs' us' _ _ A r r' rv2 ru2 (by omega) j x' y' (by simpa using e1) (by simpa using e2) z z' (by simpa using ez) (by simpa using ez')
end
theorem rcAt_D (I : Inv X pins σ H s) : ∀ (x y : D) (v u : V) (vv uu : Value) (A : Around), DV X.K H x v → DV X.K H y u → RelV v vv → RelV u uu → A.units + depD x < cLine → RcAt A s vv uu (eqD x y)
  | .non, .non, v, u, vv, uu, A, h, k, rv, ru, hu => by unfold DV at h k; subst h; cases rv; subst k; cases ru; unfold eqD; exact RcAt.none_none
  | .non, .bl b0, v, u, vv, uu, A, h, k, rv, ru, hu => by unfold DV at h k; subst h; cases rv; subst k; cases ru; unfold eqD; exact RcAt.none_bool _
  | .non, .int b0, v, u, vv, uu, A, h, k, rv, ru, hu => by unfold DV at h k; subst h; cases rv; subst k; obtain ⟨t1, rfl⟩ := ru; unfold eqD; exact RcAt.none_int _ _
  | .non, .str b0, v, u, vv, uu, A, h, k, rv, ru, hu => by unfold DV at h k; subst h; cases rv; subst k; obtain ⟨t1, rfl⟩ := ru; unfold eqD; exact RcAt.none_str _ _
  | .non, .tup ys, v, u, vv, uu, A, h, k, rv, ru, hu => by unfold DV at h k; subst h; cases rv; obtain ⟨b, ws, rfl, p, r2⟩ := k; cases ru; obtain ⟨its1, iv1, pl1, hz1⟩ := I.tuple p; unfold eqD; exact RcAt.none_tuple pl1 (by omega)
  | .non, .lst ys, v, u, vv, uu, A, h, k, rv, ru, hu => by unfold DV at h k; subst h; cases rv; obtain ⟨b, ws, rfl, p, r2⟩ := k; cases ru; obtain ⟨its1, iv1, pl1, hz1⟩ := I.list p; unfold eqD; exact RcAt.none_list pl1.isList (by omega)
  | .bl a0, .non, v, u, vv, uu, A, h, k, rv, ru, hu => by unfold DV at h k; subst h; cases rv; subst k; cases ru; unfold eqD; exact RcAt.bool_none _
  | .bl a0, .bl b0, v, u, vv, uu, A, h, k, rv, ru, hu => by unfold DV at h k; subst h; cases rv; subst k; cases ru; unfold eqD; exact RcAt.bool_bool _ _
  | .bl a0, .int b0, v, u, vv, uu, A, h, k, rv, ru, hu => by unfold DV at h k; subst h; cases rv; subst k; obtain ⟨t1, rfl⟩ := ru; unfold eqD; exact RcAt.bool_int _ _ _
  | .bl a0, .str b0, v, u, vv, uu, A, h, k, rv, ru, hu => by unfold DV at h k; subst h; cases rv; subst k; obtain ⟨t1, rfl⟩ := ru; unfold eqD; exact RcAt.bool_str _ _ _
  | .bl a0, .tup ys, v, u, vv, uu, A, h, k, rv, ru, hu => by unfold DV at h k; subst h; cases rv; obtain ⟨b, ws, rfl, p, r2⟩ := k; cases ru; obtain ⟨its1, iv1, pl1, hz1⟩ := I.tuple p; unfold eqD; exact RcAt.bool_tuple _ pl1 (by omega)
  | .bl a0, .lst ys, v, u, vv, uu, A, h, k, rv, ru, hu => by unfold DV at h k; subst h; cases rv; obtain ⟨b, ws, rfl, p, r2⟩ := k; cases ru; obtain ⟨its1, iv1, pl1, hz1⟩ := I.list p; unfold eqD; exact RcAt.bool_list _ pl1.isList (by omega)
  | .int a0, .non, v, u, vv, uu, A, h, k, rv, ru, hu => by unfold DV at h k; subst h; obtain ⟨t0, rfl⟩ := rv; subst k; cases ru; unfold eqD; exact RcAt.int_none _ _
  | .int a0, .bl b0, v, u, vv, uu, A, h, k, rv, ru, hu => by unfold DV at h k; subst h; obtain ⟨t0, rfl⟩ := rv; subst k; cases ru; unfold eqD; exact RcAt.int_bool _ _ _
  | .int a0, .int b0, v, u, vv, uu, A, h, k, rv, ru, hu => by unfold DV at h k; subst h; obtain ⟨t0, rfl⟩ := rv; subst k; obtain ⟨t1, rfl⟩ := ru; unfold eqD; exact RcAt.int_int _ _ _ _
  | .int a0, .str b0, v, u, vv, uu, A, h, k, rv, ru, hu => by unfold DV at h k; subst h; obtain ⟨t0, rfl⟩ := rv; subst k; obtain ⟨t1, rfl⟩ := ru; unfold eqD; exact RcAt.int_str _ _ _ _
  | .int a0, .tup ys, v, u, vv, uu, A, h, k, rv, ru, hu => by unfold DV at h k; subst h; obtain ⟨t0, rfl⟩ := rv; obtain ⟨b, ws, rfl, p, r2⟩ := k; cases ru; obtain ⟨its1, iv1, pl1, hz1⟩ := I.tuple p; unfold eqD; exact RcAt.int_tuple _ _ pl1 (by omega)
  | .int a0, .lst ys, v, u, vv, uu, A, h, k, rv, ru, hu => by unfold DV at h k; subst h; obtain ⟨t0, rfl⟩ := rv; obtain ⟨b, ws, rfl, p, r2⟩ := k; cases ru; obtain ⟨its1, iv1, pl1, hz1⟩ := I.list p; unfold eqD; exact RcAt.int_list _ _ pl1.isList (by omega)
  | .str a0, .non, v, u, vv, uu, A, h, k, rv, ru, hu => by unfold DV at h k; subst h; obtain ⟨t0, rfl⟩ := rv; subst k; cases ru; unfold eqD; exact RcAt.str_none _ _
  | .str a0, .bl b0, v, u, vv, uu, A, h, k, rv, ru, hu => by unfold DV at h k; subst h; obtain ⟨t0, rfl⟩ := rv; subst k; cases ru; unfold eqD; exact RcAt.str_bool _ _ _
  | .str a0, .int b0, v, u, vv, uu, A, h, k, rv, ru, hu => by unfold DV at h k; subst h; obtain ⟨t0, rfl⟩ := rv; subst k; obtain ⟨t1, rfl⟩ := ru; unfold eqD; exact RcAt.str_int _ _ _ _
  | .str a0, .str b0, v, u, vv, uu, A, h, k, rv, ru, hu => by unfold DV at h k; subst h; obtain ⟨t0, rfl⟩ := rv; subst k; obtain ⟨t1, rfl⟩ := ru; unfold eqD; exact RcAt.str_str _ _ _ _
  | .str a0, .tup ys, v, u, vv, uu, A, h, k, rv, ru, hu => by unfold DV at h k; subst h; obtain ⟨t0, rfl⟩ := rv; obtain ⟨b, ws, rfl, p, r2⟩ := k; cases ru; obtain ⟨its1, iv1, pl1, hz1⟩ := I.tuple p; unfold eqD; exact RcAt.str_tuple _ _ pl1 (by omega)
  | .str a0, .lst ys, v, u, vv, uu, A, h, k, rv, ru, hu => by unfold DV at h k; subst h; obtain ⟨t0, rfl⟩ := rv; obtain ⟨b, ws, rfl, p, r2⟩ := k; cases ru; obtain ⟨its1, iv1, pl1, hz1⟩ := I.list p; unfold eqD; exact RcAt.str_list _ _ pl1.isList (by omega)
  | .tup xs, .non, v, u, vv, uu, A, h, k, rv, ru, hu => by unfold DV at h k; obtain ⟨a, us, rfl, q, r⟩ := h; cases rv; obtain ⟨its0, iv0, pl0, hz0⟩ := I.tuple q; subst k; cases ru; unfold eqD; exact RcAt.tuple_none pl0 (by omega)
  | .tup xs, .bl b0, v, u, vv, uu, A, h, k, rv, ru, hu => by unfold DV at h k; obtain ⟨a, us, rfl, q, r⟩ := h; cases rv; obtain ⟨its0, iv0, pl0, hz0⟩ := I.tuple q; subst k; cases ru; unfold eqD; exact RcAt.tuple_bool _ pl0 (by omega)
  | .tup xs, .int b0, v, u, vv, uu, A, h, k, rv, ru, hu => by unfold DV at h k; obtain ⟨a, us, rfl, q, r⟩ := h; cases rv; obtain ⟨its0, iv0, pl0, hz0⟩ := I.tuple q; subst k; obtain ⟨t1, rfl⟩ := ru; unfold eqD; exact RcAt.tuple_int _ _ pl0 (by omega)
  | .tup xs, .str b0, v, u, vv, uu, A, h, k, rv, ru, hu => by unfold DV at h k; obtain ⟨a, us, rfl, q, r⟩ := h; cases rv; obtain ⟨its0, iv0, pl0, hz0⟩ := I.tuple q; subst k; obtain ⟨t1, rfl⟩ := ru; unfold eqD; exact RcAt.tuple_str _ _ pl0 (by omega)
  | .tup xs, .tup ys, v, u, vv, uu, A, h, k, rv, ru, hu => by
    unfold DV at h k; unfold depD at hu
    obtain ⟨a, us, rfl, q, r⟩ := h; cases rv; obtain ⟨its0, iv0, pl0, hz0⟩ := I.tuple q; obtain ⟨b, ws, rfl, p, r2⟩ := k; cases ru; obtain ⟨its1, iv1, pl1, hz1⟩ := I.tuple p
    unfold eqD
    have hl0 : its0.toArray.size = xs.length := by rw [List.size_toArray, ← iv0.length, ← DVL.length r]
    have hl1 : its1.toArray.size = ys.length := by rw [List.size_toArray, ← iv1.length, ← DVL.length r2]
    have rc := RcAt.tuples (A := A) (e := eqAtN xs ys) pl0 pl1 (by omega) (fun j h1 h2 => by
          have h1' : j < its0.length := by simpa using h1
          have h2' : j < its1.length := by simpa using h2
          obtain ⟨d, e1, dv⟩ := DVL.get' r (show us[j]? = some (us[j]'(by rw [iv0.length]; exact h1')) by simp)
          obtain ⟨d', e2, dv'⟩ := DVL.get' r2 (show ws[j]? = some (ws[j]'(by rw [iv1.length]; exact h2')) by simp)
          obtain ⟨z, ez, rz⟩ := iv0.get (show us[j]? = some (us[j]'(by rw [iv0.length]; exact h1')) by simp)
          obtain ⟨z', ez', rz'⟩ := iv1.get (show ws[j]? = some (ws[j]'(by rw [iv1.length]; exact h2')) by simp)
          have f1 : its0.toArray[j] = z := by simpa [h1'] using ez
          have f2 : its1.toArray[j] = z' := by simpa [h2'] using ez'
          rw [f1, f2]
          have := eqAtL_D I xs ys us ws its0 its1 A.in1 r r2 iv0 iv1 (by rw [units_in1]; omega) j d d' e1 e2 z z' ez ez'
          unfold eqAtN
          rw [e1, e2]
          exact this)
    rw [hl0, hl1, eqDL_min] at rc
    exact rc
  | .tup xs, .lst ys, v, u, vv, uu, A, h, k, rv, ru, hu => by unfold DV at h k; obtain ⟨a, us, rfl, q, r⟩ := h; cases rv; obtain ⟨its0, iv0, pl0, hz0⟩ := I.tuple q; obtain ⟨b, ws, rfl, p, r2⟩ := k; cases ru; obtain ⟨its1, iv1, pl1, hz1⟩ := I.list p; unfold eqD; exact RcAt.tuple_list pl0 pl1.isList (by omega)
  | .lst xs, .non, v, u, vv, uu, A, h, k, rv, ru, hu => by unfold DV at h k; obtain ⟨a, us, rfl, q, r⟩ := h; cases rv; obtain ⟨its0, iv0, pl0, hz0⟩ := I.list q; subst k; cases ru; unfold eqD; exact RcAt.list_none pl0.isList (by omega)
  | .lst xs, .bl b0, v, u, vv, uu, A, h, k, rv, ru, hu => by unfold DV at h k; obtain ⟨a, us, rfl, q, r⟩ := h; cases rv; obtain ⟨its0, iv0, pl0, hz0⟩ := I.list q; subst k; cases ru; unfold eqD; exact RcAt.list_bool _ pl0.isList (by omega)
  | .lst xs, .int b0, v, u, vv, uu, A, h, k, rv, ru, hu => by unfold DV at h k; obtain ⟨a, us, rfl, q, r⟩ := h; cases rv; obtain ⟨its0, iv0, pl0, hz0⟩ := I.list q; subst k; obtain ⟨t1, rfl⟩ := ru; unfold eqD; exact RcAt.list_int _ _ pl0.isList (by omega)
  | .lst xs, .str b0, v, u, vv, uu, A, h, k, rv, ru, hu => by unfold DV at h k; obtain ⟨a, us, rfl, q, r⟩ := h; cases rv; obtain ⟨its0, iv0, pl0, hz0⟩ := I.list q; subst k; obtain ⟨t1, rfl⟩ := ru; unfold eqD; exact RcAt.list_str _ _ pl0.isList (by omega)
  | .lst xs, .tup ys, v, u, vv, uu, A, h, k, rv, ru, hu => by unfold DV at h k; obtain ⟨a, us, rfl, q, r⟩ := h; cases rv; obtain ⟨its0, iv0, pl0, hz0⟩ := I.list q; obtain ⟨b, ws, rfl, p, r2⟩ := k; cases ru; obtain ⟨its1, iv1, pl1, hz1⟩ := I.tuple p; unfold eqD; exact RcAt.list_tuple pl0.isList pl1 (by omega)
  | .lst xs, .lst ys, v, u, vv, uu, A, h, k, rv, ru, hu => by
    unfold DV at h k; unfold depD at hu
    obtain ⟨a, us, rfl, q, r⟩ := h; cases rv; obtain ⟨its0, iv0, pl0, hz0⟩ := I.list q; obtain ⟨b, ws, rfl, p, r2⟩ := k; cases ru; obtain ⟨its1, iv1, pl1, hz1⟩ := I.list p
    unfold eqD
    have hl0 : its0.toArray.size = xs.length := by rw [List.size_toArray, ← iv0.length, ← DVL.length r]
    have hl1 : its1.toArray.size = ys.length := by rw [List.size_toArray, ← iv1.length, ← DVL.length r2]
    by_cases hlen : xs.length = ys.length
    · have rc := RcAt.lists (A := A) (e := eqAtN xs ys) pl0.isList pl1.isList (by rw [hl0, hl1, hlen]) (by omega) (fun j h1 h2 => by
          have h1' : j < its0.length := by simpa using h1
          have h2' : j < its1.length := by simpa using h2
          obtain ⟨d, e1, dv⟩ := DVL.get' r (show us[j]? = some (us[j]'(by rw [iv0.length]; exact h1')) by simp)
          obtain ⟨d', e2, dv'⟩ := DVL.get' r2 (show ws[j]? = some (ws[j]'(by rw [iv1.length]; exact h2')) by simp)
          obtain ⟨z, ez, rz⟩ := iv0.get (show us[j]? = some (us[j]'(by rw [iv0.length]; exact h1')) by simp)
          obtain ⟨z', ez', rz'⟩ := iv1.get (show ws[j]? = some (ws[j]'(by rw [iv1.length]; exact h2')) by simp)
          have f1 : its0.toArray[j] = z := by simpa [h1'] using ez
          have f2 : its1.toArray[j] = z' := by simpa [h2'] using ez'
          rw [f1, f2]
          have := eqAtL_D I xs ys us ws its0 its1 A.in1 r r2 iv0 iv1 (by rw [units_in1]; omega) j d d' e1 e2 z z' ez ez'
          unfold eqAtN
          rw [e1, e2]
          exact this)
      rw [hl0, eqDL_range _ _ hlen] at rc
      exact rc
    · rw [eqDL_len _ _ hlen]
      exact RcAt.lists_lengths pl0.isList pl1.isList (by rw [hl0, hl1]; simpa using hlen) (by omega)
  | .ro _, _, v, u, vv, uu, A, h, _, _, _, _ => by unfold DV at h; exact h.elim
  | .dic _, _, v, u, vv, uu, A, h, _, _, _, _ => by unfold DV at h; exact h.elim
  | .cell _, _, v, u, vv, uu, A, h, _, _, _, _ => by unfold DV at h; exact h.elim
  | .non, .ro _, v, u, vv, uu, A, _, k, _, _, _ => by unfold DV at k; exact k.elim
  | .non, .dic _, v, u, vv, uu, A, _, k, _, _, _ => by unfold DV at k; exact k.elim
  | .non, .cell _, v, u, vv, uu, A, _, k, _, _, _ => by unfold DV at k; exact k.elim
  | .bl _, .ro _, v, u, vv, uu, A, _, k, _, _, _ => by unfold DV at k; exact k.elim
  | .bl _, .dic _, v, u, vv, uu, A, _, k, _, _, _ => by unfold DV at k; exact k.elim
  | .bl _, .cell _, v, u, vv, uu, A, _, k, _, _, _ => by unfold DV at k; exact k.elim
  | .int _, .ro _, v, u, vv, uu, A, _, k, _, _, _ => by unfold DV at k; exact k.elim
  | .int _, .dic _, v, u, vv, uu, A, _, k, _, _, _ => by unfold DV at k; exact k.elim
  | .int _, .cell _, v, u, vv, uu, A, _, k, _, _, _ => by unfold DV at k; exact k.elim
  | .str _, .ro _, v, u, vv, uu, A, _, k, _, _, _ => by unfold DV at k; exact k.elim
  | .str _, .dic _, v, u, vv, uu, A, _, k, _, _, _ => by unfold DV at k; exact k.elim
  | .str _, .cell _, v, u, vv, uu, A, _, k, _, _, _ => by unfold DV at k; exact k.elim
  | .tup _, .ro _, v, u, vv, uu, A, _, k, _, _, _ => by unfold DV at k; exact k.elim
  | .tup _, .dic _, v, u, vv, uu, A, _, k, _, _, _ => by unfold DV at k; exact k.elim
  | .tup _, .cell _, v, u, vv, uu, A, _, k, _, _, _ => by unfold DV at k; exact k.elim
  | .lst _, .ro _, v, u, vv, uu, A, _, k, _, _, _ => by unfold DV at k; exact k.elim
  | .lst _, .dic _, v, u, vv, uu, A, _, k, _, _, _ => by unfold DV at k; exact k.elim
  | .lst _, .cell _, v, u, vv, uu, A, _, k, _, _, _ => by unfold DV at k; exact k.elim
theorem rcNe_D (I : Inv X pins σ H s) : ∀ (x y : D) (v u : V) (vv uu : Value) (A : Around), DV X.K H x v → DV X.K H y u → RelV v vv → RelV u uu → A.units + depD x < cLine → RcNeAt A s vv uu (!eqD x y)
  | .non, .non, v, u, vv, uu, A, h, k, rv, ru, hu => by unfold DV at h k; subst h; cases rv; subst k; cases ru; unfold eqD; exact RcNeAt.none_none
  | .non, .bl b0, v, u, vv, uu, A, h, k, rv, ru, hu => by unfold DV at h k; subst h; cases rv; subst k; cases ru; unfold eqD; exact RcNeAt.none_bool _
  | .non, .int b0, v, u, vv, uu, A, h, k, rv, ru, hu => by unfold DV at h k; subst h; cases rv; subst k; obtain ⟨t1, rfl⟩ := ru; unfold eqD; exact RcNeAt.none_int _ _
  | .non, .str b0, v, u, vv, uu, A, h, k, rv, ru, hu => by unfold DV at h k; subst h; cases rv; subst k; obtain ⟨t1, rfl⟩ := ru; unfold eqD; exact RcNeAt.none_str _ _
  | .non, .tup ys, v, u, vv, uu, A, h, k, rv, ru, hu => by unfold DV at h k; subst h; cases rv; obtain ⟨b, ws, rfl, p, r2⟩ := k; cases ru; obtain ⟨its1, iv1, pl1, hz1⟩ := I.tuple p; unfold eqD; exact RcNeAt.none_tuple pl1 (by omega)
  | .non, .lst ys, v, u, vv, uu, A, h, k, rv, ru, hu => by unfold DV at h k; subst h; cases rv; obtain ⟨b, ws, rfl, p, r2⟩ := k; cases ru; obtain ⟨its1, iv1, pl1, hz1⟩ := I.list p; unfold eqD; exact RcNeAt.none_list pl1.isList (by omega)
  | .bl a0, .non, v, u, vv, uu, A, h, k, rv, ru, hu => by unfold DV at h k; subst h; cases rv; subst k; cases ru; unfold eqD; exact RcNeAt.bool_none _
  | .bl a0, .bl b0, v, u, vv, uu, A, h, k, rv, ru, hu => by unfold DV at h k; subst h; cases rv; subst k; cases ru; unfold eqD; exact RcNeAt.bool_bool _ _
  | .bl a0, .int b0, v, u, vv, uu, A, h, k, rv, ru, hu => by unfold DV at h k; subst h; cases rv; subst k; obtain ⟨t1, rfl⟩ := ru; unfold eqD; exact RcNeAt.bool_int _ _ _
  | .bl a0, .str b0, v, u, vv, uu, A, h, k, rv, ru, hu => by unfold DV at h k; subst h; cases rv; subst k; obtain ⟨t1, rfl⟩ := ru; unfold eqD; exact RcNeAt.bool_str _ _ _
  | .bl a0, .tup ys, v, u, vv, uu, A, h, k, rv, ru, hu => by unfold DV at h k; subst h; cases rv; obtain ⟨b, ws, rfl, p, r2⟩ := k; cases ru; obtain ⟨its1, iv1, pl1, hz1⟩ := I.tuple p; unfold eqD; exact RcNeAt.bool_tuple _ pl1 (by omega)
  | .bl a0, .lst ys, v, u, vv, uu, A, h, k, rv, ru, hu => by unfold DV at h k; subst h; cases rv; obtain ⟨b, ws, rfl, p, r2⟩ := k; cases ru; obtain ⟨its1, iv1, pl1, hz1⟩ := I.list p; unfold eqD; exact RcNeAt.bool_list _ pl1.isList (by omega)
  | .int a0, .non, v, u, vv, uu, A, h, k, rv, ru, hu => by unfold DV at h k; subst h; obtain ⟨t0, rfl⟩ := rv; subst k; cases ru; unfold eqD; exact RcNeAt.int_none _ _
  | .int a0, .bl b0, v, u, vv, uu, A, h, k, rv, ru, hu => by unfold DV at h k; subst h; obtain ⟨t0, rfl⟩ := rv; subst k; cases ru; unfold eqD; exact RcNeAt.int_bool _ _ _
  | .int a0, .int b0, v, u, vv, uu, A, h, k, rv, ru, hu => by unfold DV at h k; subst h; obtain ⟨t0, rfl⟩ := rv; subst k; obtain ⟨t1, rfl⟩ := ru; unfold eqD; exact RcNeAt.int_int _ _ _ _
  | .int a0, .str b0, v, u, vv, uu, A, h, k, rv, ru, hu => by unfold DV at h k; subst h; obtain ⟨t0, rfl⟩ := rv; subst k; obtain ⟨t1, rfl⟩ := ru; unfold eqD; exact RcNeAt.int_str _ _ _ _
  | .int a0, .tup ys, v, u, vv, uu, A, h, k, rv, ru, hu => by unfold DV at h k; subst h; obtain ⟨t0, rfl⟩ := rv; obtain ⟨b, ws, rfl, p, r2⟩ := k; cases ru; obtain ⟨its1, iv1, pl1, hz1⟩ := I.tuple p; unfold eqD; exact RcNeAt.int_tuple _ _ pl1 (by omega)
  | .int a0, .lst ys, v, u, vv, uu, A, h, k, rv, ru, hu => by unfold DV at h k; subst h; obtain ⟨t0, rfl⟩ := rv; obtain ⟨b, ws, rfl, p, r2⟩ := k; cases ru; obtain ⟨its1, iv1, pl1, hz1⟩ := I.list p; unfold eqD; exact RcNeAt.int_list _ _ pl1.isList (by omega)
  | .str a0, .non, v, u, vv, uu, A, h, k, rv, ru, hu => by unfold DV at h k; subst h; obtain ⟨t0, rfl⟩ := rv; subst k; cases ru; unfold eqD; exact RcNeAt.str_none _ _
  | .str a0, .bl b0, v, u, vv, uu, A, h, k, rv, ru, hu => by unfold DV at h k; subst h; obtain ⟨t0, rfl⟩ := rv; subst k; cases ru; unfold eqD; exact RcNeAt.str_bool _ _ _
  | .str a0, .int b0, v, u, vv, uu, A, h, k, rv, ru, hu => by unfold DV at h k; subst h; obtain ⟨t0, rfl⟩ := rv; subst k; obtain ⟨t1, rfl⟩ := ru; unfold eqD; exact RcNeAt.str_int _ _ _ _
  | .str a0, .str b0, v, u, vv, uu, A, h, k, rv, ru, hu => by unfold DV at h k; subst h; obtain ⟨t0, rfl⟩ := rv; subst k; obtain ⟨t1, rfl⟩ := ru; unfold eqD; exact RcNeAt.str_str _ _ _ _
  | .str a0, .tup ys, v, u, vv, uu, A, h, k, rv, ru, hu => by unfold DV at h k; subst h; obtain ⟨t0, rfl⟩ := rv; obtain ⟨b, ws, rfl, p, r2⟩ := k; cases ru; obtain ⟨its1, iv1, pl1, hz1⟩ := I.tuple p; unfold eqD; exact RcNeAt.str_tuple _ _ pl1 (by omega)
  | .str a0, .lst ys, v, u, vv, uu, A, h, k, rv, ru, hu => by unfold DV at h k; subst h; obtain ⟨t0, rfl⟩ := rv; obtain ⟨b, ws, rfl, p, r2⟩ := k; cases ru; obtain ⟨its1, iv1, pl1, hz1⟩ := I.list p; unfold eqD; exact RcNeAt.str_list _ _ pl1.isList (by omega)
  | .tup xs, .non, v, u, vv, uu, A, h, k, rv, ru, hu => by unfold DV at h k; obtain ⟨a, us, rfl, q, r⟩ := h; cases rv; obtain ⟨its0, iv0, pl0, hz0⟩ := I.tuple q; subst k; cases ru; unfold eqD; exact RcNeAt.tuple_none pl0 (by omega)
  | .tup xs, .bl b0, v, u, vv, uu, A, h, k, rv, ru, hu => by unfold DV at h k; obtain ⟨a, us, rfl, q, r⟩ := h; cases rv; obtain ⟨its0, iv0, pl0, hz0⟩ := I.tuple q; subst k; cases ru; unfold eqD; exact RcNeAt.tuple_bool _ pl0 (by omega)
  | .tup xs, .int b0, v, u, vv, uu, A, h, k, rv, ru, hu => by unfold DV at h k; obtain ⟨a, us, rfl, q, r⟩ := h; cases rv; obtain ⟨its0, iv0, pl0, hz0⟩ := I.tuple q; subst k; obtain ⟨t1, rfl⟩ := ru; unfold eqD; exact RcNeAt.tuple_int _ _ pl0 (by omega)
  | .tup xs, .str b0, v, u, vv, uu, A, h, k, rv, ru, hu => by unfold DV at h k; obtain ⟨a, us, rfl, q, r⟩ := h; cases rv; obtain ⟨its0, iv0, pl0, hz0⟩ := I.tuple q; subst k; obtain ⟨t1, rfl⟩ := ru; unfold eqD; exact RcNeAt.tuple_str _ _ pl0 (by omega)
  | .tup xs, .tup ys, v, u, vv, uu, A, h, k, rv, ru, hu => by
    unfold DV at h k; unfold depD at hu
    obtain ⟨a, us, rfl, q, r⟩ := h; cases rv; obtain ⟨its0, iv0, pl0, hz0⟩ := I.tuple q; obtain ⟨b, ws, rfl, p, r2⟩ := k; cases ru; obtain ⟨its1, iv1, pl1, hz1⟩ := I.tuple p
    unfold eqD
    have hl0 : its0.toArray.size = xs.length := by rw [List.size_toArray, ← iv0.length, ← DVL.length r]
    have hl1 : its1.toArray.size = ys.length := by rw [List.size_toArray, ← iv1.length, ← DVL.length r2]
    have rc := RcNeAt.tuples (A := A) (e := eqAtN xs ys) pl0 pl1 (by omega) (fun j h1 h2 => by
          have h1' : j < its0.length := by simpa using h1
          have h2' : j < its1.length := by simpa using h2
          obtain ⟨d, e1, dv⟩ := DVL.get' r (show us[j]? = some (us[j]'(by rw [iv0.length]; exact h1')) by simp)
          obtain ⟨d', e2, dv'⟩ := DVL.get' r2 (show ws[j]? = some (ws[j]'(by rw [iv1.length]; exact h2')) by simp)
          obtain ⟨z, ez, rz⟩ := iv0.get (show us[j]? = some (us[j]'(by rw [iv0.length]; exact h1')) by simp)
          obtain ⟨z', ez', rz'⟩ := iv1.get (show ws[j]? = some (ws[j]'(by rw [iv1.length]; exact h2')) by simp)
          have f1 : its0.toArray[j] = z := by simpa [h1'] using ez
          have f2 : its1.toArray[j] = z' := by simpa [h2'] using ez'
          rw [f1, f2]
          have := eqAtL_D I xs ys us ws its0 its1 A.in1 r r2 iv0 iv1 (by rw [units_in1]; omega) j d d' e1 e2 z z' ez ez'
          unfold eqAtN
          rw [e1, e2]
          exact this)
    rw [hl0, hl1, eqDL_min] at rc
    exact rc
  | .tup xs, .lst ys, v, u, vv, uu, A, h, k, rv, ru, hu => by unfold DV at h k; obtain ⟨a, us, rfl, q, r⟩ := h; cases rv; obtain ⟨its0, iv0, pl0, hz0⟩ := I.tuple q; obtain ⟨b, ws, rfl, p, r2⟩ := k; cases ru; obtain ⟨its1, iv1, pl1, hz1⟩ := I.list p; unfold eqD; exact RcNeAt.tuple_list pl0 pl1.isList (by omega)
  | .lst xs, .non, v, u, vv, uu, A, h, k, rv, ru, hu => by unfold DV at h k; obtain ⟨a, us, rfl, q, r⟩ := h; cases rv; obtain ⟨its0, iv0, pl0, hz0⟩ := I.list q; subst k; cases ru; unfold eqD; exact RcNeAt.list_none pl0.isList (by omega)
  | .lst xs, .bl b0, v, u, vv, uu, A, h, k, rv, ru, hu => by unfold DV at h k; obtain ⟨a, us, rfl, q, r⟩ := h; cases rv; obtain ⟨its0, iv0, pl0, hz0⟩ := I.list q; subst k; cases ru; unfold eqD; exact RcNeAt.list_bool _ pl0.isList (by omega)
  | .lst xs, .int b0, v, u, vv, uu, A, h, k, rv, ru, hu => by unfold DV at h k; obtain ⟨a, us, rfl, q, r⟩ := h; cases rv; obtain ⟨its0, iv0, pl0, hz0⟩ := I.list q; subst k; obtain ⟨t1, rfl⟩ := ru; unfold eqD; exact RcNeAt.list_int _ _ pl0.isList (by omega)
  | .lst xs, .str b0, v, u, vv, uu, A, h, k, rv, ru, hu => by unfold DV at h k; obtain ⟨a, us, rfl, q, r⟩ := h; cases rv; obtain ⟨its0, iv0, pl0, hz0⟩ := I.list q; subst k; obtain ⟨t1, rfl⟩ := ru; unfold eqD; exact RcNeAt.list_str _ _ pl0.isList (by omega)
  | .lst xs, .tup ys, v, u, vv, uu, A, h, k, rv, ru, hu => by unfold DV at h k; obtain ⟨a, us, rfl, q, r⟩ := h; cases rv; obtain ⟨its0, iv0, pl0, hz0⟩ := I.list q; obtain ⟨b, ws, rfl, p, r2⟩ := k; cases ru; obtain ⟨its1, iv1, pl1, hz1⟩ := I.tuple p; unfold eqD; exact RcNeAt.list_tuple pl0.isList pl1 (by omega)
  | .lst xs, .lst ys, v, u, vv, uu, A, h, k, rv, ru, hu => by
    unfold DV at h k; unfold depD at hu
    obtain ⟨a, us, rfl, q, r⟩ := h; cases rv; obtain ⟨its0, iv0, pl0, hz0⟩ := I.list q; obtain ⟨b, ws, rfl, p, r2⟩ := k; cases ru; obtain ⟨its1, iv1, pl1, hz1⟩ := I.list p
    unfold eqD
    have hl0 : its0.toArray.size = xs.length := by rw [List.size_toArray, ← iv0.length, ← DVL.length r]
    have hl1 : its1.toArray.size = ys.length := by rw [List.size_toArray, ← iv1.length, ← DVL.length r2]
    by_cases hlen : xs.length = ys.length
    · have rc := RcNeAt.lists (A := A) (e := eqAtN xs ys) pl0.isList pl1.isList (by rw [hl0, hl1, hlen]) (by omega) (fun j h1 h2 => by
          have h1' : j < its0.length := by simpa using h1
          have h2' : j < its1.length := by simpa using h2
          obtain ⟨d, e1, dv⟩ := DVL.get' r (show us[j]? = some (us[j]'(by rw [iv0.length]; exact h1')) by simp)
          obtain ⟨d', e2, dv'⟩ := DVL.get' r2 (show ws[j]? = some (ws[j]'(by rw [iv1.length]; exact h2')) by simp)
          obtain ⟨z, ez, rz⟩ := iv0.get (show us[j]? = some (us[j]'(by rw [iv0.length]; exact h1')) by simp)
          obtain ⟨z', ez', rz'⟩ := iv1.get (show ws[j]? = some (ws[j]'(by rw [iv1.length]; exact h2')) by simp)
          have f1 : its0.toArray[j] = z := by simpa [h1'] using ez
          have f2 : its1.toArray[j] = z' := by simpa [h2'] using ez'
          rw [f1, f2]
          have := eqAtL_D I xs ys us ws its0 its1 A.in1 r r2 iv0 iv1 (by rw [units_in1]; omega) j d d' e1 e2 z z' ez ez'
          unfold eqAtN
          rw [e1, e2]
          exact this)
      rw [hl0, eqDL_range _ _ hlen] at rc
      exact rc
    · rw [eqDL_len _ _ hlen]
      exact RcNeAt.lists_lengths pl0.isList pl1.isList (by rw [hl0, hl1]; simpa using hlen) (by omega)
  | .ro _, _, v, u, vv, uu, A, h, _, _, _, _ => by unfold DV at h; exact h.elim
  | .dic _, _, v, u, vv, uu, A, h, _, _, _, _ => by unfold DV at h; exact h.elim
  | .cell _, _, v, u, vv, uu, A, h, _, _, _, _ => by unfold DV at h; exact h.elim
  | .non, .ro _, v, u, vv, uu, A, _, k, _, _, _ => by unfold DV at k; exact k.elim
  | .non, .dic _, v, u, vv, uu, A, _, k, _, _, _ => by unfold DV at k; exact k.elim
  | .non, .cell _, v, u, vv, uu, A, _, k, _, _, _ => by unfold DV at k; exact k.elim
  | .bl _, .ro _, v, u, vv, uu, A, _, k, _, _, _ => by unfold DV at k; exact k.elim
  | .bl _, .dic _, v, u, vv, uu, A, _, k, _, _, _ => by unfold DV at k; exact k.elim
  | .bl _, .cell _, v, u, vv, uu, A, _, k, _, _, _ => by unfold DV at k; exact k.elim
  | .int _, .ro _, v, u, vv, uu, A, _, k, _, _, _ => by unfold DV at k; exact k.elim
  | .int _, .dic _, v, u, vv, uu, A, _, k, _, _, _ => by unfold DV at k; exact k.elim
  | .int _, .cell _, v, u, vv, uu, A, _, k, _, _, _ => by unfold DV at k; exact k.elim
  | .str _, .ro _, v, u, vv, uu, A, _, k, _, _, _ => by unfold DV at k; exact k.elim
  | .str _, .dic _, v, u, vv, uu, A, _, k, _, _, _ => by unfold DV at k; exact k.elim
  | .str _, .cell _, v, u, vv, uu, A, _, k, _, _, _ => by unfold DV at k; exact k.elim
  | .tup _, .ro _, v, u, vv, uu, A, _, k, _, _, _ => by unfold DV at k; exact k.elim
  | .tup _, .dic _, v, u, vv, uu, A, _, k, _, _, _ => by unfold DV at k; exact k.elim
  | .tup _, .cell _, v, u, vv, uu, A, _, k, _, _, _ => by unfold DV at k; exact k.elim
  | .lst _, .ro _, v, u, vv, uu, A, _, k, _, _, _ => by unfold DV at k; exact k.elim
  | .lst _, .dic _, v, u, vv, uu, A, _, k, _, _, _ => by unfold DV at k; exact k.elim
  | .lst _, .cell _, v, u, vv, uu, A, _, k, _, _, _ => by unfold DV at k; exact k.elim
end
def rsv (d : D) (μ : Mu) : D := match d with
  | .cell n => match μ[n]? with
    | some (some ds) => .lst ds
    | _ => d
  | .ro ds => .lst ds
  | _ => d
theorem dv_rsv {K : PySem.W.Frag} {tb : List Addr} {W : Wd} {d : D} {v : V} (ok : WOk K tb W) (h : Den K tb W d v) (p : pureD (rsv d W.mu) = true) : DV K W.H (rsv d W.mu) v := by
  cases d with
  | cell n =>
    obtain ⟨a, rfl, q⟩ := of_cell h
    unfold rsv at p ⊢
    dsimp only at p ⊢
    cases e : W.mu[n]? with
    | none => rw [e] at p; cases p
    | some o =>
      rw [e] at p
      cases o with
      | none => cases p
      | some ds =>
        dsimp only at p ⊢
        unfold pureD at p
        obtain ⟨xs, ex, r⟩ := ok.cont n a ds q e
        unfold DV
        exact ⟨a, xs, rfl, SqL.of ex, dvl_of ds xs p r⟩
  | ro ds =>
    obtain ⟨a, xs, rfl, q, r⟩ := of_ro h
    have p' : pureD (.lst ds) = true := p
    unfold pureD at p'
    show DV K W.H (.lst ds) _
    unfold DV
    exact ⟨a, xs, rfl, SqL.fz q, dvl_of ds xs p' r⟩
  | _ => exact dv_of _ _ p h
def oEq : O2 := fun x y μ => if (pureD (rsv x μ) && pureD (rsv y μ)) = true ∧ depD (rsv x μ) < 100 then some (.bl (eqD (rsv x μ) (rsv y μ)), μ) else none
def oNe : O2 := fun x y μ => if (pureD (rsv x μ) && pureD (rsv y μ)) = true ∧ depD (rsv x μ) < 100 then some (.bl (!eqD (rsv x μ) (rsv y μ)), μ) else none
def rEqD (K : PySem.W.Frag) : R2 := fun v u H Q => ∃ x y, DV K H x v ∧ DV K H y u ∧ depD x < 100 ∧ Q (.bl (eqD x y)) H
def rNeD (K : PySem.W.Frag) : R2 := fun v u H Q => ∃ x y, DV K H x v ∧ DV K H y u ∧ depD x < 100 ∧ Q (.bl (!eqD x y)) H
section
variable {X : Cx} {tb : List Addr} {k : Nat}
theorem op_eqD (hr : Room k X.A) : OpR X (compareOp .Eq) (rEqD X.K) := by
  intro pins s σ H v u vv uu Q I rv ru h
  obtain ⟨x, y, hx, hy, hd, q⟩ := h
  have hun := hr.un
  exact rcAt_D I x y v u vv uu X.A hx hy rv ru (by omega) X.prog X.w X.xe _ ⟨.bl _, H, I, rfl, q⟩
theorem op_neD (hr : Room k X.A) : OpR X (compareOp .NotEq) (rNeD X.K) := by
  intro pins s σ H v u vv uu Q I rv ru h
  obtain ⟨x, y, hx, hy, hd, q⟩ := h
  have hun := hr.un
  exact rcNe_D I x y v u vv uu X.A hx hy rv ru (by omega) X.prog X.w X.xe _ ⟨.bl _, H, I, rfl, q⟩
theorem od_eq (hr : Room k X.A) : OpD X tb (compareOp .Eq) oEq := ⟨_, op_eqD hr, fun W x y v u d μ' Q ok dx dy ho h => by
  unfold oEq at ho
  split at ho
  · rename_i hc
    cases ho
    rw [Bool.and_eq_true] at hc
    exact ⟨_, _, dv_rsv ok dx hc.1.1, dv_rsv ok dy hc.1.2, hc.2, put ok h den_bl⟩
  · cases ho⟩
theorem od_ne (hr : Room k X.A) : OpD X tb (compareOp .NotEq) oNe := ⟨_, op_neD hr, fun W x y v u d μ' Q ok dx dy ho h => by
  unfold oNe at ho
  split at ho
  · rename_i hc
    cases ho
    rw [Bool.and_eq_true] at hc
    exact ⟨_, _, dv_rsv ok dx hc.1.1, dv_rsv ok dy hc.1.2, hc.2, put ok h den_bl⟩
  · cases ho⟩
end
end L3
set_option Elab.async false
set_option linter.all false
set_option maxRecDepth 100000
namespace L2
open PySem PySem.Spec PyProof.Rows
section
variable {prog : Program} {w : World} {A : Around} {E : Value → Shared → Prop} {s : Shared}
end
def InIt (k : Bool) (h : Heap) (it l : Addr) (i : Nat) : Prop := if k = true then h.IsTupleIter it l i else h.IsListIter it l i
def InSq (k : Bool) (h : Heap) (l : Addr) (xs : Array Value) : Prop := if k = true then h.IsTuple l xs else h.IsList l xs
section
variable {prog : Program} {w : World} {A : Around} {E : Value → Shared → Prop} {s : Shared} {k : Bool} {it l : Addr} {i : Nat} {xs : Array Value} {h h' : Heap}
theorem InIt.obj (x : InIt k h it l i) : ∃ o, h.get? it = some o ∧ (∀ v, o.data ≠ .cell v) ∧ (o.cls = .type "tuple_iterator" ∨ o.cls = .type "list_iterator") := by
  cases k
  · obtain ⟨o, e, c, d⟩ : h.IsListIter it l i := x
    exact ⟨o, e, (fun v z => by rw [d] at z; cases z), .inr c⟩
  · obtain ⟨o, e, c, d⟩ : h.IsTupleIter it l i := x
    exact ⟨o, e, (fun v z => by rw [d] at z; cases z), .inl c⟩
theorem InIt.at' (x : InIt k h it l i) (hk : ∀ o, h.get? it = some o → h'.get? it = some o) : InIt k h' it l i := by
  cases k
  · obtain ⟨o, e, c, d⟩ : h.IsListIter it l i := x
    exact (⟨o, hk o e, c, d⟩ : h'.IsListIter it l i)
  · obtain ⟨o, e, c, d⟩ : h.IsTupleIter it l i := x
    exact (⟨o, hk o e, c, d⟩ : h'.IsTupleIter it l i)
theorem InSq.at' (x : InSq k h l xs) (hk : ∀ o, h.get? l = some o → h'.get? l = some o) : InSq k h' l xs := by
  cases k
  · obtain ⟨o, e, c⟩ : h.IsList l xs := x
    exact (⟨o, hk o e, c⟩ : h'.IsList l xs)
  · obtain ⟨o, e, c⟩ : h.IsTuple l xs := x
    exact (⟨o, hk o e, c⟩ : h'.IsTuple l xs)
theorem InSq.obj (x : InSq k h l xs) : ∃ o, h.get? l = some o ∧ (o.cls = .type "tuple" ∨ o.cls = .type "list") := by
  cases k
  · obtain ⟨o, e, c, _⟩ : h.IsList l xs := x
    exact ⟨o, e, .inr c⟩
  · obtain ⟨o, e, c, _⟩ : h.IsTuple l xs := x
    exact ⟨o, e, .inl c⟩
theorem InIt.ne (x : InIt k h it l i) {k' : Bool} {l' : Addr} (y : InSq k' h l' xs) : l' ≠ it := by
  intro z
  subst z
  obtain ⟨o, e, _, c⟩ := x.obj
  obtain ⟨o', e', c'⟩ := y.obj
  rw [e] at e'; cases e'
  rcases c with c | c <;> rcases c' with c' | c' <;> rw [c] at c' <;> exact absurd c' (by decide)
end
section
variable {prog : Program} {w : World} {A : Around} {E : Value → Shared → Prop} {s : Shared}
end
end L2
set_option Elab.async false
set_option linter.all false
set_option maxRecDepth 100000
namespace L2
open PySem PySem.Spec PyProof.Rows
section
variable {prog : Program} {w : World} {A : Around} {E : Value → Shared → Prop} {s : Shared}
def itTy (k : Bool) : String := if k = true then "tuple_iterator" else "list_iterator"
abbrev itObj (k : Bool) (l : Addr) : Obj := { cls := .type (itTy k), data := .fields #[.ref l, .int 0 0] }
end
section
variable {prog : Program} {w : World} {A : Around} {E : Value → Shared → Prop} {s : Shared}
theorem InIt.new (k : Bool) (h : Heap) (l : Addr) : InIt k (h.push (itObj k l)) h.objs.size l 0 := by
  cases k
  · exact (⟨itObj false l, Heap.get?_push_size _ rfl, rfl, rfl⟩ : Heap.IsListIter _ _ _ 0)
  · exact (⟨itObj true l, Heap.get?_push_size _ rfl, rfl, rfl⟩ : Heap.IsTupleIter _ _ _ 0)
end
def SqB (c : Bool) (K : PySem.W.Frag) (H : Hp) (a : Addr) (xs : List V) : Prop := if c = true then SqT K H a xs else SqL K H a xs
section
variable {X : Cx} {pins : List (Addr × Obj)} {σ : L2.St} {H H' : Hp} {s : Shared} {h' : Heap}
end
section
variable {X : Cx}
end
end L2
set_option Elab.async false
set_option linter.all false
set_option maxRecDepth 100000
namespace L3
open PySem PySem.Spec PyProof.Rows L2
def itemsD : D → Mu → Option (List D)
  | .tup ds, _ => some ds
  | .lst ds, _ => some ds
  | .ro ds, _ => some ds
  | .cell n, μ => match μ[n]? with
    | some (some ds) => some ds
    | _ => none
  | _, _ => none
def isTupD : D → Bool
  | .tup _ => true
  | _ => false
section
variable {K : PySem.W.Frag} {tb : List Addr}
theorem items_den {W : Wd} {x : D} {v : V} {ds : List D} (ok : WOk K tb W) (h : Den K tb W x v) (e : itemsD x W.mu = some ds) : ∃ a xs, v = .ref a ∧ SqB (isTupD x) K W.H a xs ∧ DenL K tb W ds xs := by
  cases x with
  | tup es => cases e; obtain ⟨a, xs, rfl, q, r⟩ := of_tup h; exact ⟨a, xs, rfl, SqT.fz q, r⟩
  | lst es => cases e; obtain ⟨a, xs, rfl, q, r⟩ := of_lst h; exact ⟨a, xs, rfl, SqL.fz q, r⟩
  | ro es => cases e; obtain ⟨a, xs, rfl, q, r⟩ := of_ro h; exact ⟨a, xs, rfl, SqL.fz q, r⟩
  | cell n =>
    obtain ⟨a, rfl, q⟩ := of_cell h
    have e' : (match W.mu[n]? with | some (some ds) => some ds | _ => none) = some ds := e
    cases e2 : W.mu[n]? with
    | none => rw [e2] at e'; cases e'
    | some o =>
      cases o with
      | none => rw [e2] at e'; cases e'
      | some es =>
        rw [e2] at e'
        cases e'
        obtain ⟨xs, e3, r⟩ := ok.cont n a ds q e2
        exact ⟨a, xs, rfl, SqL.of e3, r⟩
  | _ => cases e
theorem SqB.or {c : Bool} {H : Hp} {a : Addr} {xs : List V} (h : SqB c K H a xs) : SqL K H a xs ∨ SqT K H a xs := by
  cases c
  · exact .inl h
  · exact .inr h
end
theorem denL_at {K : PySem.W.Frag} {tb : List Addr} {W : Wd} {ds : List D} {xs : List V} {i : Int} {d : D} (r : DenL K tb W ds xs) (h : atI ds i = some d) : ∃ v, atI xs i = some v ∧ Den K tb W d v := by
  unfold atI at h ⊢
  rw [← DenFL.length r]
  cases e : ixN ds.length i with
  | none => rw [e] at h; cases h
  | some j =>
    rw [e] at h
    exact DenFL.get r h
def oIx : O2 := fun x y μ => match y with
  | .int i => (itemsD x μ).bind fun ds => (atI ds i).map fun d => (d, μ)
  | _ => none
def oLen : O1' := fun x μ => match x with
  | .str y => if y.length ≤ sizeLine then some (.int y.length, μ) else none
  | _ => (itemsD x μ).map fun ds => (.int ds.length, μ)
def oAbs : O1' := fun x μ => match x with
  | .int i => some (.int (if i < 0 then -i else i), μ)
  | _ => none
def oNeg : O1' := fun x μ => match x with
  | .int i => some (.int (-i), μ)
  | _ => none
def onTwo (op : O2) : ON := fun xs μ => match xs with
  | [x, y] => op x y μ
  | _ => none
theorem onTwo_some {op : O2} {xs : List D} {μ : Mu} {r : D × Mu} (h : onTwo op xs μ = some r) : ∃ x y, xs = [x, y] ∧ op x y μ = some r := by
  unfold onTwo at h
  split at h
  · exact ⟨_, _, rfl, h⟩
  · cases h
def oMin2 : O2 := fun x y μ => match x, y with
  | .int i, .int j => some (.int (if j < i then j else i), μ)
  | _, _ => none
def oMax2 : O2 := fun x y μ => match x, y with
  | .int i, .int j => some (.int (if j > i then j else i), μ)
  | _, _ => none
def oTuple : ON := fun xs μ => match xs with
  | [x] => (itemsD x μ).map fun ds => (.tup ds, μ)
  | _ => none
def isiD (T : String) : D → Option Bool
  | .non => some false
  | .bl _ => some (T == "bool" || T == "int")
  | .int _ => some (T == "int")
  | .str _ => some (T == "str")
  | .tup _ => some (T == "tuple")
  | .lst _ => some (T == "list")
  | .ro _ => some (T == "list")
  | .dic _ => some (T == "dict")
  | .cell _ => none
def oIsi (T : String) : O1' := fun x μ => match x with
  | .cell n => match μ[n]? with
    | some (some _) => some (.bl (T == "list"), μ)
    | _ => none
  | _ => (isiD T x).map fun k => (.bl k, μ)
section
variable {X : Cx} {tb : List Addr} {a b e : Expr} {fa fb f : EF} {fs : AF} {p pos : Pos}
theorem pd_ix (ha : PD X tb a fa) (hb : PD X tb b fb) (hs : PlainIx b := by intro _ _; rfl) : PD X tb (.Subscript a b pos) (M2 fa fb oIx) :=
  pd_two (fun ta tb' ha hb => pe_ix ix_seq ha hb hs) (fun W x y v u d μ' Q ok dx dy ho h => by
    cases y with
    | int i =>
      obtain ⟨ds, e1, e2⟩ := Option.bind_eq_some_iff.mp (show ((itemsD x W.mu).bind fun ds => (atI ds i).map fun d => (d, W.mu)) = some (d, μ') from ho)
      obtain ⟨d0, e3, e4⟩ := Option.map_eq_some_iff.mp e2
      cases e4
      rw [of_int dy]
      obtain ⟨a, xs, rfl, q, r⟩ := items_den ok dx e1
      obtain ⟨v, ev, dv⟩ := denL_at r e3
      rcases SqB.or q with q | q
      · exact .inl ⟨a, xs, i, v, rfl, rfl, q, ev, put ok h dv⟩
      · exact .inr (.inl ⟨a, xs, i, v, rfl, rfl, q, ev, put ok h dv⟩)
    | _ => cases ho) ha hb
theorem pd_neg (ha : PD X tb a fa) : PD X tb (.UnaryOp .USub a pos) (M1 fa oNeg) :=
  pd_one (fun ta ha => pe_un un_neg ha) (fun W x v d μ' Q ok dx ho h => by
    cases x with
    | int i => cases ho; rw [of_int dx]; exact ⟨i, rfl, put ok h den_int⟩
    | _ => cases ho) ha
def onOne (op : O1') : ON := fun xs μ => match xs with
  | [x] => op x μ
  | _ => none
theorem pd_len (hm : X.mg "len" = none) (ha : PAD X tb [a] fs) (hg : Gl X "len" := by rfl) (he : starEach [a] X.env = (false, eval a X.env) :: starEach [] X.env := by rfl) : PD X tb (.Call (.Name "len" p) [a] [] pos) (MC fs (onOne oLen)) :=
  pd_n (fun ta ha => pe_callB (call_len_seq.or call_len_str) hg hm PySem.boot_len ha (by decide) (by decide) he (by rfl)) (fun W xs vs d μ' Q ok r ho h => by
    match xs, r, ho with
    | [x], r, ho =>
      obtain ⟨v, rfl, dv⟩ := DenFL.one r
      have gen : ∀ ds, itemsD x W.mu = some ds → some (D.int ds.length, W.mu) = some (d, μ') → ((∃ p ys, [v] = [V.ref p] ∧ (SqL X.K W.H p ys ∨ SqT X.K W.H p ys) ∧ Q (.int ys.length) W.H) ∨ ∃ z, [v] = [V.str z] ∧ z.length ≤ sizeLine ∧ Q (.int z.length) W.H) := fun ds e1 e2 => by
        cases e2
        obtain ⟨a, xs, e, q, r⟩ := items_den ok dv e1
        exact Or.inl ⟨a, xs, by rw [e], SqB.or q, by rw [← DenFL.length r]; exact put ok h den_int⟩
      cases x with
      | str y =>
        have ho' : (if y.length ≤ sizeLine then some (D.int y.length, W.mu) else none) = some (d, μ') := ho
        split at ho'
        · rename_i hz
          cases ho'
          rw [of_str dv]
          exact .inr ⟨y, rfl, hz, put ok h den_int⟩
        · cases ho'
      | tup ds => exact gen ds rfl ho
      | lst ds => exact gen ds rfl ho
      | ro ds => exact gen ds rfl ho
      | cell n =>
        obtain ⟨ds, e1, e2⟩ := Option.map_eq_some_iff.mp (show (itemsD (.cell n) W.mu).map (fun ds => (D.int ds.length, W.mu)) = some (d, μ') from ho)
        exact gen ds e1 (congrArg some e2)
      | _ => cases ho) ha
theorem pd_abs (hm : X.mg "abs" = none) (ha : PAD X tb [a] fs) (hg : Gl X "abs" := by rfl) (he : starEach [a] X.env = (false, eval a X.env) :: starEach [] X.env := by rfl) : PD X tb (.Call (.Name "abs" p) [a] [] pos) (MC fs (onOne oAbs)) :=
  pd_n (fun ta ha => pe_callB call_abs hg hm PyProof.Rows.boot_abs ha (by decide) (by decide) he (by rfl)) (fun W xs vs d μ' Q ok r ho h => by
    match xs, r, ho with
    | [x], r, ho =>
      obtain ⟨v, rfl, dv⟩ := DenFL.one r
      cases x with
      | int i => cases ho; rw [of_int dv]; exact ⟨i, rfl, put ok h den_int⟩
      | _ => cases ho) ha
theorem pd_min2 (hc : X.calm = true) (hm : X.mg "min" = none) (ha : PAD X tb [a, b] fs) (hg : Gl X "min" := by rfl) (he : starEach [a, b] X.env = (false, eval a X.env) :: starEach [b] X.env := by rfl) (hpl : (backTo pos (starEach [b] X.env)).any (·.1) = false := by rfl) : PD X tb (.Call (.Name "min" p) [a, b] [] pos) (MC fs (onTwo oMin2)) :=
  pd_n (fun ta ha => pe_callB (call_min2 hc) hg hm PyProof.Rows.boot_min ha (by decide) (by decide) he hpl) (fun W xs vs d μ' Q ok r ho h => by
    obtain ⟨x, y, rfl, ho⟩ := onTwo_some ho
    obtain ⟨u, v, rfl, du, dv⟩ := DenFL.two r
    cases x with
    | int i =>
      cases y with
      | int j =>
        cases ho
        rw [of_int du, of_int dv]
        exact ⟨i, j, rfl, put ok h den_int⟩
      | _ => cases ho
    | _ => cases ho) ha
theorem pd_tuple (hm : X.mg "tuple" = none) (ha : PAD X tb [a] fs) (hg : Gl X "tuple" := by rfl) (he : starEach [a] X.env = (false, eval a X.env) :: starEach [] X.env := by rfl) : PD X tb (.Call (.Name "tuple" p) [a] [] pos) (MC fs oTuple) :=
  pd_n (fun ta ha => pe_callTy call_tuple_of hg hm PyProof.Rows.boot_tuple ha (by decide) (by decide) he (by rfl)) (fun W xs vs d μ' Q ok r ho h => by
    match xs, r, ho with
    | [x], r, ho =>
      obtain ⟨v, rfl, dv⟩ := DenFL.one r
      obtain ⟨ds, e1, e2⟩ := Option.map_eq_some_iff.mp (show (itemsD x W.mu).map (fun ds => (D.tup ds, W.mu)) = some (d, μ') from ho)
      cases e2
      by_cases ht : ∃ es, x = .tup es
      · obtain ⟨es, rfl⟩ := ht
        cases e1
        obtain ⟨a, xs, rfl, q, r⟩ := of_tup dv
        exact ⟨a, xs, rfl, .inr ⟨SqT.fz q, put ok h dv⟩⟩
      · obtain ⟨a, xs, rfl, q, r⟩ := items_den ok dv e1
        have hf : isTupD x = false := by cases x <;> first | rfl | exact absurd ⟨_, rfl⟩ ht
        rw [hf] at q
        exact ⟨a, xs, rfl, .inl ⟨q, fun l hl => put_tup ok h r hl⟩⟩) ha
def lOf (fs : AF) : LF := fun δ μ => (fs δ μ).bind fun r => match r.1 with
  | [x] => (itemsD x r.2).map fun ds => (ds, r.2)
  | _ => none
theorem pdn_list (hm : X.mg "list" = none) (ha : PAD X tb [a] fs) (hg : Gl X "list" := by rfl) (he : starEach [a] X.env = (false, eval a X.env) :: starEach [] X.env := by rfl) : PDN X tb (.Call (.Name "list" p) [a] [] pos) (lOf fs) :=
  pe_le (pe_callTy call_list_of hg hm PyProof.Rows.boot_list ha (by decide) (by decide) he (by rfl)) fun σ H Q ⟨W, δ, ds, μ', e, ok, hd, hf, k⟩ => by
    unfold lOf at hf
    obtain ⟨⟨xs, μ1⟩, e1, e2⟩ := Option.bind_eq_some_iff.mp hf
    match xs, e1, e2 with
    | [x], e1, e2 =>
      obtain ⟨ds', e3, e4⟩ := Option.map_eq_some_iff.mp (show (itemsD x μ1).map (fun ds => (ds, μ1)) = some (ds, μ') from e2)
      cases e4
      refine ⟨W, δ, [x], _, e, ok, hd, e1, fun vs W1 ok1 l1 m1 d1 => ?_⟩
      obtain ⟨v, rfl, dv⟩ := DenFL.one d1
      obtain ⟨a, xs, rfl, q, r⟩ := items_den ok1 dv (by rw [m1]; exact e3)
      exact ⟨a, xs, rfl, SqB.or q, fun l hl => k l xs W1 ok1 l1 m1 hl r⟩
theorem pd_isi {T : Str} {tn : String} {pt : Pos} (hm : X.mg "isinstance" = none) (hmT : X.mg T = none) (hT : bootBuiltins T = some (.type tn)) (hmem : tn ∈ isiT) (ha : PD X tb a fa) (hg : Gl X "isinstance" := by rfl) (hgT : Gl X T := by rfl) (hn : T ≠ "__name__" := by decide) (hdb : (T == ("__debug__" : Str)) = false := by decide)
    (hs : starEach [a, .Name T pt] X.env = (false, eval a X.env) :: starEach [.Name T pt] X.env := by rfl) : PD X tb (.Call (.Name "isinstance" p) [a, .Name T pt] [] pos) (M1 fa (oIsi tn)) :=
  pe_le (pe_callB call_isi hg hm PyProof.Rows.boot_isinstance (pa_cons ha (pa_cons (pe_bltn hgT hmT hT (v := .ty tn) rfl hn hdb) pa_nil) hs) (by decide) (by decide) hs (by rfl)) fun σ H Q ⟨W, δ, d, μ', e, ok, hd, hf, h⟩ => by
    unfold M1 at hf
    obtain ⟨⟨x, μ1⟩, e1, e2⟩ := Option.bind_eq_some_iff.mp hf
    refine ⟨W, δ, x, μ1, e, ok, hd, e1, fun v W1 ok1 l1 m1 d1 => ?_⟩
    have fin : ∀ k, IsiV X.K tn v W1.H k → some (D.bl k, μ1) = some (d, μ') → ∃ x T k, [v, V.ty tn] = [x, .ty T] ∧ T ∈ isiT ∧ IsiV X.K T x W1.H k ∧ Q (.bl k) W1.H := fun k hk e => by
      cases e
      exact ⟨v, tn, k, rfl, hmem, hk, h _ W1 ok1 l1 m1 den_bl⟩
    cases x with
    | non => rw [of_non d1] at fin ⊢; exact fin _ rfl e2
    | bl b => rw [of_bl d1] at fin ⊢; exact fin _ rfl e2
    | int b => rw [of_int d1] at fin ⊢; exact fin _ rfl e2
    | str b => rw [of_str d1] at fin ⊢; exact fin _ rfl e2
    | tup ds => obtain ⟨a, xs, rfl, q, r⟩ := of_tup d1; exact fin _ (.inr (.inl ⟨rfl, xs, SqT.fz q⟩)) e2
    | lst ds => obtain ⟨a, xs, rfl, q, r⟩ := of_lst d1; exact fin _ (.inl ⟨rfl, xs, SqL.fz q⟩) e2
    | ro ds => obtain ⟨a, xs, rfl, q, r⟩ := of_ro d1; exact fin _ (.inl ⟨rfl, xs, SqL.fz q⟩) e2
    | dic ds => obtain ⟨a, xs, rfl, q, r⟩ := of_dic d1; exact fin _ (.inr (.inr ⟨rfl, xs, (fz_some q).1⟩)) e2
    | cell n =>
      have e2' : (match μ1[n]? with | some (some _) => some (D.bl (tn == "list"), μ1) | _ => none) = some (d, μ') := e2
      obtain ⟨a, rfl, q⟩ := of_cell d1
      cases e4 : μ1[n]? with
      | none => rw [e4] at e2'; cases e2'
      | some o =>
        cases o with
        | none => rw [e4] at e2'; cases e2'
        | some ds =>
          rw [e4] at e2'
          obtain ⟨xs, ex, _⟩ := ok1.cont n a ds q (by rw [m1]; exact e4)
          exact fin _ (.inl ⟨rfl, xs, SqL.of ex⟩) e2'
def liveAt (μ : Mu) (n : Nat) : Bool := match μ[n]? with
  | some (some _) => true
  | _ => false
theorem liveAt_some {μ : Mu} {n : Nat} (h : liveAt μ n = true) : ∃ ds, μ[n]? = some (some ds) := by
  unfold liveAt at h
  split at h
  · exact ⟨_, by assumption⟩
  · cases h
def mApp (fo : EF) (fs : AF) : EF := fun δ μ => (fo δ μ).bind fun r => (fs δ r.2).bind fun q => match r.1, q.1 with
  | .cell n, [y] => match q.2[n]? with
    | some (some ds) => if liveAt r.2 n = true ∧ ds.length < sizeLine then some (.non, q.2.set n (some (ds ++ [y]))) else none
    | _ => none
  | _, _ => none
theorem pd_append {o : Expr} {fo : EF} {apos cpos : Pos} (ho : PD X tb o fo) (ha : PAD X tb [e] fs)
    (hbase : attributeBase o "append" X.env (eval o X.env) = eval o X.env := by rfl)
    (hfew : ((backTo cpos (starEach [e] X.env)).all (fun x => !x.1) && (backToKw cpos (keywordEach [] X.env)).all (fun x => x.1.isSome)
      && decide ([e].length + ([] : List Keyword).length + (if ([] : List Keyword).isEmpty then 0 else 1) < 30)) = true := by rfl)
    (hline : (apos.endLine == cpos.line) = true := by rfl) (hs : starEach [e] X.env = (false, eval e X.env) :: starEach [] X.env := by rfl) : PD X tb (.Call (.Attribute o "append" apos) [e] [] cpos) (mApp fo fs) :=
  pe_le (pe_bm PySem.F.plainAttrs_list PySem.F.slot_list_append PySem.F.type_list_append mt_append ho ha hbase hfew hline hs (by rfl)) fun σ H Q ⟨W, δ, d, μ', e, ok, hd, hf, h⟩ => by
    unfold mApp at hf
    obtain ⟨⟨x, μ1⟩, e1, hf⟩ := Option.bind_eq_some_iff.mp hf
    obtain ⟨⟨ys, μ2⟩, e2, hf⟩ := Option.bind_eq_some_iff.mp hf
    refine ⟨W, δ, x, μ1, e, ok, hd, e1, fun v W1 ok1 l1 m1 d1 => ?_⟩
    match x, ys, e1, e2, hf, d1 with
    | .cell n, [y], e1, e2, hf, d1 =>
      have hf' : (match μ2[n]? with | some (some ds) => if liveAt μ1 n = true ∧ ds.length < sizeLine then some (D.non, μ2.set n (some (ds ++ [y]))) else none | _ => none) = some (d, μ') := hf
      cases e4 : μ2[n]? with
      | none => rw [e4] at hf'; cases hf'
      | some oo =>
        cases oo with
        | none => rw [e4] at hf'; cases hf'
        | some ds =>
          rw [e4] at hf'
          have hf'' : (if liveAt μ1 n = true ∧ ds.length < sizeLine then some (D.non, μ2.set n (some (ds ++ [y]))) else none) = some (d, μ') := hf'
          split at hf''
          · rename_i hz
            cases hf''
            obtain ⟨a, rfl, q⟩ := of_cell d1
            obtain ⟨ds0, e5⟩ := liveAt_some hz.1
            obtain ⟨xs0, ex0, _⟩ := ok1.cont n a ds0 q (by rw [m1]; exact e5)
            refine ⟨.inl ⟨rfl, xs0, SqL.of ex0⟩, W1, δ, [y], μ2, rfl, ok1, hd.mono' l1, (by rw [m1]; exact e2), fun vs W2 ok2 l2 m2 d2 => ?_⟩
            obtain ⟨u, rfl, du⟩ := DenFL.one d2
            have q2 := l2.ad _ _ q
            have e6 : W2.mu[n]? = some (some ds) := by rw [m2]; exact e4
            obtain ⟨xs, ex, r⟩ := ok2.cont n a ds q2 e6
            refine ⟨a, xs, u, rfl, rfl, ex, by rw [← DenFL.length r]; exact hz.2, ?_⟩
            obtain ⟨ok3, l3⟩ := ok2.write q2 e6 (DenFL.append r (DenFL.cons du DenFL.nil))
            exact h .non _ ok3 ((l1.trans l2).trans l3) (by rw [← m2]) den_non
          · cases hf''
def mPop0 (fo : EF) : EF := fun δ μ => (fo δ μ).bind fun r => match r.1 with
  | .cell n => match r.2[n]? with
    | some (some (y :: ds)) => some (y, r.2.set n (some ds))
    | _ => none
  | _ => none
theorem pd_pop0 {o : Expr} {fo : EF} {apos cpos p0 : Pos} {j} (ho : PD X tb o fo)
    (hbase : attributeBase o "pop" X.env (eval o X.env) = eval o X.env := by rfl)
    (hfew : ((backTo cpos (starEach [.Constant (.int 0) j p0] X.env)).all (fun x => !x.1) && (backToKw cpos (keywordEach [] X.env)).all (fun x => x.1.isSome)
      && decide ([Expr.Constant (.int 0) j p0].length + ([] : List Keyword).length + (if ([] : List Keyword).isEmpty then 0 else 1) < 30)) = true := by rfl)
    (hline : (apos.endLine == cpos.line) = true := by rfl) : PD X tb (.Call (.Attribute o "pop" apos) [.Constant (.int 0) j p0] [] cpos) (mPop0 fo) :=
  pe_le (pe_bm PySem.F.plainAttrs_list PySem.F.slot_list_pop PySem.F.type_list_pop mt_popAt ho (pa_cons pe_int pa_nil) hbase hfew hline (by rfl) (by rfl)) fun σ H Q ⟨W, δ, d, μ', e, ok, hd, hf, h⟩ => by
    unfold mPop0 at hf
    obtain ⟨⟨x, μ1⟩, e1, hf⟩ := Option.bind_eq_some_iff.mp hf
    refine ⟨W, δ, x, μ1, e, ok, hd, e1, fun v W1 ok1 l1 m1 d1 => ?_⟩
    cases x with
    | cell n =>
      have hf' : (match μ1[n]? with | some (some (y :: ds)) => some (y, μ1.set n (some ds)) | _ => none) = some (d, μ') := hf
      cases e4 : μ1[n]? with
      | none => rw [e4] at hf'; cases hf'
      | some oo =>
        match oo, e4 with
        | none, e4 => rw [e4] at hf'; cases hf'
        | some [], e4 => rw [e4] at hf'; cases hf'
        | some (y :: ds), e4 =>
          rw [e4] at hf'
          have hf'' : some (y, μ1.set n (some ds)) = some (d, μ') := hf'
          cases hf''
          obtain ⟨a, rfl, q⟩ := of_cell d1
          have e6 : W1.mu[n]? = some (some (d :: ds)) := by rw [m1]; exact e4
          obtain ⟨xs, ex, r⟩ := ok1.cont n a _ q e6
          have r' : DenFL _ _ _ _ _ := r
          unfold DenFL at r'
          obtain ⟨u, us, rfl, du, r2⟩ := r'
          refine ⟨.inl ⟨rfl, _, SqL.of ex⟩, a, u :: us, 0, 0, u, rfl, rfl, ex, by decide, by decide, ?_, rfl, ?_⟩
          · simp [seqIndex?]
          · obtain ⟨ok3, l3⟩ := ok1.write q e6 r2
            exact h u _ ok3 (l1.trans l3) (by rw [← m1]) (Den.mono' du l3)
    | _ => cases hf
theorem pdv (i : Nat) {x : Str} (hN : X.N[i]? = some x := by rfl) (hv : Vis X.env.scope x := by first | exact Or.inl rfl | exact Or.inr (Or.inl rfl) | exact Or.inr (Or.inr rfl)) (hd : (x == ("__debug__" : Str)) = false := by decide) (hcd : (x == ("__classdict__" : Str)) = false := by decide) : PD X tb (.Name x pos) (mVar i) := pd_var hN hv hd hcd
end
end L3
set_option Elab.async false
set_option linter.all false
set_option maxRecDepth 100000
namespace L2
open PySem PySem.Spec PyProof.Rows
section
variable {X : Cx} {e : Expr} {es : List Expr} {te : TE} {t : TA}
end
end L2
namespace L3
open PySem PySem.Spec PyProof.Rows L2
section
variable {X : Cx} {tb : List Addr} {a b e : Expr} {es : List Expr} {fa fb f : EF} {fs : AF} {p pos : Pos}
def zipL : List D → List D → List D
  | x :: xs, y :: ys => .tup [x, y] :: zipL xs ys
  | _, _ => []
def fzItems : D → Option (List D)
  | .tup ds => some ds
  | .lst ds => some ds
  | .ro ds => some ds
  | _ => none
def iZipD (fs : AF) : IF := fun δ μ => (fs δ μ).bind fun r => match r.1 with
  | [x, y] => (fzItems x).bind fun xs => (fzItems y).map fun ys => (⟨zipL xs ys, none⟩, r.2)
  | _ => none
end
end L3
set_option Elab.async false
set_option linter.all false
set_option maxRecDepth 100000
namespace L3
open PySem PySem.Spec PyProof.Rows L2
theorem ro_ints {K : PySem.W.Frag} {F : Hp} {ad : List Addr} : ∀ (ns : List Int), DenFL K F ad (ns.map D.int) (ns.map V.int)
  | [] => DenFL.nil
  | n :: ns => DenFL.cons (by unfold DenF; rfl) (ro_ints ns)
theorem law_callT {P : Program} {w : World} {K : PySem.W.Frag} {mg mb : Str → Option Value} {k : Nat} {fa a : Addr} {fd : FuncData} {x : Str} {s₁ : Shared} {vs : List Value} {ns : List Int} {tb : List Addr} {φ : FF} {μ' : Mu}
    (KX : K.In s₁.heap) (hns : s₁.heap.Ns mainGlobals mg) (hb : s₁.heap.Ns builtinsNs mb) (hbb : ∀ x : Str, x ≠ "__name__" → mb x = bootBuiltins x) (hlim : s₁.heap.NoLimit)
    (hbm : ∃ bm ob, mg "__builtins__" = some (.ref bm) ∧ bm ≠ builtinsNs ∧ s₁.heap.get? bm = some ob ∧ ob.cls = .type "module" ∧ ob.dict = some builtinsNs ∧ ob.data = .plain) (hg : s₁.gens = #[])
    (ha : s₁.heap.get? a = some { cls := .type "list", data := .seq vs.toArray }) (hi : IntsAre vs ns) (hl : ns.length ≤ sizeLine) (hr : Room k callerA)
    (htb : ∀ P ∈ tb, ∃ c, PySem.W.CodeHd s₁.heap c P ∧ s₁.heap.get? P = some (PySem.W.tabObj #[])) (hnt : PySem.W.noTabs K = true)
    (F : ∀ base : Heap, K.In base → base.Ns mainGlobals mg → FnOk P w K mg base CX0 k fa fd [x] (spD K tb 1 φ)) (hbind : ∀ (s : Shared) (u : Value), BindsTo s fd ⟨[u], []⟩ [(x, u)])
    (hsp : φ [.ro (ns.map .int)] [] = some (.bl true, μ')) :
    codeAny (model P w) callerA (.call (.ref fa) ⟨[.ref a], []⟩) (fun r s' => r = .ok (.ret (.bool true)) ∧ OldK s₁.heap s'.heap ∧ s'.os = s₁.os ∧ AllBare s'.gens) s₁ := by
  have rv := vals_ints hi
  have lenV := hi.length
  have hat : a ∉ tb := fun z => by
    obtain ⟨c, _, e⟩ := htb a z
    rw [ha] at e; cases e
  have hKt : ∀ P ∈ tb, K.lookup P = none := fun P hP => by
    cases q : K.lookup P with
    | none => rfl
    | some o =>
      obtain ⟨c, _, e⟩ := htb P hP
      have e2 := KX P o q
      rw [e] at e2
      cases e2
      have h2 := List.all_eq_true.mp hnt (P, _) (PySem.W.mem_of_lookupK q)
      exact absurd (show false = true from h2) Bool.false_ne_true
  have core : ∀ H : Hp, (∀ b, H b = none ∨ (b = a ∧ ∃ o xs, H b = some (.frz o (.lst xs))) ∨ (b ∈ tb ∧ H b = some (.tbl #[]))) → SqL K H a (ns.map V.int) → HOk P w H s₁.heap → (∀ P ∈ tb, H P = some (.tbl #[])) → (H a ≠ none → K.lookup a = none) →
      codeAny (model P w) callerA (.call (.ref fa) ⟨[.ref a], []⟩) (fun r s' => r = .ok (.ret (.bool true)) ∧ OldK s₁.heap s'.heap ∧ s'.os = s₁.os ∧ AllBare s'.gens) s₁ := by
    intro H hO hS hok hT hK
    have base_of : ∀ {b : Addr} {o : Obj}, s₁.heap.get? b = some o → H b = none → (hidT s₁.heap H).get? b = some o := fun e n => hidT_get e n
    have noH : ∀ {b : Addr} {o : Obj}, s₁.heap.get? b = some o → o.cls ≠ .type "list" → o.cls ≠ .none → H b = none := fun {b o} e d1 d2 => by
      rcases hO b with z | ⟨rfl, _⟩ | ⟨z, _⟩
      · exact z
      · rw [ha] at e; cases e; exact absurd rfl d1
      · obtain ⟨c, _, e2⟩ := htb b z
        rw [e2] at e; cases e; exact absurd rfl d2
    have noA : ∀ {b : Addr} {o : Obj} {es : Array DictEntry} {ep : Nat}, s₁.heap.get? b = some o → o.data = .dict es ep → H b = none := fun {b o es ep} e d => by
      rcases hO b with z | ⟨rfl, _⟩ | ⟨z, _⟩
      · exact z
      · rw [ha] at e; cases e; cases d
      · obtain ⟨c, _, e2⟩ := htb b z
        rw [e2] at e; cases e; cases d
    have nsK : ∀ {b : Addr} {m : Str → Option Value}, s₁.heap.Ns b m → (hidT s₁.heap H).Ns b m := fun {b m} ⟨o, es, ep, e, d, r⟩ => ⟨o, es, ep, base_of e (noA e d), d, r⟩
    have hKb : K.In (hidT s₁.heap H) := fun b o e => base_of (KX b o e) (by
      rcases hO b with z | ⟨rfl, _, _, z⟩ | ⟨z, _⟩
      · exact z
      · rw [hK (by rw [z]; simp)] at e; cases e
      · rw [hKt b z] at e; cases e)
    have hM : Mod K mg (hidT s₁.heap H) := ⟨hKb, nsK hns, ⟨mb, nsK hb, hbb⟩, (let ⟨mc, h1, h2⟩ := hlim; ⟨mc, nsK h1, h2⟩), (let ⟨bm, ob, h1, h2, h3, h4, r⟩ := hbm; ⟨bm, ob, h1, h2, base_of h3 (noH h3 (by rw [h4]; decide) (by rw [h4]; decide)), h4, r⟩)⟩
    have e0 : Env0 P w K mg (hidT s₁.heap H) callerA [] s₁ H := ⟨rfl, hM, fun b o e => of_hidT e, Nat.le_of_eq (hidT_size _ _), trivial, fun b hb => absurd (show b ∈ ([] : List Addr) from hb) (by simp), hok, .of_eq hg⟩
    have okW : WOk K tb ⟨H, [], []⟩ := ⟨rfl, fun i a ds e => by simp at e, fun i j a ds es e => by simp at e, fun P hP => ⟨#[], hT P hP, by unfold TriplesOk; trivial⟩⟩
    have nlive : ∀ b, ¬ Live ([] : List Addr) ([] : Mu) b := fun b ⟨i, ds, e, _⟩ => by simp at e
    have fzA : Wd.fz tb ⟨H, [], []⟩ a = H a := fz_of (W := ⟨H, [], []⟩) (nlive a) hat
    have hden : Den K tb ⟨H, [], []⟩ (.ro (ns.map .int)) (.ref a) := by
      show DenF _ _ _ _ _
      unfold DenF
      refine ⟨a, _, rfl, ?_, ro_ints ns⟩
      rcases hS with (h | ⟨o, h⟩) | h
      · exact .inl (.inl (fzA.trans h))
      · exact .inl (.inr ⟨o, fzA.trans h⟩)
      · exact .inr h
    refine codeAny_mono ((F _ hKb (nsK hns)).run callerA [] s₁ H ⟨[.ref a], []⟩ [.ref a] [.ref a] (fun v _ => v = .bl true) (fun _ _ _ => False) hr e0 (hbind s₁ (.ref a)) (.cons rfl .nil)
      ⟨⟨H, [], []⟩, [.ro (ns.map .int)], _, _, rfl, okW, DenFL.cons hden DenFL.nil, rfl, hsp, fun v W' _ _ _ dv => of_bl dv⟩) fun r s' h => ?_
    cases r with
    | error e => exact False.elim h
    | ok fl =>
      cases fl with
      | next => exact False.elim h
      | brk => exact False.elim h
      | cont => exact False.elim h
      | ret u =>
        obtain ⟨v, H', os, bare, un, hok', r', q⟩ := h
        have q' : v = .bl true := q
        subst q'
        obtain rfl : u = Value.bool true := r'
        have old : ∀ b o, s₁.heap.get? b = some o → asItWas s₁.heap s'.heap b o ∧ ∃ o', s'.heap.get? b = some o' := fun b o e => by
          rcases hO b with z | ⟨rfl, ob, xs, z⟩ | ⟨hb, z⟩
          · have := un.keep b o e z (by intro z; exact absurd (show b ∈ ([] : List Addr) from z) (by simp)) (by simp)
            exact ⟨.inl this, o, this⟩
          · have z2 := un.frzs b ob _ z
            obtain ⟨e1, _⟩ := hok b _ z
            obtain ⟨e2, _⟩ := hok' b _ z2
            rw [e] at e1; cases e1
            exact ⟨.inl e2, _, e2⟩
          · obtain ⟨more, z2⟩ := un.tbls b _ z
            have e2 := hok' b _ z2
            obtain ⟨c, hd, hp⟩ := htb b hb
            rw [hp] at e; cases e
            have e3 : s'.heap.get? b = some { cls := .none, data := .fields (#[] ++ more) } := e2
            exact ⟨.inr (.inl ⟨(hd.tab hp).isCodeTable, rfl, #[], more, rfl, e3⟩), _, e3⟩
        exact ⟨rfl, ⟨fun b o e => (old b o e).1, fun b o e => (old b o e).2⟩, os, bare.bare⟩
  have tbOk : ∀ {H : Hp} {b : Addr}, b ∈ tb → ObjOk P w H s₁.heap b (.tbl #[]) := fun {H b} hb => by
    obtain ⟨c, _, e⟩ := htb b hb
    exact e
  classical
  cases hk : K.lookup a with
  | some o =>
    have e := KX a o hk
    rw [ha] at e
    cases e
    refine core (fun b => if b ∈ tb then some (.tbl #[]) else none) (fun b => ?_) (.inr ⟨_, vs.toArray, _, hk, rfl, rfl, rfl, by rw [List.size_toArray, lenV]; exact hl, by simpa using rv⟩) (fun b u z => ?_) (fun P hP => if_pos hP) fun z => absurd (if_neg hat) z
    · by_cases hb : b ∈ tb
      · exact .inr (.inr ⟨hb, if_pos hb⟩)
      · exact .inl (if_neg hb)
    · by_cases hb : b ∈ tb
      · have z' := (if_pos hb).symm.trans z
        cases z'
        exact tbOk hb
      · have z' := (if_neg hb).symm.trans z
        cases z'
  | none =>
    refine core (fun b => if b = a then some (.frz { cls := .type "list", data := .seq vs.toArray } (.lst (ns.map V.int))) else if b ∈ tb then some (.tbl #[]) else none) (fun b => ?_) (.inl (.inr ⟨{ cls := .type "list", data := .seq vs.toArray }, if_pos rfl⟩)) (fun b u z => ?_) (fun P hP => ?_) fun _ => hk
    · by_cases hb : b = a
      · exact .inr (.inl ⟨hb, _, _, if_pos hb⟩)
      · by_cases hb' : b ∈ tb
        · exact .inr (.inr ⟨hb', (if_neg hb).trans (if_pos hb')⟩)
        · exact .inl ((if_neg hb).trans (if_neg hb'))
    · by_cases hb : b = a
      · have z' := (if_pos hb).symm.trans z
        cases z'
        subst hb
        exact ⟨ha, by rw [List.length_map]; exact hl, vs, _, rv, ha⟩
      · have z1 := (if_neg hb).symm.trans z
        by_cases hb' : b ∈ tb
        · have z' := (if_pos hb').symm.trans z1
          cases z'
          exact tbOk hb'
        · have z' := (if_neg hb').symm.trans z1
          cases z'
    · have hne : P ≠ a := fun z => hat (z ▸ hP)
      exact (if_neg hne).trans (if_pos hP)
theorem walk_ofT {l : PySem.W.OpenLaw} {n k : Nat} {q : Program} {loose : List Str} {XP : (Str → Option Value) → Heap → Prop} {YP : World → Heap → Prop} {d : DefRec} {K : Params → PySem.W.Frag} {x : Str} {φ : FF}
    (hn : l.most = some n) (hn2 : n ≤ sizeLine) (hdf : d.params.defaults = []) (hr : Room k callerA)
    (hY : ∀ (w : World) (h : Heap), YP w h → (K w.params).In h)
    (F : ∀ (w : World) (mg mb : Str → Option Value) (mean : ExcName → Option Value) (lo : List Str) (fa : Addr) (h : Heap), (K w.params).In h → Top q lo mean mg mb h → mg d.name = some (.ref fa) →
      ∃ (fd : FuncData) (tb : List Addr), (∀ (s : Shared) (u : Value), BindsTo s fd ⟨[u], []⟩ [(x, u)]) ∧ (∀ P ∈ tb, ∃ c, PySem.W.CodeHd h c P ∧ h.get? P = some (PySem.W.tabObj #[])) ∧ PySem.W.noTabs (K w.params) = true ∧
        ∀ base : Heap, (K w.params).In base → base.Ns mainGlobals mg → FnOk l.prog w (K w.params) mg base CX0 k fa fd [x] (spD (K w.params) tb 1 φ))
    (hsp : ∀ (ns : List Int), ns.length ≤ n → ∃ μ', φ [.ro (ns.map .int)] [] = some (.bl true, μ')) :
    PySem.W.WalkO q loose XP YP l.row.toRowW d [] (fun f vs => PySem.call f vs) := by
  refine Att.attach_call hn hdf fun w s₀ s₁ mg mb fa o pm cd doc a vs ns G Y ho hd hcd hmg hobj hints hlen hg => ?_
  have KX := hY w _ Y
  obtain ⟨fd, tb, hb, htb, hnt, hF⟩ := F w mg mb _ _ fa _ KX G.T hmg
  obtain ⟨μ', hs⟩ := hsp ns hlen
  exact law_callT KX G.T.g G.T.b G.T.builtins G.T.nolimit G.T.bmain hg hobj hints (Nat.le_trans hlen hn2) hr htb hnt hF hb hs
end L3
set_option Elab.async false
set_option linter.all false
set_option maxRecDepth 100000
namespace L2
open PySem PySem.Spec PyProof.Rows
section
variable {X : Cx} {tg iter elt : Expr} {ifs : List Expr} {wi : TI} {g : TG} {tt : TT} {te : TE} {own cap : List Str} {capI : List Nat} {scope : Scope} {pos : Pos}
theorem ps_lc {i₀ : Nat} {x₀ : Str} {px₀ spos : Pos} (hN : X.N.Nodup) (hi₀ : X.N[i₀]? = some x₀) (hx₀ : Loc X.env.scope x₀) (hc : X.calm = true) (B : BlkScope X own cap capI scope) (hown : ∀ x ∈ own, (x, NameKind.free) ∉ scope.names) (hi : PI X tg iter wi)
    (hg : ∀ cs C fp s2 H2, PG (cxComp X own cap scope cs C fp s2 H2) tg g) (ht : ∀ cs C fp s2 H2, PIf (cxComp X own cap scope cs C fp s2 H2) ifs tt) (he : ∀ cs C fp s2 H2, PE (cxComp X own cap scope cs C fp s2 H2) elt te)
    (hs : ∀ x, foldedSetIterable iter X.env x = pure x := by intro _; rfl) (hsw : swapsWith (.ListComp elt [⟨tg, iter, ifs, 0⟩] scope pos) (some (.Name x₀ px₀)) spos.line X.env = pure true := by rfl)
    (hf₀ : X.fn x₀ = true ∨ X.env.scope.names.lookup x₀ = some .local := by first | exact .inl rfl | exact .inr rfl | assumption) :
    PS X (.Assign [.Name x₀ px₀] (.ListComp elt [⟨tg, iter, ifs, 0⟩] scope pos) spos) (tAsg (tLC own capI wi g tt te) (gName i₀)) := by
  intro pins s σ H D I h
  rw [exec_Assign_Name_used _ _ _ _ hsw]
  refine wpAny_bind (wpAny_standAt (wpAny_bind ?_))
  show wpAny _ X.A (do let _ ← comprehension (.ListComp elt [⟨tg, iter, ifs, 0⟩] scope pos) scope X.env _ (newList []) false (eval iter X.env) (some (assign (.Name x₀ px₀) X.env))) _ _ s
  refine wpAny_bind (wpAny_mono (wpAny_comprehension_free (use := some (assign (.Name x₀ px₀) X.env)) (Q := fun _ s' => SP X pins D .next s') (cl := cloOf X.env scope.names []) rfl hs (closureFor_eq (B.cells I)) B.kind (fun y hy e => lookup_of_mem B.nd (by rw [← e]; exact hy)) ?_) (fun _ s' hq => wpAny_pure (wpAny_pure hq)) fun _ _ e => e)
  refine thn (hi pins s σ H _ I h) fun v s1 h1 => thn h1 fun itv s2 h2 => ?_
  obtain ⟨it, fp, tn, J, H2, e, I2, T, st2, f2, W, ⟨m0, w0⟩, turn⟩ := h2
  subst e
  refine wpAny_newObj_type (wpAny_newEnv0 ?_)
  dsimp only
  -- the names of things: l the new list, C the frame, h1 the heap at the block's start
  generalize hl : s2.heap.objs.size = l
  generalize hh0 : s2.heap.push { cls := .type "list", dict := none, data := .seq ([] : List Value).toArray } = h0
  have hsz0 : h0.objs.size = l + 1 := by rw [← hh0, Heap.size_push, hl]
  generalize hC : h0.objs.size = C
  generalize hh1 : pushCells (h0.push { cls := .type (if (some X.env).isSome = true then "dict" else "frame"), data := .dict #[] }) scope.names = h1
  have hl0 : h0.get? l = some (accObj [] 0) := by rw [← hh0, ← hl]; exact Heap.get?_push_size _ rfl
  have hk0 : ∀ b o, s2.heap.get? b = some o → h0.get? b = some o := fun b o e => by rw [← hh0]; exact Heap.get?_push_of_some _ e
  have hlC : l ≠ C := by rw [← hC, hsz0]; exact Nat.ne_of_lt (Nat.lt_succ_self _)
  have hls : s2.heap.objs.size ≤ l := Nat.le_of_eq hl
  have hCs : s2.heap.objs.size ≤ C := by rw [← hC, hsz0, hl]; exact Nat.le_succ _
  have ho2 : ∀ b ∈ fp, ∃ o, s2.heap.get? b = some o := fun b hb => let ⟨o, e, _⟩ := T.obj 0 _ st2 b hb; ⟨o, e⟩
  have hfl : ∀ b ∈ fp, b ≠ l ∧ b ≠ C := fun b hb => let ⟨o, e⟩ := ho2 b hb; ⟨Nat.ne_of_lt (Nat.lt_of_lt_of_le (Heap.lt_size e) hls), Nat.ne_of_lt (Nat.lt_of_lt_of_le (Heap.lt_size e) hCs)⟩
  have hl1 : h1.get? l = some (accObj [] 0) := by rw [← hh1]; exact pushCells_keeps _ _ _ _ (Heap.get?_push_of_some _ hl0)
  have keep1 : ∀ b o, s2.heap.get? b = some o → h1.get? b = some o := fun b o e => by rw [← hh1]; exact pushCells_keeps _ _ _ _ (Heap.get?_push_of_some _ (hk0 b o e))
  generalize hcs : cellsFrom (C + 1) scope.names (cloOf X.env scope.names []) = cs
  have I0 : Inv (cxComp X own cap scope cs C fp s2 H2) [] (blkSt own σ capI) H2 { s2 with heap := h1 } := by
    have q := I2.comp (tk := s2.toks) B hown f2 ho2 hk0 (by rw [hsz0, hl]; exact Nat.le_succ _) hC.symm hh1.symm
    rw [hcs] at q
    exact q
  have henv : (newEnv scope C X.env.globals cs X.env.qual none .none (some X.env) builtinsNs) = { compEnvC scope cs C X.env with scope := scope } := rfl
  have henv2 : ({ newEnv scope C X.env.globals cs X.env.qual none .none (some X.env) builtinsNs with scope := relabel scope X.env } : Env) = (cxComp X own cap scope cs C fp s2 H2).env := rfl
  generalize hX' : cxComp X own cap scope cs C fp s2 H2 = X' at I0 henv2
  have eP : X'.prog = X.prog := by rw [← hX']; rfl
  have eW : X'.w = X.w := by rw [← hX']; rfl
  have eK : X'.K = X.K := by rw [← hX']; rfl
  have eA : X'.A = X.A := by rw [← hX']; rfl
  have eFs : X'.fs = frs X.stack := by rw [← hX']; rfl
  have eEx : X'.ex = fp := by rw [← hX']; rfl
  have eS : X'.s₀ = s2 := by rw [← hX']; rfl
  have eH : X'.H₀ = H2 := by rw [← hX']; rfl
  have eL : X'.env.locals = C := by rw [← hX']; rfl
  have eC : X'.calm = true := by rw [← hX']; exact hc
  have eX : X'.xe = fun _ _ => False := by rw [← hX']; rfl
  have ePn : X'.pn = [] := by rw [← hX']; rfl
  have hg' : PG X' tg g := by rw [← hX']; exact hg cs C fp s2 H2
  have ht' : PIf X' ifs tt := by rw [← hX']; exact ht cs C fp s2 H2
  have he' : PE X' elt te := by rw [← hX']; exact he cs C fp s2 H2
  -- the iterator's records, seen from the block; P: records pinned besides
  have stat : ∀ {H' : Hp} {P : List (Addr × Obj)}, X'.Ok → (∀ b ∈ fp, H' b = none) → (∀ p ∈ P, p.1 = l) → ∀ b ∈ fp, FpOk X' P H' b := fun {H' P} ok hn hP b hb => by
    refine ⟨hn b hb, ?_, ?_, .inl (by rw [eEx]; exact hb), ?_, fun p hp => ?_⟩
    · exact (ok.exf b (by rw [eEx]; exact hb)).1
    · exact ok.exfs b (by rw [eEx]; exact hb)
    · exact (ok.exf b (by rw [eEx]; exact hb)).2
    · rw [ePn, List.nil_append] at hp
      rw [hP p hp]
      exact Ne.symm (hfl b hb).1
  have lfs : X'.Ok → l ∉ X'.fs := fun ok hz => by
    rw [eFs] at hz
    exact (Inv.nofs (X := X) I2 hls) ((List.mem_cons.mp (I2.stkSub l hz)).elim (fun z => absurd I2.lt (by rw [← z, hl]; exact Nat.lt_irrefl _)) id)
  have pinL : ∀ {σ' : St} {H' : Hp} {s' : Shared} {us : List Value} {k : Nat}, Inv X' [] σ' H' s' → s'.heap.get? l = some (accObj us k) → H' l = none → Inv X' [(l, accObj us k)] σ' H' s' := fun {σ' H' s' us k} I' e n =>
    I'.pins_of fun p hp => by
      obtain rfl : p = (l, accObj us k) := by simpa using hp
      exact ⟨e, n, by rw [eL]; exact hlC, lfs I'.ok, fun v z => by cases z⟩
  have loop : ∀ s3 : Shared, s3 = { s2 with heap := h1 } → codeAny (model X.prog X.w) X.A (.compLoop (.ListComp elt [⟨tg, iter, ifs, 0⟩] scope pos) 0 (.ref it) (.ref l) X'.env) (compPost (model X.prog X.w) X.A X.xe (some (assign (.Name x₀ px₀) X.env)) (fun _ s' => SP X pins D .next s') (.ref l) C) s3 := by
    rintro s3 rfl
    refine comp_loop (E' := fun _ _ => False) (fun n s' => ∃ i ys us k H', Inv X' [] (blkSt own σ capI) H' s' ∧ tn i s'.heap ∧ (∀ b ∈ fp, H' b = none) ∧ W i n ys H' ∧ Vals ys us ∧ s'.heap.get? l = some (accObj us k) ∧ H' l = none ∧ ys.length ≤ sizeLine) (fun _ _ z => z.elim) ?_ m0
      ⟨0, [], [], 0, H2, I0, T.keep _ _ _ st2 fun b _ o e => keep1 b o e, fun b hb => (f2 b hb).1, w0, .nil, hl1, I2.hok.fresh hls, Nat.zero_le _⟩
    rintro n s3 ⟨i, ys, us, k, H3, I3, st3, fr3, w3, v3, o3, n3, z3⟩
    have I3p := pinL I3 o3 n3
    have P1 : ∀ p ∈ [(l, accObj us k)], p.1 = l := fun p hp => by
      obtain rfl : p = (l, accObj us k) := by simpa using hp
      rfl
    rcases turn i n ys H3 w3 with ⟨stop, qn⟩ | ⟨go, hlt, step⟩
    · have q := T.done X' eP eW eK eC i _ s3 _ H3 (fun _ _ => False) I3p (stat I3.ok fr3 P1) st3 stop
      rw [eA] at q
      refine wpAny_mono q (fun r s4 ⟨hr, I4⟩ => ?_) fun _ _ z => z
      subst hr
      have pl := I4.pin (l, accObj us k) (by simp)
      obtain ⟨m4, hn4, _⟩ := I4.loc
      rw [eL] at hn4
      have fC : H3 C = none := by have := I4.free; rw [eL] at this; exact this
      have IE : Inv X pins σ (upd H3 l (.lst ys)) s4 := by
        have := I2.compEnd f2 eP eW eFs eEx eS eH eL I4 hls hlC hCs pl.1 n3 v3 z3 (Heap.SameBut.refl C s4.heap)
        exact this
      show wpAny _ X.A (assign (.Name x₀ px₀) X.env (.ref l)) _ _ s4
      refine wpAny_assign_Name (store_ok2 IE hN hi₀ hx₀ (v := .ref l) rfl (fun s5 I5 ⟨a, sa, ha⟩ => ?_) hf₀)
      have hnL : C ≠ X.env.locals := Nat.ne_of_gt (Nat.lt_of_lt_of_le I2.lt hCs)
      have hnc : ∀ y c, X.env.cells.lookup y = some c → c ≠ C := fun y c e => by
        obtain ⟨v, q⟩ := I2.cell y c e
        exact Nat.ne_of_lt (Nat.lt_of_lt_of_le q.lt hCs)
      have haC : C ≠ a := by
        rcases ha with q | q
        · rw [q]; exact hnL
        · exact Ne.symm (hnc _ _ q)
      obtain ⟨o4, es4, ep4, ho4, r4⟩ := hn4
      refine ⟨m4, ⟨o4, es4, ep4, (sa.2 C haC).trans ho4, r4⟩, fun h' sb => ⟨_, _, ?_, qn l n3⟩⟩
      refine I5.turned (t' := s5.toks) (it := C) (fun b o hb e => (sb.2 b hb).trans e) (by rw [upd_ne (Ne.symm hlC)]; exact fC) hnL (.inr (Nat.le_trans I2.sz hCs)) hnc fun p hp => ?_
      exact Nat.ne_of_lt (Nat.lt_of_lt_of_le (Heap.lt_size (I2.pin p hp).1) hCs)
    · have q := T.item X' eP eW eK eC i _ s3 _ H3 (fun _ _ => False) I3p (stat I3.ok fr3 P1) st3 go
      rw [eA] at q
      refine wpAny_mono q (fun r s4 ⟨u, hr, h4⟩ => ?_) fun _ _ z => z
      subst hr
      refine wpAny_mono h4 (fun _ s5 ⟨x, H5, I5, r5, y5, st5, fr5⟩ => ?_) fun _ _ z => z
      have I5' := I5.pinned (stat I5.ok fr5 P1) (T.obj _ _ st5)
      have a1 := hg' _ s5 _ H5 x u _ I5' r5 (step x H5 y5)
      rw [eP, eW, eA, eX] at a1
      refine wpAny_mono a1 (fun _ s6 ⟨σ6, H6, I6, ft6, q6⟩ => ?_) fun _ _ z => z
      have a2 := ht' _ s6 σ6 H6 _ I6 q6
      rw [eP, eW, eA, eX] at a2
      refine wpAny_mono a2 (fun ok s7 ⟨H7, I7, q7⟩ => ?_) fun _ _ z => z
      -- behind a turn: the iterator stands, the list is pinned
      have back : ∀ {H8 : Hp} {s8 : Shared}, Inv X' ([(l, accObj us k)] ++ pinsAt fp s5.heap) σ6 H8 s8 → Inv X' [] (blkSt own σ capI) H8 s8 ∧ tn (i + 1) s8.heap ∧ (∀ b ∈ fp, H8 b = none) ∧ s8.heap.get? l = some (accObj us k) ∧ H8 l = none := fun {H8 s8} I8 => by
        have pl := I8.pin (l, accObj us k) (by simp)
        refine ⟨(I8.weak ft6.1.symm ft6.2).pins_of fun p hp => absurd hp (by simp), T.keep _ _ _ st5 fun b hb o e => ?_, fun b hb => ?_, pl.1, pl.2.1⟩
        · exact (I8.pin (b, o) (List.mem_append_right _ (List.mem_append_right _ (mem_pinsAt hb e)))).1
        · obtain ⟨o, e, d⟩ := T.obj _ _ st5 b hb
          exact (I8.pin (b, o) (List.mem_append_right _ (List.mem_append_right _ (mem_pinsAt hb e)))).2.1
      cases ok with
      | false =>
        rw [if_neg Bool.false_ne_true]
        rw [if_neg Bool.false_ne_true] at q7
        obtain ⟨m', hm, w7⟩ := q7
        obtain ⟨I8, st8, fr8, o8, n8⟩ := back I7
        exact ⟨m', hm, i + 1, ys, us, k, H7, I8, st8, fr8, w7, v3, o8, n8, z3⟩
      | true =>
        rw [if_pos rfl]
        rw [if_pos rfl] at q7
        have a3 := he' _ s7 σ6 H7 _ I7 q7
        rw [eP, eW, eA, eX] at a3
        refine wpAny_mono a3 (fun yv s8 ⟨y, H8, I8', r8, m', hm, w8⟩ => ?_) fun _ _ z => z
        obtain ⟨I8, st8, fr8, o8, n8⟩ := back I8'
        refine append_at (hsz := by show us.toArray.size ≤ sizeLine; rw [List.size_toArray, ← v3.length]; exact z3) o8 fun h9 sb9 o9 => ?_
        have I9 : Inv X' [] (blkSt own σ capI) H8 { s8 with heap := h9 } := I8.turned (t' := s8.toks) (fun b o hb e => (sb9.2 b hb).trans e) n8 (by rw [eL]; exact hlC) (.inr (by rw [eS]; exact hls)) (fun x c e => by
          rintro rfl
          obtain ⟨v', ho', hd', hd''⟩ := I8.cell x c e
          rw [o8] at hd'
          cases hd'
          cases hd'') (fun p hp => by rw [ePn] at hp; exact absurd hp (by simp))
        refine ⟨m', hm, i + 1, ys ++ [y], us ++ [yv], k + 1, H8, I9, T.keep _ _ _ st8 fun b hb o e => (sb9.2 b (hfl b hb).1).trans e, fr8, w8, v3.append (.cons r8 .nil), ?_, n8, ?_⟩
        · rw [o9]
          simp [accObj]
        · rw [List.length_append]
          exact hlt
  have T0 := T.keep 0 s2.heap h1 st2 fun b _ o e => keep1 b o e
  rw [henv2]
  exact codeAny_compStart_list (loop _ rfl) (T.self X.A 0 _ _ _ T0 (loop _ rfl))
end
end L2
set_option Elab.async false
set_option linter.all false
set_option maxRecDepth 100000
namespace L3
open PySem PySem.Spec PyProof.Rows L2
section
variable {X : Cx} {tb : List Addr} {e tg iter elt : Expr} {f : EF} {pos : Pos}
theorem lc_read {fi : IF} {h : GF} {tt : TF} {fe : EF} {own : List Str} {capI ts : List Nat} {σ : SV} {H : Hp} {Q : VK} (hts : ∀ i ∈ ts, i < own.length) (hx : tDN X.K tb (lLC own capI fi h tt fe) σ H Q) :
    tLC own capI (tDI X.K tb fi) (tDG X.K tb ts h) (tDT X.K tb tt) (tD X.K tb fe) σ H Q := by
    obtain ⟨W, δ, ds, μ', e, ok, hd, hf, k⟩ := hx
    unfold lLC at hf
    obtain ⟨⟨S, μ1⟩, e1, e2⟩ := Option.bind_eq_some_iff.mp hf
    split at e2
    · rename_i hz
      refine ⟨W, δ, S, μ1, e, ok, hd, e1, fun J W1 ok1 l1 m1 io => ?_⟩
      refine ⟨fun i m ys H2 => m = S.items.length - i ∧ i ≤ S.items.length ∧ ys.length ≤ i ∧ ∃ W2 zs rs, W2.H = H2 ∧ WOk X.K tb W2 ∧ Le tb W1 W2 ∧ DenL X.K tb W2 zs ys ∧ lcL S h tt fe (blkE own δ capI) (S.items.drop i) W2.mu = some (rs, μ') ∧ zs ++ rs = ds,
        ⟨S.items.length, rfl, Nat.zero_le _, Nat.zero_le _, W1, [], ds, rfl, ok1, Le.refl _, DenFL.nil, by rw [m1]; exact e2, rfl⟩, ?_⟩
      rintro i m ys H2 ⟨hm, hi', hy, W2, zs, rs, rfl, ok2, l2, d2, hn, hzs⟩
      by_cases hlt : i < S.items.length
      · right
        have hdr : S.items.drop i = S.items[i] :: S.items.drop (i + 1) := List.drop_eq_getElem_cons hlt
        rw [hdr] at hn
        unfold lcL at hn
        split at hn
        · rename_i hok
          obtain ⟨δ3, e3, hn⟩ := Option.bind_eq_some_iff.mp hn
          obtain ⟨⟨kk, μ4⟩, e4, hn⟩ := Option.bind_eq_some_iff.mp hn
          obtain ⟨go, yl⟩ := io.go i W2 S.items[i] l2 ok2 hok (by simp [hlt])
          refine ⟨go, Nat.lt_of_lt_of_le (Nat.lt_of_le_of_lt hy hlt) hz, fun x H' y => ?_⟩
          obtain ⟨W3, rfl, ok3, l3, m3, d3⟩ := yl x H' y
          refine ⟨W3, blkE own δ capI, S.items[i], δ3, rfl, ok3, (blk_den hd).mono' ((l1.trans l2).trans l3), d3, (by rw [m3]; exact e3), fun σ3 d3' hl3 ht3 => ⟨fits_of hts hl3 ht3, ?_⟩⟩
          refine ⟨W3, δ3, kk, μ4, rfl, ok3, d3', (by rw [m3]; exact e4), fun W4 ok4 l4 m4 => ?_⟩
          cases kk with
          | false =>
            rw [if_neg Bool.false_ne_true]
            exact ⟨S.items.length - (i + 1), by omega, rfl, hlt, by omega, W4, zs, rs, rfl, ok4, (l2.trans l3).trans l4, DenL.mono' d2 (l3.trans l4), by rw [m4]; exact hn, hzs⟩
          | true =>
            rw [if_pos rfl]
            have hn' : ((fe δ3 μ4).bind fun y => (lcL S h tt fe (blkE own δ capI) (S.items.drop (i + 1)) y.2).bind fun ys => some (y.1 :: ys.1, ys.2)) = some (rs, μ') := hn
            obtain ⟨⟨yd, μ5⟩, e5, hn'⟩ := Option.bind_eq_some_iff.mp hn'
            obtain ⟨⟨rs', μ6⟩, e6, e7⟩ := Option.bind_eq_some_iff.mp hn'
            cases e7
            refine ⟨W4, δ3, yd, μ5, rfl, ok4, d3'.mono' l4, (by rw [m4]; exact e5), fun v W5 ok5 l5 m5 d5 => ?_⟩
            refine ⟨S.items.length - (i + 1), by omega, rfl, hlt, by rw [List.length_append]; simp; omega, W5, zs ++ [yd], rs', rfl, ok5, ((l2.trans l3).trans l4).trans l5, DenFL.append (DenL.mono' d2 ((l3.trans l4).trans l5)) (DenFL.cons d5 DenFL.nil), by rw [m5]; exact e6, by rw [List.append_assoc]; exact hzs⟩
        · cases hn
      · left
        have hdr : S.items.drop i = [] := List.drop_of_length_le (by omega)
        rw [hdr] at hn
        unfold lcL at hn
        split at hn
        · rename_i hok
          cases hn
          rw [List.append_nil] at hzs
          subst hzs
          exact ⟨io.stop i W2 l2 ok2 hok (by omega), fun l hl => k l ys W2 ok2 (l1.trans l2) rfl hl d2⟩
        · cases hn
    · cases e2
theorem psd_lcN {i : Nat} {x : Str} {px spos : Pos} {ifs : List Expr} {fi : IF} {h : GF} {tt : TF} {fe : EF} {own cap : List Str} {capI ts : List Nat} {scope : Scope} (hN : X.N.Nodup) (hc : X.calm = true) (B : BlkScope X own cap capI scope) (hown : ∀ x ∈ own, (x, NameKind.free) ∉ scope.names) (hi : PID X tb tg iter fi)
    (hg : ∀ cs C fp s2 H2, PGD (cxComp X own cap scope cs C fp s2 H2) tb tg ts h) (ht : ∀ cs C fp s2 H2, PIfD (cxComp X own cap scope cs C fp s2 H2) tb ifs tt) (he : ∀ cs C fp s2 H2, PD (cxComp X own cap scope cs C fp s2 H2) tb elt fe)
    (hts : ∀ i ∈ ts, i < own.length := by decide) (hs : ∀ x, foldedSetIterable iter X.env x = pure x := by intro _; rfl) (hi₀ : X.N[i]? = some x := by rfl) (hx₀ : Loc X.env.scope x := by first | exact Or.inl rfl | exact Or.inr rfl)
    (hsw : swapsWith (.ListComp elt [⟨tg, iter, ifs, 0⟩] scope pos) (some (.Name x px)) spos.line X.env = pure true := by rfl)
    (hf₀ : X.fn x = true ∨ X.env.scope.names.lookup x = some .local := by first | exact .inl rfl | exact .inr rfl | assumption) :
    PSD X tb (.Assign [.Name x px] (.ListComp elt [⟨tg, iter, ifs, 0⟩] scope pos) spos) (sSet i (mNew (lLC own capI fi h tt fe))) :=
  ps_le (ps_lc (g := tDG X.K tb ts h) (tt := tDT X.K tb tt) (te := tD X.K tb fe) hN hi₀ hx₀ hc B hown hi hg ht he hs hsw hf₀) fun E σ H ⟨W, δ, fl, δ', μ', e, ok, hd, hf, k⟩ => by
    unfold sSet at hf
    obtain ⟨⟨d, μ1⟩, e1, e2⟩ := Option.bind_eq_some_iff.mp hf
    cases e2
    unfold mNew at e1
    obtain ⟨⟨ds, μ2⟩, e3, e4⟩ := Option.bind_eq_some_iff.mp e1
    cases e4
    refine lc_read hts ⟨W, δ, ds, μ2, e, ok, hd, e3, fun p vs W1 ok1 l1 m1 hp r => ?_⟩
    obtain ⟨ok2, l2, d2⟩ := ok1.new hp r
    exact k _ _ ok2 (l1.trans l2) (by show W1.mu ++ [some ds] = _; rw [m1]) ((hd.mono' (l1.trans l2)).set (by rw [← m1]; exact d2))
end
theorem fnok_of {P : Program} {w : World} {K : PySem.W.Frag} {mg : Str → Option Value} {base : Heap} {tb : List Addr} {x qual : Str} {st : Stmt} {f : Addr} {fd : FuncData} {T : Addr} {N ps : List Str} {n k : Nat} {g : SF} (F : FunP K x qual st f fd T) (KB : K.In base) (S : FnScope N ps (defScope st)) (hps : ps.length = n)
    (hbody : ∀ (c : Addr) (A : Around) (outer : List Env) (s : Shared) (H : Hp) (E : XK), PySem.W.CodeHd base c T → Room k (A.deeper (envOfC qual (defScope st) s.heap.objs.size f (.ref c))) →
      PSsD (cxOf CX0 P w K mg base N qual (defScope st) f (.ref c) A outer s H E).nox tb (defBody st) g) : FnOk P w K mg base CX0 (k + 1) f fd ps (spD K tb n (bodyF N.length g)) := by
  obtain ⟨oc, od, kV, doc, pm, an, c, ct, osl, rfl, lk, hcd, hhd⟩ := F.ex
  refine fn_of lk hcd S (fun vs H Q E ⟨W, ds, d, μ', e, ok, dl, hl, _⟩ => by rw [← DenFL.length dl, hl, hps]) fun A outer s H vs Q E hr hsp => ?_
  obtain ⟨W, ds, d, μ', e, ok, dl, hl, hf, k⟩ := hsp
  refine ⟨_, (hbody c A outer s H E (hhd base KB) hr).nox, ?_⟩
  unfold bodyF at hf
  obtain ⟨⟨fl, δ', μ1⟩, e1, e2⟩ := Option.bind_eq_some_iff.mp hf
  refine ⟨W, _, fl, δ', μ1, e, ok, ?_, e1, fun σ' W' ok' l' m' d' => ?_⟩
  · have hlen := DenFL.length dl
    refine ⟨by unfold L2.start; simp [hlen], fun i y q => ?_⟩
    unfold L2.start
    by_cases hi : i < ds.length
    · rw [List.getElem?_append_left (by simpa using hi), List.getElem?_map] at q
      cases q2 : ds[i]? with
      | none => rw [q2] at q; cases q
      | some z =>
        rw [q2] at q
        cases q
        obtain ⟨v, ev, dv⟩ := DenFL.get dl q2
        exact ⟨v, by rw [List.getElem?_append_left (by rw [List.length_map, ← hlen]; exact hi), List.getElem?_map, ev]; rfl, dv⟩
    · rw [List.getElem?_append_right (by simpa using hi), List.getElem?_replicate] at q
      split at q <;> cases q
  · cases fl with
    | nx => cases e2; exact k .non W' ok' l' m' den_non
    | rt d0 => cases e2; exact fun v dv => k v W' ok' l' m' dv
    | bk => cases e2
    | ct => cases e2
def okCode (vs : Array Value) : Bool := (match vs.getD 18 .none with | .str _ _ => true | _ => false) && (match vs.getD 7 .none with | .int _ _ => true | _ => false) &&
  (match vs.getD 9 .none with | .bool _ => true | _ => false) && (match vs.getD 10 .none with | .int _ _ => true | _ => false)
theorem codeHd_mk {K : PySem.W.Frag} {c P : Addr} {dd : Option Addr} {vs : Array Value} {sl : Array (Option Value)} (lc : K.lookup c = some ⟨.type "code", dd, .fields vs, sl⟩) (p : vs[11]? = some (.ref P)) (q : okCode vs = true) (ne : (c != P) = true) : PySem.W.codeHdIn K c P = true := by
  unfold PySem.W.codeHdIn
  rw [lc]
  unfold okCode at q
  simp only [Bool.and_eq_true] at q ⊢
  obtain ⟨⟨⟨q1, q2⟩, q3⟩, q4⟩ := q
  refine ⟨⟨⟨⟨⟨?_, q1⟩, q2⟩, q3⟩, q4⟩, ne⟩
  rw [p]
  exact beq_self_eq_true P
theorem funp_mk {K : PySem.W.Frag} {x qual : Str} {st : Stmt} {f c P : Addr} {oc : Value} {od an : Option Addr} {osl : Array (Option Value)} {kV doc pm ct : Value} {dd : Option Addr} {vs : Array Value} {sl : Array (Option Value)}
    (l : K.lookup f = some ⟨oc, od, .func (PySem.W.fnOf x qual (defArgs st) (defBody st) (defScope st) .none kV doc pm an (.ref c) ct), osl⟩) (hc : PySem.W.codeIn K (.ref c) qual = true) (k : PySem.W.keepIn K (.ref f) = true)
    (lc : K.lookup c = some ⟨.type "code", dd, .fields vs, sl⟩) (p : vs[11]? = some (.ref P)) (q : okCode vs = true) (ne : (c != P) = true) : FunP K x qual st f (PySem.W.fnOf x qual (defArgs st) (defBody st) (defScope st) .none kV doc pm an (.ref c) ct) P :=
  ⟨⟨oc, od, kV, doc, pm, an, c, ct, osl, rfl, l, hc, fun h X => PySem.W.codeHd_of_K X (codeHd_mk lc p q ne)⟩, k⟩
theorem tab_mk {K : PySem.W.Frag} {x : Str} {f c P : Addr} {oc oc' : Value} {od dd : Option Addr} {fd : FuncData} {osl sl : Array (Option Value)} {vs : Array Value} (a : PySem.W.nsIn K mainGlobals x = some (some (.ref f))) (l : K.lookup f = some ⟨oc, od, .func fd, osl⟩) (hc : fd.code = .ref c)
    (lc : K.lookup c = some ⟨oc', dd, .fields vs, sl⟩) (p : vs[11]? = some (.ref P)) : PySem.W.tabIn K x = some (c, P) := by
  unfold PySem.W.tabIn
  rw [a]
  simp only [l, hc, lc, p]
theorem tab_at {q : Program} {lo : List Str} {mean : ExcName → Option Value} {mg mb : Str → Option Value} {h : Heap} {K : PySem.W.Frag} {x : Str} {c P : Addr} (T : Top q lo mean mg mb h) (X : K.In h) (hr : ((recsOf q).find? (fun e => e.name == x)).isSome = true) (ht : PySem.W.tabIn K x = some (c, P)) : PySem.W.CodeHd h c P ∧ h.get? P = some (PySem.W.tabObj #[]) := by
  obtain ⟨d, hd⟩ := Option.isSome_iff_exists.mp hr
  exact PySem.W.tab_of T X hd ht
end L3
set_option Elab.async false
set_option linter.all false
set_option maxRecDepth 100000
namespace L3
open PySem PySem.Spec PyProof.Rows L2
abbrev PF := En → Mu → Option (Option Int × Mu)
def tDO (K : PySem.W.Frag) (tb : List Addr) (f : PF) : TO := fun σ H Q => ∃ W δ i μ', W.H = H ∧ WOk K tb W ∧ DenE K tb W δ σ ∧ f δ W.mu = some (i, μ') ∧ ∀ W', WOk K tb W' → Le tb W W' → W'.mu = μ' → Q i W'.H
def POD (X : Cx) (tb : List Addr) (e : Option Expr) (f : PF) : Prop := PO X e (tDO X.K tb f)
theorem po_le {X : Cx} {e : Option Expr} {t t' : TO} (h : PO X e t) (k : ∀ σ H Q, t' σ H Q → t σ H Q) : PO X e t' := fun pins s σ H Q I hq => h pins s σ H Q I (k σ H Q hq)
def fNo : PF := fun _ μ => some (none, μ)
def fAt (f : EF) : PF := fun δ μ => (f δ μ).bind fun r => match r.1 with
  | .int i => some (some i, r.2)
  | _ => none
def cutD (ds : List D) (lo hi : Option Int) : List D := (ds.drop (HT.sIx ds.length 0 lo)).take (HT.sIx ds.length ds.length hi - HT.sIx ds.length 0 lo)
def oSl (x : D) (lo hi : Option Int) (μ : Mu) : Option (D × Mu) := match x with
  | .tup ds => if HT.sIx ds.length 0 lo = 0 ∧ HT.sIx ds.length ds.length hi = ds.length then none else some (.tup (cutD ds lo hi), μ)
  | .lst ds => some (.lst (cutD ds lo hi), μ)
  | .ro ds => some (.lst (cutD ds lo hi), μ)
  | _ => none
def mSl (f : EF) (fl fh : PF) : EF := fun δ μ => (f δ μ).bind fun r => (fl δ r.2).bind fun l => (fh δ l.2).bind fun u => oSl r.1 l.1 u.1 u.2
section
variable {X : Cx} {tb : List Addr} {e : Expr} {lo hi : Option Expr} {f : EF} {fl fh : PF} {pos p2 : Pos}
theorem pod_none : POD X tb none fNo := po_le po_none fun σ H Q ⟨W, δ, i, μ', e, ok, hd, hf, h⟩ => by
  subst e; cases hf
  exact h W ok (Le.refl _) rfl
theorem pod_some (h : PD X tb e f) : POD X tb (some e) (fAt f) := po_le (po_some h) fun σ H Q ⟨W, δ, i, μ', e, ok, hd, hf, h⟩ => by
  unfold fAt at hf
  obtain ⟨⟨x, μ1⟩, e1, e2⟩ := Option.bind_eq_some_iff.mp hf
  cases x with
  | int j =>
    cases e2
    exact ⟨W, δ, _, _, e, ok, hd, e1, fun v W1 ok1 l1 m1 d1 => ⟨j, of_int d1, h W1 ok1 l1 m1⟩⟩
  | _ => cases e2
theorem cut_den {K : PySem.W.Frag} {W : Wd} {ds : List D} {vs : List V} {l h : Option Int} (r : DenL K tb W ds vs) : DenL K tb W (cutD ds l h) (cutV vs l h) := by
  unfold cutD cutV
  rw [← DenFL.length r]
  exact DenFL.take _ (DenFL.drop _ r)
theorem pd_slice (he : PD X tb e f) (hl : POD X tb lo fl) (hh : POD X tb hi fh) : PD X tb (.Subscript e (.Slice lo hi none p2) pos) (mSl f fl fh) :=
  pe_le (pe_slice (sl_tup.or sl_list) he hl hh) fun σ H Q ⟨W, δ, d, μ', e, ok, hd, hf, h⟩ => by
    unfold mSl at hf
    obtain ⟨⟨x, μ1⟩, e1, hf⟩ := Option.bind_eq_some_iff.mp hf
    obtain ⟨⟨l, μ2⟩, e2, hf⟩ := Option.bind_eq_some_iff.mp hf
    obtain ⟨⟨u, μ3⟩, e3, hf⟩ := Option.bind_eq_some_iff.mp hf
    refine ⟨W, δ, x, μ1, e, ok, hd, e1, fun v W1 ok1 l1 m1 d1 => ⟨W1, δ, l, μ2, rfl, ok1, hd.mono' l1, (by rw [m1]; exact e2), fun W2 ok2 l2 m2 => ⟨W2, δ, u, μ3, rfl, ok2, hd.mono' (l1.trans l2), (by rw [m2]; exact e3), fun W3 ok3 l3 m3 => ?_⟩⟩⟩
    have d3 := Den.mono' d1 (l2.trans l3)
    have k : ∀ v W', WOk X.K tb W' → Le tb W3 W' → W'.mu = W3.mu → Den X.K tb W' d v → W3.mu = μ' → Q v W'.H := fun v W' ok' l' m' d' q => h v W' ok' (((l1.trans l2).trans l3).trans l') (m'.trans q) d'
    cases x with
    | tup ds =>
      obtain ⟨a, xs, rfl, q, r⟩ := of_tup d3
      have hf' : (if HT.sIx ds.length 0 l = 0 ∧ HT.sIx ds.length ds.length u = ds.length then none else some (D.tup (cutD ds l u), μ3)) = some (d, μ') := hf
      split at hf'
      · cases hf'
      · rename_i hw
        cases hf'
        exact .inl ⟨a, xs, rfl, SqT.fz q, by rw [← DenFL.length r]; exact hw, fun p hp => put_tup ok3 (fun v W' ok' l' m' d' => k v W' ok' l' m' d' m3) (cut_den r) hp⟩
    | lst ds =>
      obtain ⟨a, xs, rfl, q, r⟩ := of_lst d3
      cases hf
      exact .inr ⟨a, xs, rfl, SqL.fz q, fun p hp => put_lst ok3 (fun v W' ok' l' m' d' => k v W' ok' l' m' d' m3) (cut_den r) hp⟩
    | ro ds =>
      obtain ⟨a, xs, rfl, q, r⟩ := of_ro d3
      cases hf
      exact .inr ⟨a, xs, rfl, SqL.fz q, fun p hp => put_lst ok3 (fun v W' ok' l' m' d' => k v W' ok' l' m' d' m3) (cut_den r) hp⟩
    | _ => cases hf
end
end L3
set_option Elab.async false
set_option linter.all false
set_option maxRecDepth 100000
namespace L3
open PySem PySem.Spec PyProof.Rows L2
def gK (n : Nat) (π : List Nat) {α : Type} (z : α) (us ws : List α) : List α := if ws.length = n then us ++ π.map (fun i => ws.getD i z) else []
structure FIK (P : Program) (w : World) (K : PySem.W.Frag) (mg : Str → Option Value) (base : Heap) (tb : List Addr) (x : Str) (ks : List Str) (π : List Nat) (n k : Nat) (φ : FF) : Prop where
  is : ∃ f fd ps, FnOk P w K mg base CX0 k f fd ps (spD K tb n φ) ∧ mg x = some (.ref f) ∧ PySem.W.keepIn K (.ref f) = true ∧ KBinds K fd ps ks (gK ks.length π .none) (gK ks.length π .non)
theorem FIK.more {P : Program} {w : World} {K : PySem.W.Frag} {mg : Str → Option Value} {base : Heap} {tb : List Addr} {x : Str} {ks : List Str} {π : List Nat} {n k k' : Nat} {φ : FF} (F : FIK P w K mg base tb x ks π n k φ) (h : k ≤ k') : FIK P w K mg base tb x ks π n k' φ := by
  obtain ⟨f, fd, ps, h1, h2⟩ := F.is
  exact ⟨f, fd, ps, h1.mono h, h2⟩
section
variable {X : Cx} {tb : List Addr} {e : Expr} {es : List Expr} {f : EF} {fs fk : AF} {x : Str} {n k : Nat} {φ : FF} {p pos kpos : Pos} {kws : List Keyword} {ks : List Str} {π : List Nat} {nm : Option Str}
def MK (fs fk : AF) (π : List Nat) (φ : FF) : EF := fun δ μ => (fs δ μ).bind fun r => (fk δ r.2).bind fun q => φ (r.1 ++ π.map fun i => q.1.getD i .non) q.2
end
def isNonD : D → Bool
  | .non => true
  | _ => false
def oIs : O2
  | .bl b, .bl c, μ => some (.bl (b == c), μ)
  | x, .non, μ => some (.bl (isNonD x), μ)
  | _, _, _ => none
def oIsNot : O2
  | .bl b, .bl c, μ => some (.bl (b != c), μ)
  | x, .non, μ => some (.bl (!isNonD x), μ)
  | _, _, _ => none
end L3
set_option Elab.async false
set_option linter.all false
set_option maxRecDepth 100000
namespace L2
open PySem PySem.Spec PyProof.Rows
section
variable {κ : Type} [DecidableEq κ]
def valV (kvs : List (κ × V)) (k : κ) : Option V := (kvs.find? fun kv => decide (kv.1 = k)).map (·.2)
def putK (kvs : List (κ × V)) (k : κ) (v : V) : List (κ × V) :=
  if (kvs.any fun kv => decide (kv.1 = k)) = true then kvs.map (fun kv => if kv.1 = k then (kv.1, v) else kv) else kvs ++ [(k, v)]
def dropK (kvs : List (κ × V)) (k : κ) : List (κ × V) := kvs.filter fun kv => decide (kv.1 ≠ k)
theorem valV_pos {p : κ × V} {r : List (κ × V)} {k : κ} (e : p.1 = k) : valV (p :: r) k = some p.2 := by simp [valV, List.find?_cons, e]
theorem valV_neg {p : κ × V} {r : List (κ × V)} {k : κ} (e : ¬ p.1 = k) : valV (p :: r) k = valV r k := by simp [valV, List.find?_cons, e]
theorem valV_any (k : κ) : ∀ kvs : List (κ × V), (kvs.any fun kv => decide (kv.1 = k)) = (valV kvs k).isSome
  | [] => rfl
  | p :: r => by
    rw [List.any_cons]
    by_cases e : p.1 = k
    · simp only [valV_pos e, decide_eq_true e, Bool.true_or, Option.isSome_some]
    · rw [valV_neg e, decide_eq_false e, Bool.false_or]; exact valV_any k r
theorem RelO.isSome_eq {o : Option V} {u : Option Value} (r : RelO o u) : o.isSome = u.isSome := by
  cases o with
  | none => cases u with
    | none => rfl
    | some _ => exact (show False from r).elim
  | some _ => cases u with
    | none => exact (show False from r).elim
    | some _ => rfl
theorem RelO.getD {o : Option V} {u : Option Value} {d : V} {d' : Value} (r : RelO o u) (rd : RelV d d') : RelV (o.getD d) (u.getD d') := by
  cases o with
  | none => cases u with
    | none => exact rd
    | some _ => exact (show False from r).elim
  | some _ => cases u with
    | none => exact (show False from r).elim
    | some _ => exact r
theorem KV.val {kvs : List (κ × V)} {vs : List (κ × Value)} (r : KV kvs vs) (k : κ) : RelO (valV kvs k) (valueAt vs k) := by
  unfold KV at r
  induction r with
  | nil => exact True.intro
  | @cons p q ps qs h t ih =>
    obtain ⟨h1, h2⟩ := h
    by_cases e : p.1 = k
    · have e' : q.1 = k := h1.symm.trans e
      have b : valueAt (q :: qs) k = some q.2 := by simp [valueAt, List.find?_cons, e']
      rw [valV_pos e, b]; exact h2
    · have e' : ¬ q.1 = k := fun z => e (h1.trans z)
      have b : valueAt (q :: qs) k = valueAt qs k := by simp [valueAt, List.find?_cons, e']
      rw [valV_neg e, b]; exact ih
theorem KV.any {kvs : List (κ × V)} {vs : List (κ × Value)} (r : KV kvs vs) (k : κ) : (kvs.any fun kv => decide (kv.1 = k)) = vs.any fun kv => decide (kv.1 = k) := by
  unfold KV at r
  induction r with
  | nil => rfl
  | cons h t ih => rw [List.any_cons, List.any_cons, ih, h.1]
theorem KV.repl {kvs : List (κ × V)} {vs : List (κ × Value)} (r : KV kvs vs) (k : κ) {y : V} {u : Value} (ry : RelV y u) :
    KV (kvs.map fun kv => if kv.1 = k then (kv.1, y) else kv) (vs.map fun kv => if kv.1 = k then (kv.1, u) else kv) := by
  unfold KV at r ⊢
  induction r with
  | nil => exact .nil
  | @cons p q ps qs h t ih =>
    rw [List.map_cons, List.map_cons]
    refine .cons ?_ ih
    obtain ⟨h1, h2⟩ := h
    by_cases e : p.1 = k
    · rw [if_pos e, if_pos (h1.symm.trans e)]; exact ⟨h1, ry⟩
    · rw [if_neg e, if_neg (fun z => e (h1.trans z))]; exact ⟨h1, h2⟩
theorem KV.put {kvs : List (κ × V)} {vs : List (κ × Value)} (r : KV kvs vs) (k : κ) {y : V} {u : Value} (ry : RelV y u) : KV (putK kvs k y) (stored vs k u) := by
  unfold putK stored
  rw [r.any k]
  by_cases e : (vs.any fun kv => decide (kv.1 = k)) = true
  · rw [if_pos e, if_pos e]; exact r.repl k ry
  · rw [if_neg e, if_neg e]; exact Paired.snoc r ⟨rfl, ry⟩
theorem KV.drop {kvs : List (κ × V)} {vs : List (κ × Value)} (r : KV kvs vs) (k : κ) : KV (dropK kvs k) (without vs k) := by
  unfold KV at r ⊢
  unfold dropK without
  induction r with
  | nil => exact .nil
  | @cons p q ps qs h t ih =>
    obtain ⟨h1, h2⟩ := h
    rw [List.filter_cons, List.filter_cons]
    by_cases e : p.1 = k
    · have a : ¬ decide (p.1 ≠ k) = true := by simp [e]
      have b : ¬ decide (q.1 ≠ k) = true := by simp [h1.symm.trans e]
      rw [if_neg a, if_neg b]; exact ih
    · have e' : ¬ q.1 = k := fun z => e (h1.trans z)
      have a : decide (p.1 ≠ k) = true := by simp [e]
      have b : decide (q.1 ≠ k) = true := by simp [e']
      rw [if_pos a, if_pos b]; exact .cons ⟨h1, h2⟩ ih
theorem KV.keys {kvs : List (κ × V)} {vs : List (κ × Value)} (r : KV kvs vs) : kvs.map (·.1) = vs.map (·.1) := by
  unfold KV at r
  induction r with
  | nil => rfl
  | cons h t ih => rw [List.map_cons, List.map_cons, ih, h.1]
theorem KV.length {kvs : List (κ × V)} {vs : List (κ × Value)} (r : KV kvs vs) : kvs.length = vs.length := Paired.length r
end
theorem kV_is {P : Program} {w : World} {k : Key} {u : Value} (r : RelV (kV k) u) : (mixKind P w).is k u = true := by
  cases k with
  | inl i => obtain ⟨t, e⟩ := (show ∃ t, u = Value.int i t from r); subst e; exact mixKind_int P w i t
  | inr x => obtain ⟨t, e⟩ := (show ∃ t, u = Value.str x t from r); subst e; exact mixKind_str P w x t
abbrev KT (H : Hp) : List (List Key × V) → List (List Key × Addr × Value) → Prop := Paired fun p q => p.1 = q.1 ∧ H q.2.1 = some (.tup (p.1.map kV)) ∧ RelV p.2 q.2.2
theorem KT.val {H : Hp} {kvs : List (List Key × V)} {xs : List (List Key × Addr × Value)} (r : KT H kvs xs) (k : List Key) : RelO (valV kvs k) ((atKey xs k).map (·.2)) := by
  induction r with
  | nil => exact True.intro
  | @cons p q ps qs h t ih =>
    obtain ⟨h1, _, h2⟩ := h
    by_cases e : p.1 = k
    · have e' : q.1 = k := h1.symm.trans e
      have b : atKey (q :: qs) k = some q.2 := by simp [atKey, List.find?_cons, e']
      rw [valV_pos e, b]; exact h2
    · have e' : ¬ q.1 = k := fun z => e (h1.trans z)
      have b : atKey (q :: qs) k = atKey qs k := by simp [atKey, List.find?_cons, e']
      rw [valV_neg e, b]; exact ih
theorem KT.repl {H : Hp} {kvs : List (List Key × V)} {xs : List (List Key × Addr × Value)} (r : KT H kvs xs) (k : List Key) {y : V} {u : Value} (ry : RelV y u) :
    KT H (kvs.map fun kv => if kv.1 = k then (kv.1, y) else kv) (xs.map (putAt k u)) := by
  induction r with
  | nil => exact .nil
  | @cons p q ps qs h t ih =>
    rw [List.map_cons, List.map_cons]
    refine .cons ?_ ih
    obtain ⟨h1, h2, h3⟩ := h
    unfold putAt
    by_cases e : p.1 = k
    · rw [if_pos e, if_pos (h1.symm.trans e)]; exact ⟨h1, h2, ry⟩
    · rw [if_neg e, if_neg (fun z => e (h1.trans z))]; exact ⟨h1, h2, h3⟩
theorem KT.put {H : Hp} {kvs : List (List Key × V)} {xs : List (List Key × Addr × Value)} (r : KT H kvs xs) (k : List Key) {b : Addr} {y : V} {u : Value} (hb : H b = some (.tup (k.map kV))) (ry : RelV y u) :
    KT H (putK kvs k y) (storedH xs k b u) := by
  have e : (kvs.any fun kv => decide (kv.1 = k)) = (atKey xs k).isSome := by
    rw [valV_any, (r.val k).isSome_eq, Option.isSome_map]
  unfold putK storedH
  rw [e]
  by_cases q : (atKey xs k).isSome = true
  · rw [if_pos q, if_pos q]; exact r.repl k ry
  · rw [if_neg q, if_neg q]; exact Paired.snoc r ⟨rfl, hb, ry⟩
theorem KT.keeps {H H' : Hp} {kvs : List (List Key × V)} {xs : List (List Key × Addr × Value)} (r : KT H kvs xs) (ht : ∀ b ys, H b = some (.tup ys) → H' b = some (.tup ys)) : KT H' kvs xs :=
  Paired.mapP r fun _ _ z => ⟨z.1, ht _ _ z.2.1, z.2.2⟩
section
variable {P : Program} {w : World} {H : Hp} {h : Heap} {a : Addr}
end
def DGet (H : Hp) (a : Addr) (y : V) (r : Option V) : Prop :=
  (∃ kvs k, Rd H a (.dK kvs) ∧ y = kV k ∧ r = valV kvs k) ∨ ∃ kvs k b, Rd H a (.dT kvs) ∧ y = .ref b ∧ H b = some (.tup (k.map kV)) ∧ r = valV kvs k
def DPut (H : Hp) (a : Addr) (y v : V) (H' : Hp) : Prop :=
  (∃ kvs k, H a = some (.dK kvs) ∧ y = kV k ∧ kvs.length < sizeLine ∧ H' = upd H a (.dK (putK kvs k v))) ∨
  ∃ kvs k b, H a = some (.dT kvs) ∧ y = .ref b ∧ H b = some (.tup (k.map kV)) ∧ kvs.length < sizeLine ∧ H' = upd H a (.dT (putK kvs k v))
theorem DGet.k {H : Hp} {a : Addr} {kvs : List (Key × V)} {k : Key} (e : H a = some (.dK kvs)) : DGet H a (kV k) (valV kvs k) := .inl ⟨kvs, k, .inl e, rfl, rfl⟩
theorem DGet.t {H : Hp} {a b : Addr} {kvs : List (List Key × V)} {k : List Key} (e : H a = some (.dT kvs)) (eb : H b = some (.tup (k.map kV))) : DGet H a (.ref b) (valV kvs k) := .inr ⟨kvs, k, b, .inl e, rfl, eb, rfl⟩
theorem DPut.k {H : Hp} {a : Addr} {kvs : List (Key × V)} {k : Key} {v : V} (e : H a = some (.dK kvs)) (hl : kvs.length < sizeLine) : DPut H a (kV k) v (upd H a (.dK (putK kvs k v))) := .inl ⟨kvs, k, e, rfl, hl, rfl⟩
theorem DPut.t {H : Hp} {a b : Addr} {kvs : List (List Key × V)} {k : List Key} {v : V} (e : H a = some (.dT kvs)) (eb : H b = some (.tup (k.map kV))) (hl : kvs.length < sizeLine) :
    DPut H a (.ref b) v (upd H a (.dT (putK kvs k v))) := .inr ⟨kvs, k, b, e, rfl, eb, hl, rfl⟩
section
variable {X : Cx} {pins : List (Addr × Obj)} {σ : St} {H : Hp} {s : Shared} {a : Addr} {y v : V} {u r : Value} {o : Option V} {A : Around} {E : Value → Shared → Prop}
theorem Inv.big (I : Inv X pins σ H s) : sysModules < s.heap.objs.size := by
  have h : mainGlobals < s.heap.objs.size := (I.mod.glob.keeps I.bk).lt
  exact Nat.lt_trans (by decide) h
end
section
variable {X : Cx} {pins : List (Addr × Obj)} {σ : St} {H : Hp} {s : Shared} {a : Addr} {kvs : List (Key × V)} {k : Key} {u : Value} {A : Around} {E : Value → Shared → Prop}
end
section
variable {X : Cx} {o i e value : Expr} {pos pos' tpos : Pos} {td ty tv : TE}
end
theorem dk_empty {P : Program} {w : World} {H : Hp} (h : Heap) (hb : sysModules < h.objs.size) : ObjOk P w H (h.push { cls := .type "dict", data := .dict #[] }) h.objs.size (.dK []) :=
  ⟨Nat.zero_le _, beq_eq_false_iff_ne.mpr (Ne.symm (Nat.ne_of_lt hb)), [], .nil, Heap.DictOf.new h⟩
def tDNewK : TE := fun _ H Q => ∀ p, H p = none → Q (.ref p) (upd H p (.dK []))
section
variable {X : Cx} {pos : Pos}
theorem pe_dnewK : PE X (.Dict [] [] pos) tDNewK := fun pins s σ H Q I h =>
  wpAny_Dict_empty ⟨.ref s.heap.objs.size, _, I.laid (a := s.heap.objs.size) (o := .dK []) (t' := s.toks) (fun _ _ q => Heap.get?_push_of_some _ q) (Nat.le_refl _) (dk_empty s.heap I.big), rfl, h _ (I.hok.fresh (Nat.le_refl _))⟩
end
def tPairs : List (TE × TE) → St → Hp → (List (V × V) → Hp → Prop) → Prop
  | [], _, H, Q => Q [] H
  | (tk, tv) :: r, σ, H, Q => tk σ H fun x H1 => tv σ H1 fun y H2 => tPairs r σ H2 fun ps H3 => Q ((x, y) :: ps) H3
abbrev VV : List (V × V) → List (Value × Value) → Prop := Paired fun p q => RelV p.1 q.1 ∧ RelV p.2 q.2
def PPs (X : Cx) (pos : Pos) (keys : List (Option Expr)) (values : List Expr) (trs : List (TE × TE)) : Prop :=
  ∀ (pins : List (Addr × Obj)) (s : Shared) (σ : St) (H : Hp) (Q : List (V × V) → Hp → Prop), Inv X pins σ H s → tPairs trs σ H Q →
    wpAny (model X.prog X.w) X.A (evalPairs (pairTrees keys values X.env pos)) (fun vs s' => ∃ ps H', Inv X pins σ H' s' ∧ VV ps vs ∧ Q ps H') X.xe s
theorem pps_nil {X : Cx} {pos : Pos} : PPs X pos [] [] [] := fun pins s σ H Q I h => pairTrees_nil_walk ⟨[], H, I, .nil, h⟩
theorem pps_cons {X : Cx} {pos : Pos} {k v : Expr} {ks : List (Option Expr)} {vs : List Expr} {tk tv : TE} {trs : List (TE × TE)} (hk : PE X k tk) (hv : PE X v tv) (hr : PPs X pos ks vs trs) :
    PPs X pos (some k :: ks) (v :: vs) ((tk, tv) :: trs) := fun pins s σ H Q I h =>
  pairTrees_cons_walk (thn (hk pins s σ H _ I h) fun u s1 ⟨x, H1, I1, rx, q1⟩ => thn (hv pins s1 σ H1 _ I1 q1) fun w2 s2 ⟨y, H2, I2, ry, q2⟩ =>
    thn (hr pins s2 σ H2 _ I2 q2) fun ws s3 ⟨ps, H3, I3, rel, q3⟩ => ⟨(x, y) :: ps, H3, I3, .cons ⟨rx, ry⟩ rel, q3⟩)
def mergeK (kvs more : List (Key × V)) : List (Key × V) := more.foldl (fun acc kv => putK acc kv.1 kv.2) kvs
theorem KV.merge : ∀ {more : List (Key × V)} {rs : List (Key × Value)} {kvs : List (Key × V)} {vs : List (Key × Value)}, KV more rs → KV kvs vs → KV (mergeK kvs more) (merged vs rs) := by
  intro more rs kvs vs r
  unfold KV at r
  induction r generalizing kvs vs with
  | nil => intro q; exact q
  | @cons p q ps qs h t ih =>
    intro r0
    have e : KV (putK kvs p.1 p.2) (stored vs q.1 q.2) := by
      have := r0.put p.1 h.2
      rw [← h.1]; exact this
    exact ih e
theorem carries_of {P : Program} {w : World} : ∀ {kvs : List (Key × V)} {ws : List (Value × Value)}, VV (kvs.map fun kv => (kV kv.1, kv.2)) ws → ∃ rs, Carries (mixKind P w) ws rs ∧ KV kvs rs
  | [], _, r => by rw [List.map_nil] at r; cases r; exact ⟨[], True.intro, .nil⟩
  | p :: kvs, _, r => by
    rw [List.map_cons] at r
    cases r with
    | @cons a b as bs h t =>
      obtain ⟨rs, c, q⟩ := carries_of (P := P) (w := w) t
      obtain ⟨b1, b2⟩ := b
      exact ⟨(p.1, b2) :: rs, ⟨kV_is h.1, rfl, c⟩, .cons ⟨rfl, h.2⟩ q⟩
end L2
set_option Elab.async false
set_option linter.all false
set_option maxRecDepth 100000
namespace L2
open PySem PySem.Spec PyProof.Rows
section
variable {X : Cx} {pins : List (Addr × Obj)} {σ : St} {H H2 : Hp} {s s2 : Shared} {h' : Heap} {p : Addr} {o : HO} {ob : Obj} {t' : Nat}
theorem Inv.pin1 (I : Inv X pins σ H s) (hd : ∀ v, ob.data ≠ .cell v) (hfr : ob.isFreed = false) : Inv X (pins ++ [(s.heap.objs.size, ob)]) σ H { s with heap := s.heap.push ob } := by
  have I1 : Inv X pins σ H { s with heap := s.heap.push ob } := I.kept (t' := s.toks) fun b u e => Heap.get?_push_of_some _ e
  refine I1.pins_of fun q hq => ?_
  rcases List.mem_append.mp hq with z | z
  · exact I1.pin q (List.mem_append_right _ z)
  · have e : q = (s.heap.objs.size, ob) := by simpa using z
    subst e
    exact ⟨Heap.get?_push_size _ hfr, I.hok.fresh (Nat.le_refl _), Nat.ne_of_gt I.lt, I.nofs (Nat.le_refl _), hd⟩
theorem Inv.track (I0 : Inv X pins σ H s) (hp : s.heap.objs.size ≤ p) (I : Inv X (pins ++ [(p, ob)]) σ H2 s2) (k : ∀ b u, b ≠ p → s2.heap.get? b = some u → h'.get? b = some u) (he : ∃ u, h'.get? p = some u) (new : ObjOk X.prog X.w (upd H2 p o) h' p o) :
    Inv X pins σ (upd H2 p o) { s2 with heap := h', toks := t' } := by
  obtain ⟨h1, h2, h3, h4, h5⟩ := I.pin (p, ob) (by simp)
  have J : Inv X pins σ H2 s2 := I.pins_of fun q hq => I.pin q (by simp only [List.mem_append]; exact .inr (.inl hq))
  have np : ∀ b u, H2 b = some u → b ≠ p := fun b u e z => by rw [z, h2] at e; cases e
  refine J.step (g' := s2.gens) (d' := s2.drawn) (t' := t') (ch := [p]) (fun b hb => ?_) (fun b o _ _ hc e _ => k b o (fun z => hc (by simp [z])) e) (fun b o _ _ hc e _ => ⟨o.slots, k b o (fun z => hc (by simp [z])) e⟩)
    (fun b o hc e n => ?_) (fun b o hc e => ⟨o, k b o (fun z => hc (by simp [z])) e⟩) (fun b xs e => ?_) (fun b o u e => ?_) (fun b ps e => ⟨#[], ?_⟩) (fun m hm => ?_) (fun b u e => ?_) J.bare.again
  · have e : b = p := by simpa using hb
    subst e
    refine ⟨.inr (Nat.le_trans I0.sz hp), h3, fun x c e z => ?_, fun q hq z => ?_⟩
    · obtain ⟨v, oc, hc, _⟩ := I0.cell x c e
      have := Heap.lt_size hc
      rw [z] at this
      exact absurd this (Nat.not_lt.mpr hp)
    · have := Heap.lt_size (I0.pin q hq).1
      rw [z] at this
      exact absurd this (Nat.not_lt.mpr hp)
  · rw [upd_ne (fun z => hc (by simp [z]))]; exact n
  · rw [upd_ne (np b _ e)]; exact e
  · rw [upd_ne (np b _ e)]; exact e
  · rw [upd_ne (np b _ e), e]; simp
  · obtain ⟨o, es, ep, ho, r⟩ := hm
    exact ⟨o, es, ep, k _ o (Ne.symm h3) ho, r⟩
  · by_cases hb : b = p
    · subst hb
      rw [upd_same] at e
      cases e
      exact new
    · rw [upd_ne hb] at e
      refine (J.hok b u e).stay (fun c v hc q => k c v ?_ q) (fun c q => by rw [upd_ne (np c _ q)]; exact q) fun c xs q => by rw [upd_ne (np c _ q)]; exact q
      rcases hc with z | z
      · rw [z]; exact hb
      · exact np c _ z
end
def tDisp1 (tk tv : TE) : TE := fun σ H Q => tk σ H fun x H1 => tv σ H1 fun y H2 => ∃ k : Key, x = kV k ∧ ∀ p, H2 p = none → Q (.ref p) (upd H2 p (.dK [(k, y)]))
theorem pe_disp1 {X : Cx} {pos : Pos} {k v : Expr} {tk tv : TE} (hk : PE X k tk) (hv : PE X v tv) : PE X (.Dict [some k] [v] pos) (tDisp1 tk tv) := by
  intro pins s σ H Q I q
  have I1 := I.pin1 (ob := { cls := .type "dict", data := .dict #[] }) (fun v z => by cases z) rfl
  have h := pps_cons (pos := pos) hk hv pps_nil
  refine wpAny_Dict_walk (knd := mixKind X.prog X.w) rfl rfl (by simp) (by simp) (thn (h (pins ++ [(s.heap.objs.size, { cls := .type "dict", data := .dict #[] })]) _ σ H (fun ps H2 => ∃ (k : Key) (y : V), ps = [(kV k, y)] ∧ ∀ p, H2 p = none → Q (.ref p) (upd H2 p (.dK [(k, y)]))) I1 ?_) fun ws s2 ⟨ps, H2, I2, rel, k, y, ep, q2⟩ => ?_)
  · have : tPairs [(tk, tv)] σ H (fun ps H2 => ∃ (k : Key) (y : V), ps = [(kV k, y)] ∧ ∀ p, H2 p = none → Q (.ref p) (upd H2 p (.dK [(k, y)]))) = tk σ H fun x H1 => tv σ H1 fun y H2 => ∃ (k : Key) (y' : V), [(x, y)] = [(kV k, y')] ∧ ∀ p, H2 p = none → Q (.ref p) (upd H2 p (.dK [(k, y')])) := rfl
    rw [this]
    have e2 : (fun x H1 => tv σ H1 fun y H2 => ∃ k : Key, x = kV k ∧ ∀ p, H2 p = none → Q (.ref p) (upd H2 p (.dK [(k, y)]))) = (fun x H1 => tv σ H1 fun y H2 => ∃ (k : Key) (y' : V), [(x, y)] = [(kV k, y')] ∧ ∀ p, H2 p = none → Q (.ref p) (upd H2 p (.dK [(k, y')]))) := by
      funext x H1
      congr 1
      funext y H2
      apply propext
      constructor
      · rintro ⟨k, rfl, h⟩
        exact ⟨k, y, rfl, h⟩
      · rintro ⟨k, y', e, h⟩
        simp only [List.cons.injEq, Prod.mk.injEq, and_true] at e
        obtain ⟨rfl, rfl⟩ := e
        exact ⟨k, rfl, h⟩
    rw [← e2]
    exact q
  · subst ep
    obtain ⟨rs, c, rk⟩ := carries_of (P := X.prog) (w := X.w) (kvs := [(k, y)]) rel
    obtain ⟨h1, h2, _⟩ := I2.pin (s.heap.objs.size, { cls := .type "dict", data := .dict #[] }) (by simp)
    have dd : s2.heap.DictOf (mixKind X.prog X.w) s.heap.objs.size [] := by
      obtain ⟨o, es, ep, e1, e2, e3, e4⟩ := Heap.DictOf.new (knd := mixKind X.prog X.w) s.heap
      rw [Heap.get?_push_size _ rfl] at e1
      cases e1
      exact ⟨_, es, ep, h1, e2, e3, e4⟩
    refine ⟨rs, c, dd, fun h' dd' hs => ⟨.ref s.heap.objs.size, _, ?_, rfl, q2 _ h2⟩⟩
    have he : ∃ q, h'.get? s.heap.objs.size = some q := let ⟨q, _, _, hq, _⟩ := dd'; ⟨q, hq⟩
    have hm : KV (mergeK [] [(k, y)]) (merged [] rs) := rk.merge .nil
    have e : mergeK [] [(k, y)] = [(k, y)] := rfl
    rw [e] at hm
    refine I.track (Nat.le_refl _) I2 (fun b u hb e => (hs.2 b hb).trans e) he (show ObjOk X.prog X.w _ h' _ (.dK [(k, y)]) from ⟨?_, ?_, _, hm, dd'⟩)
    · show 1 ≤ sizeLine
      rw [sizeLine_eq]; decide
    · exact beq_eq_false_iff_ne.mpr (Ne.symm (Nat.ne_of_lt I.big))
end L2
namespace L3
open PySem PySem.Spec PyProof.Rows L2
def keyD : D → Option Key
  | .int i => some (.inl i)
  | .str x => some (.inr x)
  | _ => none
theorem den_key {K : PySem.W.Frag} {tb : List Addr} {W : Wd} {x : D} {v : V} {k : Key} (h : Den K tb W x v) (e : keyD x = some k) : v = kV k := by
  cases x with
  | int i => cases e; exact of_int h
  | str z => cases e; exact of_str h
  | _ => cases e
def mDic0 : EF := fun _ μ => some (.dic [], μ)
def mDic1 (fk fv : EF) : EF := fun δ μ => (fk δ μ).bind fun r => (fv δ r.2).bind fun q => (keyD r.1).map fun k => (.dic [(k, q.1)], q.2)
section
variable {X : Cx} {tb : List Addr} {k v : Expr} {fk fv : EF} {pos : Pos}
theorem put_dic {K : PySem.W.Frag} {W : Wd} {Q : VK} {kvs : List (Key × D)} {ps : List (Key × V)} {p : Addr} (ok : WOk K tb W) (h : ∀ v W', WOk K tb W' → Le tb W W' → W'.mu = W.mu → Den K tb W' (.dic kvs) v → Q v W'.H) (r : DenFK K (W.fz tb) W.ad kvs ps) (hp : W.H p = none) : Q (.ref p) (upd W.H p (.dK ps)) := by
  obtain ⟨ok', le, e⟩ := ok.alloc (o := .dK ps) hp
  refine h (.ref p) _ ok' le rfl ?_
  show DenF _ _ _ _ _
  unfold DenF
  exact ⟨p, ps, rfl, e, DenFK.mono le.same le.ad _ _ r⟩
theorem pd_dic0 : PD X tb (.Dict [] [] pos) mDic0 := pe_le pe_dnewK fun σ H Q ⟨W, δ, d, μ', e, ok, hd, hf, h⟩ => by
  subst e; cases hf
  exact fun p hp => put_dic ok h (by unfold DenFK; rfl) hp
theorem pd_dic1 (hk : PD X tb k fk) (hv : PD X tb v fv) : PD X tb (.Dict [some k] [v] pos) (mDic1 fk fv) := pe_le (pe_disp1 hk hv) fun σ H Q ⟨W, δ, d, μ', e, ok, hd, hf, h⟩ => by
  unfold mDic1 at hf
  obtain ⟨⟨x, μ1⟩, e1, hf⟩ := Option.bind_eq_some_iff.mp hf
  obtain ⟨⟨y, μ2⟩, e2, hf⟩ := Option.bind_eq_some_iff.mp hf
  obtain ⟨k, e3, e4⟩ := Option.map_eq_some_iff.mp hf
  cases e4
  refine ⟨W, δ, x, μ1, e, ok, hd, e1, fun v W1 ok1 l1 m1 d1 => ⟨W1, δ, y, _, rfl, ok1, hd.mono' l1, (by rw [m1]; exact e2), fun u W2 ok2 l2 m2 d2 => ⟨k, den_key d1 e3, fun p hp => ?_⟩⟩⟩
  exact put_dic ok2 (fun v' W' ok' l' m' d' => h v' W' ok' ((l1.trans l2).trans l') (m'.trans m2) d') (by unfold DenFK; exact ⟨_, _, rfl, ⟨rfl, d2⟩, by unfold DenFK; rfl⟩) hp
end
def lRng1 (fs : AF) : LF := fun δ μ => (fs δ μ).bind fun r => match r.1 with
  | [.int j] => if -(2 ^ 62) ≤ j ∧ j < 2 ^ 62 ∧ j.toNat ≤ sizeLine then some (rngI 0 j.toNat, r.2) else none
  | _ => none
def lRng2 (fs : AF) : LF := fun δ μ => (fs δ μ).bind fun r => match r.1 with
  | [.int i, .int j] => if (-(2 ^ 62) ≤ i ∧ i < 2 ^ 62 ∧ -(2 ^ 62) ≤ j ∧ j < 2 ^ 62) ∧ (j - i).toNat ≤ sizeLine then some (rngI i (j - i).toNat, r.2) else none
  | _ => none
section
variable {X : Cx} {tb : List Addr} {a b : Expr} {fs : AF} {p p2 pos pos2 : Pos}
end
end L3
set_option Elab.async false
set_option linter.all false
set_option maxRecDepth 100000
namespace L3
open PySem PySem.Spec PyProof.Rows L2
def mFrz (f : EF) : EF := fun δ μ => (f δ μ).bind fun r => match r.1 with
  | .cell n => (r.2.getD n none).map fun ds => (.lst ds, r.2.set n none)
  | d => some (d, r.2)
theorem pd_frz {X : Cx} {tb : List Addr} {e : Expr} {f : EF} (h : PD X tb e f) : PD X tb e (mFrz f) :=
  pe_le h fun σ H Q ⟨W, δ, d, μ', e, ok, hd, hf, k⟩ => by
    unfold mFrz at hf
    obtain ⟨⟨x, μ1⟩, e1, e2⟩ := Option.bind_eq_some_iff.mp hf
    refine ⟨W, δ, x, μ1, e, ok, hd, e1, fun v W1 ok1 l1 m1 d1 => ?_⟩
    cases x with
    | cell n =>
      obtain ⟨ds, e3, e4⟩ := Option.map_eq_some_iff.mp e2
      cases e4
      obtain ⟨a, rfl, ea⟩ := of_cell d1
      have em : W1.mu[n]? = some (some ds) := by
        rw [m1]
        rw [List.getD_eq_getElem?_getD] at e3
        cases q : μ1[n]? with
        | none => rw [q] at e3; cases e3
        | some z => rw [q] at e3; exact congrArg some e3
      obtain ⟨ok2, l2, d2⟩ := ok1.freeze ea em
      exact k _ ⟨W1.H, W1.ad, W1.mu.set n none⟩ ok2 (l1.trans l2) (by show W1.mu.set n none = _; rw [m1]) d2
    | _ => cases e2; exact k v W1 ok1 l1 m1 d1
mutual
def cLt (m : Nat) : D → Bool
  | .tup ds => cLtL m ds
  | .lst ds => cLtL m ds
  | .ro ds => cLtL m ds
  | .dic kvs => cLtK m kvs
  | .cell n => decide (n < m)
  | _ => true
def cLtL (m : Nat) : List D → Bool
  | [] => true
  | d :: ds => cLt m d && cLtL m ds
def cLtK (m : Nat) : List (Key × D) → Bool
  | [] => true
  | p :: ds => cLt m p.2 && cLtK m ds
end
section
variable {K : PySem.W.Frag} {F F' : Hp} {ad : List Addr} {m : Nat}
mutual
theorem DenF.cut (s : Same F F') : ∀ (d : D) (v : V), cLt m d = true → DenF K F ad d v → DenF K F' (ad.take m) d v
  | .non, v, _, h => by unfold DenF at h ⊢; exact h
  | .bl _, v, _, h => by unfold DenF at h ⊢; exact h
  | .int _, v, _, h => by unfold DenF at h ⊢; exact h
  | .str _, v, _, h => by unfold DenF at h ⊢; exact h
  | .tup ds, v, c, h => by
    unfold DenF at h ⊢; unfold cLt at c
    obtain ⟨a, xs, e, q, r⟩ := h
    exact ⟨a, xs, e, SqT.mono s q, DenFL.cut s ds xs c r⟩
  | .lst ds, v, c, h => by
    unfold DenF at h ⊢; unfold cLt at c
    obtain ⟨a, xs, e, q, r⟩ := h
    exact ⟨a, xs, e, s _ _ q, DenFL.cut s ds xs c r⟩
  | .ro ds, v, c, h => by
    unfold DenF at h ⊢; unfold cLt at c
    obtain ⟨a, xs, e, q, r⟩ := h
    exact ⟨a, xs, e, SqL.mono s q, DenFL.cut s ds xs c r⟩
  | .dic kvs, v, c, h => by
    unfold DenF at h ⊢; unfold cLt at c
    obtain ⟨a, ps, e, q, r⟩ := h
    exact ⟨a, ps, e, s _ _ q, DenFK.cut s kvs ps c r⟩
  | .cell n, v, c, h => by
    unfold DenF at h ⊢; unfold cLt at c
    obtain ⟨a, e, q⟩ := h
    exact ⟨a, e, by rw [List.getElem?_take_of_lt (by simpa using c)]; exact q⟩
theorem DenFL.cut (s : Same F F') : ∀ (ds : List D) (vs : List V), cLtL m ds = true → DenFL K F ad ds vs → DenFL K F' (ad.take m) ds vs
  | [], vs, _, h => by unfold DenFL at h ⊢; exact h
  | d :: ds, vs, c, h => by
    unfold DenFL at h ⊢; unfold cLtL at c
    have c := (Bool.and_eq_true _ _).mp c
    obtain ⟨u, us, e, p, r⟩ := h
    exact ⟨u, us, e, DenF.cut s d u c.1 p, DenFL.cut s ds us c.2 r⟩
theorem DenFK.cut (s : Same F F') : ∀ (ds : List (Key × D)) (vs : List (Key × V)), cLtK m ds = true → DenFK K F ad ds vs → DenFK K F' (ad.take m) ds vs
  | [], vs, _, h => by unfold DenFK at h ⊢; exact h
  | p :: ds, vs, c, h => by
    unfold DenFK at h ⊢; unfold cLtK at c
    have c := (Bool.and_eq_true _ _).mp c
    obtain ⟨u, us, e, ⟨p1, p2⟩, r⟩ := h
    exact ⟨u, us, e, ⟨p1, DenF.cut s p.2 u.2 c.1 p2⟩, DenFK.cut s ds us c.2 r⟩
end
end
def cOk (m : Nat) (μ : Mu) : Bool := μ.all fun o => match o with
  | some ds => cLtL m ds
  | none => true
theorem WOk.cut {K : PySem.W.Frag} {tb : List Addr} {W : Wd} {m : Nat} (ok : WOk K tb W) (c : cOk m (W.mu.take m) = true) :
    WOk K tb ⟨W.H, W.ad.take m, W.mu.take m⟩ ∧ Same (W.fz tb) (Wd.fz tb ⟨W.H, W.ad.take m, W.mu.take m⟩) := by
  have lv : ∀ b, Live (W.ad.take m) (W.mu.take m) b → Live W.ad W.mu b := fun b ⟨i, es, e1, e2⟩ => by
    have h1 : i < m := by have := (List.getElem?_eq_some_iff.mp e1).1; simp at this; omega
    rw [List.getElem?_take_of_lt h1] at e1 e2
    exact ⟨i, es, e1, e2⟩
  have sm : Same (W.fz tb) (Wd.fz tb ⟨W.H, W.ad.take m, W.mu.take m⟩) := fun b u e => by
    obtain ⟨e1, e2, e3⟩ := fz_some e
    have q := fz_of (tb := tb) (W := ⟨W.H, W.ad.take m, W.mu.take m⟩) (b := b) (fun z => e2 (lv b z)) e3
    rw [q]; exact e1
  refine ⟨⟨by simp [ok.len], fun i a ds e1 e2 => ?_, fun i j a ds es e1 e2 e3 e4 => ?_, ok.tab⟩, sm⟩
  · have h1 : i < m := by have := (List.getElem?_eq_some_iff.mp e1).1; simp at this; omega
    have cd : cLtL m ds = true := by
      have := List.all_eq_true.mp c (some ds) (List.mem_of_getElem? e2)
      exact this
    have e1' : (W.ad.take m)[i]? = some a := e1
    have e2' : (W.mu.take m)[i]? = some (some ds) := e2
    rw [List.getElem?_take_of_lt h1] at e1' e2'
    obtain ⟨xs, e, r⟩ := ok.cont i a ds e1' e2'
    exact ⟨xs, e, DenFL.cut sm ds xs cd r⟩
  · have h1 : i < m := by have := (List.getElem?_eq_some_iff.mp e1).1; simp at this; omega
    have h2 : j < m := by have := (List.getElem?_eq_some_iff.mp e2).1; simp at this; omega
    have e1' : (W.ad.take m)[i]? = some a := e1
    have e2' : (W.ad.take m)[j]? = some a := e2
    have e3' : (W.mu.take m)[i]? = some (some ds) := e3
    have e4' : (W.mu.take m)[j]? = some (some es) := e4
    rw [List.getElem?_take_of_lt h1] at e1' e3'
    rw [List.getElem?_take_of_lt h2] at e2' e4'
    exact ok.inj i j a ds es e1' e2' e3' e4'
def trunc (φ : FF) : FF := fun ds μ => (φ ds μ).bind fun r => if (cLt μ.length r.1 && cOk μ.length (r.2.take μ.length)) = true then some (r.1, r.2.take μ.length) else some r
theorem FI.trunc {P : Program} {w : World} {K : PySem.W.Frag} {mg : Str → Option Value} {base : Heap} {tb : List Addr} {x : Str} {n k : Nat} {φ : FF} (F : FI P w K mg base tb x n k φ) : FI P w K mg base tb x n k (trunc φ) := by
  obtain ⟨f, fd, ps, h1, h2⟩ := F.is
  refine ⟨f, fd, ps, h1.imp fun vs H Q E ⟨W, ds, d, μ', e, ok, dl, hl, hf, k⟩ => ?_, h2⟩
  unfold L3.trunc at hf
  obtain ⟨⟨d1, μ1⟩, e1, e2⟩ := Option.bind_eq_some_iff.mp hf
  split at e2
  · rename_i hc
    have hc := (Bool.and_eq_true _ _).mp hc
    cases e2
    refine ⟨W, ds, d1, μ1, e, ok, dl, hl, e1, fun v W' ok' l' m' d' => ?_⟩
    obtain ⟨ok2, sm⟩ := ok'.cut (m := W.mu.length) (by rw [m']; exact hc.2)
    exact k v ⟨W'.H, W'.ad.take W.mu.length, W'.mu.take W.mu.length⟩ ok2 ⟨l'.same.trans sm, fun i x q => by
      have hi : i < W.mu.length := by rw [← ok.len]; exact (List.getElem?_eq_some_iff.mp q).1
      show (W'.ad.take W.mu.length)[i]? = some x
      rw [List.getElem?_take_of_lt hi]; exact l'.ad i x q⟩ (by show W'.mu.take _ = _; rw [m']) (DenF.cut sm d1 v hc.1 d')
  · cases e2
    exact ⟨W, ds, d, μ', e, ok, dl, hl, e1, k⟩
theorem FIK.trunc {P : Program} {w : World} {K : PySem.W.Frag} {mg : Str → Option Value} {base : Heap} {tb : List Addr} {x : Str} {ks : List Str} {π : List Nat} {n k : Nat} {φ : FF} (F : FIK P w K mg base tb x ks π n k φ) : FIK P w K mg base tb x ks π n k (trunc φ) := by
  obtain ⟨f, fd, ps, h1, h2⟩ := F.is
  refine ⟨f, fd, ps, h1.imp fun vs H Q E ⟨W, ds, d, μ', e, ok, dl, hl, hf, k⟩ => ?_, h2⟩
  unfold L3.trunc at hf
  obtain ⟨⟨d1, μ1⟩, e1, e2⟩ := Option.bind_eq_some_iff.mp hf
  split at e2
  · rename_i hc
    have hc := (Bool.and_eq_true _ _).mp hc
    cases e2
    refine ⟨W, ds, d1, μ1, e, ok, dl, hl, e1, fun v W' ok' l' m' d' => ?_⟩
    obtain ⟨ok2, sm⟩ := ok'.cut (m := W.mu.length) (by rw [m']; exact hc.2)
    exact k v ⟨W'.H, W'.ad.take W.mu.length, W'.mu.take W.mu.length⟩ ok2 ⟨l'.same.trans sm, fun i x q => by
      have hi : i < W.mu.length := by rw [← ok.len]; exact (List.getElem?_eq_some_iff.mp q).1
      show (W'.ad.take W.mu.length)[i]? = some x
      rw [List.getElem?_take_of_lt hi]; exact l'.ad i x q⟩ (by show W'.mu.take _ = _; rw [m']) (DenF.cut sm d1 v hc.1 d')
  · cases e2
    exact ⟨W, ds, d, μ', e, ok, dl, hl, e1, k⟩
theorem gd_int {K : PySem.W.Frag} {mg : Str → Option Value} {x : Str} {i : Int} {t : Tok} (h : mg x = some (.int i t)) : GD K mg x (.int i) := ⟨_, .int i, h, ⟨t, rfl⟩, fun F ad => by unfold DenF; rfl⟩
theorem trunc_len {φ : FF} {ds : List D} {μ μ' : Mu} {d : D} (h : φ ds μ = some (d, μ')) (hl : μ'.length = μ.length) : trunc φ ds μ = some (d, μ') := by
  unfold trunc
  rw [h]
  simp only [Option.bind_some]
  rw [← hl, List.take_length]
  split <;> rfl
theorem trunc_same {φ : FF} {ds : List D} {μ : Mu} {d : D} (h : φ ds μ = some (d, μ)) : trunc φ ds μ = some (d, μ) := trunc_len h rfl
end L3
set_option Elab.async false
set_option linter.all false
set_option maxRecDepth 100000
namespace HT
open PySem PySem.Spec PyProof.Rows
section
variable {prog : Program} {w : World} {A : Around} {E : Value → Shared → Prop} {s : Shared}
end
end HT
set_option Elab.async false
set_option linter.all false
set_option maxRecDepth 100000
namespace L2
open PySem PySem.Spec PyProof.Rows
end L2
namespace L3
open PySem PySem.Spec PyProof.Rows L2
def oRev (x : D) (μ : Mu) : Option (D × Mu) := (itemsD x μ).map fun ds => (if isTupD x then .tup ds.reverse else .lst ds.reverse, μ)
def mRev (f : EF) : EF := M1 f oRev
end L3
set_option Elab.async false
set_option linter.all false
set_option maxRecDepth 100000
namespace L3
open PySem PySem.Spec PyProof.Rows L2
theorem denL_set {K : PySem.W.Frag} {F : Hp} {ad : List Addr} : ∀ {ds : List D} {vs : List V} {d : D} {v : V} (j : Nat), DenFL K F ad ds vs → DenF K F ad d v → DenFL K F ad (ds.set j d) (vs.set j v)
  | [], vs, d, v, j, r, h => by
    unfold DenFL at r
    subst r
    exact DenFL.nil
  | x :: ds, vs, d, v, j, r, h => by
    unfold DenFL at r
    obtain ⟨u, us, rfl, p, r⟩ := r
    cases j with
    | zero => exact DenFL.cons h r
    | succ j => exact DenFL.cons p (denL_set j r h)
def putF (x o i : D) (μ : Mu) : Option Mu := match o, i with
  | .cell n, .int k => match μ[n]? with
    | some (some ds) => (ixN ds.length k).map fun j => μ.set n (some (ds.set j x))
    | _ => none
  | _, _ => none
def sPut (f fo fi : EF) : SF := fun δ μ => (f δ μ).bind fun r => (fo δ r.2).bind fun o => (fi δ o.2).bind fun i => (putF r.1 o.1 i.1 i.2).map fun μ' => (.nx, δ, μ')
theorem psd_put {X : Cx} {tb : List Addr} {o i e : Expr} {f fo fi : EF} {pos pos' : Pos} (he : PD X tb e f) (ho : PD X tb o fo) (hi : PD X tb i fi)
    (ha : ∀ v, assign (.Subscript o i pos') X.env v = (do
      let ov ← holding [v] (eval o X.env)
      let iv ← holding [v, ov] (eval i X.env)
      standAt pos'
      holding [v, ov, iv] (setItem ov iv v)
      release [v, ov, iv] []) := by intro _; rfl)
    (hs : swapsWithSole [.Subscript o i pos'] e pos.line X.env = pure false := by rfl) (hw : swappedStores [.Subscript o i pos'] e X.env = pure none := by rfl)
    (h1 : (assignEach [.Subscript o i pos'] X.env).map (·.2) = [assign (.Subscript o i pos') X.env] := by rfl) : PSD X tb (.Assign [.Subscript o i pos'] e pos) (sPut f fo fi) :=
  ps_le (ps_asg he (pg_sub ho hi set_list ha) hs hw h1) fun E σ H ⟨W, δ, fl, δ', μ', e, ok, hd, hf, h⟩ => by
    unfold sPut at hf
    obtain ⟨⟨x, μ1⟩, e1, hf⟩ := Option.bind_eq_some_iff.mp hf
    obtain ⟨⟨c, μ2⟩, e2, hf⟩ := Option.bind_eq_some_iff.mp hf
    obtain ⟨⟨k, μ3⟩, e3, hf⟩ := Option.bind_eq_some_iff.mp hf
    obtain ⟨μ4, e4, e5⟩ := Option.map_eq_some_iff.mp hf
    cases e5
    refine ⟨W, δ, x, μ1, e, ok, hd, e1, fun v W1 ok1 l1 m1 d1 => ⟨W1, δ, c, μ2, rfl, ok1, hd.mono' l1, (by rw [m1]; exact e2), fun u W2 ok2 l2 m2 d2 => ⟨W2, δ, k, μ3, rfl, ok2, hd.mono' (l1.trans l2), (by rw [m2]; exact e3), fun y W3 ok3 l3 m3 d3 => ?_⟩⟩⟩
    have d2 := Den.mono' d2 l3
    have d1 := Den.mono' d1 (l2.trans l3)
    cases c with
    | cell n =>
      cases k with
      | int k =>
        have e4' : (match μ3[n]? with | some (some ds) => (ixN ds.length k).map fun j => μ3.set n (some (ds.set j x)) | _ => none) = some μ' := e4
        cases e6 : μ3[n]? with
        | none => rw [e6] at e4'; cases e4'
        | some oo =>
          cases oo with
          | none => rw [e6] at e4'; cases e4'
          | some ds =>
            rw [e6] at e4'
            obtain ⟨j, e7, e8⟩ := Option.map_eq_some_iff.mp e4'
            obtain ⟨a, rfl, q⟩ := of_cell d2
            have e6 : W3.mu[n]? = some (some ds) := by rw [m3]; exact e6
            obtain ⟨xs, ex, r⟩ := ok3.cont n a ds q e6
            refine ⟨a, xs, k, j, rfl, of_int d3, ex, by rw [← DenFL.length r]; exact e7, ?_⟩
            obtain ⟨ok4, l4⟩ := ok3.write q e6 (denL_set j r d1)
            exact h _ _ ok4 (((l1.trans l2).trans l3).trans l4) (by rw [← e8, ← m3]) (hd.mono' (((l1.trans l2).trans l3).trans l4))
      | _ => cases e4
    | _ => cases e4
def sAug (i : Nat) (f : EF) (op : O2) : SF := fun δ μ => match δ[i]? with
  | some (some x) => (f δ μ).bind fun r => (op x r.1 r.2).map fun z => (.nx, δ.set i (some z.1), z.2)
  | _ => none
def oAddI : O2
  | .int i, .int j, μ => some (.int (i + j), μ)
  | _, _, _ => none
def oSubI : O2
  | .int i, .int j, μ => some (.int (i - j), μ)
  | _, _, _ => none
section
variable {X : Cx} {tb : List Addr} {e : Expr} {f : EF} {pos pos' : Pos} {i : Nat} {x : Str}
end
def eqF : D → D → Bool
  | .non, .non => true
  | .bl a, .bl b => a == b
  | .bl a, .int b => (if a then 1 else 0) == b
  | .int a, .bl b => a == (if b then 1 else 0)
  | .int a, .int b => a == b
  | .str a, .str b => a == b
  | _, _ => false
def inF (x : D) (ds : List D) : Bool := ds.any fun y => eqF y x
section
variable {K : PySem.W.Frag} {tb : List Addr} {W : Wd}
end
end L3
set_option Elab.async false
set_option linter.all false
set_option maxRecDepth 100000
namespace L3
open PySem PySem.Spec PyProof.Rows L2 PySem.SeqAt
theorem op_neLen {X : Cx} {k : Nat} (hr : Room k X.A) : OpR X (compareOp .NotEq) (fun v u H Q => ∃ a b xs ys, v = .ref a ∧ u = .ref b ∧ SqL X.K H a xs ∧ SqL X.K H b ys ∧ xs.length ≠ ys.length ∧ Q (.bl true) H) := by
  intro pins s σ H v u vv uu Q I rv ru h
  obtain ⟨a, b, xs, ys, rfl, rfl, hx, hy, hl, q⟩ := h
  have hun := hr.un
  cases rv
  cases ru
  obtain ⟨its0, iv0, pl0, hz0⟩ := I.list hx
  obtain ⟨its1, iv1, pl1, hz1⟩ := I.list hy
  have hl' : its0.length ≠ its1.length := by rw [← iv0.length, ← iv1.length]; exact hl
  exact RcNeAt.lists_lengths (A := X.A) pl0.isList pl1.isList (by simpa using hl') (by omega) X.prog X.w X.xe _ ⟨.bl true, H, I, rfl, q⟩
def oNeE : O2 := fun x y μ => match x, y with
  | .lst ds, .lst [] => some (.bl (!ds.isEmpty), μ)
  | x, y => oNe x y μ
theorem oNeE_cases {x y : D} {μ : Mu} : oNeE x y μ = oNe x y μ ∨ ∃ d ds, x = .lst (d :: ds) ∧ y = .lst [] ∧ oNeE x y μ = some (.bl true, μ) := by
  unfold oNeE
  split
  · rename_i ds
    cases ds with
    | nil => left; unfold oNe rsv; simp [pureD, pureDL, depD, depDL, eqD, eqDL]
    | cons d ds => exact .inr ⟨d, ds, rfl, rfl, rfl⟩
  · exact .inl rfl
theorem od_neE {X : Cx} {tb : List Addr} {k : Nat} (hr : Room k X.A) : OpD X tb (compareOp .NotEq) oNeE := ⟨_, (op_neD hr).or (op_neLen hr), fun W x y v u d μ' Q ok dx dy ho h => by
  rcases oNeE_cases (x := x) (y := y) (μ := W.mu) with e | ⟨d', ds, rfl, rfl, e⟩
  · rw [e] at ho
    unfold oNe at ho
    split at ho
    · rename_i hc
      cases ho
      rw [Bool.and_eq_true] at hc
      exact .inl ⟨_, _, dv_rsv ok dx hc.1.1, dv_rsv ok dy hc.1.2, hc.2, put ok h den_bl⟩
    · cases ho
  · rw [e] at ho
    cases ho
    obtain ⟨a, xs, rfl, q, r⟩ := of_lst dx
    obtain ⟨b, ys, rfl, q2, r2⟩ := of_lst dy
    refine .inr ⟨a, b, xs, ys, rfl, rfl, SqL.fz q, SqL.fz q2, ?_, put ok h den_bl⟩
    have h1 := DenFL.length r
    have h2 := DenFL.length r2
    simp at h1 h2
    omega⟩
end L3
set_option Elab.async false
set_option linter.all false
set_option maxRecDepth 100000
namespace L3
open PySem PySem.Spec PyProof.Rows L2
def lSl (f : EF) (fl fh : PF) : LF := fun δ μ => (f δ μ).bind fun r => (fl δ r.2).bind fun l => (fh δ l.2).bind fun u => match r.1 with
  | .lst ds => some (L3.cutD ds l.1 u.1, u.2)
  | .ro ds => some (L3.cutD ds l.1 u.1, u.2)
  | _ => none
theorem pdn_slice {X : Cx} {tb : List Addr} {e : Expr} {lo hi : Option Expr} {f : EF} {fl fh : PF} {pos p2 : Pos} (he : PD X tb e f) (hl : POD X tb lo fl) (hh : POD X tb hi fh) : PDN X tb (.Subscript e (.Slice lo hi none p2) pos) (lSl f fl fh) :=
  pe_le (pe_slice sl_list he hl hh) fun σ H Q ⟨W, δ, ds, μ', e, ok, hd, hf, h⟩ => by
    unfold lSl at hf
    obtain ⟨⟨x, μ1⟩, e1, hf⟩ := Option.bind_eq_some_iff.mp hf
    obtain ⟨⟨l, μ2⟩, e2, hf⟩ := Option.bind_eq_some_iff.mp hf
    obtain ⟨⟨u, μ3⟩, e3, hf⟩ := Option.bind_eq_some_iff.mp hf
    refine ⟨W, δ, x, μ1, e, ok, hd, e1, fun v W1 ok1 l1 m1 d1 => ⟨W1, δ, l, μ2, rfl, ok1, hd.mono' l1, (by rw [m1]; exact e2), fun W2 ok2 l2 m2 => ⟨W2, δ, u, μ3, rfl, ok2, hd.mono' (l1.trans l2), (by rw [m2]; exact e3), fun W3 ok3 l3 m3 => ?_⟩⟩⟩
    have d3 := Den.mono' d1 (l2.trans l3)
    cases x with
    | lst es =>
      obtain ⟨a, xs, rfl, q, r⟩ := of_lst d3
      cases hf
      exact ⟨a, xs, rfl, SqL.fz q, fun p hp => h p _ W3 ok3 ((l1.trans l2).trans l3) m3 hp (cut_den r)⟩
    | ro es =>
      obtain ⟨a, xs, rfl, q, r⟩ := of_ro d3
      cases hf
      exact ⟨a, xs, rfl, SqL.fz q, fun p hp => h p _ W3 ok3 ((l1.trans l2).trans l3) m3 hp (cut_den r)⟩
    | _ => cases hf
end L3
set_option Elab.async false
set_option linter.all false
set_option maxRecDepth 100000
set_option maxHeartbeats 4000000
namespace LG
open PySem PySem.Spec PyProof.Rows L2 L3
noncomputable def g_is_number : SF := sRet (mAndV (M1 (mVar 0) (oIsi "int")) (mNotV (M1 (mVar 0) (oIsi "bool"))))
noncomputable def g_is_numbers (φ_is_number : FF) : SF := sRet (mAndV (M1 (mVar 0) (oIsi "tuple")) (mAll (stGen ["part"] [] (iSeq (mVar 0)) (hName 0) (MC (mCons (mVar 0) (mNil)) φ_is_number))))
noncomputable def g_divisor_of_two : SF := sSeq (sPar 0 1 (mCons (MC (mCons (mVar 0) (mNil)) (onOne oAbs)) (mCons (MC (mCons (mVar 1) (mNil)) (onOne oAbs)) (mNil)))) (sSeq (whileP (toB (M2 (mVar 1) (mC (.int 0)) oNe)) (sPar 0 1 (mCons (mVar 1) (mCons (M2 (mVar 0) (mVar 1) oMod) (mNil))))) (sRet (mVar 0)))
noncomputable def g_common_divisor (φ_divisor_of_two : FF) : SF := sSeq (sSet 1 (mC (.int 0))) (sSeq (sFor (iSeq (mVar 0)) (hName 2) (sSeq (sSet 1 (MC (mCons (mVar 1) (mCons (mVar 2) (mNil))) φ_divisor_of_two)) (sIf (toB (M2 (mVar 1) (mC (.int 1)) oEq)) (sBreak) (sNext)))) (sRet (mVar 1)))
noncomputable def g_is_spot (φ_is_numbers φ_common_divisor : FF) : SF := sSeq (sIf (tOrF (tNotF (toTr (MC (mCons (mVar 0) (mNil)) φ_is_numbers))) (tNotF (toB (MCh (mC (.int 2)) (MC (mCons (mVar 0) (mNil)) (onOne oLen)) (M2 (mC (.int 3)) (mC (.int 1)) oAdd) oLe oLe)))) (sRet (mC (.bl false))) (sNext)) (sRet (mAndV (M2 (M2 (mVar 0) (M1 (mC (.int 1)) oNeg) oIx) (mC (.int 1)) oGe) (M2 (MC (mCons (mVar 0) (mNil)) φ_common_divisor) (mC (.int 1)) oEq)))
noncomputable def g__law_mixed : SF := sSeq (sSet 2 (M2 (M2 (M2 (M2 (M2 (mVar 0) (mC (.int 2147483647)) oMod) (mC (.int 48271)) oMul) (M2 (M2 (mC (.int 7919)) (mVar 1) oMul) (mVar 1) oMul) oAdd) (mC (.int 104729)) oAdd) (mC (.int 2147483647)) oMod)) (sRet (M2 (M2 (mVar 2) (mVar 2) oMul) (mC (.int 2147483629)) oMod))
noncomputable def g__law_draws (φ__law_mixed : FF) : SF := sSeq (sSet 1 (mNew (lLst (mNil)))) (sSeq (sFor (iRngD1 (mCons (MC (mCons (MC (mCons (mVar 0) (mNil)) (onOne oLen)) (mCons (mC (.int 63)) (mNil))) (onTwo oMin2)) (mNil))) (hName 2) (sSeq (sSet 3 (MC (mCons (M2 (mVar 0) (mVar 2) oIx) (mNil)) (onOne oAbs))) (sSeq (sIf (toB (M2 (mVar 3) (M2 (mC (.int 10)) (mC (.int 18)) oPow) oLt)) (sFor (iRngD1 (mCons (mC (.int 12)) (mNil))) (hName 4) (sDrop (mApp (mVar 1) (mCons (MC (mCons (MC (mCons (mVar 3) (mCons (M2 (M2 (mC (.int 3)) (mVar 4) oMul) (mC (.int 1)) oAdd) (mNil))) φ__law_mixed) (mCons (M2 (M2 (mVar 4) (mVar 2) oAdd) (mC (.int 2)) oAdd) (mNil))) φ__law_mixed) (mNil))))) (sNext)) (sSeq (whileP (tAndF (toB (M2 (mVar 3) (M2 (mC (.int 10)) (mC (.int 18)) oPow) oGe)) (toB (M2 (MC (mCons (mVar 1) (mNil)) (onOne oLen)) (mC (.int 900)) oLt))) (sSeq (sDrop (mApp (mVar 1) (mCons (M2 (mVar 3) (mC (.int 2147483629)) oMod) (mNil)))) (sSet 3 (M2 (mVar 3) (mC (.int 2147483629)) oDiv)))) (sIf (toB (M2 (mVar 3) (mC (.int 2147483629)) oGe)) (sDrop (mApp (mVar 1) (mCons (M2 (mVar 3) (mC (.int 2147483629)) oMod) (mNil)))) (sNext)))))) (sRet (mVar 1)))
noncomputable def g__law_next : SF := sSeq (sIf (toB (M2 (mVar 0) (MC (mNil) oLst) oEq)) (sRet (mC (.int 0))) (sNext)) (sRet (mPop0 (mVar 0)))
noncomputable def g__law_gcd : SF := sSeq (whileP (toB (M2 (mVar 1) (mC (.int 0)) oNe)) (sPar 0 1 (mCons (mVar 1) (mCons (M2 (mVar 0) (mVar 1) oMod) (mNil))))) (sRet (MC (mCons (mVar 0) (mNil)) (onOne oAbs)))
noncomputable def g__law_lowest (φ__law_gcd : FF) : SF := sSeq (sSet 2 (mVar 1)) (sSeq (sFor (iSeq (mVar 0)) (hName 3) (sSet 2 (MC (mCons (mVar 2) (mCons (mVar 3) (mNil))) φ__law_gcd))) (sSeq (sIf (toB (M2 (mVar 1) (mC (.int 0)) oLt)) (sSet 2 (M2 (mC (.int 0)) (MC (mCons (mVar 2) (mNil)) (onOne oAbs)) oSub)) (sNext)) (sRet (M2 (MC (mCons (mFz (lLC ["_law_number"] [2] (iSeq (mVar 0)) (hName 0) (tYesF) (M2 (mVar 0) (mVar 1) oDiv))) (mNil)) oTuple) (MC (mCons (M2 (mVar 1) (mVar 2) oDiv) (mNil)) oTup) oAdd))))
noncomputable def g__law_whole : SF := sRet (mAndV (M1 (mVar 0) (oIsi "int")) (mNotV (M1 (mVar 0) (oIsi "bool"))))
noncomputable def g__law_says : SF := sRet (mAndV (M1 (mVar 0) (oIsi "bool")) (M2 (mVar 0) (mVar 1) oEq))
noncomputable def g__law_is_spot (φ__law_whole φ__law_gcd : FF) : SF := sSeq (sIf (tOrF (tNotF (toTr (M1 (mVar 0) (oIsi "tuple")))) (tOrF (toB (M2 (MC (mCons (mVar 0) (mNil)) (onOne oLen)) (mC (.int 2)) oLt)) (toB (M2 (MC (mCons (mVar 0) (mNil)) (onOne oLen)) (mC (.int 4)) oGt)))) (sRet (mC (.bl false))) (sNext)) (sSeq (sIf (tOrF (toB (M2 (mFz (lLC ["_law_one"] [] (iSeq (mVar 0)) (hName 0) (tNotF (toTr (MC (mCons (mVar 0) (mNil)) φ__law_whole))) (mVar 0))) (MC (mNil) oLst) oNeE)) (toB (M2 (M2 (mVar 0) (M1 (mC (.int 1)) oNeg) oIx) (mC (.int 1)) oLt))) (sRet (mC (.bl false))) (sNext)) (sSeq (sSet 1 (mC (.int 0))) (sSeq (sFor (iSeq (mVar 0)) (hName 2) (sSet 1 (MC (mCons (mVar 1) (mCons (mVar 2) (mNil))) φ__law_gcd))) (sRet (M2 (mVar 1) (mC (.int 1)) oEq)))))
noncomputable def g__law_odd : SF := sSeq (sSet 1 (MC (mCons (mC .non) (mCons (mC (.bl true)) (mCons (mC (.bl false)) (mCons (mC (.int 0)) (mCons (mC (.int 1)) (mCons (M1 (mC (.int 1)) oNeg) (mCons (mC (.int 7)) (mCons (mC (.str "")) (mCons (mC (.str "1")) (mCons (mC (.str "spot")) (mCons (MC (mNil) oTup) (mCons (MC (mNil) oLst) (mCons (mDic0) (mCons (MC (mCons (mC (.int 1)) (mNil)) oTup) (mCons (MC (mCons (mC (.int 1)) (mNil)) oLst) (mCons (MC (mCons (mC (.int 0)) (mCons (mC (.int 1)) (mNil))) oTup) (mCons (MC (mCons (mC (.int 0)) (mCons (mC (.int 1)) (mNil))) oLst) (mCons (MC (mCons (MC (mCons (mC (.int 0)) (mCons (mC (.int 1)) (mNil))) oTup) (mNil)) oTup) (mCons (M2 (mC (.int 10)) (mC (.int 30)) oPow) (mNil)))))))))))))))))))) oLst)) (sSeq (sSet 1 (M2 (mVar 1) (MC (mCons (MC (mCons (mC (.int 1)) (mCons (mC (.int 1)) (mNil))) oTup) (mCons (MC (mCons (mC (.bl true)) (mCons (mC (.int 1)) (mNil))) oTup) (mCons (MC (mCons (mC (.int 0)) (mCons (mC (.bl true)) (mNil))) oTup) (mCons (mDic1 (mC (.int 0)) (mC (.int 1))) (mCons (MC (mCons (mC .non) (mCons (mC (.int 1)) (mNil))) oTup) (mCons (MC (mCons (mC (.str "0")) (mCons (mC (.int 1)) (mNil))) oTup) (mCons (MC (mCons (mC (.int 0)) (mCons (mC (.int 0)) (mCons (mC (.int 1)) (mNil)))) oTup) (mCons (MC (mCons (MC (mCons (mC (.int 0)) (mCons (mC (.int 1)) (mNil))) oTup) (mNil)) oLst) (mCons (M2 (mC (.int 10)) (mC (.int 64)) oPow) (mCons (MC (mCons (mC (.int 2)) (mCons (mC (.int 2)) (mNil))) oTup) (mNil))))))))))) oLst) oAdd)) (sRet (M2 (mVar 1) (M2 (mVar 0) (MC (mCons (mVar 1) (mNil)) (onOne oLen)) oMod) oIx)))
noncomputable def g__law_bent (φ__law_put φ__law_odd : FF) : SF := sSeq (sSet 2 (M2 (M2 (mVar 1) (mC (.int 16)) oDiv) (MC (mCons (mVar 0) (mNil)) (onOne oLen)) oMod)) (sSeq (sSet 3 (MC (mCons (mSl (mVar 0) (fNo) (fAt (M1 (mC (.int 1)) oNeg))) (mCons (mSl (mVar 0) (fAt (mC (.int 1))) (fNo)) (mCons (M2 (mVar 0) (MC (mCons (mC (.int 1)) (mNil)) oTup) oAdd) (mCons (M2 (mVar 0) (MC (mCons (mC (.int 0)) (mNil)) oTup) oAdd) (mCons (mFz (lOf (mCons (mVar 0) (mNil)))) (mCons (MC (mCons (mFz (lLC ["_law_one"] [] (iSeq (mVar 0)) (hName 0) (tYesF) (M2 (mC (.int 3)) (mVar 0) oMul))) (mNil)) oTuple) (mCons (MC (mCons (mVar 0) (mNil)) oTup) (mNil)))))))) oLst)) (sSeq (sSet 3 (M2 (mVar 3) (MC (mCons (MC (mCons (mFz (lLC ["_law_one"] [] (iSeq (mVar 0)) (hName 0) (tYesF) (M2 (mC (.int 0)) (mVar 0) oSub))) (mNil)) oTuple) (mCons (M2 (mSl (mVar 0) (fNo) (fAt (M1 (mC (.int 1)) oNeg))) (MC (mCons (mC (.int 0)) (mNil)) oTup) oAdd) (mCons (M2 (mSl (mVar 0) (fNo) (fAt (M1 (mC (.int 1)) oNeg))) (MC (mCons (M2 (mC (.int 0)) (M2 (mVar 0) (M1 (mC (.int 1)) oNeg) oIx) oSub) (mNil)) oTup) oAdd) (mCons (M2 (mSl (mVar 0) (fNo) (fAt (M1 (mC (.int 1)) oNeg))) (MC (mCons (mC (.bl true)) (mNil)) oTup) oAdd) (mNil))))) oLst) oAdd)) (sSeq (sSet 3 (M2 (mVar 3) (MC (mCons (MC (mCons (mFz (lLC ["_law_one"] [] (iSeq (mVar 0)) (hName 0) (tYesF) (M2 (mC (.int 2)) (mVar 0) oMul))) (mNil)) oTuple) (mCons (mRev (mVar 0)) (mCons (MC (mCons (mFz (lLC ["_law_one"] [0] (iSeq (mVar 0)) (hName 0) (tYesF) (M2 (M2 (mVar 1) (M1 (mC (.int 1)) oNeg) oIx) (mVar 0) oMul))) (mNil)) oTuple) (mNil)))) oLst) oAdd)) (sRet (M2 (M2 (mVar 3) (MC (mCons (MC (mCons (mVar 0) (mCons (mVar 2) (mCons (MC (mCons (M2 (mVar 1) (mC (.int 64)) oDiv) (mNil)) φ__law_odd) (mNil)))) φ__law_put) (mCons (MC (mCons (mVar 0) (mCons (mVar 2) (mCons (M2 (mVar 1) (mC (.int 64)) oDiv) (mNil)))) φ__law_put) (mNil))) oLst) oAdd) (M2 (mVar 1) (mC (.int 16)) oMod) oIx)))))
noncomputable def g_is_point (φ_is_spot : FF) : SF := sSeq (sIf (tOrF (tNotF (toTr (MC (mCons (mVar 0) (mNil)) φ_is_spot))) (toB (M2 (M2 (mVar 0) (M1 (mC (.int 1)) oNeg) oIx) (mC (.int 60)) oGt))) (sRet (mC (.bl false))) (sNext)) (sRet (mAll (stGen ["number"] [] (iSeq (mSl (mVar 0) (fNo) (fAt (M1 (mC (.int 1)) oNeg)))) (hName 0) (MCh (M1 (mC (.int 10000)) oNeg) (mVar 0) (mC (.int 10000)) oLe oLe))))
noncomputable def g_is_points (φ_is_point : FF) : SF := sSeq (sIf (tOrF (tNotF (toTr (M1 (mVar 0) (oIsi "list")))) (toB (M2 (MC (mCons (mVar 0) (mNil)) (onOne oLen)) (mC (.int 40)) oGt))) (sRet (mC (.bl false))) (sNext)) (sSeq (sIf (tNotF (toTr (mAll (stGen ["part"] [] (iSeq (mVar 0)) (hName 0) (MC (mCons (mVar 0) (mNil)) φ_is_point))))) (sRet (mC (.bl false))) (sNext)) (sRet (mAll (stGen ["part"] [0] (iSeq (mVar 0)) (hName 0) (M2 (MC (mCons (mVar 0) (mNil)) (onOne oLen)) (MC (mCons (M2 (mVar 1) (mC (.int 0)) oIx) (mNil)) (onOne oLen)) oEq)))))
noncomputable def g__law_place : SF := sSeq (sIf (toB (M2 (mVar 1) (mC (.int 0)) oEq)) (sRet (MC (mCons (M2 (M2 (mVar 0) (mC (.int 20001)) oMod) (mC (.int 10000)) oSub) (mCons (M2 (mC (.int 1)) (M2 (M2 (mVar 0) (mC (.int 20001)) oDiv) (mC (.int 60)) oMod) oAdd) (mNil))) oTup)) (sNext)) (sSeq (sIf (toB (M2 (mVar 1) (mC (.int 1)) oEq)) (sRet (MC (mCons (M2 (M2 (mVar 0) (mC (.int 5)) oMod) (mC (.int 2)) oSub) (mCons (mC (.int 1)) (mNil))) oTup)) (sNext)) (sSeq (sIf (toB (M2 (mVar 1) (mC (.int 2)) oEq)) (sRet (MC (mCons (M2 (M2 (mVar 0) (mC (.int 11)) oMod) (mC (.int 5)) oSub) (mCons (M2 (mC (.int 1)) (M2 (M2 (mVar 0) (mC (.int 11)) oDiv) (mC (.int 3)) oMod) oAdd) (mNil))) oTup)) (sNext)) (sSeq (sIf (toB (M2 (mVar 1) (mC (.int 3)) oEq)) (sRet (MC (mCons (M2 (mVar 2) (M2 (MC (mCons (mC (.int 0)) (mCons (mC (.int 0)) (mCons (mC (.int 1)) (mCons (mC (.int 40)) (mNil))))) oLst) (M2 (mVar 0) (mC (.int 4)) oMod) oIx) oAdd) (mCons (mC (.int 1)) (mNil))) oTup)) (sNext)) (sRet (MC (mCons (M2 (M2 (mVar 0) (mC (.int 2)) oMod) (M2 (mC (.int 1)) (M2 (mVar 2) (mC (.int 7)) oMod) oAdd) oMul) (mCons (mC (.int 1)) (mNil))) oTup)))))
noncomputable def g__law_point (φ__law_mixed φ__law_place φ__law_lowest : FF) : SF := sSeq (sSet 4 (mNew (lLst (mNil)))) (sSeq (sSet 5 (mC (.int 1))) (sSeq (sFor (iRngD1 (mCons (mVar 1) (mNil))) (hName 6) (sSeq (sAsg (MC (mCons (MC (mCons (mVar 0) (mCons (M2 (mVar 6) (mC (.int 1)) oAdd) (mNil))) φ__law_mixed) (mCons (mVar 2) (mCons (M2 (mVar 3) (mVar 6) oAdd) (mNil)))) φ__law_place) (hTup 2 (hCons (hName 7) (hCons (hName 8) (hNil))))) (sSeq (sIf (toB (M2 (mVar 6) (mC (.int 0)) oEq)) (sSet 5 (mVar 8)) (sNext)) (sDrop (mApp (mVar 4) (mCons (mVar 7) (mNil))))))) (sRet (MC (mCons (mFrz (mVar 4)) (mCons (mVar 5) (mNil))) φ__law_lowest))))
noncomputable def g__law_on_line (φ__law_next φ__law_lowest : FF) : SF := sSeq (sSet 3 (mFz (lLC ["_law_k"] [0] (iRngD1 (mCons (mVar 1) (mNil))) (hName 0) (tYesF) (M2 (M2 (MC (mCons (mVar 1) (mNil)) φ__law_next) (mC (.int 41)) oMod) (mC (.int 20)) oSub)))) (sSeq (sSet 4 (mFz (lLC ["_law_k"] [0] (iRngD1 (mCons (mVar 1) (mNil))) (hName 0) (tYesF) (M2 (M2 (MC (mCons (mVar 1) (mNil)) φ__law_next) (mC (.int 7)) oMod) (mC (.int 3)) oSub)))) (sSeq (sSet 5 (mNew (lLst (mNil)))) (sSeq (sFor (iRngD1 (mCons (mVar 2) (mNil))) (hName 6) (sSeq (sSet 7 (M2 (M2 (MC (mCons (mVar 0) (mNil)) φ__law_next) (mC (.int 13)) oMod) (mC (.int 6)) oSub)) (sDrop (mApp (mVar 5) (mCons (MC (mCons (mFz (lLC ["_law_k"] [3, 7, 4] (iRngD1 (mCons (mVar 1) (mNil))) (hName 0) (tYesF) (M2 (M2 (mVar 1) (mVar 0) oIx) (M2 (mVar 2) (M2 (mVar 3) (mVar 0) oIx) oMul) oAdd))) (mCons (mC (.int 1)) (mNil))) φ__law_lowest) (mNil)))))) (sRet (mFrz (mVar 5))))))
noncomputable def g__law_flat (φ__law_next φ__law_lowest : FF) : SF := sSeq (sPar 3 4 (mCons (M2 (M2 (MC (mCons (mVar 0) (mNil)) φ__law_next) (mC (.int 5)) oMod) (mC (.int 2)) oSub) (mCons (M2 (M2 (MC (mCons (mVar 0) (mNil)) φ__law_next) (mC (.int 5)) oMod) (mC (.int 2)) oSub) (mNil)))) (sSeq (sSet 5 (mNew (lLst (mNil)))) (sSeq (sFor (iRngD1 (mCons (mVar 2) (mNil))) (hName 6) (sSeq (sSet 7 (MC (mCons (mVar 0) (mNil)) φ__law_next)) (sSeq (sSet 8 (mNew (lSl (MC (mCons (M2 (M2 (mVar 7) (mC (.int 9)) oMod) (mC (.int 4)) oSub) (mCons (M2 (M2 (M2 (mVar 7) (mC (.int 9)) oDiv) (mC (.int 9)) oMod) (mC (.int 4)) oSub) (mCons (M2 (M2 (M2 (mVar 7) (mC (.int 81)) oDiv) (mC (.int 9)) oMod) (mC (.int 4)) oSub) (mNil)))) oLst) (fNo) (fAt (mVar 1))))) (sSeq (sIf (toB (M2 (mVar 1) (mC (.int 1)) oGt)) (sPut (M2 (M2 (mVar 3) (M2 (mVar 8) (mC (.int 0)) oIx) oMul) (M2 (mVar 4) (M2 (mVar 8) (M2 (mVar 1) (mC (.int 2)) oSub) oIx) oMul) oAdd) (mVar 8) (M1 (mC (.int 1)) oNeg)) (sNext)) (sDrop (mApp (mVar 5) (mCons (MC (mCons (mFrz (mVar 8)) (mCons (mC (.int 1)) (mNil))) φ__law_lowest) (mNil)))))))) (sRet (mFrz (mVar 5)))))
noncomputable def g__law_points (φ__law_next φ__law_on_line φ__law_flat φ__law_point : FF) : SF := sSeq (sSet 3 (MC (mCons (mVar 0) (mNil)) φ__law_next)) (sSeq (sSet 4 (M2 (M2 (mVar 3) (mC (.int 9)) oDiv) (M2 (mVar 2) (mC (.int 1)) oAdd) oMod)) (sSeq (sSet 5 (M2 (mVar 3) (mC (.int 9)) oMod)) (sSeq (sIf (toB (M2 (mVar 5) (mC (.int 5)) oEq)) (sRet (MC (mCons (mVar 0) (mCons (mVar 1) (mCons (mVar 4) (mNil)))) φ__law_on_line)) (sNext)) (sSeq (sIf (toB (M2 (mVar 5) (mC (.int 6)) oEq)) (sRet (MC (mCons (mVar 0) (mCons (mVar 1) (mCons (mVar 4) (mNil)))) φ__law_flat)) (sNext)) (sSeq (sIf (toB (M2 (mVar 5) (mC (.int 7)) oEq)) (sRet (M2 (MC (mCons (MC (mCons (mVar 3) (mCons (mVar 1) (mCons (mC (.int 2)) (mCons (mC (.int 0)) (mNil))))) φ__law_point) (mNil)) oLst) (mVar 4) oMul)) (sNext)) (sSeq (sSet 6 (mNew (lLst (mNil)))) (sSeq (sFor (iRngD1 (mCons (mVar 4) (mNil))) (hName 7) (sSeq (sSet 8 (MC (mCons (mVar 0) (mNil)) φ__law_next)) (sIf (tAndF (toB (M2 (mVar 5) (mC (.int 8)) oEq)) (tAndF (toB (M2 (mVar 6) (MC (mNil) oLst) oNeE)) (toB (M2 (M2 (mVar 8) (mC (.int 3)) oMod) (mC (.int 0)) oEq)))) (sDrop (mApp (mVar 6) (mCons (M2 (mVar 6) (M2 (M2 (mVar 8) (mC (.int 3)) oDiv) (MC (mCons (mVar 6) (mNil)) (onOne oLen)) oMod) oIx) (mNil)))) (sDrop (mApp (mVar 6) (mCons (MC (mCons (M2 (mVar 8) (mC (.int 7)) oDiv) (mCons (mVar 1) (mCons (M2 (M2 (mVar 5) (mC (.int 8)) oMod) (mC (.int 5)) oMod) (mCons (M2 (M2 (mVar 8) (mC (.int 5)) oMod) (mC (.int 30)) oMul) (mNil))))) φ__law_point) (mNil))))))) (sRet (mFrz (mVar 6))))))))))
noncomputable def g__law_is_point (φ__law_is_spot : FF) : SF := sSeq (sIf (tOrF (tNotF (toTr (MC (mCons (mVar 0) (mNil)) φ__law_is_spot))) (toB (M2 (M2 (mVar 0) (M1 (mC (.int 1)) oNeg) oIx) (mC (.int 60)) oGt))) (sRet (mC (.bl false))) (sNext)) (sRet (M2 (mFz (lLC ["_law_one"] [] (iSeq (mSl (mVar 0) (fNo) (fAt (M1 (mC (.int 1)) oNeg)))) (hName 0) (tOrF (toB (M2 (mVar 0) (M1 (mC (.int 10000)) oNeg) oLt)) (toB (M2 (mVar 0) (mC (.int 10000)) oGt))) (mVar 0))) (MC (mNil) oLst) oEq))
noncomputable def g__law_are_points (φ__law_is_point : FF) : SF := sSeq (sIf (tOrF (tNotF (toTr (M1 (mVar 0) (oIsi "list")))) (tOrF (toB (M2 (MC (mCons (mVar 0) (mNil)) (onOne oLen)) (mC (.int 40)) oGt)) (toB (M2 (mFz (lLC ["_law_one"] [] (iSeq (mVar 0)) (hName 0) (tNotF (toTr (MC (mCons (mVar 0) (mNil)) φ__law_is_point))) (mVar 0))) (MC (mNil) oLst) oNeE)))) (sRet (mC (.bl false))) (sNext)) (sRet (M2 (mFz (lLC ["_law_one"] [0] (iSeq (mVar 0)) (hName 0) (toB (M2 (MC (mCons (mVar 0) (mNil)) (onOne oLen)) (MC (mCons (M2 (mVar 1) (mC (.int 0)) oIx) (mNil)) (onOne oLen)) oNe)) (mVar 0))) (MC (mNil) oLst) oEq))
noncomputable def g__law_edge (φ__law_lowest : FF) : SF := sSeq (sSet 2 (M2 (MC (mCons (mC (.int 10000)) (mCons (mC (.int 10001)) (mCons (M1 (mC (.int 10000)) oNeg) (mCons (M1 (mC (.int 10001)) oNeg) (mCons (mC (.int 1)) (mCons (mC (.int 0)) (mCons (mC (.int 9999)) (mCons (M1 (mC (.int 1)) oNeg) (mNil))))))))) oLst) (M2 (mVar 1) (mC (.int 8)) oMod) oIx)) (sSeq (sSet 3 (M2 (MC (mCons (mC (.int 1)) (mCons (mC (.int 60)) (mCons (mC (.int 61)) (mCons (mC (.int 59)) (mCons (mC (.int 7)) (mCons (mC (.int 0)) (mCons (M1 (mC (.int 1)) oNeg) (mCons (mC (.int 120)) (mNil))))))))) oLst) (M2 (M2 (mVar 1) (mC (.int 8)) oDiv) (mC (.int 8)) oMod) oIx)) (sSeq (sSet 4 (mNew (lLC ["_law_k"] [2, 1] (iRngD1 (mCons (mVar 0) (mNil))) (hName 0) (tYesF) (M2 (MC (mCons (mC (.int 0)) (mCons (mC (.int 1)) (mCons (mVar 1) (mNil)))) oLst) (M2 (M2 (mVar 2) (mC (.int 64)) oDiv) (mC (.int 3)) oMod) oIx)))) (sSeq (sPut (mVar 2) (mVar 4) (M2 (M2 (mVar 1) (mC (.int 192)) oDiv) (mVar 0) oMod)) (sSeq (sIf (tOrF (toB (M2 (M2 (M2 (mVar 1) (mC (.int 800)) oDiv) (mC (.int 3)) oMod) (mC (.int 0)) oEq)) (toB (M2 (mVar 3) (mC (.int 1)) oLt))) (sRet (M2 (MC (mCons (mVar 4) (mNil)) oTuple) (MC (mCons (mVar 3) (mNil)) oTup) oAdd)) (sNext)) (sRet (MC (mCons (mFrz (mVar 4)) (mCons (mVar 3) (mNil))) φ__law_lowest))))))
noncomputable def g__law_bent_k02 (φ__law_odd φ__law_edge : FF) : SF := sSeq (sSet 3 (M2 (mVar 2) (mC (.int 8)) oDiv)) (sSeq (sSet 4 (M2 (mVar 3) (M2 (MC (mCons (mVar 0) (mNil)) (onOne oLen)) (mC (.int 1)) oAdd) oMod)) (sSeq (sIf (toB (M2 (M2 (mVar 2) (mC (.int 8)) oMod) (mC (.int 0)) oEq)) (sRet (M2 (MC (mCons (MC (mCons (mVar 0) (mNil)) oTuple) (mCons (MC (mCons (mVar 0) (mNil)) oLst) (mCons (M2 (mVar 0) (mVar 0) oAdd) (mCons (mDic1 (mC (.int 0)) (mVar 0)) (mCons (MC (mCons (MC (mCons (mVar 0) (mNil)) oTuple) (mNil)) oLst) (mNil)))))) oLst) (M2 (mVar 3) (mC (.int 5)) oMod) oIx)) (sNext)) (sSeq (sIf (toB (M2 (M2 (mVar 2) (mC (.int 8)) oMod) (mC (.int 1)) oEq)) (sRet (mSl (M2 (mVar 0) (M2 (MC (mCons (M2 (M2 (MC (mCons (mC (.int 0)) (mNil)) oTup) (mVar 1) oMul) (MC (mCons (mC (.int 1)) (mNil)) oTup) oAdd) (mNil)) oLst) (mC (.int 41)) oMul) oAdd) (fNo) (fAt (M2 (MC (mCons (mC (.int 39)) (mCons (mC (.int 40)) (mCons (mC (.int 41)) (mNil)))) oLst) (M2 (mVar 3) (mC (.int 3)) oMod) oIx)))) (sNext)) (sSeq (sIf (toB (M2 (M2 (mVar 2) (mC (.int 8)) oMod) (mC (.int 2)) oEq)) (sSeq (sSet 5 (M2 (mC (.int 1)) (M2 (M2 (mVar 1) (M2 (M2 (mVar 3) (mC (.int 41)) oDiv) (mC (.int 2)) oMod) oAdd) (mC (.int 3)) oMod) oAdd)) (sRet (M2 (M2 (mSl (mVar 0) (fNo) (fAt (mVar 4))) (MC (mCons (M2 (M2 (MC (mCons (mC (.int 0)) (mNil)) oTup) (mVar 5) oMul) (MC (mCons (mC (.int 1)) (mNil)) oTup) oAdd) (mNil)) oLst) oAdd) (mSl (mVar 0) (fAt (mVar 4)) (fNo)) oAdd))) (sNext)) (sSeq (sIf (toB (M2 (M2 (mVar 2) (mC (.int 8)) oMod) (mC (.int 3)) oEq)) (sRet (M2 (M2 (mSl (mVar 0) (fNo) (fAt (mVar 4))) (MC (mCons (MC (mCons (M2 (mVar 3) (mC (.int 41)) oDiv) (mNil)) φ__law_odd) (mNil)) oLst) oAdd) (mSl (mVar 0) (fAt (M2 (mVar 4) (mC (.int 1)) oAdd)) (fNo)) oAdd)) (sNext)) (sSeq (sIf (tAndF (toB (M2 (M2 (mVar 2) (mC (.int 8)) oMod) (mC (.int 4)) oEq)) (toB (M2 (mVar 0) (MC (mNil) oLst) oNeE))) (sRet (M2 (M2 (mSl (mVar 0) (fNo) (fAt (mVar 4))) (MC (mCons (mFz (lOf (mCons (M2 (mVar 0) (M2 (mVar 4) (mC (.int 1)) oSub) oIx) (mNil)))) (mNil)) oLst) oAdd) (mSl (mVar 0) (fAt (M2 (mVar 4) (mC (.int 1)) oAdd)) (fNo)) oAdd)) (sNext)) (sRet (M2 (M2 (mSl (mVar 0) (fNo) (fAt (mVar 4))) (MC (mCons (MC (mCons (mVar 1) (mCons (M2 (mVar 3) (mC (.int 41)) oDiv) (mNil))) φ__law_edge) (mNil)) oLst) oAdd) (mSl (mVar 0) (fAt (M2 (mVar 4) (mC (.int 1)) oAdd)) (fNo)) oAdd))))))))
noncomputable def g_law_k02 (φ__law_draws φ__law_next φ__law_points φ__law_odd φ__law_bent φ__law_are_points φ_is_points φ__law_says : FF) : SF := sSeq (sSet 1 (MC (mCons (mVar 0) (mNil)) φ__law_draws)) (sSeq (sFor (iRngD1 (mCons (M2 (mC (.int 1)) (MC (mCons (mC (.int 5)) (mCons (MC (mCons (mVar 0) (mNil)) (onOne oLen)) (mNil))) (onTwo oMin2)) oAdd) (mNil))) (hName 2) (sSeq (sSet 3 (M2 (mC (.int 1)) (M2 (MC (mCons (mVar 1) (mNil)) φ__law_next) (mC (.int 3)) oMod) oAdd)) (sSeq (sSet 4 (MC (mCons (mVar 1) (mCons (mVar 3) (mCons (M2 (MC (mCons (mC (.int 40)) (mCons (mC (.int 6)) (mCons (mC (.int 3)) (mNil)))) oLst) (M2 (MC (mCons (mVar 1) (mNil)) φ__law_next) (mC (.int 3)) oMod) oIx) (mNil)))) φ__law_points)) (sSeq (sSet 5 (MC (mCons (mVar 4) (mCons (MC (mNil) oLst) (mCons (M2 (mSl (mVar 4) (fNo) (fAt (mC (.int 1)))) (mC (.int 2)) oMul) (mNil)))) oLst)) (sSeq (sFor (iRngD1 (mCons (mC (.int 8)) (mNil))) (hName 6) (sSeq (sSet 7 (MC (mCons (mVar 1) (mNil)) φ__law_next)) (sSet 5 (M2 (mVar 5) (MC (mCons (MC (mCons (mVar 4) (mCons (mVar 3) (mCons (mVar 7) (mNil)))) φ__law_bent) (mCons (MC (mCons (mVar 7) (mNil)) φ__law_odd) (mCons (MC (mCons (MC (mCons (M2 (mVar 7) (mC (.int 29)) oDiv) (mNil)) φ__law_odd) (mNil)) oLst) (mNil)))) oLst) oAdd)))) (sFor (iSeq (mVar 5)) (hName 8) (sIf (tNotF (toTr (MC (mCons (MC (mCons (mVar 8) (mNil)) φ_is_points) (mCons (MC (mCons (mVar 8) (mNil)) φ__law_are_points) (mNil))) φ__law_says))) (sRet (mC (.bl false))) (sNext)))))))) (sRet (mC (.bl true))))
noncomputable def g_lessened (φ_common_divisor : FF) : SF := sSeq (sSet 1 (MC (mCons (mVar 0) (mNil)) φ_common_divisor)) (sRet (mTupG (stGen ["number"] [1] (iSeq (mVar 0)) (hName 0) (M2 (mVar 0) (mVar 1) oDiv))))
end LG
set_option Elab.async false
set_option linter.all false
set_option maxRecDepth 100000
set_option maxHeartbeats 4000000
namespace Lk02
open PySem PySem.Spec PyProof.Rows L2 L3 LG
def top (i : Nat) : Stmt := PySem.Challenge.pw_heapsmeet_k02_points_of_anything.main.body.getD i (.Pass ⟨0, 0, 0, 0⟩)
structure BI (K : PySem.W.Frag) (mg : Str → Option Value) : Prop where
  b_abs : mg "abs" = none
  b_all : mg "all" = none
  b_bool : mg "bool" = none
  b_int : mg "int" = none
  b_isinstance : mg "isinstance" = none
  b_len : mg "len" = none
  b_list : mg "list" = none
  b_min : mg "min" = none
  b_range : mg "range" = none
  b_tuple : mg "tuple" = none
  c_FARTHEST : GD K mg "FARTHEST" (.int 10000)
  c_GREATEST_BOTTOM : GD K mg "GREATEST_BOTTOM" (.int 60)
  c_MOST_DIRECTIONS : GD K mg "MOST_DIRECTIONS" (.int 3)
  c_MOST_POINTS : GD K mg "MOST_POINTS" (.int 40)
variable {P : Program} {w : World} {K : PySem.W.Frag} {mg : Str → Option Value} {base : Heap} {tb : List Addr} {f Tb : Addr} {fd : FuncData}
abbrev s__law_mixed : Stmt := top 14
theorem sc__law_mixed : FnScope ["_law_cell", "_law_k", "_law_number"] ["_law_cell", "_law_k"] (defScope s__law_mixed) := ⟨rfl, rfl, rfl, by decide +kernel, rfl, by decide +kernel, by decide +kernel⟩
theorem fi__law_mixed (T : BI K mg) (F : FunP K "_law_mixed" "_law_mixed" s__law_mixed f fd Tb) (KB : K.In base) (hmg : mg "_law_mixed" = some (.ref f)) : FI P w K mg base tb "_law_mixed" 2 (0 + 1) (bodyF 3 (g__law_mixed)) :=
  fi_of F KB hmg sc__law_mixed rfl (fun _ _ _ _ _ _ us hl => match us, hl with | [_, _], _ => rfl) fun c A outer s H E hcd hr => by
    have nd := sc__law_mixed.nd
    refine pssd_cons ?_ ?_
    refine psd_set (i := 2) nd ?_
    refine pd_bin od_mod ?_ ?_
    refine pd_bin od_add ?_ ?_
    refine pd_bin od_add ?_ ?_
    refine pd_bin od_mul ?_ ?_
    refine pd_bin od_mod ?_ ?_
    exact pdv 0
    exact pd_int
    exact pd_int
    refine pd_bin od_mul ?_ ?_
    refine pd_bin od_mul ?_ ?_
    exact pd_int
    exact pdv 1
    exact pdv 1
    exact pd_int
    exact pd_int
    refine pssd_one ?_
    refine psd_ret ?_
    refine pd_bin od_mod ?_ ?_
    refine pd_bin od_mul ?_ ?_
    exact pdv 2
    exact pdv 2
    exact pd_int
abbrev s__law_draws : Stmt := top 15
theorem sc__law_draws : FnScope ["_law_script", "_law_drawn", "_law_k", "_law_cell", "_law_j"] ["_law_script"] (defScope s__law_draws) := ⟨rfl, rfl, rfl, by decide +kernel, rfl, by decide +kernel, by decide +kernel⟩
theorem fi__law_draws {φ__law_mixed : FF} (T : BI K mg) (F : FunP K "_law_draws" "_law_draws" s__law_draws f fd Tb) (KB : K.In base) (hmg : mg "_law_draws" = some (.ref f)) (F__law_mixed : FI P w K mg base tb "_law_mixed" 2 1 φ__law_mixed) : FI P w K mg base tb "_law_draws" 1 (1 + 1) (bodyF 5 (g__law_draws φ__law_mixed)) :=
  fi_of F KB hmg sc__law_draws rfl (fun _ _ _ _ _ _ us hl => match us, hl with | [_], _ => rfl) fun c A outer s H E hcd hr => by
    have nd := sc__law_draws.nd
    refine pssd_cons ?_ ?_
    refine psd_set (i := 1) nd ?_
    refine pdn_new ?_
    refine pdn_lst ?_
    exact pad_nil
    refine pssd_cons ?_ ?_
    refine psd_for (ts := [2]) PassesOwn.never rfl ?_ (pgd_name (i := 2) nd) ?_
    refine pid_range1 T.b_range ?_
    refine pad_cons ?_ ?_
    refine pd_min2 rfl T.b_min ?_
    refine pad_cons ?_ ?_
    refine pd_len T.b_len ?_
    refine pad_cons ?_ ?_
    exact pdv 0
    exact pad_nil
    refine pad_cons ?_ ?_
    exact pd_int
    exact pad_nil
    exact pad_nil
    refine pssd_cons ?_ ?_
    refine psd_set (i := 3) nd ?_
    refine pd_abs T.b_abs ?_
    refine pad_cons ?_ ?_
    refine pd_ix ?_ ?_
    exact pdv 0
    exact pdv 2
    exact pad_nil
    refine pssd_cons ?_ ?_
    refine psd_if ?_ ?_ ?_
    refine ptd_cmp (od_lt) ?_ ?_
    exact pdv 3
    refine pd_bin od_pow ?_ ?_
    exact pd_int
    exact pd_int
    refine pssd_one ?_
    refine psd_for (ts := [4]) PassesOwn.never rfl ?_ (pgd_name (i := 4) nd) ?_
    refine pid_range1 T.b_range ?_
    refine pad_cons ?_ ?_
    exact pd_int
    exact pad_nil
    refine pssd_one ?_
    refine psd_expr ?_
    refine pd_append ?_ ?_
    exact pdv 1
    refine pad_cons ?_ ?_
    refine pd_call F__law_mixed (hr.mono (by first | decide | omega)) ?_ (len_cons (len_cons (len_nil)))
    refine pad_cons ?_ ?_
    refine pd_call F__law_mixed (hr.mono (by first | decide | omega)) ?_ (len_cons (len_cons (len_nil)))
    refine pad_cons ?_ ?_
    exact pdv 3
    refine pad_cons ?_ ?_
    refine pd_bin od_add ?_ ?_
    refine pd_bin od_mul ?_ ?_
    exact pd_int
    exact pdv 4
    exact pd_int
    exact pad_nil
    refine pad_cons ?_ ?_
    refine pd_bin od_add ?_ ?_
    refine pd_bin od_add ?_ ?_
    exact pdv 4
    exact pdv 2
    exact pd_int
    exact pad_nil
    exact pad_nil
    exact pssd_nil
    refine pssd_cons ?_ ?_
    refine psd_while PassesOwn.never ?_ ?_
    refine pwd_pt ?_
    refine pwd_and ?_ ?_
    refine ptd_cmp (od_ge) ?_ ?_
    exact pdv 3
    refine pd_bin od_pow ?_ ?_
    exact pd_int
    exact pd_int
    refine pwd_and1 ?_
    refine ptd_cmp (od_lt) ?_ ?_
    refine pd_len T.b_len ?_
    refine pad_cons ?_ ?_
    exact pdv 1
    exact pad_nil
    exact pd_int
    refine pssd_cons ?_ ?_
    refine psd_expr ?_
    refine pd_append ?_ ?_
    exact pdv 1
    refine pad_cons ?_ ?_
    refine pd_bin od_mod ?_ ?_
    exact pdv 3
    exact pd_int
    exact pad_nil
    refine pssd_one ?_
    refine psd_set (i := 3) nd ?_
    refine pd_bin od_div ?_ ?_
    exact pdv 3
    exact pd_int
    refine pssd_one ?_
    refine psd_if ?_ ?_ ?_
    refine ptd_cmp (od_ge) ?_ ?_
    exact pdv 3
    exact pd_int
    refine pssd_one ?_
    refine psd_expr ?_
    refine pd_append ?_ ?_
    exact pdv 1
    refine pad_cons ?_ ?_
    refine pd_bin od_mod ?_ ?_
    exact pdv 3
    exact pd_int
    exact pad_nil
    exact pssd_nil
    refine pssd_one ?_
    refine psd_ret ?_
    exact pdv 1
abbrev s__law_next : Stmt := top 16
theorem sc__law_next : FnScope ["_law_drawn"] ["_law_drawn"] (defScope s__law_next) := ⟨rfl, rfl, rfl, by decide +kernel, rfl, by decide +kernel, by decide +kernel⟩
theorem fi__law_next (T : BI K mg) (F : FunP K "_law_next" "_law_next" s__law_next f fd Tb) (KB : K.In base) (hmg : mg "_law_next" = some (.ref f)) : FI P w K mg base tb "_law_next" 1 (0 + 1) (bodyF 1 (g__law_next)) :=
  fi_of F KB hmg sc__law_next rfl (fun _ _ _ _ _ _ us hl => match us, hl with | [_], _ => rfl) fun c A outer s H E hcd hr => by
    have nd := sc__law_next.nd
    refine pssd_cons ?_ ?_
    refine psd_if ?_ ?_ ?_
    refine ptd_cmp (od_eq hr) ?_ ?_
    exact pdv 0
    refine pd_lst ?_
    exact pad_nil
    refine pssd_one ?_
    refine psd_ret ?_
    exact pd_int
    exact pssd_nil
    refine pssd_one ?_
    refine psd_ret ?_
    refine pd_pop0 ?_
    exact pdv 0
abbrev s__law_gcd : Stmt := top 17
theorem sc__law_gcd : FnScope ["_law_one", "_law_other"] ["_law_one", "_law_other"] (defScope s__law_gcd) := ⟨rfl, rfl, rfl, by decide +kernel, rfl, by decide +kernel, by decide +kernel⟩
theorem fi__law_gcd (T : BI K mg) (F : FunP K "_law_gcd" "_law_gcd" s__law_gcd f fd Tb) (KB : K.In base) (hmg : mg "_law_gcd" = some (.ref f)) : FI P w K mg base tb "_law_gcd" 2 (0 + 1) (bodyF 2 (g__law_gcd)) :=
  fi_of F KB hmg sc__law_gcd rfl (fun _ _ _ _ _ _ us hl => match us, hl with | [_, _], _ => rfl) fun c A outer s H E hcd hr => by
    have nd := sc__law_gcd.nd
    refine pssd_cons ?_ ?_
    refine psd_while PassesOwn.never ?_ ?_
    refine ptd_cmp (od_ne hr) ?_ ?_
    exact pdv 1
    exact pd_int
    refine pssd_one ?_
    refine psd_par (i := 0) (j := 1) rfl nd ?_
    refine pad_cons ?_ ?_
    exact pdv 1
    refine pad_cons ?_ ?_
    refine pd_bin od_mod ?_ ?_
    exact pdv 0
    exact pdv 1
    exact pad_nil
    refine pssd_one ?_
    refine psd_ret ?_
    refine pd_abs T.b_abs ?_
    refine pad_cons ?_ ?_
    exact pdv 0
    exact pad_nil
abbrev s__law_lowest : Stmt := top 18
theorem sc__law_lowest : FnScope ["_law_numbers", "_law_bottom", "_law_common", "_law_number"] ["_law_numbers", "_law_bottom"] (defScope s__law_lowest) := ⟨rfl, rfl, rfl, by decide +kernel, rfl, by decide +kernel, by decide +kernel⟩
theorem fi__law_lowest {φ__law_gcd : FF} (T : BI K mg) (F : FunP K "_law_lowest" "_law_lowest" s__law_lowest f fd Tb) (KB : K.In base) (hmg : mg "_law_lowest" = some (.ref f)) (F__law_gcd : FI P w K mg base tb "_law_gcd" 2 1 φ__law_gcd) : FI P w K mg base tb "_law_lowest" 2 (1 + 1) (bodyF 4 (g__law_lowest φ__law_gcd)) :=
  fi_of F KB hmg sc__law_lowest rfl (fun _ _ _ _ _ _ us hl => match us, hl with | [_, _], _ => rfl) fun c A outer s H E hcd hr => by
    have nd := sc__law_lowest.nd
    refine pssd_cons ?_ ?_
    refine psd_set (i := 2) nd ?_
    exact pdv 1
    refine pssd_cons ?_ ?_
    refine psd_for (ts := [3]) PassesOwn.never rfl ?_ (pgd_name (i := 3) nd) ?_
    refine pid_seq ?_
    exact pdv 0
    refine pssd_one ?_
    refine psd_set (i := 2) nd ?_
    refine pd_call F__law_gcd (hr.mono (by first | decide | omega)) ?_ (len_cons (len_cons (len_nil)))
    refine pad_cons ?_ ?_
    exact pdv 2
    refine pad_cons ?_ ?_
    exact pdv 3
    exact pad_nil
    refine pssd_cons ?_ ?_
    refine psd_if ?_ ?_ ?_
    refine ptd_cmp (od_lt) ?_ ?_
    exact pdv 1
    exact pd_int
    refine pssd_one ?_
    refine psd_set (i := 2) nd ?_
    refine pd_bin od_sub ?_ ?_
    exact pd_int
    refine pd_abs T.b_abs ?_
    refine pad_cons ?_ ?_
    exact pdv 2
    exact pad_nil
    exact pssd_nil
    refine pssd_one ?_
    refine psd_ret ?_
    refine pd_bin od_add ?_ ?_
    refine pd_tuple T.b_tuple ?_
    refine pad_cons ?_ ?_
    refine pdn_fz ?_
    refine pdn_lc (own := ["_law_number"]) (cap := ["_law_common"]) (capI := [2]) (ts := [0]) rfl ⟨rfl, by decide +kernel, ⟨⟨rfl, by first | exact Or.inl rfl | exact Or.inr rfl⟩, trivial⟩, by decide +kernel, by decide +kernel⟩ (by decide +kernel) ?_ (fun cs C fp s2 H2 => pgd_name (i := 0) (show (["_law_number", "_law_common"] : List Str).Nodup by decide +kernel)) ?_ ?_
    refine pid_seq ?_
    exact pdv 0
    intro cs C fp s2 H2
    exact pifd_nil
    intro cs C fp s2 H2
    refine pd_bin od_div ?_ ?_
    exact pdv 0
    exact pdv 1
    exact pad_nil
    refine pd_tup ?_
    refine pad_cons ?_ ?_
    refine pd_bin od_div ?_ ?_
    exact pdv 1
    exact pdv 2
    exact pad_nil
abbrev s__law_on_line : Stmt := top 21
theorem sc__law_on_line : FnScope ["_law_drawn", "_law_directions", "_law_many", "_law_start", "_law_step", "_law_found", "_law_j", "_law_turn"] ["_law_drawn", "_law_directions", "_law_many"] (defScope s__law_on_line) := ⟨rfl, rfl, rfl, by decide +kernel, rfl, by decide +kernel, by decide +kernel⟩
theorem fi__law_on_line {φ__law_next φ__law_lowest : FF} (T : BI K mg) (F : FunP K "_law_on_line" "_law_on_line" s__law_on_line f fd Tb) (KB : K.In base) (hmg : mg "_law_on_line" = some (.ref f)) (F__law_next : FI P w K mg base tb "_law_next" 1 1 φ__law_next) (F__law_lowest : FI P w K mg base tb "_law_lowest" 2 2 φ__law_lowest) : FI P w K mg base tb "_law_on_line" 3 (2 + 1) (bodyF 8 (g__law_on_line φ__law_next φ__law_lowest)) :=
  fi_of F KB hmg sc__law_on_line rfl (fun _ _ _ _ _ _ us hl => match us, hl with | [_, _, _], _ => rfl) fun c A outer s H E hcd hr => by
    have nd := sc__law_on_line.nd
    refine pssd_cons ?_ ?_
    refine psd_set (i := 3) nd ?_
    refine pdn_fz ?_
    refine pdn_lc (own := ["_law_k"]) (cap := ["_law_drawn"]) (capI := [0]) (ts := [0]) rfl ⟨rfl, by decide +kernel, ⟨⟨rfl, by first | exact Or.inl rfl | exact Or.inr rfl⟩, trivial⟩, by decide +kernel, by decide +kernel⟩ (by decide +kernel) ?_ (fun cs C fp s2 H2 => pgd_name (i := 0) (show (["_law_k", "_law_drawn"] : List Str).Nodup by decide +kernel)) ?_ ?_
    refine pid_range1 T.b_range ?_
    refine pad_cons ?_ ?_
    exact pdv 1
    exact pad_nil
    intro cs C fp s2 H2
    exact pifd_nil
    intro cs C fp s2 H2
    refine pd_bin od_sub ?_ ?_
    refine pd_bin od_mod ?_ ?_
    refine pd_call F__law_next (hr.mono (by first | decide | omega)) ?_ (len_cons (len_nil))
    refine pad_cons ?_ ?_
    exact pdv 1
    exact pad_nil
    exact pd_int
    exact pd_int
    refine pssd_cons ?_ ?_
    refine psd_set (i := 4) nd ?_
    refine pdn_fz ?_
    refine pdn_lc (own := ["_law_k"]) (cap := ["_law_drawn"]) (capI := [0]) (ts := [0]) rfl ⟨rfl, by decide +kernel, ⟨⟨rfl, by first | exact Or.inl rfl | exact Or.inr rfl⟩, trivial⟩, by decide +kernel, by decide +kernel⟩ (by decide +kernel) ?_ (fun cs C fp s2 H2 => pgd_name (i := 0) (show (["_law_k", "_law_drawn"] : List Str).Nodup by decide +kernel)) ?_ ?_
    refine pid_range1 T.b_range ?_
    refine pad_cons ?_ ?_
    exact pdv 1
    exact pad_nil
    intro cs C fp s2 H2
    exact pifd_nil
    intro cs C fp s2 H2
    refine pd_bin od_sub ?_ ?_
    refine pd_bin od_mod ?_ ?_
    refine pd_call F__law_next (hr.mono (by first | decide | omega)) ?_ (len_cons (len_nil))
    refine pad_cons ?_ ?_
    exact pdv 1
    exact pad_nil
    exact pd_int
    exact pd_int
    refine pssd_cons ?_ ?_
    refine psd_set (i := 5) nd ?_
    refine pdn_new ?_
    refine pdn_lst ?_
    exact pad_nil
    refine pssd_cons ?_ ?_
    refine psd_for (ts := [6]) PassesOwn.never rfl ?_ (pgd_name (i := 6) nd) ?_
    refine pid_range1 T.b_range ?_
    refine pad_cons ?_ ?_
    exact pdv 2
    exact pad_nil
    refine pssd_cons ?_ ?_
    refine psd_set (i := 7) nd ?_
    refine pd_bin od_sub ?_ ?_
    refine pd_bin od_mod ?_ ?_
    refine pd_call F__law_next (hr.mono (by first | decide | omega)) ?_ (len_cons (len_nil))
    refine pad_cons ?_ ?_
    exact pdv 0
    exact pad_nil
    exact pd_int
    exact pd_int
    refine pssd_one ?_
    refine psd_expr ?_
    refine pd_append ?_ ?_
    exact pdv 5
    refine pad_cons ?_ ?_
    refine pd_call F__law_lowest (hr.mono (by first | decide | omega)) ?_ (len_cons (len_cons (len_nil)))
    refine pad_cons ?_ ?_
    refine pdn_fz ?_
    refine pdn_lc (own := ["_law_k"]) (cap := ["_law_start", "_law_turn", "_law_step"]) (capI := [3, 7, 4]) (ts := [0]) rfl ⟨rfl, by decide +kernel, ⟨⟨rfl, by first | exact Or.inl rfl | exact Or.inr rfl⟩, ⟨⟨rfl, by first | exact Or.inl rfl | exact Or.inr rfl⟩, ⟨⟨rfl, by first | exact Or.inl rfl | exact Or.inr rfl⟩, trivial⟩⟩⟩, by decide +kernel, by decide +kernel⟩ (by decide +kernel) ?_ (fun cs C fp s2 H2 => pgd_name (i := 0) (show (["_law_k", "_law_start", "_law_turn", "_law_step"] : List Str).Nodup by decide +kernel)) ?_ ?_
    refine pid_range1 T.b_range ?_
    refine pad_cons ?_ ?_
    exact pdv 1
    exact pad_nil
    intro cs C fp s2 H2
    exact pifd_nil
    intro cs C fp s2 H2
    refine pd_bin od_add ?_ ?_
    refine pd_ix ?_ ?_
    exact pdv 1
    exact pdv 0
    refine pd_bin od_mul ?_ ?_
    exact pdv 2
    refine pd_ix ?_ ?_
    exact pdv 3
    exact pdv 0
    refine pad_cons ?_ ?_
    exact pd_int
    exact pad_nil
    exact pad_nil
    refine pssd_one ?_
    refine psd_ret ?_
    refine pd_frz ?_
    exact pdv 5
abbrev s__law_flat : Stmt := top 22
theorem sc__law_flat : FnScope ["_law_drawn", "_law_directions", "_law_many", "_law_first", "_law_second", "_law_found", "_law_j", "_law_number", "_law_row"] ["_law_drawn", "_law_directions", "_law_many"] (defScope s__law_flat) := ⟨rfl, rfl, rfl, by decide +kernel, rfl, by decide +kernel, by decide +kernel⟩
theorem fi__law_flat {φ__law_next φ__law_lowest : FF} (T : BI K mg) (F : FunP K "_law_flat" "_law_flat" s__law_flat f fd Tb) (KB : K.In base) (hmg : mg "_law_flat" = some (.ref f)) (F__law_next : FI P w K mg base tb "_law_next" 1 1 φ__law_next) (F__law_lowest : FI P w K mg base tb "_law_lowest" 2 2 φ__law_lowest) : FI P w K mg base tb "_law_flat" 3 (2 + 1) (bodyF 9 (g__law_flat φ__law_next φ__law_lowest)) :=
  fi_of F KB hmg sc__law_flat rfl (fun _ _ _ _ _ _ us hl => match us, hl with | [_, _, _], _ => rfl) fun c A outer s H E hcd hr => by
    have nd := sc__law_flat.nd
    refine pssd_cons ?_ ?_
    refine psd_par (i := 3) (j := 4) rfl nd ?_
    refine pad_cons ?_ ?_
    refine pd_bin od_sub ?_ ?_
    refine pd_bin od_mod ?_ ?_
    refine pd_call F__law_next (hr.mono (by first | decide | omega)) ?_ (len_cons (len_nil))
    refine pad_cons ?_ ?_
    exact pdv 0
    exact pad_nil
    exact pd_int
    exact pd_int
    refine pad_cons ?_ ?_
    refine pd_bin od_sub ?_ ?_
    refine pd_bin od_mod ?_ ?_
    refine pd_call F__law_next (hr.mono (by first | decide | omega)) ?_ (len_cons (len_nil))
    refine pad_cons ?_ ?_
    exact pdv 0
    exact pad_nil
    exact pd_int
    exact pd_int
    exact pad_nil
    refine pssd_cons ?_ ?_
    refine psd_set (i := 5) nd ?_
    refine pdn_new ?_
    refine pdn_lst ?_
    exact pad_nil
    refine pssd_cons ?_ ?_
    refine psd_for (ts := [6]) PassesOwn.never rfl ?_ (pgd_name (i := 6) nd) ?_
    refine pid_range1 T.b_range ?_
    refine pad_cons ?_ ?_
    exact pdv 2
    exact pad_nil
    refine pssd_cons ?_ ?_
    refine psd_set (i := 7) nd ?_
    refine pd_call F__law_next (hr.mono (by first | decide | omega)) ?_ (len_cons (len_nil))
    refine pad_cons ?_ ?_
    exact pdv 0
    exact pad_nil
    refine pssd_cons ?_ ?_
    refine psd_set (i := 8) nd ?_
    refine pdn_new ?_
    refine pdn_slice ?_ ?_ ?_
    refine pd_lst ?_
    refine pad_cons ?_ ?_
    refine pd_bin od_sub ?_ ?_
    refine pd_bin od_mod ?_ ?_
    exact pdv 7
    exact pd_int
    exact pd_int
    refine pad_cons ?_ ?_
    refine pd_bin od_sub ?_ ?_
    refine pd_bin od_mod ?_ ?_
    refine pd_bin od_div ?_ ?_
    exact pdv 7
    exact pd_int
    exact pd_int
    exact pd_int
    refine pad_cons ?_ ?_
    refine pd_bin od_sub ?_ ?_
    refine pd_bin od_mod ?_ ?_
    refine pd_bin od_div ?_ ?_
    exact pdv 7
    exact pd_int
    exact pd_int
    exact pd_int
    exact pad_nil
    exact pod_none
    refine pod_some ?_
    exact pdv 1
    refine pssd_cons ?_ ?_
    refine psd_if ?_ ?_ ?_
    refine ptd_cmp (od_gt) ?_ ?_
    exact pdv 1
    exact pd_int
    refine pssd_one ?_
    refine psd_put ?_ ?_ ?_
    refine pd_bin od_add ?_ ?_
    refine pd_bin od_mul ?_ ?_
    exact pdv 3
    refine pd_ix ?_ ?_
    exact pdv 8
    exact pd_int
    refine pd_bin od_mul ?_ ?_
    exact pdv 4
    refine pd_ix ?_ ?_
    exact pdv 8
    refine pd_bin od_sub ?_ ?_
    exact pdv 1
    exact pd_int
    exact pdv 8
    refine pd_neg ?_
    exact pd_int
    exact pssd_nil
    refine pssd_one ?_
    refine psd_expr ?_
    refine pd_append ?_ ?_
    exact pdv 5
    refine pad_cons ?_ ?_
    refine pd_call F__law_lowest (hr.mono (by first | decide | omega)) ?_ (len_cons (len_cons (len_nil)))
    refine pad_cons ?_ ?_
    refine pd_frz ?_
    exact pdv 8
    refine pad_cons ?_ ?_
    exact pd_int
    exact pad_nil
    exact pad_nil
    refine pssd_one ?_
    refine psd_ret ?_
    refine pd_frz ?_
    exact pdv 5
abbrev s__law_place : Stmt := top 19
theorem sc__law_place : FnScope ["_law_number", "_law_kind", "_law_base"] ["_law_number", "_law_kind", "_law_base"] (defScope s__law_place) := ⟨rfl, rfl, rfl, by decide +kernel, rfl, by decide +kernel, by decide +kernel⟩
theorem fi__law_place (T : BI K mg) (F : FunP K "_law_place" "_law_place" s__law_place f fd Tb) (KB : K.In base) (hmg : mg "_law_place" = some (.ref f)) : FI P w K mg base tb "_law_place" 3 (0 + 1) (bodyF 3 (g__law_place)) :=
  fi_of F KB hmg sc__law_place rfl (fun _ _ _ _ _ _ us hl => match us, hl with | [_, _, _], _ => rfl) fun c A outer s H E hcd hr => by
    have nd := sc__law_place.nd
    refine pssd_cons ?_ ?_
    refine psd_if ?_ ?_ ?_
    refine ptd_cmp (od_eq hr) ?_ ?_
    exact pdv 1
    exact pd_int
    refine pssd_one ?_
    refine psd_ret ?_
    refine pd_tup ?_
    refine pad_cons ?_ ?_
    refine pd_bin od_sub ?_ ?_
    refine pd_bin od_mod ?_ ?_
    exact pdv 0
    exact pd_int
    exact pd_int
    refine pad_cons ?_ ?_
    refine pd_bin od_add ?_ ?_
    exact pd_int
    refine pd_bin od_mod ?_ ?_
    refine pd_bin od_div ?_ ?_
    exact pdv 0
    exact pd_int
    exact pd_int
    exact pad_nil
    exact pssd_nil
    refine pssd_cons ?_ ?_
    refine psd_if ?_ ?_ ?_
    refine ptd_cmp (od_eq hr) ?_ ?_
    exact pdv 1
    exact pd_int
    refine pssd_one ?_
    refine psd_ret ?_
    refine pd_tup ?_
    refine pad_cons ?_ ?_
    refine pd_bin od_sub ?_ ?_
    refine pd_bin od_mod ?_ ?_
    exact pdv 0
    exact pd_int
    exact pd_int
    refine pad_cons ?_ ?_
    exact pd_int
    exact pad_nil
    exact pssd_nil
    refine pssd_cons ?_ ?_
    refine psd_if ?_ ?_ ?_
    refine ptd_cmp (od_eq hr) ?_ ?_
    exact pdv 1
    exact pd_int
    refine pssd_one ?_
    refine psd_ret ?_
    refine pd_tup ?_
    refine pad_cons ?_ ?_
    refine pd_bin od_sub ?_ ?_
    refine pd_bin od_mod ?_ ?_
    exact pdv 0
    exact pd_int
    exact pd_int
    refine pad_cons ?_ ?_
    refine pd_bin od_add ?_ ?_
    exact pd_int
    refine pd_bin od_mod ?_ ?_
    refine pd_bin od_div ?_ ?_
    exact pdv 0
    exact pd_int
    exact pd_int
    exact pad_nil
    exact pssd_nil
    refine pssd_cons ?_ ?_
    refine psd_if ?_ ?_ ?_
    refine ptd_cmp (od_eq hr) ?_ ?_
    exact pdv 1
    exact pd_int
    refine pssd_one ?_
    refine psd_ret ?_
    refine pd_tup ?_
    refine pad_cons ?_ ?_
    refine pd_bin od_add ?_ ?_
    exact pdv 2
    refine pd_ix ?_ ?_
    refine pd_lst ?_
    refine pad_cons ?_ ?_
    exact pd_int
    refine pad_cons ?_ ?_
    exact pd_int
    refine pad_cons ?_ ?_
    exact pd_int
    refine pad_cons ?_ ?_
    exact pd_int
    exact pad_nil
    refine pd_bin od_mod ?_ ?_
    exact pdv 0
    exact pd_int
    refine pad_cons ?_ ?_
    exact pd_int
    exact pad_nil
    exact pssd_nil
    refine pssd_one ?_
    refine psd_ret ?_
    refine pd_tup ?_
    refine pad_cons ?_ ?_
    refine pd_bin od_mul ?_ ?_
    refine pd_bin od_mod ?_ ?_
    exact pdv 0
    exact pd_int
    refine pd_bin od_add ?_ ?_
    exact pd_int
    refine pd_bin od_mod ?_ ?_
    exact pdv 2
    exact pd_int
    refine pad_cons ?_ ?_
    exact pd_int
    exact pad_nil
abbrev s__law_point : Stmt := top 20
theorem sc__law_point : FnScope ["_law_number", "_law_directions", "_law_kind", "_law_base", "_law_numbers", "_law_bottom", "_law_k", "_law_top", "_law_under"] ["_law_number", "_law_directions", "_law_kind", "_law_base"] (defScope s__law_point) := ⟨rfl, rfl, rfl, by decide +kernel, rfl, by decide +kernel, by decide +kernel⟩
theorem fi__law_point {φ__law_mixed φ__law_place φ__law_lowest : FF} (T : BI K mg) (F : FunP K "_law_point" "_law_point" s__law_point f fd Tb) (KB : K.In base) (hmg : mg "_law_point" = some (.ref f)) (F__law_mixed : FI P w K mg base tb "_law_mixed" 2 1 φ__law_mixed) (F__law_place : FI P w K mg base tb "_law_place" 3 1 φ__law_place) (F__law_lowest : FI P w K mg base tb "_law_lowest" 2 2 φ__law_lowest) : FI P w K mg base tb "_law_point" 4 (2 + 1) (bodyF 9 (g__law_point φ__law_mixed φ__law_place φ__law_lowest)) :=
  fi_of F KB hmg sc__law_point rfl (fun _ _ _ _ _ _ us hl => match us, hl with | [_, _, _, _], _ => rfl) fun c A outer s H E hcd hr => by
    have nd := sc__law_point.nd
    refine pssd_cons ?_ ?_
    refine psd_set (i := 4) nd ?_
    refine pdn_new ?_
    refine pdn_lst ?_
    exact pad_nil
    refine pssd_cons ?_ ?_
    refine psd_set (i := 5) nd ?_
    exact pd_int
    refine pssd_cons ?_ ?_
    refine psd_for (ts := [6]) PassesOwn.never rfl ?_ (pgd_name (i := 6) nd) ?_
    refine pid_range1 T.b_range ?_
    refine pad_cons ?_ ?_
    exact pdv 1
    exact pad_nil
    refine pssd_cons ?_ ?_
    refine psd_asg (ts := [7, 8]) ?_ (pgd_tup rfl (pgsd_cons (pgd_name (i := 7) nd) (pgsd_cons (pgd_name (i := 8) nd) (pgsd_nil))))
    refine pd_call F__law_place (hr.mono (by first | decide | omega)) ?_ (len_cons (len_cons (len_cons (len_nil))))
    refine pad_cons ?_ ?_
    refine pd_call F__law_mixed (hr.mono (by first | decide | omega)) ?_ (len_cons (len_cons (len_nil)))
    refine pad_cons ?_ ?_
    exact pdv 0
    refine pad_cons ?_ ?_
    refine pd_bin od_add ?_ ?_
    exact pdv 6
    exact pd_int
    exact pad_nil
    refine pad_cons ?_ ?_
    exact pdv 2
    refine pad_cons ?_ ?_
    refine pd_bin od_add ?_ ?_
    exact pdv 3
    exact pdv 6
    exact pad_nil
    refine pssd_cons ?_ ?_
    refine psd_if ?_ ?_ ?_
    refine ptd_cmp (od_eq hr) ?_ ?_
    exact pdv 6
    exact pd_int
    refine pssd_one ?_
    refine psd_set (i := 5) nd ?_
    exact pdv 8
    exact pssd_nil
    refine pssd_one ?_
    refine psd_expr ?_
    refine pd_append ?_ ?_
    exact pdv 4
    refine pad_cons ?_ ?_
    exact pdv 7
    exact pad_nil
    refine pssd_one ?_
    refine psd_ret ?_
    refine pd_call F__law_lowest (hr.mono (by first | decide | omega)) ?_ (len_cons (len_cons (len_nil)))
    refine pad_cons ?_ ?_
    refine pd_frz ?_
    exact pdv 4
    refine pad_cons ?_ ?_
    exact pdv 5
    exact pad_nil
abbrev s__law_points : Stmt := top 23
theorem sc__law_points : FnScope ["_law_drawn", "_law_directions", "_law_most", "_law_number", "_law_many", "_law_kind", "_law_found", "_law_j", "_law_one"] ["_law_drawn", "_law_directions", "_law_most"] (defScope s__law_points) := ⟨rfl, rfl, rfl, by decide +kernel, rfl, by decide +kernel, by decide +kernel⟩
theorem fi__law_points {φ__law_next φ__law_on_line φ__law_flat φ__law_point : FF} (T : BI K mg) (F : FunP K "_law_points" "_law_points" s__law_points f fd Tb) (KB : K.In base) (hmg : mg "_law_points" = some (.ref f)) (F__law_next : FI P w K mg base tb "_law_next" 1 1 φ__law_next) (F__law_on_line : FI P w K mg base tb "_law_on_line" 3 3 φ__law_on_line) (F__law_flat : FI P w K mg base tb "_law_flat" 3 3 φ__law_flat) (F__law_point : FI P w K mg base tb "_law_point" 4 3 φ__law_point) : FI P w K mg base tb "_law_points" 3 (3 + 1) (bodyF 9 (g__law_points φ__law_next φ__law_on_line φ__law_flat φ__law_point)) :=
  fi_of F KB hmg sc__law_points rfl (fun _ _ _ _ _ _ us hl => match us, hl with | [_, _, _], _ => rfl) fun c A outer s H E hcd hr => by
    have nd := sc__law_points.nd
    refine pssd_cons ?_ ?_
    refine psd_set (i := 3) nd ?_
    refine pd_call F__law_next (hr.mono (by first | decide | omega)) ?_ (len_cons (len_nil))
    refine pad_cons ?_ ?_
    exact pdv 0
    exact pad_nil
    refine pssd_cons ?_ ?_
    refine psd_set (i := 4) nd ?_
    refine pd_bin od_mod ?_ ?_
    refine pd_bin od_div ?_ ?_
    exact pdv 3
    exact pd_int
    refine pd_bin od_add ?_ ?_
    exact pdv 2
    exact pd_int
    refine pssd_cons ?_ ?_
    refine psd_set (i := 5) nd ?_
    refine pd_bin od_mod ?_ ?_
    exact pdv 3
    exact pd_int
    refine pssd_cons ?_ ?_
    refine psd_if ?_ ?_ ?_
    refine ptd_cmp (od_eq hr) ?_ ?_
    exact pdv 5
    exact pd_int
    refine pssd_one ?_
    refine psd_ret ?_
    refine pd_call F__law_on_line (hr.mono (by first | decide | omega)) ?_ (len_cons (len_cons (len_cons (len_nil))))
    refine pad_cons ?_ ?_
    exact pdv 0
    refine pad_cons ?_ ?_
    exact pdv 1
    refine pad_cons ?_ ?_
    exact pdv 4
    exact pad_nil
    exact pssd_nil
    refine pssd_cons ?_ ?_
    refine psd_if ?_ ?_ ?_
    refine ptd_cmp (od_eq hr) ?_ ?_
    exact pdv 5
    exact pd_int
    refine pssd_one ?_
    refine psd_ret ?_
    refine pd_call F__law_flat (hr.mono (by first | decide | omega)) ?_ (len_cons (len_cons (len_cons (len_nil))))
    refine pad_cons ?_ ?_
    exact pdv 0
    refine pad_cons ?_ ?_
    exact pdv 1
    refine pad_cons ?_ ?_
    exact pdv 4
    exact pad_nil
    exact pssd_nil
    refine pssd_cons ?_ ?_
    refine psd_if ?_ ?_ ?_
    refine ptd_cmp (od_eq hr) ?_ ?_
    exact pdv 5
    exact pd_int
    refine pssd_one ?_
    refine psd_ret ?_
    refine pd_bin od_mul ?_ ?_
    refine pd_lst ?_
    refine pad_cons ?_ ?_
    refine pd_call F__law_point (hr.mono (by first | decide | omega)) ?_ (len_cons (len_cons (len_cons (len_cons (len_nil)))))
    refine pad_cons ?_ ?_
    exact pdv 3
    refine pad_cons ?_ ?_
    exact pdv 1
    refine pad_cons ?_ ?_
    exact pd_int
    refine pad_cons ?_ ?_
    exact pd_int
    exact pad_nil
    exact pad_nil
    exact pdv 4
    exact pssd_nil
    refine pssd_cons ?_ ?_
    refine psd_set (i := 6) nd ?_
    refine pdn_new ?_
    refine pdn_lst ?_
    exact pad_nil
    refine pssd_cons ?_ ?_
    refine psd_for (ts := [7]) PassesOwn.never rfl ?_ (pgd_name (i := 7) nd) ?_
    refine pid_range1 T.b_range ?_
    refine pad_cons ?_ ?_
    exact pdv 4
    exact pad_nil
    refine pssd_cons ?_ ?_
    refine psd_set (i := 8) nd ?_
    refine pd_call F__law_next (hr.mono (by first | decide | omega)) ?_ (len_cons (len_nil))
    refine pad_cons ?_ ?_
    exact pdv 0
    exact pad_nil
    refine pssd_one ?_
    refine psd_if ?_ ?_ ?_
    refine pwd_pt ?_
    refine pwd_and ?_ ?_
    refine ptd_cmp (od_eq hr) ?_ ?_
    exact pdv 5
    exact pd_int
    refine pwd_and ?_ ?_
    refine ptd_cmp (od_neE hr) ?_ ?_
    exact pdv 6
    refine pd_lst ?_
    exact pad_nil
    refine pwd_and1 ?_
    refine ptd_cmp (od_eq hr) ?_ ?_
    refine pd_bin od_mod ?_ ?_
    exact pdv 8
    exact pd_int
    exact pd_int
    refine pssd_one ?_
    refine psd_expr ?_
    refine pd_append ?_ ?_
    exact pdv 6
    refine pad_cons ?_ ?_
    refine pd_ix ?_ ?_
    exact pdv 6
    refine pd_bin od_mod ?_ ?_
    refine pd_bin od_div ?_ ?_
    exact pdv 8
    exact pd_int
    refine pd_len T.b_len ?_
    refine pad_cons ?_ ?_
    exact pdv 6
    exact pad_nil
    exact pad_nil
    refine pssd_one ?_
    refine psd_expr ?_
    refine pd_append ?_ ?_
    exact pdv 6
    refine pad_cons ?_ ?_
    refine pd_call F__law_point (hr.mono (by first | decide | omega)) ?_ (len_cons (len_cons (len_cons (len_cons (len_nil)))))
    refine pad_cons ?_ ?_
    refine pd_bin od_div ?_ ?_
    exact pdv 8
    exact pd_int
    refine pad_cons ?_ ?_
    exact pdv 1
    refine pad_cons ?_ ?_
    refine pd_bin od_mod ?_ ?_
    refine pd_bin od_mod ?_ ?_
    exact pdv 5
    exact pd_int
    exact pd_int
    refine pad_cons ?_ ?_
    refine pd_bin od_mul ?_ ?_
    refine pd_bin od_mod ?_ ?_
    exact pdv 8
    exact pd_int
    exact pd_int
    exact pad_nil
    exact pad_nil
    refine pssd_one ?_
    refine psd_ret ?_
    refine pd_frz ?_
    exact pdv 6
abbrev s__law_odd : Stmt := top 28
theorem sc__law_odd : FnScope ["_law_number", "_law_some"] ["_law_number"] (defScope s__law_odd) := ⟨rfl, rfl, rfl, by decide +kernel, rfl, by decide +kernel, by decide +kernel⟩
theorem fi__law_odd (T : BI K mg) (F : FunP K "_law_odd" "_law_odd" s__law_odd f fd Tb) (KB : K.In base) (hmg : mg "_law_odd" = some (.ref f)) : FI P w K mg base tb "_law_odd" 1 (0 + 1) (bodyF 2 (g__law_odd)) :=
  fi_of F KB hmg sc__law_odd rfl (fun _ _ _ _ _ _ us hl => match us, hl with | [_], _ => rfl) fun c A outer s H E hcd hr => by
    have nd := sc__law_odd.nd
    refine pssd_cons ?_ ?_
    refine psd_set (i := 1) nd ?_
    refine pd_lst ?_
    refine pad_cons ?_ ?_
    exact pd_non
    refine pad_cons ?_ ?_
    exact pd_bl
    refine pad_cons ?_ ?_
    exact pd_bl
    refine pad_cons ?_ ?_
    exact pd_int
    refine pad_cons ?_ ?_
    exact pd_int
    refine pad_cons ?_ ?_
    refine pd_neg ?_
    exact pd_int
    refine pad_cons ?_ ?_
    exact pd_int
    refine pad_cons ?_ ?_
    exact pd_str
    refine pad_cons ?_ ?_
    exact pd_str
    refine pad_cons ?_ ?_
    exact pd_str
    refine pad_cons ?_ ?_
    refine pd_tup ?_
    exact pad_nil
    refine pad_cons ?_ ?_
    refine pd_lst ?_
    exact pad_nil
    refine pad_cons ?_ ?_
    exact pd_dic0
    refine pad_cons ?_ ?_
    refine pd_tup ?_
    refine pad_cons ?_ ?_
    exact pd_int
    exact pad_nil
    refine pad_cons ?_ ?_
    refine pd_lst ?_
    refine pad_cons ?_ ?_
    exact pd_int
    exact pad_nil
    refine pad_cons ?_ ?_
    refine pd_tup ?_
    refine pad_cons ?_ ?_
    exact pd_int
    refine pad_cons ?_ ?_
    exact pd_int
    exact pad_nil
    refine pad_cons ?_ ?_
    refine pd_lst ?_
    refine pad_cons ?_ ?_
    exact pd_int
    refine pad_cons ?_ ?_
    exact pd_int
    exact pad_nil
    refine pad_cons ?_ ?_
    refine pd_tup ?_
    refine pad_cons ?_ ?_
    refine pd_tup ?_
    refine pad_cons ?_ ?_
    exact pd_int
    refine pad_cons ?_ ?_
    exact pd_int
    exact pad_nil
    exact pad_nil
    refine pad_cons ?_ ?_
    refine pd_bin od_pow ?_ ?_
    exact pd_int
    exact pd_int
    exact pad_nil
    refine pssd_cons ?_ ?_
    refine psd_set (i := 1) nd ?_
    refine pd_bin od_add ?_ ?_
    exact pdv 1
    refine pd_lst ?_
    refine pad_cons ?_ ?_
    refine pd_tup ?_
    refine pad_cons ?_ ?_
    exact pd_int
    refine pad_cons ?_ ?_
    exact pd_int
    exact pad_nil
    refine pad_cons ?_ ?_
    refine pd_tup ?_
    refine pad_cons ?_ ?_
    exact pd_bl
    refine pad_cons ?_ ?_
    exact pd_int
    exact pad_nil
    refine pad_cons ?_ ?_
    refine pd_tup ?_
    refine pad_cons ?_ ?_
    exact pd_int
    refine pad_cons ?_ ?_
    exact pd_bl
    exact pad_nil
    refine pad_cons ?_ ?_
    refine pd_dic1 ?_ ?_
    exact pd_int
    exact pd_int
    refine pad_cons ?_ ?_
    refine pd_tup ?_
    refine pad_cons ?_ ?_
    exact pd_non
    refine pad_cons ?_ ?_
    exact pd_int
    exact pad_nil
    refine pad_cons ?_ ?_
    refine pd_tup ?_
    refine pad_cons ?_ ?_
    exact pd_str
    refine pad_cons ?_ ?_
    exact pd_int
    exact pad_nil
    refine pad_cons ?_ ?_
    refine pd_tup ?_
    refine pad_cons ?_ ?_
    exact pd_int
    refine pad_cons ?_ ?_
    exact pd_int
    refine pad_cons ?_ ?_
    exact pd_int
    exact pad_nil
    refine pad_cons ?_ ?_
    refine pd_lst ?_
    refine pad_cons ?_ ?_
    refine pd_tup ?_
    refine pad_cons ?_ ?_
    exact pd_int
    refine pad_cons ?_ ?_
    exact pd_int
    exact pad_nil
    exact pad_nil
    refine pad_cons ?_ ?_
    refine pd_bin od_pow ?_ ?_
    exact pd_int
    exact pd_int
    refine pad_cons ?_ ?_
    refine pd_tup ?_
    refine pad_cons ?_ ?_
    exact pd_int
    refine pad_cons ?_ ?_
    exact pd_int
    exact pad_nil
    exact pad_nil
    refine pssd_one ?_
    refine psd_ret ?_
    refine pd_ix ?_ ?_
    exact pdv 1
    refine pd_bin od_mod ?_ ?_
    exact pdv 0
    refine pd_len T.b_len ?_
    refine pad_cons ?_ ?_
    exact pdv 1
    exact pad_nil
abbrev s__law_edge : Stmt := top 30
theorem sc__law_edge : FnScope ["_law_directions", "_law_number", "_law_top", "_law_bottom", "_law_row"] ["_law_directions", "_law_number"] (defScope s__law_edge) := ⟨rfl, rfl, rfl, by decide +kernel, rfl, by decide +kernel, by decide +kernel⟩
theorem fi__law_edge {φ__law_lowest : FF} (T : BI K mg) (F : FunP K "_law_edge" "_law_edge" s__law_edge f fd Tb) (KB : K.In base) (hmg : mg "_law_edge" = some (.ref f)) (F__law_lowest : FI P w K mg base tb "_law_lowest" 2 2 φ__law_lowest) : FI P w K mg base tb "_law_edge" 2 (2 + 1) (bodyF 5 (g__law_edge φ__law_lowest)) :=
  fi_of F KB hmg sc__law_edge rfl (fun _ _ _ _ _ _ us hl => match us, hl with | [_, _], _ => rfl) fun c A outer s H E hcd hr => by
    have nd := sc__law_edge.nd
    refine pssd_cons ?_ ?_
    refine psd_set (i := 2) nd ?_
    refine pd_ix ?_ ?_
    refine pd_lst ?_
    refine pad_cons ?_ ?_
    exact pd_int
    refine pad_cons ?_ ?_
    exact pd_int
    refine pad_cons ?_ ?_
    refine pd_neg ?_
    exact pd_int
    refine pad_cons ?_ ?_
    refine pd_neg ?_
    exact pd_int
    refine pad_cons ?_ ?_
    exact pd_int
    refine pad_cons ?_ ?_
    exact pd_int
    refine pad_cons ?_ ?_
    exact pd_int
    refine pad_cons ?_ ?_
    refine pd_neg ?_
    exact pd_int
    exact pad_nil
    refine pd_bin od_mod ?_ ?_
    exact pdv 1
    exact pd_int
    refine pssd_cons ?_ ?_
    refine psd_set (i := 3) nd ?_
    refine pd_ix ?_ ?_
    refine pd_lst ?_
    refine pad_cons ?_ ?_
    exact pd_int
    refine pad_cons ?_ ?_
    exact pd_int
    refine pad_cons ?_ ?_
    exact pd_int
    refine pad_cons ?_ ?_
    exact pd_int
    refine pad_cons ?_ ?_
    exact pd_int
    refine pad_cons ?_ ?_
    exact pd_int
    refine pad_cons ?_ ?_
    refine pd_neg ?_
    exact pd_int
    refine pad_cons ?_ ?_
    exact pd_int
    exact pad_nil
    refine pd_bin od_mod ?_ ?_
    refine pd_bin od_div ?_ ?_
    exact pdv 1
    exact pd_int
    exact pd_int
    refine pssd_cons ?_ ?_
    refine psd_lcN (i := 4) nd (own := ["_law_k"]) (cap := ["_law_top", "_law_number"]) (capI := [2, 1]) (ts := [0]) rfl ⟨rfl, by decide +kernel, ⟨⟨rfl, by first | exact Or.inl rfl | exact Or.inr rfl⟩, ⟨⟨rfl, by first | exact Or.inl rfl | exact Or.inr rfl⟩, trivial⟩⟩, by decide +kernel, by decide +kernel⟩ (by decide +kernel) ?_ (fun cs C fp s2 H2 => pgd_name (i := 0) (show (["_law_k", "_law_top", "_law_number"] : List Str).Nodup by decide +kernel)) ?_ ?_
    refine pid_range1 T.b_range ?_
    refine pad_cons ?_ ?_
    exact pdv 0
    exact pad_nil
    intro cs C fp s2 H2
    exact pifd_nil
    intro cs C fp s2 H2
    refine pd_ix ?_ ?_
    refine pd_lst ?_
    refine pad_cons ?_ ?_
    exact pd_int
    refine pad_cons ?_ ?_
    exact pd_int
    refine pad_cons ?_ ?_
    exact pdv 1
    exact pad_nil
    refine pd_bin od_mod ?_ ?_
    refine pd_bin od_div ?_ ?_
    exact pdv 2
    exact pd_int
    exact pd_int
    refine pssd_cons ?_ ?_
    refine psd_put ?_ ?_ ?_
    exact pdv 2
    exact pdv 4
    refine pd_bin od_mod ?_ ?_
    refine pd_bin od_div ?_ ?_
    exact pdv 1
    exact pd_int
    exact pdv 0
    refine pssd_cons ?_ ?_
    refine psd_if ?_ ?_ ?_
    refine pwd_pt ?_
    refine pwd_or ?_ ?_
    refine ptd_cmp (od_eq hr) ?_ ?_
    refine pd_bin od_mod ?_ ?_
    refine pd_bin od_div ?_ ?_
    exact pdv 1
    exact pd_int
    exact pd_int
    exact pd_int
    refine pwd_or1 ?_
    refine ptd_cmp (od_lt) ?_ ?_
    exact pdv 3
    exact pd_int
    refine pssd_one ?_
    refine psd_ret ?_
    refine pd_bin od_add ?_ ?_
    refine pd_tuple T.b_tuple ?_
    refine pad_cons ?_ ?_
    exact pdv 4
    exact pad_nil
    refine pd_tup ?_
    refine pad_cons ?_ ?_
    exact pdv 3
    exact pad_nil
    exact pssd_nil
    refine pssd_one ?_
    refine psd_ret ?_
    refine pd_call F__law_lowest (hr.mono (by first | decide | omega)) ?_ (len_cons (len_cons (len_nil)))
    refine pad_cons ?_ ?_
    refine pd_frz ?_
    exact pdv 4
    refine pad_cons ?_ ?_
    exact pdv 3
    exact pad_nil
abbrev s__law_bent : Stmt := top 31
theorem sc__law_bent : FnScope ["_law_points_here", "_law_directions", "_law_number", "_law_rest", "_law_at", "_law_other"] ["_law_points_here", "_law_directions", "_law_number"] (defScope s__law_bent) := ⟨rfl, rfl, rfl, by decide +kernel, rfl, by decide +kernel, by decide +kernel⟩
theorem fi__law_bent {φ__law_odd φ__law_edge : FF} (T : BI K mg) (F : FunP K "_law_bent" "_law_bent" s__law_bent f fd Tb) (KB : K.In base) (hmg : mg "_law_bent" = some (.ref f)) (F__law_odd : FI P w K mg base tb "_law_odd" 1 1 φ__law_odd) (F__law_edge : FI P w K mg base tb "_law_edge" 2 3 φ__law_edge) : FI P w K mg base tb "_law_bent" 3 (3 + 1) (bodyF 6 (g__law_bent_k02 φ__law_odd φ__law_edge)) :=
  fi_of F KB hmg sc__law_bent rfl (fun _ _ _ _ _ _ us hl => match us, hl with | [_, _, _], _ => rfl) fun c A outer s H E hcd hr => by
    have nd := sc__law_bent.nd
    refine pssd_cons ?_ ?_
    refine psd_set (i := 3) nd ?_
    refine pd_bin od_div ?_ ?_
    exact pdv 2
    exact pd_int
    refine pssd_cons ?_ ?_
    refine psd_set (i := 4) nd ?_
    refine pd_bin od_mod ?_ ?_
    exact pdv 3
    refine pd_bin od_add ?_ ?_
    refine pd_len T.b_len ?_
    refine pad_cons ?_ ?_
    exact pdv 0
    exact pad_nil
    exact pd_int
    refine pssd_cons ?_ ?_
    refine psd_if ?_ ?_ ?_
    refine ptd_cmp (od_eq hr) ?_ ?_
    refine pd_bin od_mod ?_ ?_
    exact pdv 2
    exact pd_int
    exact pd_int
    refine pssd_one ?_
    refine psd_ret ?_
    refine pd_ix ?_ ?_
    refine pd_lst ?_
    refine pad_cons ?_ ?_
    refine pd_tuple T.b_tuple ?_
    refine pad_cons ?_ ?_
    exact pdv 0
    exact pad_nil
    refine pad_cons ?_ ?_
    refine pd_lst ?_
    refine pad_cons ?_ ?_
    exact pdv 0
    exact pad_nil
    refine pad_cons ?_ ?_
    refine pd_bin od_add ?_ ?_
    exact pdv 0
    exact pdv 0
    refine pad_cons ?_ ?_
    refine pd_dic1 ?_ ?_
    exact pd_int
    exact pdv 0
    refine pad_cons ?_ ?_
    refine pd_lst ?_
    refine pad_cons ?_ ?_
    refine pd_tuple T.b_tuple ?_
    refine pad_cons ?_ ?_
    exact pdv 0
    exact pad_nil
    exact pad_nil
    exact pad_nil
    refine pd_bin od_mod ?_ ?_
    exact pdv 3
    exact pd_int
    exact pssd_nil
    refine pssd_cons ?_ ?_
    refine psd_if ?_ ?_ ?_
    refine ptd_cmp (od_eq hr) ?_ ?_
    refine pd_bin od_mod ?_ ?_
    exact pdv 2
    exact pd_int
    exact pd_int
    refine pssd_one ?_
    refine psd_ret ?_
    refine pd_slice ?_ ?_ ?_
    refine pd_bin od_add ?_ ?_
    exact pdv 0
    refine pd_bin od_mul ?_ ?_
    refine pd_lst ?_
    refine pad_cons ?_ ?_
    refine pd_bin od_add ?_ ?_
    refine pd_bin od_mul ?_ ?_
    refine pd_tup ?_
    refine pad_cons ?_ ?_
    exact pd_int
    exact pad_nil
    exact pdv 1
    refine pd_tup ?_
    refine pad_cons ?_ ?_
    exact pd_int
    exact pad_nil
    exact pad_nil
    exact pd_int
    exact pod_none
    refine pod_some ?_
    refine pd_ix ?_ ?_
    refine pd_lst ?_
    refine pad_cons ?_ ?_
    exact pd_int
    refine pad_cons ?_ ?_
    exact pd_int
    refine pad_cons ?_ ?_
    exact pd_int
    exact pad_nil
    refine pd_bin od_mod ?_ ?_
    exact pdv 3
    exact pd_int
    exact pssd_nil
    refine pssd_cons ?_ ?_
    refine psd_if ?_ ?_ ?_
    refine ptd_cmp (od_eq hr) ?_ ?_
    refine pd_bin od_mod ?_ ?_
    exact pdv 2
    exact pd_int
    exact pd_int
    refine pssd_cons ?_ ?_
    refine psd_set (i := 5) nd ?_
    refine pd_bin od_add ?_ ?_
    exact pd_int
    refine pd_bin od_mod ?_ ?_
    refine pd_bin od_add ?_ ?_
    exact pdv 1
    refine pd_bin od_mod ?_ ?_
    refine pd_bin od_div ?_ ?_
    exact pdv 3
    exact pd_int
    exact pd_int
    exact pd_int
    refine pssd_one ?_
    refine psd_ret ?_
    refine pd_bin od_add ?_ ?_
    refine pd_bin od_add ?_ ?_
    refine pd_slice ?_ ?_ ?_
    exact pdv 0
    exact pod_none
    refine pod_some ?_
    exact pdv 4
    refine pd_lst ?_
    refine pad_cons ?_ ?_
    refine pd_bin od_add ?_ ?_
    refine pd_bin od_mul ?_ ?_
    refine pd_tup ?_
    refine pad_cons ?_ ?_
    exact pd_int
    exact pad_nil
    exact pdv 5
    refine pd_tup ?_
    refine pad_cons ?_ ?_
    exact pd_int
    exact pad_nil
    exact pad_nil
    refine pd_slice ?_ ?_ ?_
    exact pdv 0
    refine pod_some ?_
    exact pdv 4
    exact pod_none
    exact pssd_nil
    refine pssd_cons ?_ ?_
    refine psd_if ?_ ?_ ?_
    refine ptd_cmp (od_eq hr) ?_ ?_
    refine pd_bin od_mod ?_ ?_
    exact pdv 2
    exact pd_int
    exact pd_int
    refine pssd_one ?_
    refine psd_ret ?_
    refine pd_bin od_add ?_ ?_
    refine pd_bin od_add ?_ ?_
    refine pd_slice ?_ ?_ ?_
    exact pdv 0
    exact pod_none
    refine pod_some ?_
    exact pdv 4
    refine pd_lst ?_
    refine pad_cons ?_ ?_
    refine pd_call F__law_odd (hr.mono (by first | decide | omega)) ?_ (len_cons (len_nil))
    refine pad_cons ?_ ?_
    refine pd_bin od_div ?_ ?_
    exact pdv 3
    exact pd_int
    exact pad_nil
    exact pad_nil
    refine pd_slice ?_ ?_ ?_
    exact pdv 0
    refine pod_some ?_
    refine pd_bin od_add ?_ ?_
    exact pdv 4
    exact pd_int
    exact pod_none
    exact pssd_nil
    refine pssd_cons ?_ ?_
    refine psd_if ?_ ?_ ?_
    refine pwd_pt ?_
    refine pwd_and ?_ ?_
    refine ptd_cmp (od_eq hr) ?_ ?_
    refine pd_bin od_mod ?_ ?_
    exact pdv 2
    exact pd_int
    exact pd_int
    refine pwd_and1 ?_
    refine ptd_cmp (od_neE hr) ?_ ?_
    exact pdv 0
    refine pd_lst ?_
    exact pad_nil
    refine pssd_one ?_
    refine psd_ret ?_
    refine pd_bin od_add ?_ ?_
    refine pd_bin od_add ?_ ?_
    refine pd_slice ?_ ?_ ?_
    exact pdv 0
    exact pod_none
    refine pod_some ?_
    exact pdv 4
    refine pd_lst ?_
    refine pad_cons ?_ ?_
    refine pdn_fz ?_
    refine pdn_list T.b_list ?_
    refine pad_cons ?_ ?_
    refine pd_ix ?_ ?_
    exact pdv 0
    refine pd_bin od_sub ?_ ?_
    exact pdv 4
    exact pd_int
    exact pad_nil
    exact pad_nil
    refine pd_slice ?_ ?_ ?_
    exact pdv 0
    refine pod_some ?_
    refine pd_bin od_add ?_ ?_
    exact pdv 4
    exact pd_int
    exact pod_none
    exact pssd_nil
    refine pssd_one ?_
    refine psd_ret ?_
    refine pd_bin od_add ?_ ?_
    refine pd_bin od_add ?_ ?_
    refine pd_slice ?_ ?_ ?_
    exact pdv 0
    exact pod_none
    refine pod_some ?_
    exact pdv 4
    refine pd_lst ?_
    refine pad_cons ?_ ?_
    refine pd_call F__law_edge (hr.mono (by first | decide | omega)) ?_ (len_cons (len_cons (len_nil)))
    refine pad_cons ?_ ?_
    exact pdv 1
    refine pad_cons ?_ ?_
    refine pd_bin od_div ?_ ?_
    exact pdv 3
    exact pd_int
    exact pad_nil
    exact pad_nil
    refine pd_slice ?_ ?_ ?_
    exact pdv 0
    refine pod_some ?_
    refine pd_bin od_add ?_ ?_
    exact pdv 4
    exact pd_int
    exact pod_none
abbrev s__law_whole : Stmt := top 24
theorem sc__law_whole : FnScope ["_law_thing"] ["_law_thing"] (defScope s__law_whole) := ⟨rfl, rfl, rfl, by decide +kernel, rfl, by decide +kernel, by decide +kernel⟩
theorem fi__law_whole (T : BI K mg) (F : FunP K "_law_whole" "_law_whole" s__law_whole f fd Tb) (KB : K.In base) (hmg : mg "_law_whole" = some (.ref f)) : FI P w K mg base tb "_law_whole" 1 (0 + 1) (bodyF 1 (g__law_whole)) :=
  fi_of F KB hmg sc__law_whole rfl (fun _ _ _ _ _ _ us hl => match us, hl with | [_], _ => rfl) fun c A outer s H E hcd hr => by
    have nd := sc__law_whole.nd
    refine pssd_one ?_
    refine psd_ret ?_
    refine pd_and ?_ ?_
    refine pd_isi T.b_isinstance T.b_int PyProof.Rows.boot_int (by decide) ?_
    exact pdv 0
    refine pd_bone ?_
    refine pd_not ?_
    refine pd_isi T.b_isinstance T.b_bool PyProof.Rows.boot_bool (by decide) ?_
    exact pdv 0
abbrev s__law_is_spot : Stmt := top 26
theorem sc__law_is_spot : FnScope ["_law_thing", "_law_common", "_law_one"] ["_law_thing"] (defScope s__law_is_spot) := ⟨rfl, rfl, rfl, by decide +kernel, rfl, by decide +kernel, by decide +kernel⟩
theorem fi__law_is_spot {φ__law_whole φ__law_gcd : FF} (T : BI K mg) (F : FunP K "_law_is_spot" "_law_is_spot" s__law_is_spot f fd Tb) (KB : K.In base) (hmg : mg "_law_is_spot" = some (.ref f)) (F__law_whole : FI P w K mg base tb "_law_whole" 1 1 φ__law_whole) (F__law_gcd : FI P w K mg base tb "_law_gcd" 2 1 φ__law_gcd) : FI P w K mg base tb "_law_is_spot" 1 (1 + 1) (bodyF 3 (g__law_is_spot φ__law_whole φ__law_gcd)) :=
  fi_of F KB hmg sc__law_is_spot rfl (fun _ _ _ _ _ _ us hl => match us, hl with | [_], _ => rfl) fun c A outer s H E hcd hr => by
    have nd := sc__law_is_spot.nd
    refine pssd_cons ?_ ?_
    refine psd_if ?_ ?_ ?_
    refine pwd_pt ?_
    refine pwd_or ?_ ?_
    refine ptd_not ?_
    refine ptd_val ?_
    refine pd_isi T.b_isinstance T.b_tuple PyProof.Rows.boot_tuple (by decide) ?_
    exact pdv 0
    refine pwd_or ?_ ?_
    refine ptd_cmp (od_lt) ?_ ?_
    refine pd_len T.b_len ?_
    refine pad_cons ?_ ?_
    exact pdv 0
    exact pad_nil
    exact pd_int
    refine pwd_or1 ?_
    refine ptd_cmp (od_gt) ?_ ?_
    refine pd_len T.b_len ?_
    refine pad_cons ?_ ?_
    exact pdv 0
    exact pad_nil
    exact pd_int
    refine pssd_one ?_
    refine psd_ret ?_
    exact pd_bl
    exact pssd_nil
    refine pssd_cons ?_ ?_
    refine psd_if ?_ ?_ ?_
    refine pwd_pt ?_
    refine pwd_or ?_ ?_
    refine ptd_cmp (od_neE hr) ?_ ?_
    refine pdn_fz ?_
    refine pdn_lc (own := ["_law_one"]) (cap := []) (capI := []) (ts := [0]) rfl ⟨rfl, by decide +kernel, trivial, by decide +kernel, by decide +kernel⟩ (by decide +kernel) ?_ (fun cs C fp s2 H2 => pgd_name (i := 0) (show (["_law_one"] : List Str).Nodup by decide +kernel)) ?_ ?_
    refine pid_seq ?_
    exact pdv 0
    intro cs C fp s2 H2
    refine pifd_one ?_
    refine ptd_not ?_
    refine ptd_val ?_
    refine pd_call F__law_whole (hr.mono (by first | decide | omega)) ?_ (len_cons (len_nil))
    refine pad_cons ?_ ?_
    exact pdv 0
    exact pad_nil
    intro cs C fp s2 H2
    exact pdv 0
    refine pd_lst ?_
    exact pad_nil
    refine pwd_or1 ?_
    refine ptd_cmp (od_lt) ?_ ?_
    refine pd_ix ?_ ?_
    exact pdv 0
    refine pd_neg ?_
    exact pd_int
    exact pd_int
    refine pssd_one ?_
    refine psd_ret ?_
    exact pd_bl
    exact pssd_nil
    refine pssd_cons ?_ ?_
    refine psd_set (i := 1) nd ?_
    exact pd_int
    refine pssd_cons ?_ ?_
    refine psd_for (ts := [2]) PassesOwn.never rfl ?_ (pgd_name (i := 2) nd) ?_
    refine pid_seq ?_
    exact pdv 0
    refine pssd_one ?_
    refine psd_set (i := 1) nd ?_
    refine pd_call F__law_gcd (hr.mono (by first | decide | omega)) ?_ (len_cons (len_cons (len_nil)))
    refine pad_cons ?_ ?_
    exact pdv 1
    refine pad_cons ?_ ?_
    exact pdv 2
    exact pad_nil
    refine pssd_one ?_
    refine psd_ret ?_
    refine pd_cmp (od_eq hr) ?_ ?_
    exact pdv 1
    exact pd_int
abbrev s__law_is_point : Stmt := top 27
theorem sc__law_is_point : FnScope ["_law_thing"] ["_law_thing"] (defScope s__law_is_point) := ⟨rfl, rfl, rfl, by decide +kernel, rfl, by decide +kernel, by decide +kernel⟩
theorem fi__law_is_point {φ__law_is_spot : FF} (T : BI K mg) (F : FunP K "_law_is_point" "_law_is_point" s__law_is_point f fd Tb) (KB : K.In base) (hmg : mg "_law_is_point" = some (.ref f)) (F__law_is_spot : FI P w K mg base tb "_law_is_spot" 1 2 φ__law_is_spot) : FI P w K mg base tb "_law_is_point" 1 (2 + 1) (bodyF 1 (g__law_is_point φ__law_is_spot)) :=
  fi_of F KB hmg sc__law_is_point rfl (fun _ _ _ _ _ _ us hl => match us, hl with | [_], _ => rfl) fun c A outer s H E hcd hr => by
    have nd := sc__law_is_point.nd
    refine pssd_cons ?_ ?_
    refine psd_if ?_ ?_ ?_
    refine pwd_pt ?_
    refine pwd_or ?_ ?_
    refine ptd_not ?_
    refine ptd_val ?_
    refine pd_call F__law_is_spot (hr.mono (by first | decide | omega)) ?_ (len_cons (len_nil))
    refine pad_cons ?_ ?_
    exact pdv 0
    exact pad_nil
    refine pwd_or1 ?_
    refine ptd_cmp (od_gt) ?_ ?_
    refine pd_ix ?_ ?_
    exact pdv 0
    refine pd_neg ?_
    exact pd_int
    exact pd_int
    refine pssd_one ?_
    refine psd_ret ?_
    exact pd_bl
    exact pssd_nil
    refine pssd_one ?_
    refine psd_ret ?_
    refine pd_cmp (od_eq hr) ?_ ?_
    refine pdn_fz ?_
    refine pdn_lc (own := ["_law_one"]) (cap := []) (capI := []) (ts := [0]) rfl ⟨rfl, by decide +kernel, trivial, by decide +kernel, by decide +kernel⟩ (by decide +kernel) ?_ (fun cs C fp s2 H2 => pgd_name (i := 0) (show (["_law_one"] : List Str).Nodup by decide +kernel)) ?_ ?_
    refine pid_seq ?_
    refine pd_slice ?_ ?_ ?_
    exact pdv 0
    exact pod_none
    refine pod_some ?_
    refine pd_neg ?_
    exact pd_int
    intro cs C fp s2 H2
    refine pifd_one ?_
    refine pwd_pt ?_
    refine pwd_or ?_ ?_
    refine ptd_cmp (od_lt) ?_ ?_
    exact pdv 0
    refine pd_neg ?_
    exact pd_int
    refine pwd_or1 ?_
    refine ptd_cmp (od_gt) ?_ ?_
    exact pdv 0
    exact pd_int
    intro cs C fp s2 H2
    exact pdv 0
    refine pd_lst ?_
    exact pad_nil
abbrev s__law_are_points : Stmt := top 29
theorem sc__law_are_points : FnScope ["_law_thing"] ["_law_thing"] (defScope s__law_are_points) := ⟨rfl, rfl, rfl, by decide +kernel, rfl, by decide +kernel, by decide +kernel⟩
theorem fi__law_are_points {φ__law_is_point : FF} (T : BI K mg) (F : FunP K "_law_are_points" "_law_are_points" s__law_are_points f fd Tb) (KB : K.In base) (hmg : mg "_law_are_points" = some (.ref f)) (F__law_is_point : FI P w K mg base tb "_law_is_point" 1 3 φ__law_is_point) : FI P w K mg base tb "_law_are_points" 1 (3 + 1) (bodyF 1 (g__law_are_points φ__law_is_point)) :=
  fi_of F KB hmg sc__law_are_points rfl (fun _ _ _ _ _ _ us hl => match us, hl with | [_], _ => rfl) fun c A outer s H E hcd hr => by
    have nd := sc__law_are_points.nd
    refine pssd_cons ?_ ?_
    refine psd_if ?_ ?_ ?_
    refine pwd_pt ?_
    refine pwd_or ?_ ?_
    refine ptd_not ?_
    refine ptd_val ?_
    refine pd_isi T.b_isinstance T.b_list PyProof.Rows.boot_list (by decide) ?_
    exact pdv 0
    refine pwd_or ?_ ?_
    refine ptd_cmp (od_gt) ?_ ?_
    refine pd_len T.b_len ?_
    refine pad_cons ?_ ?_
    exact pdv 0
    exact pad_nil
    exact pd_int
    refine pwd_or1 ?_
    refine ptd_cmp (od_neE hr) ?_ ?_
    refine pdn_fz ?_
    refine pdn_lc (own := ["_law_one"]) (cap := []) (capI := []) (ts := [0]) rfl ⟨rfl, by decide +kernel, trivial, by decide +kernel, by decide +kernel⟩ (by decide +kernel) ?_ (fun cs C fp s2 H2 => pgd_name (i := 0) (show (["_law_one"] : List Str).Nodup by decide +kernel)) ?_ ?_
    refine pid_seq ?_
    exact pdv 0
    intro cs C fp s2 H2
    refine pifd_one ?_
    refine ptd_not ?_
    refine ptd_val ?_
    refine pd_call F__law_is_point (hr.mono (by first | decide | omega)) ?_ (len_cons (len_nil))
    refine pad_cons ?_ ?_
    exact pdv 0
    exact pad_nil
    intro cs C fp s2 H2
    exact pdv 0
    refine pd_lst ?_
    exact pad_nil
    refine pssd_one ?_
    refine psd_ret ?_
    exact pd_bl
    exact pssd_nil
    refine pssd_one ?_
    refine psd_ret ?_
    refine pd_cmp (od_eq hr) ?_ ?_
    refine pdn_fz ?_
    refine pdn_lc (own := ["_law_one"]) (cap := ["_law_thing"]) (capI := [0]) (ts := [0]) rfl ⟨rfl, by decide +kernel, ⟨⟨rfl, by first | exact Or.inl rfl | exact Or.inr rfl⟩, trivial⟩, by decide +kernel, by decide +kernel⟩ (by decide +kernel) ?_ (fun cs C fp s2 H2 => pgd_name (i := 0) (show (["_law_one", "_law_thing"] : List Str).Nodup by decide +kernel)) ?_ ?_
    refine pid_seq ?_
    exact pdv 0
    intro cs C fp s2 H2
    refine pifd_one ?_
    refine ptd_cmp (od_ne hr) ?_ ?_
    refine pd_len T.b_len ?_
    refine pad_cons ?_ ?_
    exact pdv 0
    exact pad_nil
    refine pd_len T.b_len ?_
    refine pad_cons ?_ ?_
    refine pd_ix ?_ ?_
    exact pdv 1
    exact pd_int
    exact pad_nil
    intro cs C fp s2 H2
    exact pdv 0
    refine pd_lst ?_
    exact pad_nil
abbrev s_is_number : Stmt := top 1
theorem sc_is_number : FnScope ["thing"] ["thing"] (defScope s_is_number) := ⟨rfl, rfl, rfl, by decide +kernel, rfl, by decide +kernel, by decide +kernel⟩
theorem fi_is_number (T : BI K mg) (F : FunP K "is_number" "is_number" s_is_number f fd Tb) (KB : K.In base) (hmg : mg "is_number" = some (.ref f)) : FI P w K mg base tb "is_number" 1 (0 + 1) (bodyF 1 (g_is_number)) :=
  fi_of F KB hmg sc_is_number rfl (fun _ _ _ _ _ _ us hl => match us, hl with | [_], _ => rfl) fun c A outer s H E hcd hr => by
    have nd := sc_is_number.nd
    refine pssd_one ?_
    refine psd_ret ?_
    refine pd_and ?_ ?_
    refine pd_isi T.b_isinstance T.b_int PyProof.Rows.boot_int (by decide) ?_
    exact pdv 0
    refine pd_bone ?_
    refine pd_not ?_
    refine pd_isi T.b_isinstance T.b_bool PyProof.Rows.boot_bool (by decide) ?_
    exact pdv 0
abbrev s_is_numbers : Stmt := top 2
theorem sc_is_numbers : FnScope ["thing"] ["thing"] (defScope s_is_numbers) := ⟨rfl, rfl, rfl, by decide +kernel, rfl, by decide +kernel, by decide +kernel⟩
theorem fi_is_numbers {φ_is_number : FF} (T : BI K mg) (F : FunP K "is_numbers" "is_numbers" s_is_numbers f fd Tb) (KB : K.In base) (hmg : mg "is_numbers" = some (.ref f)) (F_is_number : FI P w K mg base tb "is_number" 1 1 φ_is_number) (hT : Tb ∈ tb) : FI P w K mg base tb "is_numbers" 1 (2 + 1) (bodyF 1 (g_is_numbers φ_is_number)) :=
  fi_of F KB hmg sc_is_numbers rfl (fun _ _ _ _ _ _ us hl => match us, hl with | [_], _ => rfl) fun c A outer s H E hcd hr => by
    have nd := sc_is_numbers.nd
    refine pssd_one ?_
    refine psd_ret ?_
    refine pd_and ?_ ?_
    refine pd_isi T.b_isinstance T.b_tuple PyProof.Rows.boot_tuple (by decide) ?_
    exact pdv 0
    refine pd_bone ?_
    refine pd_all rfl T.b_all ?_
    refine pstrd_of ?_
    refine pstrd_gen (own := ["part"]) (cap := []) (capI := []) (ts := [0]) rfl hr ⟨rfl, by decide +kernel, trivial, by decide +kernel, by decide +kernel⟩ (by decide +kernel) (by decide +kernel) hT ⟨c, rfl, hcd⟩ ?_ (fun AG cs C code fp s2 H2 => pgd_name (i := 0) (show (["part"] : List Str).Nodup by decide +kernel)) ?_
    refine pid_seq ?_
    exact pdv 0
    intro AG cs C code fp s2 H2 hm
    have hg1 := hm _ hr
    refine pd_call F_is_number (hg1.mono (by first | decide | omega)) ?_ (len_cons (len_nil))
    refine pad_cons ?_ ?_
    exact pdv 0
    exact pad_nil
abbrev s_divisor_of_two : Stmt := top 3
theorem sc_divisor_of_two : FnScope ["one", "other"] ["one", "other"] (defScope s_divisor_of_two) := ⟨rfl, rfl, rfl, by decide +kernel, rfl, by decide +kernel, by decide +kernel⟩
theorem fi_divisor_of_two (T : BI K mg) (F : FunP K "divisor_of_two" "divisor_of_two" s_divisor_of_two f fd Tb) (KB : K.In base) (hmg : mg "divisor_of_two" = some (.ref f)) : FI P w K mg base tb "divisor_of_two" 2 (0 + 1) (bodyF 2 (g_divisor_of_two)) :=
  fi_of F KB hmg sc_divisor_of_two rfl (fun _ _ _ _ _ _ us hl => match us, hl with | [_, _], _ => rfl) fun c A outer s H E hcd hr => by
    have nd := sc_divisor_of_two.nd
    refine pssd_cons ?_ ?_
    refine psd_par (i := 0) (j := 1) rfl nd ?_
    refine pad_cons ?_ ?_
    refine pd_abs T.b_abs ?_
    refine pad_cons ?_ ?_
    exact pdv 0
    exact pad_nil
    refine pad_cons ?_ ?_
    refine pd_abs T.b_abs ?_
    refine pad_cons ?_ ?_
    exact pdv 1
    exact pad_nil
    exact pad_nil
    refine pssd_cons ?_ ?_
    refine psd_while PassesOwn.never ?_ ?_
    refine ptd_cmp (od_ne hr) ?_ ?_
    exact pdv 1
    exact pd_int
    refine pssd_one ?_
    refine psd_par (i := 0) (j := 1) rfl nd ?_
    refine pad_cons ?_ ?_
    exact pdv 1
    refine pad_cons ?_ ?_
    refine pd_bin od_mod ?_ ?_
    exact pdv 0
    exact pdv 1
    exact pad_nil
    refine pssd_one ?_
    refine psd_ret ?_
    exact pdv 0
abbrev s_common_divisor : Stmt := top 4
theorem sc_common_divisor : FnScope ["numbers", "found", "number"] ["numbers"] (defScope s_common_divisor) := ⟨rfl, rfl, rfl, by decide +kernel, rfl, by decide +kernel, by decide +kernel⟩
theorem fi_common_divisor {φ_divisor_of_two : FF} (T : BI K mg) (F : FunP K "common_divisor" "common_divisor" s_common_divisor f fd Tb) (KB : K.In base) (hmg : mg "common_divisor" = some (.ref f)) (F_divisor_of_two : FI P w K mg base tb "divisor_of_two" 2 1 φ_divisor_of_two) : FI P w K mg base tb "common_divisor" 1 (1 + 1) (bodyF 3 (g_common_divisor φ_divisor_of_two)) :=
  fi_of F KB hmg sc_common_divisor rfl (fun _ _ _ _ _ _ us hl => match us, hl with | [_], _ => rfl) fun c A outer s H E hcd hr => by
    have nd := sc_common_divisor.nd
    refine pssd_cons ?_ ?_
    refine psd_set (i := 1) nd ?_
    exact pd_int
    refine pssd_cons ?_ ?_
    refine psd_for (ts := [2]) PassesOwn.never rfl ?_ (pgd_name (i := 2) nd) ?_
    refine pid_seq ?_
    exact pdv 0
    refine pssd_cons ?_ ?_
    refine psd_set (i := 1) nd ?_
    refine pd_call F_divisor_of_two (hr.mono (by first | decide | omega)) ?_ (len_cons (len_cons (len_nil)))
    refine pad_cons ?_ ?_
    exact pdv 1
    refine pad_cons ?_ ?_
    exact pdv 2
    exact pad_nil
    refine pssd_one ?_
    refine psd_if ?_ ?_ ?_
    refine ptd_cmp (od_eq hr) ?_ ?_
    exact pdv 1
    exact pd_int
    refine pssd_one ?_
    exact psd_break
    exact pssd_nil
    refine pssd_one ?_
    refine psd_ret ?_
    exact pdv 1
abbrev s_is_spot : Stmt := top 10
theorem sc_is_spot : FnScope ["thing"] ["thing"] (defScope s_is_spot) := ⟨rfl, rfl, rfl, by decide +kernel, rfl, by decide +kernel, by decide +kernel⟩
theorem fi_is_spot {φ_is_numbers φ_common_divisor : FF} (T : BI K mg) (F : FunP K "is_spot" "is_spot" s_is_spot f fd Tb) (KB : K.In base) (hmg : mg "is_spot" = some (.ref f)) (F_is_numbers : FI P w K mg base tb "is_numbers" 1 3 φ_is_numbers) (F_common_divisor : FI P w K mg base tb "common_divisor" 1 2 φ_common_divisor) : FI P w K mg base tb "is_spot" 1 (3 + 1) (bodyF 1 (g_is_spot φ_is_numbers φ_common_divisor)) :=
  fi_of F KB hmg sc_is_spot rfl (fun _ _ _ _ _ _ us hl => match us, hl with | [_], _ => rfl) fun c A outer s H E hcd hr => by
    have nd := sc_is_spot.nd
    refine pssd_cons ?_ ?_
    refine psd_if ?_ ?_ ?_
    refine pwd_pt ?_
    refine pwd_or ?_ ?_
    refine ptd_not ?_
    refine ptd_val ?_
    refine pd_call F_is_numbers (hr.mono (by first | decide | omega)) ?_ (len_cons (len_nil))
    refine pad_cons ?_ ?_
    exact pdv 0
    exact pad_nil
    refine pwd_or1 ?_
    refine ptd_not ?_
    refine ptd_chain (od_le) (od_le) ?_ ?_ ?_
    exact pd_int
    refine pd_len T.b_len ?_
    refine pad_cons ?_ ?_
    exact pdv 0
    exact pad_nil
    refine pd_bin od_add ?_ ?_
    exact pd_glob T.c_MOST_DIRECTIONS rfl
    exact pd_int
    refine pssd_one ?_
    refine psd_ret ?_
    exact pd_bl
    exact pssd_nil
    refine pssd_one ?_
    refine psd_ret ?_
    refine pd_and ?_ ?_
    refine pd_cmp (od_ge) ?_ ?_
    refine pd_ix ?_ ?_
    exact pdv 0
    refine pd_neg ?_
    exact pd_int
    exact pd_int
    refine pd_bone ?_
    refine pd_cmp (od_eq hr) ?_ ?_
    refine pd_call F_common_divisor (hr.mono (by first | decide | omega)) ?_ (len_cons (len_nil))
    refine pad_cons ?_ ?_
    exact pdv 0
    exact pad_nil
    exact pd_int
abbrev s_is_point : Stmt := top 11
theorem sc_is_point : FnScope ["thing"] ["thing"] (defScope s_is_point) := ⟨rfl, rfl, rfl, by decide +kernel, rfl, by decide +kernel, by decide +kernel⟩
theorem fi_is_point {φ_is_spot : FF} (T : BI K mg) (F : FunP K "is_point" "is_point" s_is_point f fd Tb) (KB : K.In base) (hmg : mg "is_point" = some (.ref f)) (F_is_spot : FI P w K mg base tb "is_spot" 1 4 φ_is_spot) (hT : Tb ∈ tb) : FI P w K mg base tb "is_point" 1 (5 + 1) (bodyF 1 (g_is_point φ_is_spot)) :=
  fi_of F KB hmg sc_is_point rfl (fun _ _ _ _ _ _ us hl => match us, hl with | [_], _ => rfl) fun c A outer s H E hcd hr => by
    have nd := sc_is_point.nd
    refine pssd_cons ?_ ?_
    refine psd_if ?_ ?_ ?_
    refine pwd_pt ?_
    refine pwd_or ?_ ?_
    refine ptd_not ?_
    refine ptd_val ?_
    refine pd_call F_is_spot (hr.mono (by first | decide | omega)) ?_ (len_cons (len_nil))
    refine pad_cons ?_ ?_
    exact pdv 0
    exact pad_nil
    refine pwd_or1 ?_
    refine ptd_cmp (od_gt) ?_ ?_
    refine pd_ix ?_ ?_
    exact pdv 0
    refine pd_neg ?_
    exact pd_int
    exact pd_glob T.c_GREATEST_BOTTOM rfl
    refine pssd_one ?_
    refine psd_ret ?_
    exact pd_bl
    exact pssd_nil
    refine pssd_one ?_
    refine psd_ret ?_
    refine pd_all rfl T.b_all ?_
    refine pstrd_of ?_
    refine pstrd_gen (own := ["number"]) (cap := []) (capI := []) (ts := [0]) rfl hr ⟨rfl, by decide +kernel, trivial, by decide +kernel, by decide +kernel⟩ (by decide +kernel) (by decide +kernel) hT ⟨c, rfl, hcd⟩ ?_ (fun AG cs C code fp s2 H2 => pgd_name (i := 0) (show (["number"] : List Str).Nodup by decide +kernel)) ?_
    refine pid_seq ?_
    refine pd_slice ?_ ?_ ?_
    exact pdv 0
    exact pod_none
    refine pod_some ?_
    refine pd_neg ?_
    exact pd_int
    intro AG cs C code fp s2 H2 hm
    have hg1 := hm _ hr
    refine pd_chain (od_le) (od_le) ?_ ?_ ?_
    refine pd_neg ?_
    exact pd_glob T.c_FARTHEST rfl
    exact pdv 0
    exact pd_glob T.c_FARTHEST rfl
abbrev s_is_points : Stmt := top 12
theorem sc_is_points : FnScope ["thing"] ["thing"] (defScope s_is_points) := ⟨rfl, rfl, rfl, by decide +kernel, rfl, by decide +kernel, by decide +kernel⟩
theorem fi_is_points {φ_is_point : FF} (T : BI K mg) (F : FunP K "is_points" "is_points" s_is_points f fd Tb) (KB : K.In base) (hmg : mg "is_points" = some (.ref f)) (F_is_point : FI P w K mg base tb "is_point" 1 6 φ_is_point) (hT : Tb ∈ tb) : FI P w K mg base tb "is_points" 1 (7 + 1) (bodyF 1 (g_is_points φ_is_point)) :=
  fi_of F KB hmg sc_is_points rfl (fun _ _ _ _ _ _ us hl => match us, hl with | [_], _ => rfl) fun c A outer s H E hcd hr => by
    have nd := sc_is_points.nd
    refine pssd_cons ?_ ?_
    refine psd_if ?_ ?_ ?_
    refine pwd_pt ?_
    refine pwd_or ?_ ?_
    refine ptd_not ?_
    refine ptd_val ?_
    refine pd_isi T.b_isinstance T.b_list PyProof.Rows.boot_list (by decide) ?_
    exact pdv 0
    refine pwd_or1 ?_
    refine ptd_cmp (od_gt) ?_ ?_
    refine pd_len T.b_len ?_
    refine pad_cons ?_ ?_
    exact pdv 0
    exact pad_nil
    exact pd_glob T.c_MOST_POINTS rfl
    refine pssd_one ?_
    refine psd_ret ?_
    exact pd_bl
    exact pssd_nil
    refine pssd_cons ?_ ?_
    refine psd_if ?_ ?_ ?_
    refine ptd_not ?_
    refine ptd_val ?_
    refine pd_all rfl T.b_all ?_
    refine pstrd_of ?_
    refine pstrd_gen (own := ["part"]) (cap := []) (capI := []) (ts := [0]) rfl hr ⟨rfl, by decide +kernel, trivial, by decide +kernel, by decide +kernel⟩ (by decide +kernel) (by decide +kernel) hT ⟨c, rfl, hcd⟩ ?_ (fun AG cs C code fp s2 H2 => pgd_name (i := 0) (show (["part"] : List Str).Nodup by decide +kernel)) ?_
    refine pid_seq ?_
    exact pdv 0
    intro AG cs C code fp s2 H2 hm
    have hg1 := hm _ hr
    refine pd_call F_is_point (hg1.mono (by first | decide | omega)) ?_ (len_cons (len_nil))
    refine pad_cons ?_ ?_
    exact pdv 0
    exact pad_nil
    refine pssd_one ?_
    refine psd_ret ?_
    exact pd_bl
    exact pssd_nil
    refine pssd_one ?_
    refine psd_ret ?_
    refine pd_all rfl T.b_all ?_
    refine pstrd_of ?_
    refine pstrd_gen (own := ["part"]) (cap := ["thing"]) (capI := [0]) (ts := [0]) rfl hr ⟨rfl, by decide +kernel, ⟨⟨rfl, by first | exact Or.inl rfl | exact Or.inr rfl⟩, trivial⟩, by decide +kernel, by decide +kernel⟩ (by decide +kernel) (by decide +kernel) hT ⟨c, rfl, hcd⟩ ?_ (fun AG cs C code fp s2 H2 => pgd_name (i := 0) (show (["part", "thing"] : List Str).Nodup by decide +kernel)) ?_
    refine pid_seq ?_
    exact pdv 0
    intro AG cs C code fp s2 H2 hm
    have hg1 := hm _ hr
    refine pd_cmp (od_eq hg1) ?_ ?_
    refine pd_len T.b_len ?_
    refine pad_cons ?_ ?_
    exact pdv 0
    exact pad_nil
    refine pd_len T.b_len ?_
    refine pad_cons ?_ ?_
    refine pd_ix ?_ ?_
    exact pdv 1
    exact pd_int
    exact pad_nil
abbrev s__law_says : Stmt := top 25
theorem sc__law_says : FnScope ["_law_found", "_law_due"] ["_law_found", "_law_due"] (defScope s__law_says) := ⟨rfl, rfl, rfl, by decide +kernel, rfl, by decide +kernel, by decide +kernel⟩
theorem fi__law_says (T : BI K mg) (F : FunP K "_law_says" "_law_says" s__law_says f fd Tb) (KB : K.In base) (hmg : mg "_law_says" = some (.ref f)) : FI P w K mg base tb "_law_says" 2 (0 + 1) (bodyF 2 (g__law_says)) :=
  fi_of F KB hmg sc__law_says rfl (fun _ _ _ _ _ _ us hl => match us, hl with | [_, _], _ => rfl) fun c A outer s H E hcd hr => by
    have nd := sc__law_says.nd
    refine pssd_one ?_
    refine psd_ret ?_
    refine pd_and ?_ ?_
    refine pd_isi T.b_isinstance T.b_bool PyProof.Rows.boot_bool (by decide) ?_
    exact pdv 0
    refine pd_bone ?_
    refine pd_cmp (od_eq hr) ?_ ?_
    exact pdv 0
    exact pdv 1
abbrev s_law : Stmt := top 32
theorem sc_law : FnScope ["_law_script", "_law_drawn", "_law_turn", "_law_directions", "_law_points_here", "_law_things", "_law_k", "_law_number", "_law_thing"] ["_law_script"] (defScope s_law) := ⟨rfl, rfl, rfl, by decide +kernel, rfl, by decide +kernel, by decide +kernel⟩
theorem fn_law {φ__law_draws φ__law_next φ__law_points φ__law_odd φ__law_bent φ__law_are_points φ_is_points φ__law_says : FF} (T : BI K mg) (F : FunP K "law" "law" s_law f fd Tb) (KB : K.In base) (F__law_draws : FI P w K mg base tb "_law_draws" 1 2 φ__law_draws) (F__law_next : FI P w K mg base tb "_law_next" 1 1 φ__law_next) (F__law_points : FI P w K mg base tb "_law_points" 3 4 φ__law_points) (F__law_odd : FI P w K mg base tb "_law_odd" 1 1 φ__law_odd) (F__law_bent : FI P w K mg base tb "_law_bent" 3 4 φ__law_bent) (F__law_are_points : FI P w K mg base tb "_law_are_points" 1 4 φ__law_are_points) (F_is_points : FI P w K mg base tb "is_points" 1 8 φ_is_points) (F__law_says : FI P w K mg base tb "_law_says" 2 1 φ__law_says) : FnOk P w K mg base CX0 (8 + 1) f fd ["_law_script"] (spD K tb 1 (bodyF 9 (g_law_k02 φ__law_draws φ__law_next φ__law_points φ__law_odd φ__law_bent φ__law_are_points φ_is_points φ__law_says))) :=
  fnok_of F KB sc_law rfl fun c A outer s H E hcd hr => by
    have nd := sc_law.nd
    refine pssd_cons ?_ ?_
    refine psd_set (i := 1) nd ?_
    refine pd_call F__law_draws (hr.mono (by first | decide | omega)) ?_ (len_cons (len_nil))
    refine pad_cons ?_ ?_
    exact pdv 0
    exact pad_nil
    refine pssd_cons ?_ ?_
    refine psd_for (ts := [2]) PassesOwn.never rfl ?_ (pgd_name (i := 2) nd) ?_
    refine pid_range1 T.b_range ?_
    refine pad_cons ?_ ?_
    refine pd_bin od_add ?_ ?_
    exact pd_int
    refine pd_min2 rfl T.b_min ?_
    refine pad_cons ?_ ?_
    exact pd_int
    refine pad_cons ?_ ?_
    refine pd_len T.b_len ?_
    refine pad_cons ?_ ?_
    exact pdv 0
    exact pad_nil
    exact pad_nil
    exact pad_nil
    refine pssd_cons ?_ ?_
    refine psd_set (i := 3) nd ?_
    refine pd_bin od_add ?_ ?_
    exact pd_int
    refine pd_bin od_mod ?_ ?_
    refine pd_call F__law_next (hr.mono (by first | decide | omega)) ?_ (len_cons (len_nil))
    refine pad_cons ?_ ?_
    exact pdv 1
    exact pad_nil
    exact pd_int
    refine pssd_cons ?_ ?_
    refine psd_set (i := 4) nd ?_
    refine pd_call F__law_points (hr.mono (by first | decide | omega)) ?_ (len_cons (len_cons (len_cons (len_nil))))
    refine pad_cons ?_ ?_
    exact pdv 1
    refine pad_cons ?_ ?_
    exact pdv 3
    refine pad_cons ?_ ?_
    refine pd_ix ?_ ?_
    refine pd_lst ?_
    refine pad_cons ?_ ?_
    exact pd_int
    refine pad_cons ?_ ?_
    exact pd_int
    refine pad_cons ?_ ?_
    exact pd_int
    exact pad_nil
    refine pd_bin od_mod ?_ ?_
    refine pd_call F__law_next (hr.mono (by first | decide | omega)) ?_ (len_cons (len_nil))
    refine pad_cons ?_ ?_
    exact pdv 1
    exact pad_nil
    exact pd_int
    exact pad_nil
    refine pssd_cons ?_ ?_
    refine psd_set (i := 5) nd ?_
    refine pd_lst ?_
    refine pad_cons ?_ ?_
    exact pdv 4
    refine pad_cons ?_ ?_
    refine pd_lst ?_
    exact pad_nil
    refine pad_cons ?_ ?_
    refine pd_bin od_mul ?_ ?_
    refine pd_slice ?_ ?_ ?_
    exact pdv 4
    exact pod_none
    refine pod_some ?_
    exact pd_int
    exact pd_int
    exact pad_nil
    refine pssd_cons ?_ ?_
    refine psd_for (ts := [6]) PassesOwn.never rfl ?_ (pgd_name (i := 6) nd) ?_
    refine pid_range1 T.b_range ?_
    refine pad_cons ?_ ?_
    exact pd_int
    exact pad_nil
    refine pssd_cons ?_ ?_
    refine psd_set (i := 7) nd ?_
    refine pd_call F__law_next (hr.mono (by first | decide | omega)) ?_ (len_cons (len_nil))
    refine pad_cons ?_ ?_
    exact pdv 1
    exact pad_nil
    refine pssd_one ?_
    refine psd_set (i := 5) nd ?_
    refine pd_bin od_add ?_ ?_
    exact pdv 5
    refine pd_lst ?_
    refine pad_cons ?_ ?_
    refine pd_call F__law_bent (hr.mono (by first | decide | omega)) ?_ (len_cons (len_cons (len_cons (len_nil))))
    refine pad_cons ?_ ?_
    exact pdv 4
    refine pad_cons ?_ ?_
    exact pdv 3
    refine pad_cons ?_ ?_
    exact pdv 7
    exact pad_nil
    refine pad_cons ?_ ?_
    refine pd_call F__law_odd (hr.mono (by first | decide | omega)) ?_ (len_cons (len_nil))
    refine pad_cons ?_ ?_
    exact pdv 7
    exact pad_nil
    refine pad_cons ?_ ?_
    refine pd_lst ?_
    refine pad_cons ?_ ?_
    refine pd_call F__law_odd (hr.mono (by first | decide | omega)) ?_ (len_cons (len_nil))
    refine pad_cons ?_ ?_
    refine pd_bin od_div ?_ ?_
    exact pdv 7
    exact pd_int
    exact pad_nil
    exact pad_nil
    exact pad_nil
    refine pssd_one ?_
    refine psd_for (ts := [8]) PassesOwn.never rfl ?_ (pgd_name (i := 8) nd) ?_
    refine pid_seq ?_
    exact pdv 5
    refine pssd_one ?_
    refine psd_if ?_ ?_ ?_
    refine ptd_not ?_
    refine ptd_val ?_
    refine pd_call F__law_says (hr.mono (by first | decide | omega)) ?_ (len_cons (len_cons (len_nil)))
    refine pad_cons ?_ ?_
    refine pd_call F_is_points (hr.mono (by first | decide | omega)) ?_ (len_cons (len_nil))
    refine pad_cons ?_ ?_
    exact pdv 8
    exact pad_nil
    refine pad_cons ?_ ?_
    refine pd_call F__law_are_points (hr.mono (by first | decide | omega)) ?_ (len_cons (len_nil))
    refine pad_cons ?_ ?_
    exact pdv 8
    exact pad_nil
    exact pad_nil
    refine pssd_one ?_
    refine psd_ret ?_
    exact pd_bl
    exact pssd_nil
    refine pssd_one ?_
    refine psd_ret ?_
    exact pd_bl
end Lk02
set_option Elab.async false
set_option linter.all false
set_option maxRecDepth 100000
set_option maxHeartbeats 4000000
namespace Lk02
open PySem PySem.Spec PyProof.Rows L2 L3 LG
noncomputable def φ__law_mixed : FF := trunc (bodyF 3 (g__law_mixed))
noncomputable def φ__law_draws : FF := bodyF 5 (g__law_draws φ__law_mixed)
noncomputable def φ__law_next : FF := trunc (bodyF 1 (g__law_next))
noncomputable def φ__law_gcd : FF := trunc (bodyF 2 (g__law_gcd))
noncomputable def φ__law_lowest : FF := trunc (bodyF 4 (g__law_lowest φ__law_gcd))
noncomputable def φ__law_on_line : FF := trunc (bodyF 8 (g__law_on_line φ__law_next φ__law_lowest))
noncomputable def φ__law_flat : FF := trunc (bodyF 9 (g__law_flat φ__law_next φ__law_lowest))
noncomputable def φ__law_place : FF := trunc (bodyF 3 (g__law_place))
noncomputable def φ__law_point : FF := trunc (bodyF 9 (g__law_point φ__law_mixed φ__law_place φ__law_lowest))
noncomputable def φ__law_points : FF := trunc (bodyF 9 (g__law_points φ__law_next φ__law_on_line φ__law_flat φ__law_point))
noncomputable def φ__law_odd : FF := trunc (bodyF 2 (g__law_odd))
noncomputable def φ__law_edge : FF := trunc (bodyF 5 (g__law_edge φ__law_lowest))
noncomputable def φ__law_bent : FF := trunc (bodyF 6 (g__law_bent_k02 φ__law_odd φ__law_edge))
noncomputable def φ__law_whole : FF := trunc (bodyF 1 (g__law_whole))
noncomputable def φ__law_is_spot : FF := trunc (bodyF 3 (g__law_is_spot φ__law_whole φ__law_gcd))
noncomputable def φ__law_is_point : FF := trunc (bodyF 1 (g__law_is_point φ__law_is_spot))
noncomputable def φ__law_are_points : FF := trunc (bodyF 1 (g__law_are_points φ__law_is_point))
noncomputable def φ_is_number : FF := trunc (bodyF 1 (g_is_number))
noncomputable def φ_is_numbers : FF := trunc (bodyF 1 (g_is_numbers φ_is_number))
noncomputable def φ_divisor_of_two : FF := trunc (bodyF 2 (g_divisor_of_two))
noncomputable def φ_common_divisor : FF := trunc (bodyF 3 (g_common_divisor φ_divisor_of_two))
noncomputable def φ_is_spot : FF := trunc (bodyF 1 (g_is_spot φ_is_numbers φ_common_divisor))
noncomputable def φ_is_point : FF := trunc (bodyF 1 (g_is_point φ_is_spot))
noncomputable def φ_is_points : FF := trunc (bodyF 1 (g_is_points φ_is_point))
noncomputable def φ__law_says : FF := trunc (bodyF 2 (g__law_says))
noncomputable def φ_law : FF := bodyF 9 (g_law_k02 φ__law_draws φ__law_next φ__law_points φ__law_odd φ__law_bent φ__law_are_points φ_is_points φ__law_says)
end Lk02
set_option Elab.async false
set_option linter.all false
set_option maxRecDepth 100000
set_option maxHeartbeats 4000000
namespace Lk02
open PySem PySem.Spec PyProof.Rows L2 L3 LG
theorem all_mk {l : PySem.W.OpenLaw} {q : Program} {lo : List Str} {mean : ExcName → Option Value} {w : World} {K : PySem.W.Frag} {h : Heap} {mg mb : Str → Option Value} {fa : Addr}
    {f__law_mixed c__law_mixed P__law_mixed : Addr} {oc__law_mixed kV__law_mixed dc__law_mixed pm__law_mixed ct__law_mixed : Value} {od__law_mixed an__law_mixed dd__law_mixed : Option Addr} {sl__law_mixed cs__law_mixed : Array (Option Value)} {vs__law_mixed : Array Value}
    {f__law_draws c__law_draws P__law_draws : Addr} {oc__law_draws kV__law_draws dc__law_draws pm__law_draws ct__law_draws : Value} {od__law_draws an__law_draws dd__law_draws : Option Addr} {sl__law_draws cs__law_draws : Array (Option Value)} {vs__law_draws : Array Value}
    {f__law_next c__law_next P__law_next : Addr} {oc__law_next kV__law_next dc__law_next pm__law_next ct__law_next : Value} {od__law_next an__law_next dd__law_next : Option Addr} {sl__law_next cs__law_next : Array (Option Value)} {vs__law_next : Array Value}
    {f__law_gcd c__law_gcd P__law_gcd : Addr} {oc__law_gcd kV__law_gcd dc__law_gcd pm__law_gcd ct__law_gcd : Value} {od__law_gcd an__law_gcd dd__law_gcd : Option Addr} {sl__law_gcd cs__law_gcd : Array (Option Value)} {vs__law_gcd : Array Value}
    {f__law_lowest c__law_lowest P__law_lowest : Addr} {oc__law_lowest kV__law_lowest dc__law_lowest pm__law_lowest ct__law_lowest : Value} {od__law_lowest an__law_lowest dd__law_lowest : Option Addr} {sl__law_lowest cs__law_lowest : Array (Option Value)} {vs__law_lowest : Array Value}
    {f__law_on_line c__law_on_line P__law_on_line : Addr} {oc__law_on_line kV__law_on_line dc__law_on_line pm__law_on_line ct__law_on_line : Value} {od__law_on_line an__law_on_line dd__law_on_line : Option Addr} {sl__law_on_line cs__law_on_line : Array (Option Value)} {vs__law_on_line : Array Value}
    {f__law_flat c__law_flat P__law_flat : Addr} {oc__law_flat kV__law_flat dc__law_flat pm__law_flat ct__law_flat : Value} {od__law_flat an__law_flat dd__law_flat : Option Addr} {sl__law_flat cs__law_flat : Array (Option Value)} {vs__law_flat : Array Value}
    {f__law_place c__law_place P__law_place : Addr} {oc__law_place kV__law_place dc__law_place pm__law_place ct__law_place : Value} {od__law_place an__law_place dd__law_place : Option Addr} {sl__law_place cs__law_place : Array (Option Value)} {vs__law_place : Array Value}
    {f__law_point c__law_point P__law_point : Addr} {oc__law_point kV__law_point dc__law_point pm__law_point ct__law_point : Value} {od__law_point an__law_point dd__law_point : Option Addr} {sl__law_point cs__law_point : Array (Option Value)} {vs__law_point : Array Value}
    {f__law_points c__law_points P__law_points : Addr} {oc__law_points kV__law_points dc__law_points pm__law_points ct__law_points : Value} {od__law_points an__law_points dd__law_points : Option Addr} {sl__law_points cs__law_points : Array (Option Value)} {vs__law_points : Array Value}
    {f__law_odd c__law_odd P__law_odd : Addr} {oc__law_odd kV__law_odd dc__law_odd pm__law_odd ct__law_odd : Value} {od__law_odd an__law_odd dd__law_odd : Option Addr} {sl__law_odd cs__law_odd : Array (Option Value)} {vs__law_odd : Array Value}
    {f__law_edge c__law_edge P__law_edge : Addr} {oc__law_edge kV__law_edge dc__law_edge pm__law_edge ct__law_edge : Value} {od__law_edge an__law_edge dd__law_edge : Option Addr} {sl__law_edge cs__law_edge : Array (Option Value)} {vs__law_edge : Array Value}
    {f__law_bent c__law_bent P__law_bent : Addr} {oc__law_bent kV__law_bent dc__law_bent pm__law_bent ct__law_bent : Value} {od__law_bent an__law_bent dd__law_bent : Option Addr} {sl__law_bent cs__law_bent : Array (Option Value)} {vs__law_bent : Array Value}
    {f__law_whole c__law_whole P__law_whole : Addr} {oc__law_whole kV__law_whole dc__law_whole pm__law_whole ct__law_whole : Value} {od__law_whole an__law_whole dd__law_whole : Option Addr} {sl__law_whole cs__law_whole : Array (Option Value)} {vs__law_whole : Array Value}
    {f__law_is_spot c__law_is_spot P__law_is_spot : Addr} {oc__law_is_spot kV__law_is_spot dc__law_is_spot pm__law_is_spot ct__law_is_spot : Value} {od__law_is_spot an__law_is_spot dd__law_is_spot : Option Addr} {sl__law_is_spot cs__law_is_spot : Array (Option Value)} {vs__law_is_spot : Array Value}
    {f__law_is_point c__law_is_point P__law_is_point : Addr} {oc__law_is_point kV__law_is_point dc__law_is_point pm__law_is_point ct__law_is_point : Value} {od__law_is_point an__law_is_point dd__law_is_point : Option Addr} {sl__law_is_point cs__law_is_point : Array (Option Value)} {vs__law_is_point : Array Value}
    {f__law_are_points c__law_are_points P__law_are_points : Addr} {oc__law_are_points kV__law_are_points dc__law_are_points pm__law_are_points ct__law_are_points : Value} {od__law_are_points an__law_are_points dd__law_are_points : Option Addr} {sl__law_are_points cs__law_are_points : Array (Option Value)} {vs__law_are_points : Array Value}
    {f_is_number c_is_number P_is_number : Addr} {oc_is_number kV_is_number dc_is_number pm_is_number ct_is_number : Value} {od_is_number an_is_number dd_is_number : Option Addr} {sl_is_number cs_is_number : Array (Option Value)} {vs_is_number : Array Value}
    {f_is_numbers c_is_numbers P_is_numbers : Addr} {oc_is_numbers kV_is_numbers dc_is_numbers pm_is_numbers ct_is_numbers : Value} {od_is_numbers an_is_numbers dd_is_numbers : Option Addr} {sl_is_numbers cs_is_numbers : Array (Option Value)} {vs_is_numbers : Array Value}
    {f_divisor_of_two c_divisor_of_two P_divisor_of_two : Addr} {oc_divisor_of_two kV_divisor_of_two dc_divisor_of_two pm_divisor_of_two ct_divisor_of_two : Value} {od_divisor_of_two an_divisor_of_two dd_divisor_of_two : Option Addr} {sl_divisor_of_two cs_divisor_of_two : Array (Option Value)} {vs_divisor_of_two : Array Value}
    {f_common_divisor c_common_divisor P_common_divisor : Addr} {oc_common_divisor kV_common_divisor dc_common_divisor pm_common_divisor ct_common_divisor : Value} {od_common_divisor an_common_divisor dd_common_divisor : Option Addr} {sl_common_divisor cs_common_divisor : Array (Option Value)} {vs_common_divisor : Array Value}
    {f_is_spot c_is_spot P_is_spot : Addr} {oc_is_spot kV_is_spot dc_is_spot pm_is_spot ct_is_spot : Value} {od_is_spot an_is_spot dd_is_spot : Option Addr} {sl_is_spot cs_is_spot : Array (Option Value)} {vs_is_spot : Array Value}
    {f_is_point c_is_point P_is_point : Addr} {oc_is_point kV_is_point dc_is_point pm_is_point ct_is_point : Value} {od_is_point an_is_point dd_is_point : Option Addr} {sl_is_point cs_is_point : Array (Option Value)} {vs_is_point : Array Value}
    {f_is_points c_is_points P_is_points : Addr} {oc_is_points kV_is_points dc_is_points pm_is_points ct_is_points : Value} {od_is_points an_is_points dd_is_points : Option Addr} {sl_is_points cs_is_points : Array (Option Value)} {vs_is_points : Array Value}
    {f__law_says c__law_says P__law_says : Addr} {oc__law_says kV__law_says dc__law_says pm__law_says ct__law_says : Value} {od__law_says an__law_says dd__law_says : Option Addr} {sl__law_says cs__law_says : Array (Option Value)} {vs__law_says : Array Value}
    {f_law c_law P_law : Addr} {oc_law kV_law dc_law pm_law ct_law : Value} {od_law an_law dd_law : Option Addr} {sl_law cs_law : Array (Option Value)} {vs_law : Array Value}
    {t_FARTHEST : Tok}
    {t_GREATEST_BOTTOM : Tok}
    {t_MOST_DIRECTIONS : Tok}
    {t_MOST_POINTS : Tok}
    (X : K.In h) (G : Top q lo mean mg mb h) (hfa : mg "law" = some (.ref fa))
    (a__law_mixed : PySem.W.nsIn K mainGlobals "_law_mixed" = some (some (.ref f__law_mixed)))
    (l__law_mixed : K.lookup f__law_mixed = some ⟨oc__law_mixed, od__law_mixed, .func (PySem.W.fnOf "_law_mixed" "_law_mixed" (defArgs s__law_mixed) (defBody s__law_mixed) (defScope s__law_mixed) .none kV__law_mixed dc__law_mixed pm__law_mixed an__law_mixed (.ref c__law_mixed) ct__law_mixed), sl__law_mixed⟩)
    (h__law_mixed : PySem.W.codeIn K (.ref c__law_mixed) "_law_mixed" = true) (k__law_mixed : PySem.W.keepIn K (.ref f__law_mixed) = true)
    (lc__law_mixed : K.lookup c__law_mixed = some ⟨.type "code", dd__law_mixed, .fields vs__law_mixed, cs__law_mixed⟩) (p__law_mixed : vs__law_mixed[11]? = some (.ref P__law_mixed)) (q__law_mixed : okCode vs__law_mixed = true) (ne__law_mixed : (c__law_mixed != P__law_mixed) = true)
    (a__law_draws : PySem.W.nsIn K mainGlobals "_law_draws" = some (some (.ref f__law_draws)))
    (l__law_draws : K.lookup f__law_draws = some ⟨oc__law_draws, od__law_draws, .func (PySem.W.fnOf "_law_draws" "_law_draws" (defArgs s__law_draws) (defBody s__law_draws) (defScope s__law_draws) .none kV__law_draws dc__law_draws pm__law_draws an__law_draws (.ref c__law_draws) ct__law_draws), sl__law_draws⟩)
    (h__law_draws : PySem.W.codeIn K (.ref c__law_draws) "_law_draws" = true) (k__law_draws : PySem.W.keepIn K (.ref f__law_draws) = true)
    (lc__law_draws : K.lookup c__law_draws = some ⟨.type "code", dd__law_draws, .fields vs__law_draws, cs__law_draws⟩) (p__law_draws : vs__law_draws[11]? = some (.ref P__law_draws)) (q__law_draws : okCode vs__law_draws = true) (ne__law_draws : (c__law_draws != P__law_draws) = true)
    (a__law_next : PySem.W.nsIn K mainGlobals "_law_next" = some (some (.ref f__law_next)))
    (l__law_next : K.lookup f__law_next = some ⟨oc__law_next, od__law_next, .func (PySem.W.fnOf "_law_next" "_law_next" (defArgs s__law_next) (defBody s__law_next) (defScope s__law_next) .none kV__law_next dc__law_next pm__law_next an__law_next (.ref c__law_next) ct__law_next), sl__law_next⟩)
    (h__law_next : PySem.W.codeIn K (.ref c__law_next) "_law_next" = true) (k__law_next : PySem.W.keepIn K (.ref f__law_next) = true)
    (lc__law_next : K.lookup c__law_next = some ⟨.type "code", dd__law_next, .fields vs__law_next, cs__law_next⟩) (p__law_next : vs__law_next[11]? = some (.ref P__law_next)) (q__law_next : okCode vs__law_next = true) (ne__law_next : (c__law_next != P__law_next) = true)
    (a__law_gcd : PySem.W.nsIn K mainGlobals "_law_gcd" = some (some (.ref f__law_gcd)))
    (l__law_gcd : K.lookup f__law_gcd = some ⟨oc__law_gcd, od__law_gcd, .func (PySem.W.fnOf "_law_gcd" "_law_gcd" (defArgs s__law_gcd) (defBody s__law_gcd) (defScope s__law_gcd) .none kV__law_gcd dc__law_gcd pm__law_gcd an__law_gcd (.ref c__law_gcd) ct__law_gcd), sl__law_gcd⟩)
    (h__law_gcd : PySem.W.codeIn K (.ref c__law_gcd) "_law_gcd" = true) (k__law_gcd : PySem.W.keepIn K (.ref f__law_gcd) = true)
    (lc__law_gcd : K.lookup c__law_gcd = some ⟨.type "code", dd__law_gcd, .fields vs__law_gcd, cs__law_gcd⟩) (p__law_gcd : vs__law_gcd[11]? = some (.ref P__law_gcd)) (q__law_gcd : okCode vs__law_gcd = true) (ne__law_gcd : (c__law_gcd != P__law_gcd) = true)
    (a__law_lowest : PySem.W.nsIn K mainGlobals "_law_lowest" = some (some (.ref f__law_lowest)))
    (l__law_lowest : K.lookup f__law_lowest = some ⟨oc__law_lowest, od__law_lowest, .func (PySem.W.fnOf "_law_lowest" "_law_lowest" (defArgs s__law_lowest) (defBody s__law_lowest) (defScope s__law_lowest) .none kV__law_lowest dc__law_lowest pm__law_lowest an__law_lowest (.ref c__law_lowest) ct__law_lowest), sl__law_lowest⟩)
    (h__law_lowest : PySem.W.codeIn K (.ref c__law_lowest) "_law_lowest" = true) (k__law_lowest : PySem.W.keepIn K (.ref f__law_lowest) = true)
    (lc__law_lowest : K.lookup c__law_lowest = some ⟨.type "code", dd__law_lowest, .fields vs__law_lowest, cs__law_lowest⟩) (p__law_lowest : vs__law_lowest[11]? = some (.ref P__law_lowest)) (q__law_lowest : okCode vs__law_lowest = true) (ne__law_lowest : (c__law_lowest != P__law_lowest) = true)
    (a__law_on_line : PySem.W.nsIn K mainGlobals "_law_on_line" = some (some (.ref f__law_on_line)))
    (l__law_on_line : K.lookup f__law_on_line = some ⟨oc__law_on_line, od__law_on_line, .func (PySem.W.fnOf "_law_on_line" "_law_on_line" (defArgs s__law_on_line) (defBody s__law_on_line) (defScope s__law_on_line) .none kV__law_on_line dc__law_on_line pm__law_on_line an__law_on_line (.ref c__law_on_line) ct__law_on_line), sl__law_on_line⟩)
    (h__law_on_line : PySem.W.codeIn K (.ref c__law_on_line) "_law_on_line" = true) (k__law_on_line : PySem.W.keepIn K (.ref f__law_on_line) = true)
    (lc__law_on_line : K.lookup c__law_on_line = some ⟨.type "code", dd__law_on_line, .fields vs__law_on_line, cs__law_on_line⟩) (p__law_on_line : vs__law_on_line[11]? = some (.ref P__law_on_line)) (q__law_on_line : okCode vs__law_on_line = true) (ne__law_on_line : (c__law_on_line != P__law_on_line) = true)
    (a__law_flat : PySem.W.nsIn K mainGlobals "_law_flat" = some (some (.ref f__law_flat)))
    (l__law_flat : K.lookup f__law_flat = some ⟨oc__law_flat, od__law_flat, .func (PySem.W.fnOf "_law_flat" "_law_flat" (defArgs s__law_flat) (defBody s__law_flat) (defScope s__law_flat) .none kV__law_flat dc__law_flat pm__law_flat an__law_flat (.ref c__law_flat) ct__law_flat), sl__law_flat⟩)
    (h__law_flat : PySem.W.codeIn K (.ref c__law_flat) "_law_flat" = true) (k__law_flat : PySem.W.keepIn K (.ref f__law_flat) = true)
    (lc__law_flat : K.lookup c__law_flat = some ⟨.type "code", dd__law_flat, .fields vs__law_flat, cs__law_flat⟩) (p__law_flat : vs__law_flat[11]? = some (.ref P__law_flat)) (q__law_flat : okCode vs__law_flat = true) (ne__law_flat : (c__law_flat != P__law_flat) = true)
    (a__law_place : PySem.W.nsIn K mainGlobals "_law_place" = some (some (.ref f__law_place)))
    (l__law_place : K.lookup f__law_place = some ⟨oc__law_place, od__law_place, .func (PySem.W.fnOf "_law_place" "_law_place" (defArgs s__law_place) (defBody s__law_place) (defScope s__law_place) .none kV__law_place dc__law_place pm__law_place an__law_place (.ref c__law_place) ct__law_place), sl__law_place⟩)
    (h__law_place : PySem.W.codeIn K (.ref c__law_place) "_law_place" = true) (k__law_place : PySem.W.keepIn K (.ref f__law_place) = true)
    (lc__law_place : K.lookup c__law_place = some ⟨.type "code", dd__law_place, .fields vs__law_place, cs__law_place⟩) (p__law_place : vs__law_place[11]? = some (.ref P__law_place)) (q__law_place : okCode vs__law_place = true) (ne__law_place : (c__law_place != P__law_place) = true)
    (a__law_point : PySem.W.nsIn K mainGlobals "_law_point" = some (some (.ref f__law_point)))
    (l__law_point : K.lookup f__law_point = some ⟨oc__law_point, od__law_point, .func (PySem.W.fnOf "_law_point" "_law_point" (defArgs s__law_point) (defBody s__law_point) (defScope s__law_point) .none kV__law_point dc__law_point pm__law_point an__law_point (.ref c__law_point) ct__law_point), sl__law_point⟩)
    (h__law_point : PySem.W.codeIn K (.ref c__law_point) "_law_point" = true) (k__law_point : PySem.W.keepIn K (.ref f__law_point) = true)
    (lc__law_point : K.lookup c__law_point = some ⟨.type "code", dd__law_point, .fields vs__law_point, cs__law_point⟩) (p__law_point : vs__law_point[11]? = some (.ref P__law_point)) (q__law_point : okCode vs__law_point = true) (ne__law_point : (c__law_point != P__law_point) = true)
    (a__law_points : PySem.W.nsIn K mainGlobals "_law_points" = some (some (.ref f__law_points)))
    (l__law_points : K.lookup f__law_points = some ⟨oc__law_points, od__law_points, .func (PySem.W.fnOf "_law_points" "_law_points" (defArgs s__law_points) (defBody s__law_points) (defScope s__law_points) .none kV__law_points dc__law_points pm__law_points an__law_points (.ref c__law_points) ct__law_points), sl__law_points⟩)
    (h__law_points : PySem.W.codeIn K (.ref c__law_points) "_law_points" = true) (k__law_points : PySem.W.keepIn K (.ref f__law_points) = true)
    (lc__law_points : K.lookup c__law_points = some ⟨.type "code", dd__law_points, .fields vs__law_points, cs__law_points⟩) (p__law_points : vs__law_points[11]? = some (.ref P__law_points)) (q__law_points : okCode vs__law_points = true) (ne__law_points : (c__law_points != P__law_points) = true)
    (a__law_odd : PySem.W.nsIn K mainGlobals "_law_odd" = some (some (.ref f__law_odd)))
    (l__law_odd : K.lookup f__law_odd = some ⟨oc__law_odd, od__law_odd, .func (PySem.W.fnOf "_law_odd" "_law_odd" (defArgs s__law_odd) (defBody s__law_odd) (defScope s__law_odd) .none kV__law_odd dc__law_odd pm__law_odd an__law_odd (.ref c__law_odd) ct__law_odd), sl__law_odd⟩)
    (h__law_odd : PySem.W.codeIn K (.ref c__law_odd) "_law_odd" = true) (k__law_odd : PySem.W.keepIn K (.ref f__law_odd) = true)
    (lc__law_odd : K.lookup c__law_odd = some ⟨.type "code", dd__law_odd, .fields vs__law_odd, cs__law_odd⟩) (p__law_odd : vs__law_odd[11]? = some (.ref P__law_odd)) (q__law_odd : okCode vs__law_odd = true) (ne__law_odd : (c__law_odd != P__law_odd) = true)
    (a__law_edge : PySem.W.nsIn K mainGlobals "_law_edge" = some (some (.ref f__law_edge)))
    (l__law_edge : K.lookup f__law_edge = some ⟨oc__law_edge, od__law_edge, .func (PySem.W.fnOf "_law_edge" "_law_edge" (defArgs s__law_edge) (defBody s__law_edge) (defScope s__law_edge) .none kV__law_edge dc__law_edge pm__law_edge an__law_edge (.ref c__law_edge) ct__law_edge), sl__law_edge⟩)
    (h__law_edge : PySem.W.codeIn K (.ref c__law_edge) "_law_edge" = true) (k__law_edge : PySem.W.keepIn K (.ref f__law_edge) = true)
    (lc__law_edge : K.lookup c__law_edge = some ⟨.type "code", dd__law_edge, .fields vs__law_edge, cs__law_edge⟩) (p__law_edge : vs__law_edge[11]? = some (.ref P__law_edge)) (q__law_edge : okCode vs__law_edge = true) (ne__law_edge : (c__law_edge != P__law_edge) = true)
    (a__law_bent : PySem.W.nsIn K mainGlobals "_law_bent" = some (some (.ref f__law_bent)))
    (l__law_bent : K.lookup f__law_bent = some ⟨oc__law_bent, od__law_bent, .func (PySem.W.fnOf "_law_bent" "_law_bent" (defArgs s__law_bent) (defBody s__law_bent) (defScope s__law_bent) .none kV__law_bent dc__law_bent pm__law_bent an__law_bent (.ref c__law_bent) ct__law_bent), sl__law_bent⟩)
    (h__law_bent : PySem.W.codeIn K (.ref c__law_bent) "_law_bent" = true) (k__law_bent : PySem.W.keepIn K (.ref f__law_bent) = true)
    (lc__law_bent : K.lookup c__law_bent = some ⟨.type "code", dd__law_bent, .fields vs__law_bent, cs__law_bent⟩) (p__law_bent : vs__law_bent[11]? = some (.ref P__law_bent)) (q__law_bent : okCode vs__law_bent = true) (ne__law_bent : (c__law_bent != P__law_bent) = true)
    (a__law_whole : PySem.W.nsIn K mainGlobals "_law_whole" = some (some (.ref f__law_whole)))
    (l__law_whole : K.lookup f__law_whole = some ⟨oc__law_whole, od__law_whole, .func (PySem.W.fnOf "_law_whole" "_law_whole" (defArgs s__law_whole) (defBody s__law_whole) (defScope s__law_whole) .none kV__law_whole dc__law_whole pm__law_whole an__law_whole (.ref c__law_whole) ct__law_whole), sl__law_whole⟩)
    (h__law_whole : PySem.W.codeIn K (.ref c__law_whole) "_law_whole" = true) (k__law_whole : PySem.W.keepIn K (.ref f__law_whole) = true)
    (lc__law_whole : K.lookup c__law_whole = some ⟨.type "code", dd__law_whole, .fields vs__law_whole, cs__law_whole⟩) (p__law_whole : vs__law_whole[11]? = some (.ref P__law_whole)) (q__law_whole : okCode vs__law_whole = true) (ne__law_whole : (c__law_whole != P__law_whole) = true)
    (a__law_is_spot : PySem.W.nsIn K mainGlobals "_law_is_spot" = some (some (.ref f__law_is_spot)))
    (l__law_is_spot : K.lookup f__law_is_spot = some ⟨oc__law_is_spot, od__law_is_spot, .func (PySem.W.fnOf "_law_is_spot" "_law_is_spot" (defArgs s__law_is_spot) (defBody s__law_is_spot) (defScope s__law_is_spot) .none kV__law_is_spot dc__law_is_spot pm__law_is_spot an__law_is_spot (.ref c__law_is_spot) ct__law_is_spot), sl__law_is_spot⟩)
    (h__law_is_spot : PySem.W.codeIn K (.ref c__law_is_spot) "_law_is_spot" = true) (k__law_is_spot : PySem.W.keepIn K (.ref f__law_is_spot) = true)
    (lc__law_is_spot : K.lookup c__law_is_spot = some ⟨.type "code", dd__law_is_spot, .fields vs__law_is_spot, cs__law_is_spot⟩) (p__law_is_spot : vs__law_is_spot[11]? = some (.ref P__law_is_spot)) (q__law_is_spot : okCode vs__law_is_spot = true) (ne__law_is_spot : (c__law_is_spot != P__law_is_spot) = true)
    (a__law_is_point : PySem.W.nsIn K mainGlobals "_law_is_point" = some (some (.ref f__law_is_point)))
    (l__law_is_point : K.lookup f__law_is_point = some ⟨oc__law_is_point, od__law_is_point, .func (PySem.W.fnOf "_law_is_point" "_law_is_point" (defArgs s__law_is_point) (defBody s__law_is_point) (defScope s__law_is_point) .none kV__law_is_point dc__law_is_point pm__law_is_point an__law_is_point (.ref c__law_is_point) ct__law_is_point), sl__law_is_point⟩)
    (h__law_is_point : PySem.W.codeIn K (.ref c__law_is_point) "_law_is_point" = true) (k__law_is_point : PySem.W.keepIn K (.ref f__law_is_point) = true)
    (lc__law_is_point : K.lookup c__law_is_point = some ⟨.type "code", dd__law_is_point, .fields vs__law_is_point, cs__law_is_point⟩) (p__law_is_point : vs__law_is_point[11]? = some (.ref P__law_is_point)) (q__law_is_point : okCode vs__law_is_point = true) (ne__law_is_point : (c__law_is_point != P__law_is_point) = true)
    (a__law_are_points : PySem.W.nsIn K mainGlobals "_law_are_points" = some (some (.ref f__law_are_points)))
    (l__law_are_points : K.lookup f__law_are_points = some ⟨oc__law_are_points, od__law_are_points, .func (PySem.W.fnOf "_law_are_points" "_law_are_points" (defArgs s__law_are_points) (defBody s__law_are_points) (defScope s__law_are_points) .none kV__law_are_points dc__law_are_points pm__law_are_points an__law_are_points (.ref c__law_are_points) ct__law_are_points), sl__law_are_points⟩)
    (h__law_are_points : PySem.W.codeIn K (.ref c__law_are_points) "_law_are_points" = true) (k__law_are_points : PySem.W.keepIn K (.ref f__law_are_points) = true)
    (lc__law_are_points : K.lookup c__law_are_points = some ⟨.type "code", dd__law_are_points, .fields vs__law_are_points, cs__law_are_points⟩) (p__law_are_points : vs__law_are_points[11]? = some (.ref P__law_are_points)) (q__law_are_points : okCode vs__law_are_points = true) (ne__law_are_points : (c__law_are_points != P__law_are_points) = true)
    (a_is_number : PySem.W.nsIn K mainGlobals "is_number" = some (some (.ref f_is_number)))
    (l_is_number : K.lookup f_is_number = some ⟨oc_is_number, od_is_number, .func (PySem.W.fnOf "is_number" "is_number" (defArgs s_is_number) (defBody s_is_number) (defScope s_is_number) .none kV_is_number dc_is_number pm_is_number an_is_number (.ref c_is_number) ct_is_number), sl_is_number⟩)
    (h_is_number : PySem.W.codeIn K (.ref c_is_number) "is_number" = true) (k_is_number : PySem.W.keepIn K (.ref f_is_number) = true)
    (lc_is_number : K.lookup c_is_number = some ⟨.type "code", dd_is_number, .fields vs_is_number, cs_is_number⟩) (p_is_number : vs_is_number[11]? = some (.ref P_is_number)) (q_is_number : okCode vs_is_number = true) (ne_is_number : (c_is_number != P_is_number) = true)
    (a_is_numbers : PySem.W.nsIn K mainGlobals "is_numbers" = some (some (.ref f_is_numbers)))
    (l_is_numbers : K.lookup f_is_numbers = some ⟨oc_is_numbers, od_is_numbers, .func (PySem.W.fnOf "is_numbers" "is_numbers" (defArgs s_is_numbers) (defBody s_is_numbers) (defScope s_is_numbers) .none kV_is_numbers dc_is_numbers pm_is_numbers an_is_numbers (.ref c_is_numbers) ct_is_numbers), sl_is_numbers⟩)
    (h_is_numbers : PySem.W.codeIn K (.ref c_is_numbers) "is_numbers" = true) (k_is_numbers : PySem.W.keepIn K (.ref f_is_numbers) = true)
    (lc_is_numbers : K.lookup c_is_numbers = some ⟨.type "code", dd_is_numbers, .fields vs_is_numbers, cs_is_numbers⟩) (p_is_numbers : vs_is_numbers[11]? = some (.ref P_is_numbers)) (q_is_numbers : okCode vs_is_numbers = true) (ne_is_numbers : (c_is_numbers != P_is_numbers) = true)
    (a_divisor_of_two : PySem.W.nsIn K mainGlobals "divisor_of_two" = some (some (.ref f_divisor_of_two)))
    (l_divisor_of_two : K.lookup f_divisor_of_two = some ⟨oc_divisor_of_two, od_divisor_of_two, .func (PySem.W.fnOf "divisor_of_two" "divisor_of_two" (defArgs s_divisor_of_two) (defBody s_divisor_of_two) (defScope s_divisor_of_two) .none kV_divisor_of_two dc_divisor_of_two pm_divisor_of_two an_divisor_of_two (.ref c_divisor_of_two) ct_divisor_of_two), sl_divisor_of_two⟩)
    (h_divisor_of_two : PySem.W.codeIn K (.ref c_divisor_of_two) "divisor_of_two" = true) (k_divisor_of_two : PySem.W.keepIn K (.ref f_divisor_of_two) = true)
    (lc_divisor_of_two : K.lookup c_divisor_of_two = some ⟨.type "code", dd_divisor_of_two, .fields vs_divisor_of_two, cs_divisor_of_two⟩) (p_divisor_of_two : vs_divisor_of_two[11]? = some (.ref P_divisor_of_two)) (q_divisor_of_two : okCode vs_divisor_of_two = true) (ne_divisor_of_two : (c_divisor_of_two != P_divisor_of_two) = true)
    (a_common_divisor : PySem.W.nsIn K mainGlobals "common_divisor" = some (some (.ref f_common_divisor)))
    (l_common_divisor : K.lookup f_common_divisor = some ⟨oc_common_divisor, od_common_divisor, .func (PySem.W.fnOf "common_divisor" "common_divisor" (defArgs s_common_divisor) (defBody s_common_divisor) (defScope s_common_divisor) .none kV_common_divisor dc_common_divisor pm_common_divisor an_common_divisor (.ref c_common_divisor) ct_common_divisor), sl_common_divisor⟩)
    (h_common_divisor : PySem.W.codeIn K (.ref c_common_divisor) "common_divisor" = true) (k_common_divisor : PySem.W.keepIn K (.ref f_common_divisor) = true)
    (lc_common_divisor : K.lookup c_common_divisor = some ⟨.type "code", dd_common_divisor, .fields vs_common_divisor, cs_common_divisor⟩) (p_common_divisor : vs_common_divisor[11]? = some (.ref P_common_divisor)) (q_common_divisor : okCode vs_common_divisor = true) (ne_common_divisor : (c_common_divisor != P_common_divisor) = true)
    (a_is_spot : PySem.W.nsIn K mainGlobals "is_spot" = some (some (.ref f_is_spot)))
    (l_is_spot : K.lookup f_is_spot = some ⟨oc_is_spot, od_is_spot, .func (PySem.W.fnOf "is_spot" "is_spot" (defArgs s_is_spot) (defBody s_is_spot) (defScope s_is_spot) .none kV_is_spot dc_is_spot pm_is_spot an_is_spot (.ref c_is_spot) ct_is_spot), sl_is_spot⟩)
    (h_is_spot : PySem.W.codeIn K (.ref c_is_spot) "is_spot" = true) (k_is_spot : PySem.W.keepIn K (.ref f_is_spot) = true)
    (lc_is_spot : K.lookup c_is_spot = some ⟨.type "code", dd_is_spot, .fields vs_is_spot, cs_is_spot⟩) (p_is_spot : vs_is_spot[11]? = some (.ref P_is_spot)) (q_is_spot : okCode vs_is_spot = true) (ne_is_spot : (c_is_spot != P_is_spot) = true)
    (a_is_point : PySem.W.nsIn K mainGlobals "is_point" = some (some (.ref f_is_point)))
    (l_is_point : K.lookup f_is_point = some ⟨oc_is_point, od_is_point, .func (PySem.W.fnOf "is_point" "is_point" (defArgs s_is_point) (defBody s_is_point) (defScope s_is_point) .none kV_is_point dc_is_point pm_is_point an_is_point (.ref c_is_point) ct_is_point), sl_is_point⟩)
    (h_is_point : PySem.W.codeIn K (.ref c_is_point) "is_point" = true) (k_is_point : PySem.W.keepIn K (.ref f_is_point) = true)
    (lc_is_point : K.lookup c_is_point = some ⟨.type "code", dd_is_point, .fields vs_is_point, cs_is_point⟩) (p_is_point : vs_is_point[11]? = some (.ref P_is_point)) (q_is_point : okCode vs_is_point = true) (ne_is_point : (c_is_point != P_is_point) = true)
    (a_is_points : PySem.W.nsIn K mainGlobals "is_points" = some (some (.ref f_is_points)))
    (l_is_points : K.lookup f_is_points = some ⟨oc_is_points, od_is_points, .func (PySem.W.fnOf "is_points" "is_points" (defArgs s_is_points) (defBody s_is_points) (defScope s_is_points) .none kV_is_points dc_is_points pm_is_points an_is_points (.ref c_is_points) ct_is_points), sl_is_points⟩)
    (h_is_points : PySem.W.codeIn K (.ref c_is_points) "is_points" = true) (k_is_points : PySem.W.keepIn K (.ref f_is_points) = true)
    (lc_is_points : K.lookup c_is_points = some ⟨.type "code", dd_is_points, .fields vs_is_points, cs_is_points⟩) (p_is_points : vs_is_points[11]? = some (.ref P_is_points)) (q_is_points : okCode vs_is_points = true) (ne_is_points : (c_is_points != P_is_points) = true)
    (a__law_says : PySem.W.nsIn K mainGlobals "_law_says" = some (some (.ref f__law_says)))
    (l__law_says : K.lookup f__law_says = some ⟨oc__law_says, od__law_says, .func (PySem.W.fnOf "_law_says" "_law_says" (defArgs s__law_says) (defBody s__law_says) (defScope s__law_says) .none kV__law_says dc__law_says pm__law_says an__law_says (.ref c__law_says) ct__law_says), sl__law_says⟩)
    (h__law_says : PySem.W.codeIn K (.ref c__law_says) "_law_says" = true) (k__law_says : PySem.W.keepIn K (.ref f__law_says) = true)
    (lc__law_says : K.lookup c__law_says = some ⟨.type "code", dd__law_says, .fields vs__law_says, cs__law_says⟩) (p__law_says : vs__law_says[11]? = some (.ref P__law_says)) (q__law_says : okCode vs__law_says = true) (ne__law_says : (c__law_says != P__law_says) = true)
    (a_law : PySem.W.nsIn K mainGlobals "law" = some (some (.ref f_law)))
    (l_law : K.lookup f_law = some ⟨oc_law, od_law, .func (PySem.W.fnOf "law" "law" (defArgs s_law) (defBody s_law) (defScope s_law) .none kV_law dc_law pm_law an_law (.ref c_law) ct_law), sl_law⟩)
    (h_law : PySem.W.codeIn K (.ref c_law) "law" = true) (k_law : PySem.W.keepIn K (.ref f_law) = true)
    (lc_law : K.lookup c_law = some ⟨.type "code", dd_law, .fields vs_law, cs_law⟩) (p_law : vs_law[11]? = some (.ref P_law)) (q_law : okCode vs_law = true) (ne_law : (c_law != P_law) = true)
    (z_abs : PySem.W.nsIn K mainGlobals "abs" = some none)
    (z_all : PySem.W.nsIn K mainGlobals "all" = some none)
    (z_bool : PySem.W.nsIn K mainGlobals "bool" = some none)
    (z_int : PySem.W.nsIn K mainGlobals "int" = some none)
    (z_isinstance : PySem.W.nsIn K mainGlobals "isinstance" = some none)
    (z_len : PySem.W.nsIn K mainGlobals "len" = some none)
    (z_list : PySem.W.nsIn K mainGlobals "list" = some none)
    (z_min : PySem.W.nsIn K mainGlobals "min" = some none)
    (z_range : PySem.W.nsIn K mainGlobals "range" = some none)
    (z_tuple : PySem.W.nsIn K mainGlobals "tuple" = some none)
    (y_FARTHEST : PySem.W.nsIn K mainGlobals "FARTHEST" = some (some (.int 10000 t_FARTHEST)))
    (y_GREATEST_BOTTOM : PySem.W.nsIn K mainGlobals "GREATEST_BOTTOM" = some (some (.int 60 t_GREATEST_BOTTOM)))
    (y_MOST_DIRECTIONS : PySem.W.nsIn K mainGlobals "MOST_DIRECTIONS" = some (some (.int 3 t_MOST_DIRECTIONS)))
    (y_MOST_POINTS : PySem.W.nsIn K mainGlobals "MOST_POINTS" = some (some (.int 40 t_MOST_POINTS)))
    (r_is_numbers : ((recsOf q).find? (fun e => e.name == ("is_numbers" : Str))).isSome = true)
    (r_is_point : ((recsOf q).find? (fun e => e.name == ("is_point" : Str))).isSome = true)
    (r_is_points : ((recsOf q).find? (fun e => e.name == ("is_points" : Str))).isSome = true)
    (hnt : PySem.W.noTabs K = true) :
    ∃ (fd : FuncData) (tb : List Addr), (∀ (s : Shared) (u : Value), BindsTo s fd ⟨[u], []⟩ [("_law_script", u)]) ∧ (∀ P ∈ tb, ∃ c, PySem.W.CodeHd h c P ∧ h.get? P = some (PySem.W.tabObj #[])) ∧ PySem.W.noTabs K = true ∧
      ∀ base : Heap, K.In base → base.Ns mainGlobals mg → FnOk l.prog w K mg base CX0 9 fa fd ["_law_script"] (spD K tb 1 φ_law) := by
  have T : BI K mg := ⟨PySem.W.mg_none_of X G.g z_abs, PySem.W.mg_none_of X G.g z_all, PySem.W.mg_none_of X G.g z_bool, PySem.W.mg_none_of X G.g z_int, PySem.W.mg_none_of X G.g z_isinstance, PySem.W.mg_none_of X G.g z_len, PySem.W.mg_none_of X G.g z_list, PySem.W.mg_none_of X G.g z_min, PySem.W.mg_none_of X G.g z_range, PySem.W.mg_none_of X G.g z_tuple, gd_int (PySem.W.mg_of X G.g y_FARTHEST), gd_int (PySem.W.mg_of X G.g y_GREATEST_BOTTOM), gd_int (PySem.W.mg_of X G.g y_MOST_DIRECTIONS), gd_int (PySem.W.mg_of X G.g y_MOST_POINTS)⟩
  have F__law_mixed := funp_mk (st := s__law_mixed) l__law_mixed h__law_mixed k__law_mixed lc__law_mixed p__law_mixed q__law_mixed ne__law_mixed
  have m__law_mixed := PySem.W.mg_of X G.g a__law_mixed
  have F__law_draws := funp_mk (st := s__law_draws) l__law_draws h__law_draws k__law_draws lc__law_draws p__law_draws q__law_draws ne__law_draws
  have m__law_draws := PySem.W.mg_of X G.g a__law_draws
  have F__law_next := funp_mk (st := s__law_next) l__law_next h__law_next k__law_next lc__law_next p__law_next q__law_next ne__law_next
  have m__law_next := PySem.W.mg_of X G.g a__law_next
  have F__law_gcd := funp_mk (st := s__law_gcd) l__law_gcd h__law_gcd k__law_gcd lc__law_gcd p__law_gcd q__law_gcd ne__law_gcd
  have m__law_gcd := PySem.W.mg_of X G.g a__law_gcd
  have F__law_lowest := funp_mk (st := s__law_lowest) l__law_lowest h__law_lowest k__law_lowest lc__law_lowest p__law_lowest q__law_lowest ne__law_lowest
  have m__law_lowest := PySem.W.mg_of X G.g a__law_lowest
  have F__law_on_line := funp_mk (st := s__law_on_line) l__law_on_line h__law_on_line k__law_on_line lc__law_on_line p__law_on_line q__law_on_line ne__law_on_line
  have m__law_on_line := PySem.W.mg_of X G.g a__law_on_line
  have F__law_flat := funp_mk (st := s__law_flat) l__law_flat h__law_flat k__law_flat lc__law_flat p__law_flat q__law_flat ne__law_flat
  have m__law_flat := PySem.W.mg_of X G.g a__law_flat
  have F__law_place := funp_mk (st := s__law_place) l__law_place h__law_place k__law_place lc__law_place p__law_place q__law_place ne__law_place
  have m__law_place := PySem.W.mg_of X G.g a__law_place
  have F__law_point := funp_mk (st := s__law_point) l__law_point h__law_point k__law_point lc__law_point p__law_point q__law_point ne__law_point
  have m__law_point := PySem.W.mg_of X G.g a__law_point
  have F__law_points := funp_mk (st := s__law_points) l__law_points h__law_points k__law_points lc__law_points p__law_points q__law_points ne__law_points
  have m__law_points := PySem.W.mg_of X G.g a__law_points
  have F__law_odd := funp_mk (st := s__law_odd) l__law_odd h__law_odd k__law_odd lc__law_odd p__law_odd q__law_odd ne__law_odd
  have m__law_odd := PySem.W.mg_of X G.g a__law_odd
  have F__law_edge := funp_mk (st := s__law_edge) l__law_edge h__law_edge k__law_edge lc__law_edge p__law_edge q__law_edge ne__law_edge
  have m__law_edge := PySem.W.mg_of X G.g a__law_edge
  have F__law_bent := funp_mk (st := s__law_bent) l__law_bent h__law_bent k__law_bent lc__law_bent p__law_bent q__law_bent ne__law_bent
  have m__law_bent := PySem.W.mg_of X G.g a__law_bent
  have F__law_whole := funp_mk (st := s__law_whole) l__law_whole h__law_whole k__law_whole lc__law_whole p__law_whole q__law_whole ne__law_whole
  have m__law_whole := PySem.W.mg_of X G.g a__law_whole
  have F__law_is_spot := funp_mk (st := s__law_is_spot) l__law_is_spot h__law_is_spot k__law_is_spot lc__law_is_spot p__law_is_spot q__law_is_spot ne__law_is_spot
  have m__law_is_spot := PySem.W.mg_of X G.g a__law_is_spot
  have F__law_is_point := funp_mk (st := s__law_is_point) l__law_is_point h__law_is_point k__law_is_point lc__law_is_point p__law_is_point q__law_is_point ne__law_is_point
  have m__law_is_point := PySem.W.mg_of X G.g a__law_is_point
  have F__law_are_points := funp_mk (st := s__law_are_points) l__law_are_points h__law_are_points k__law_are_points lc__law_are_points p__law_are_points q__law_are_points ne__law_are_points
  have m__law_are_points := PySem.W.mg_of X G.g a__law_are_points
  have F_is_number := funp_mk (st := s_is_number) l_is_number h_is_number k_is_number lc_is_number p_is_number q_is_number ne_is_number
  have m_is_number := PySem.W.mg_of X G.g a_is_number
  have F_is_numbers := funp_mk (st := s_is_numbers) l_is_numbers h_is_numbers k_is_numbers lc_is_numbers p_is_numbers q_is_numbers ne_is_numbers
  have m_is_numbers := PySem.W.mg_of X G.g a_is_numbers
  have F_divisor_of_two := funp_mk (st := s_divisor_of_two) l_divisor_of_two h_divisor_of_two k_divisor_of_two lc_divisor_of_two p_divisor_of_two q_divisor_of_two ne_divisor_of_two
  have m_divisor_of_two := PySem.W.mg_of X G.g a_divisor_of_two
  have F_common_divisor := funp_mk (st := s_common_divisor) l_common_divisor h_common_divisor k_common_divisor lc_common_divisor p_common_divisor q_common_divisor ne_common_divisor
  have m_common_divisor := PySem.W.mg_of X G.g a_common_divisor
  have F_is_spot := funp_mk (st := s_is_spot) l_is_spot h_is_spot k_is_spot lc_is_spot p_is_spot q_is_spot ne_is_spot
  have m_is_spot := PySem.W.mg_of X G.g a_is_spot
  have F_is_point := funp_mk (st := s_is_point) l_is_point h_is_point k_is_point lc_is_point p_is_point q_is_point ne_is_point
  have m_is_point := PySem.W.mg_of X G.g a_is_point
  have F_is_points := funp_mk (st := s_is_points) l_is_points h_is_points k_is_points lc_is_points p_is_points q_is_points ne_is_points
  have m_is_points := PySem.W.mg_of X G.g a_is_points
  have F__law_says := funp_mk (st := s__law_says) l__law_says h__law_says k__law_says lc__law_says p__law_says q__law_says ne__law_says
  have m__law_says := PySem.W.mg_of X G.g a__law_says
  have F_law := funp_mk (st := s_law) l_law h_law k_law lc_law p_law q_law ne_law
  have m_law := PySem.W.mg_of X G.g a_law
  have e := hfa.symm.trans m_law
  cases e
  refine ⟨PySem.W.fnOf "law" "law" (defArgs s_law) (defBody s_law) (defScope s_law) .none kV_law dc_law pm_law an_law (.ref c_law) ct_law, [P_is_numbers, P_is_point, P_is_points], fun s u => .of_eq rfl, fun P hP => ?_, hnt, fun base kb nb => ?_⟩
  · have hP : P = P_is_numbers ∨ P = P_is_point ∨ P = P_is_points := by simpa using hP
    rcases hP with rfl | rfl | rfl
    · exact ⟨c_is_numbers, tab_at G X r_is_numbers (tab_mk a_is_numbers l_is_numbers rfl lc_is_numbers p_is_numbers)⟩
    · exact ⟨c_is_point, tab_at G X r_is_point (tab_mk a_is_point l_is_point rfl lc_is_point p_is_point)⟩
    · exact ⟨c_is_points, tab_at G X r_is_points (tab_mk a_is_points l_is_points rfl lc_is_points p_is_points)⟩
  · have g__law_mixed : FI l.prog w K mg base [P_is_numbers, P_is_point, P_is_points] "_law_mixed" 2 1 φ__law_mixed := (fi__law_mixed (P := l.prog) (w := w) (tb := [P_is_numbers, P_is_point, P_is_points]) T F__law_mixed kb m__law_mixed).trunc
    have g__law_draws : FI l.prog w K mg base [P_is_numbers, P_is_point, P_is_points] "_law_draws" 1 2 φ__law_draws := (fi__law_draws (P := l.prog) (w := w) (tb := [P_is_numbers, P_is_point, P_is_points]) T F__law_draws kb m__law_draws g__law_mixed)
    have g__law_next : FI l.prog w K mg base [P_is_numbers, P_is_point, P_is_points] "_law_next" 1 1 φ__law_next := (fi__law_next (P := l.prog) (w := w) (tb := [P_is_numbers, P_is_point, P_is_points]) T F__law_next kb m__law_next).trunc
    have g__law_gcd : FI l.prog w K mg base [P_is_numbers, P_is_point, P_is_points] "_law_gcd" 2 1 φ__law_gcd := (fi__law_gcd (P := l.prog) (w := w) (tb := [P_is_numbers, P_is_point, P_is_points]) T F__law_gcd kb m__law_gcd).trunc
    have g__law_lowest : FI l.prog w K mg base [P_is_numbers, P_is_point, P_is_points] "_law_lowest" 2 2 φ__law_lowest := (fi__law_lowest (P := l.prog) (w := w) (tb := [P_is_numbers, P_is_point, P_is_points]) T F__law_lowest kb m__law_lowest g__law_gcd).trunc
    have g__law_on_line : FI l.prog w K mg base [P_is_numbers, P_is_point, P_is_points] "_law_on_line" 3 3 φ__law_on_line := (fi__law_on_line (P := l.prog) (w := w) (tb := [P_is_numbers, P_is_point, P_is_points]) T F__law_on_line kb m__law_on_line g__law_next g__law_lowest).trunc
    have g__law_flat : FI l.prog w K mg base [P_is_numbers, P_is_point, P_is_points] "_law_flat" 3 3 φ__law_flat := (fi__law_flat (P := l.prog) (w := w) (tb := [P_is_numbers, P_is_point, P_is_points]) T F__law_flat kb m__law_flat g__law_next g__law_lowest).trunc
    have g__law_place : FI l.prog w K mg base [P_is_numbers, P_is_point, P_is_points] "_law_place" 3 1 φ__law_place := (fi__law_place (P := l.prog) (w := w) (tb := [P_is_numbers, P_is_point, P_is_points]) T F__law_place kb m__law_place).trunc
    have g__law_point : FI l.prog w K mg base [P_is_numbers, P_is_point, P_is_points] "_law_point" 4 3 φ__law_point := (fi__law_point (P := l.prog) (w := w) (tb := [P_is_numbers, P_is_point, P_is_points]) T F__law_point kb m__law_point g__law_mixed g__law_place g__law_lowest).trunc
    have g__law_points : FI l.prog w K mg base [P_is_numbers, P_is_point, P_is_points] "_law_points" 3 4 φ__law_points := (fi__law_points (P := l.prog) (w := w) (tb := [P_is_numbers, P_is_point, P_is_points]) T F__law_points kb m__law_points g__law_next g__law_on_line g__law_flat g__law_point).trunc
    have g__law_odd : FI l.prog w K mg base [P_is_numbers, P_is_point, P_is_points] "_law_odd" 1 1 φ__law_odd := (fi__law_odd (P := l.prog) (w := w) (tb := [P_is_numbers, P_is_point, P_is_points]) T F__law_odd kb m__law_odd).trunc
    have g__law_edge : FI l.prog w K mg base [P_is_numbers, P_is_point, P_is_points] "_law_edge" 2 3 φ__law_edge := (fi__law_edge (P := l.prog) (w := w) (tb := [P_is_numbers, P_is_point, P_is_points]) T F__law_edge kb m__law_edge g__law_lowest).trunc
    have g__law_bent : FI l.prog w K mg base [P_is_numbers, P_is_point, P_is_points] "_law_bent" 3 4 φ__law_bent := (fi__law_bent (P := l.prog) (w := w) (tb := [P_is_numbers, P_is_point, P_is_points]) T F__law_bent kb m__law_bent g__law_odd g__law_edge).trunc
    have g__law_whole : FI l.prog w K mg base [P_is_numbers, P_is_point, P_is_points] "_law_whole" 1 1 φ__law_whole := (fi__law_whole (P := l.prog) (w := w) (tb := [P_is_numbers, P_is_point, P_is_points]) T F__law_whole kb m__law_whole).trunc
    have g__law_is_spot : FI l.prog w K mg base [P_is_numbers, P_is_point, P_is_points] "_law_is_spot" 1 2 φ__law_is_spot := (fi__law_is_spot (P := l.prog) (w := w) (tb := [P_is_numbers, P_is_point, P_is_points]) T F__law_is_spot kb m__law_is_spot g__law_whole g__law_gcd).trunc
    have g__law_is_point : FI l.prog w K mg base [P_is_numbers, P_is_point, P_is_points] "_law_is_point" 1 3 φ__law_is_point := (fi__law_is_point (P := l.prog) (w := w) (tb := [P_is_numbers, P_is_point, P_is_points]) T F__law_is_point kb m__law_is_point g__law_is_spot).trunc
    have g__law_are_points : FI l.prog w K mg base [P_is_numbers, P_is_point, P_is_points] "_law_are_points" 1 4 φ__law_are_points := (fi__law_are_points (P := l.prog) (w := w) (tb := [P_is_numbers, P_is_point, P_is_points]) T F__law_are_points kb m__law_are_points g__law_is_point).trunc
    have g_is_number : FI l.prog w K mg base [P_is_numbers, P_is_point, P_is_points] "is_number" 1 1 φ_is_number := (fi_is_number (P := l.prog) (w := w) (tb := [P_is_numbers, P_is_point, P_is_points]) T F_is_number kb m_is_number).trunc
    have g_is_numbers : FI l.prog w K mg base [P_is_numbers, P_is_point, P_is_points] "is_numbers" 1 3 φ_is_numbers := (fi_is_numbers (P := l.prog) (w := w) (tb := [P_is_numbers, P_is_point, P_is_points]) T F_is_numbers kb m_is_numbers g_is_number (by simp)).trunc
    have g_divisor_of_two : FI l.prog w K mg base [P_is_numbers, P_is_point, P_is_points] "divisor_of_two" 2 1 φ_divisor_of_two := (fi_divisor_of_two (P := l.prog) (w := w) (tb := [P_is_numbers, P_is_point, P_is_points]) T F_divisor_of_two kb m_divisor_of_two).trunc
    have g_common_divisor : FI l.prog w K mg base [P_is_numbers, P_is_point, P_is_points] "common_divisor" 1 2 φ_common_divisor := (fi_common_divisor (P := l.prog) (w := w) (tb := [P_is_numbers, P_is_point, P_is_points]) T F_common_divisor kb m_common_divisor g_divisor_of_two).trunc
    have g_is_spot : FI l.prog w K mg base [P_is_numbers, P_is_point, P_is_points] "is_spot" 1 4 φ_is_spot := (fi_is_spot (P := l.prog) (w := w) (tb := [P_is_numbers, P_is_point, P_is_points]) T F_is_spot kb m_is_spot g_is_numbers g_common_divisor).trunc
    have g_is_point : FI l.prog w K mg base [P_is_numbers, P_is_point, P_is_points] "is_point" 1 6 φ_is_point := (fi_is_point (P := l.prog) (w := w) (tb := [P_is_numbers, P_is_point, P_is_points]) T F_is_point kb m_is_point g_is_spot (by simp)).trunc
    have g_is_points : FI l.prog w K mg base [P_is_numbers, P_is_point, P_is_points] "is_points" 1 8 φ_is_points := (fi_is_points (P := l.prog) (w := w) (tb := [P_is_numbers, P_is_point, P_is_points]) T F_is_points kb m_is_points g_is_point (by simp)).trunc
    have g__law_says : FI l.prog w K mg base [P_is_numbers, P_is_point, P_is_points] "_law_says" 2 1 φ__law_says := (fi__law_says (P := l.prog) (w := w) (tb := [P_is_numbers, P_is_point, P_is_points]) T F__law_says kb m__law_says).trunc
    exact fn_law (P := l.prog) (w := w) (tb := [P_is_numbers, P_is_point, P_is_points]) T F_law kb g__law_draws g__law_next g__law_points g__law_odd g__law_bent g__law_are_points g_is_points g__law_says
end Lk02
set_option Elab.async false
set_option linter.all false
set_option maxRecDepth 100000
namespace LG
open PySem PySem.Spec PyProof.Rows L2 L3
theorem gcd_fmod (a b : Int) : Int.gcd b (a.fmod b) = Int.gcd a b := by
  have h : a.fmod b = a - b * a.fdiv b := by have := Int.mul_fdiv_add_fmod a b; omega
  rw [h, Int.gcd_comm]
  have : a - b * a.fdiv b = a + b * (- a.fdiv b) := by rw [Int.mul_neg]; omega
  rw [this, Int.gcd_add_mul_left_left]
theorem fmod_lt (a b : Int) (h : b ≠ 0) : (a.fmod b).natAbs < b.natAbs := by
  rw [Int.fmod_eq_emod]
  have h1 := Int.emod_nonneg a h
  have h2 := Int.emod_lt a h
  by_cases hd : 0 ≤ b ∨ b ∣ a
  · rw [if_pos hd]; omega
  · rw [if_neg hd]
    have h3 : a % b ≠ 0 := fun z => hd (.inr (Int.dvd_of_emod_eq_zero z))
    omega
abbrev eucC : TF := toB (M2 (mVar 1) (mC (.int 0)) oNe)
abbrev eucB : SF := sPar 0 1 (mCons (mVar 1) (mCons (M2 (mVar 0) (mVar 1) oMod) (mNil)))
theorem ne_int (a b : Int) (μ : Mu) : oNe (.int a) (.int b) μ = some (.bl (!(a == b)), μ) := by
  unfold oNe rsv
  simp [pureD, depD, eqD]
theorem eq_int' (a b : Int) (μ : Mu) : oEq (.int a) (.int b) μ = some (.bl (a == b), μ) := by
  unfold oEq rsv
  simp [pureD, depD, eqD]
theorem euc : ∀ (n : Nat) (a b : Int) (μ : Mu), b.natAbs ≤ n → ∃ a', whileN eucC eucB (n + 1) [some (.int a), some (.int b)] μ = some (.nx, [some (.int a'), some (.int 0)], μ) ∧ a'.natAbs = Int.gcd a b ∧ (0 ≤ a → 0 ≤ b → 0 ≤ a')
  | n, a, b, μ, h => by
    by_cases hb : b = 0
    · subst hb
      refine ⟨a, ?_, by simp, fun h _ => h⟩
      unfold whileN
      simp [toB, M2, mVar, mC, ne_int]
    · cases n with
      | zero => omega
      | succ n =>
        obtain ⟨a', e, hg, hs⟩ := euc n b (a.fmod b) μ (by have := fmod_lt a b hb; omega)
        refine ⟨a', ?_, by rw [hg, gcd_fmod], fun h0 h1 => hs h1 (Int.fmod_nonneg_of_pos a (by omega))⟩
        unfold whileN
        simp [toB, M2, mVar, mC, ne_int, hb, sPar, mCons, mNil, oMod, e]
def isGcd (φ : FF) : Prop := ∀ (a b : Int) (μ : Mu), φ [.int a, .int b] μ = some (.int (Int.gcd a b), μ)
theorem gcd_div : isGcd (bodyF 2 g_divisor_of_two) := fun a b μ => by
  obtain ⟨a', e, hg, hs⟩ := euc _ (if a < 0 then -a else a) (if b < 0 then -b else b) μ (Nat.le_refl _)
  have ea : (0 : Int) ≤ if a < 0 then -a else a := by split <;> omega
  have eb : (0 : Int) ≤ if b < 0 then -b else b := by split <;> omega
  have h0 := hs ea eb
  have hga : Int.gcd (if a < 0 then -a else a) (if b < 0 then -b else b) = Int.gcd a b := by split <;> split <;> simp
  rw [hga] at hg
  have hv : a' = (Int.gcd a b : Int) := by omega
  subst hv
  have ew := whileP_of e
  unfold bodyF g_divisor_of_two
  simp [sSeq, sPar, mCons, mNil, MC, mVar, onOne, oAbs, ew, sRet]
theorem gcd_law : isGcd (bodyF 2 g__law_gcd) := fun a b μ => by
  obtain ⟨a', e, hg, hs⟩ := euc _ a b μ (Nat.le_refl _)
  have ew := whileP_of e
  unfold bodyF g__law_gcd
  have hv : (if a' < 0 then -a' else a') = (Int.gcd a b : Int) := by split <;> omega
  simp [sSeq, ew, sRet, mCons, mNil, MC, mVar, onOne, oAbs, hv]
def gcdF (g : Nat) (ns : List Int) : Nat := ns.foldl (fun g n => Int.gcd g n) g
theorem gcdF_one : ∀ ns : List Int, gcdF 1 ns = 1
  | [] => rfl
  | n :: ns => by
    show gcdF (Int.gcd (1 : Nat) n) ns = 1
    have : Int.gcd ((1 : Nat) : Int) n = 1 := by simp
    rw [this]; exact gcdF_one ns
theorem ok_none (items : List D) (μ : Mu) : Src.ok ⟨items, none⟩ μ := fun n e => by cases e
theorem cd_loop {φ : FF} (hφ : isGcd φ) (x : D) (all : List D) : ∀ (ns : List Int) (g : Nat) (o : Option D) (μ : Mu), ∃ o',
    forL ⟨all, none⟩ (hName 2) (sSeq (sSet 1 (MC (mCons (mVar 1) (mCons (mVar 2) (mNil))) φ)) (sIf (toB (M2 (mVar 1) (mC (.int 1)) oEq)) (sBreak) (sNext))) (ns.map D.int) [some x, some (.int g), o] μ = some (.nx, [some x, some (.int (gcdF g ns : Nat)), o'], μ)
  | [], g, o, μ => ⟨o, by unfold forL; simp [ok_none, gcdF]⟩
  | n :: ns, g, o, μ => by
    by_cases h1 : Int.gcd g n = 1
    · refine ⟨some (.int n), ?_⟩
      rw [List.map_cons]
      unfold forL
      have h2 : gcdF g (n :: ns) = 1 := by show gcdF (Int.gcd g n) ns = 1; rw [h1]; exact gcdF_one ns
      simp [ok_none, hName, sSeq, sSet, MC, mCons, mNil, mVar, hφ g n, h1, h2, sIf, toB, M2, mC, eq_int', sBreak]
    · obtain ⟨o', e⟩ := cd_loop hφ x all ns (Int.gcd g n) (some (.int n)) μ
      refine ⟨o', ?_⟩
      rw [List.map_cons]
      unfold forL
      have h3 : ((Int.gcd g n : Nat) : Int) ≠ 1 := by omega
      have h2 : gcdF g (n :: ns) = gcdF (Int.gcd g n) ns := rfl
      simp [ok_none, hName, sSeq, sSet, MC, mCons, mNil, mVar, hφ g n, h3, sIf, toB, M2, mC, eq_int', sNext, e, h2]
def isCommon (φ : FF) : Prop := ∀ (ns : List Int) (μ : Mu), φ [.lst (ns.map .int)] μ = some (.int (gcdF 0 ns : Nat), μ)
end LG
set_option Elab.async false
set_option linter.all false
set_option maxRecDepth 100000
namespace LG
open PySem PySem.Spec PyProof.Rows L2 L3
theorem colT_map {th : D → Thunk'} {f : D → D} {μ : Mu} : ∀ (items : List D), (∀ d ∈ items, th d μ = some (f d, μ)) → colT (items.map th) μ = some (items.map f, μ)
  | [], _ => rfl
  | d :: r, h => by
    have h1 := h d (by simp)
    have h2 := colT_map r fun x hx => h x (by simp [hx])
    rw [List.map_cons, List.map_cons]
    unfold colT
    simp [h1, h2]
theorem lcL_map {all : List D} {h : GF} {fe : EF} {δb : En} {f : D → D} {μ : Mu} : ∀ (items : List D), (∀ d ∈ items, ∃ δ1, h d δb μ = some δ1 ∧ fe δ1 μ = some (f d, μ)) → lcL ⟨all, none⟩ h tYesF fe δb items μ = some (items.map f, μ)
  | [], _ => by unfold lcL; simp [ok_none]
  | d :: r, hd => by
    obtain ⟨δ1, h1, h2⟩ := hd d (by simp)
    have h3 := lcL_map (all := all) r fun x hx => hd x (by simp [hx])
    unfold lcL
    simp [ok_none, h1, tYesF, h2, h3]
def Sm (b : Nat) (n : Int) : Prop := n.natAbs < 2 ^ b
theorem bits_le {b : Nat} {n : Int} (h : Sm b n) : Builtin.Int.intBits n ≤ b + 1 := by
  unfold Builtin.Int.intBits
  split
  · exact Nat.zero_le _
  · rename_i h'
    have hz : n ≠ 0 := by simpa using h'
    have hn : n.natAbs ≠ 0 := by omega
    have := (Nat.log2_lt hn).mpr h
    omega
theorem log2_lt' {b : Nat} {n : Int} (h : Sm b n) : n.natAbs.log2 < b + 1 := by
  by_cases h0 : n.natAbs = 0
  · rw [h0]; simp
  · have := (Nat.log2_lt h0).mpr h
    omega
theorem mul_ok {a b : Nat} {x y : Int} (hx : Sm a x) (hy : Sm b y) (h : a + b + 2 ≤ 134217728) : bitsSum x y ≤ 134217728 := by
  have := bits_le hx
  have := bits_le hy
  unfold bitsSum
  omega
theorem oMul_int {a b : Nat} {x y : Int} (μ : Mu) (hx : Sm a x) (hy : Sm b y) (h : a + b + 2 ≤ 134217728) : oMul (.int x) (.int y) μ = some (.int (x * y), μ) := by
  unfold oMul
  simp [mul_ok hx hy h]
theorem oDiv_int {b : Nat} {x y : Int} (μ : Mu) (h0 : y ≠ 0) (hy : Sm b y) (h : b + 1 ≤ 9000) : oDiv (.int x) (.int y) μ = some (.int (x.fdiv y), μ) := by
  unfold oDiv
  have := log2_lt' hy
  simp [h0, show y.natAbs.log2 < 9000 by omega]
theorem oMod_int {x y : Int} (μ : Mu) (h0 : y ≠ 0) : oMod (.int x) (.int y) μ = some (.int (x.fmod y), μ) := by
  unfold oMod
  simp [h0]
theorem gcdF_dvd : ∀ (ns : List Int) (g : Nat), (∀ n ∈ ns, ((gcdF g ns : Nat) : Int) ∣ n) ∧ gcdF g ns ∣ g
  | [], g => ⟨fun n h => by simp at h, Nat.dvd_refl _⟩
  | n :: ns, g => by
    obtain ⟨h1, h2⟩ := gcdF_dvd ns (Int.gcd g n)
    have e : gcdF g (n :: ns) = gcdF (Int.gcd g n) ns := rfl
    rw [e]
    refine ⟨fun m hm => ?_, ?_⟩
    · rcases List.mem_cons.mp hm with z | z
      · subst z
        exact Int.dvd_trans (Int.ofNat_dvd.mpr h2) (Int.gcd_dvd_right _ _)
      · exact h1 m z
    · refine Nat.dvd_trans h2 ?_
      have := Int.gcd_dvd_left (g : Int) n
      exact Int.ofNat_dvd.mp this
theorem gcdF_pos {ns : List Int} {g : Nat} (h : g ≠ 0 ∨ ∃ n ∈ ns, n ≠ 0) : gcdF g ns ≠ 0 := fun z => by
  obtain ⟨h1, h2⟩ := gcdF_dvd ns g
  rw [z] at h1 h2
  rcases h with h | ⟨n, hn, h⟩
  · exact h (Nat.eq_zero_of_zero_dvd h2)
  · have := h1 n hn
    exact h (by simpa using this)
def isLess (φ : FF) : Prop := ∀ (ns : List Int) (μ : Mu), gcdF 0 ns ≠ 0 → Sm 8000 (gcdF 0 ns : Nat) → ns.length ≤ 100 → φ [.lst (ns.map .int)] μ = some (.tup (ns.map fun n => .int (n.fdiv (gcdF 0 ns : Nat))), μ)
theorem less_of {φ : FF} (hφ : isCommon φ) : isLess (bodyF 2 (g_lessened φ)) := fun ns μ h0 hs hl => by
  have e : colT ((ns.map D.int).map (thG (hName 0) (M2 (mVar 0) (mVar 1) oDiv) (blkE ["number"] [some (.lst (ns.map .int)), some (.int (gcdF 0 ns : Nat))] [1]))) μ = some ((ns.map D.int).map (fun d => match d with | .int n => .int (n.fdiv (gcdF 0 ns : Nat)) | _ => .non), μ) := by
    refine colT_map _ fun d hd => ?_
    obtain ⟨n, _, rfl⟩ := List.mem_map.mp hd
    have := oDiv_int (x := n) μ (show ((gcdF 0 ns : Nat) : Int) ≠ 0 by omega) hs (by decide)
    simp [thG, hName, blkE, M2, mVar, this]
  unfold bodyF g_lessened
  have hz : ns.length ≤ sizeLine := Nat.le_trans hl (by decide)
  rw [List.map_map, List.map_map] at e
  simp [sSeq, sSet, MC, mCons, mNil, mVar, hφ ns μ, sRet, mTupG, stGen, iSeq, srcOf, hz, e]
def sgn (b : Int) : Int := if b > 0 then 1 else -1
theorem sm_sgn {b : Nat} {n s : Int} (hs : s = 1 ∨ s = -1) (h : Sm b n) : Sm b (s * n) := by
  unfold Sm at *
  rw [Int.natAbs_mul]
  rcases hs with rfl | rfl <;> simpa using h
theorem sgn_or (b : Int) : sgn b = 1 ∨ sgn b = -1 := by unfold sgn; split <;> simp
theorem low_loop {φ : FF} (hφ : isGcd φ) (x y : D) (all : List D) : ∀ (ns : List Int) (c : Int) (o : Option D) (μ : Mu), ∃ (c' : Int) (o' : Option D),
    forL ⟨all, none⟩ (hName 3) (sSet 2 (MC (mCons (mVar 2) (mCons (mVar 3) (mNil))) φ)) (ns.map D.int) [some x, some y, some (.int c), o] μ = some (.nx, [some x, some y, some (.int c'), o'], μ) ∧ c'.natAbs = gcdF c.natAbs ns ∧ (0 ≤ c ∨ ns ≠ [] → 0 ≤ c')
  | [], c, o, μ => ⟨c, o, by unfold forL; simp [ok_none], rfl, fun h => h.elim id fun z => absurd rfl z⟩
  | n :: ns, c, o, μ => by
    obtain ⟨c', o', e, hc, hn0⟩ := low_loop hφ x y all ns (Int.gcd c n) (some (.int n)) μ
    refine ⟨c', o', ?_, ?_, fun _ => hn0 (.inl (Int.natCast_nonneg _))⟩
    · rw [List.map_cons]
      unfold forL
      simp [ok_none, hName, sSet, MC, mCons, mNil, mVar, hφ c n, e]
    · rw [hc]
      show _ = gcdF (Int.gcd (c.natAbs : Nat) n) ns
      congr 1
def isLow (φ : FF) : Prop := ∀ (ns : List Int) (b : Int) (μ : Mu), b ≠ 0 → Sm 4000 b → ns.length ≤ 50 → ns ≠ [] →
  φ [.lst (ns.map .int), .int b] μ = some (.tup ((ns ++ [b]).map fun n => .int (n.fdiv (sgn b * (gcdF b.natAbs ns : Nat)))), μ)
theorem low_of {φ : FF} (hφ : isGcd φ) : isLow (bodyF 4 (g__law_lowest φ)) := fun ns b μ hb hs hl hne => by
  obtain ⟨c', o', e, hc, hc0⟩ := low_loop hφ (.lst (ns.map .int)) (.int b) (ns.map .int) ns b none μ
  have hsg := sgn_or b
  have hg0 : gcdF b.natAbs ns ≠ 0 := gcdF_pos (.inl (by omega))
  have hgle : gcdF b.natAbs ns ≤ b.natAbs := Nat.le_of_dvd (by omega) (gcdF_dvd ns b.natAbs).2
  -- the divisor with the bottom's sign
  have hdiv : ∀ δo, ∃ δ', sIf (toB (M2 (mVar 1) (mC (.int 0)) oLt)) (sSet 2 (M2 (mC (.int 0)) (MC (mCons (mVar 2) (mNil)) (onOne oAbs)) oSub)) sNext [some (.lst (ns.map .int)), some (.int b), some (.int c'), δo] μ = some (.nx, δ', μ) ∧ (0 ≤ c' → δ' = [some (.lst (ns.map .int)), some (.int b), some (.int (sgn b * (gcdF b.natAbs ns : Nat))), δo]) := fun δo => by
    by_cases hn : b < 0
    · refine ⟨[some (.lst (ns.map .int)), some (.int b), some (.int (0 - if c' < 0 then -c' else c')), δo], by simp [sIf, toB, M2, mVar, mC, oLt, hn, sSet, MC, mCons, mNil, onOne, oAbs, oSub], fun hc0 => ?_⟩
      have h1 : sgn b = -1 := by unfold sgn; rw [if_neg (by omega)]
      rw [h1, if_neg (by omega)]
      have : c' = (gcdF b.natAbs ns : Nat) := by omega
      rw [this]
      simp
    · refine ⟨[some (.lst (ns.map .int)), some (.int b), some (.int c'), δo], by simp [sIf, toB, M2, mVar, mC, oLt, hn, sNext], fun hc0 => ?_⟩
      have h1 : sgn b = 1 := by unfold sgn; rw [if_pos (by omega)]
      have : c' = (gcdF b.natAbs ns : Nat) := by omega
      rw [h1, this]
      simp
  obtain ⟨δ', e3, e4⟩ := hdiv o'
  have e5 := e4 (hc0 (.inr hne))
  subst e5
  have hd0 : sgn b * ((gcdF b.natAbs ns : Nat) : Int) ≠ 0 := by rcases hsg with h | h <;> rw [h] <;> omega
  have hds : Sm 4000 (sgn b * ((gcdF b.natAbs ns : Nat) : Int)) := sm_sgn hsg (by unfold Sm at *; simp only [Int.natAbs_natCast]; omega)
  have eL : lcL ⟨ns.map D.int, none⟩ (hName 0) tYesF (M2 (mVar 0) (mVar 1) oDiv) (blkE ["_law_number"] [some (.lst (ns.map .int)), some (.int b), some (.int (sgn b * (gcdF b.natAbs ns : Nat))), o'] [2]) (ns.map D.int) μ = some ((ns.map D.int).map (fun d => match d with | .int n => .int (n.fdiv (sgn b * (gcdF b.natAbs ns : Nat))) | _ => .non), μ) := by
    refine lcL_map _ fun d hd => ?_
    obtain ⟨n, _, rfl⟩ := List.mem_map.mp hd
    have := oDiv_int (x := n) μ hd0 hds (by decide)
    exact ⟨_, rfl, by simp [hName, blkE, M2, mVar, this]⟩
  rw [List.map_map] at eL
  have eL2 : lcL ⟨ns.map D.int, none⟩ (hName 0) tYesF (M2 (mVar 0) (mVar 1) oDiv) (blkE ["_law_number"] [some (.lst (ns.map .int)), some (.int b), some (.int (sgn b * (gcdF b.natAbs ns : Nat))), o'] [2]) (ns.map D.int) μ = some (ns.map (fun n => D.int (n.fdiv (sgn b * (gcdF b.natAbs ns : Nat)))), μ) := eL
  have eD := oDiv_int (x := b) μ hd0 hds (by decide)
  have hz : ns.length ≤ sizeLine := Nat.le_trans hl (by decide)
  have hz2 : ns.length + 1 ≤ sizeLine := Nat.le_trans (by omega : ns.length + 1 ≤ 100) (by decide)
  have h1s : 1 ≤ sizeLine := by decide
  unfold bodyF g__law_lowest
  simp [sSeq, sSet, mVar, sFor, iSeq, srcOf, e, e3, sRet, M2, MC, mCons, mNil, mFz, lLC, hz, eL2, oTuple, itemsD, eD, oTup, h1s, oAdd, hz2]
end LG
set_option Elab.async false
set_option linter.all false
set_option maxRecDepth 100000
namespace LG
open PySem PySem.Spec PyProof.Rows L2 L3
theorem sm_mono {a b : Nat} {x : Int} (h : Sm a x) (hab : a ≤ b) : Sm b x := Nat.lt_of_lt_of_le h (Nat.pow_le_pow_right (by decide) hab)
theorem sm_mul {a b : Nat} {x y : Int} (hx : Sm a x) (hy : Sm b y) : Sm (a + b) (x * y) := by
  unfold Sm at *
  rw [Int.natAbs_mul, Nat.pow_add]
  exact Nat.mul_lt_mul'' hx hy
theorem sm_fdiv {a : Nat} {x y : Int} (hx : Sm a x) (h0 : 0 ≤ x) (hy : 0 < y) : Sm a (x.fdiv y) ∧ 0 ≤ x.fdiv y := by
  rw [Int.fdiv_eq_ediv_of_nonneg x (by omega)]
  have h1 : 0 ≤ x / y := Int.ediv_nonneg h0 (by omega)
  have h2 : x / y ≤ x := Int.ediv_le_self y h0
  unfold Sm at *
  omega
def Dr (x : Int) : Prop := 0 ≤ x ∧ x < 2147483648
theorem Dr.sm {x : Int} (h : Dr x) : Sm 31 x := by
  unfold Sm
  have := h.1
  have := h.2
  have e : (2 : Nat) ^ 31 = 2147483648 := by decide
  omega
theorem pure_ints : ∀ (L : List Int), pureDL (L.map D.int) = true
  | [] => by unfold pureDL; rfl
  | x :: L => by
    rw [List.map_cons]
    unfold pureDL
    rw [pure_ints L]
    simp [pureD]
theorem dep_ints : ∀ (L : List Int), depDL (L.map D.int) = 0
  | [] => by unfold depDL; rfl
  | x :: L => by
    rw [List.map_cons]
    unfold depDL
    rw [dep_ints L]
    simp [depD]
theorem atI_mem {ds : List D} {i : Int} (h0 : 0 ≤ i) (h1 : i < ds.length) : ∃ d, d ∈ ds ∧ atI ds i = some d := by
  have hi : i.toNat < ds.length := by omega
  refine ⟨ds[i.toNat], List.getElem_mem hi, ?_⟩
  unfold atI ixN
  rw [if_pos h0, if_pos h1]
  simp [hi]
theorem fmod_rng {x m : Int} (hm : 0 < m) : 0 ≤ x.fmod m ∧ x.fmod m < m := ⟨Int.fmod_nonneg_of_pos x hm, Int.fmod_lt_of_pos x hm⟩
end LG
set_option Elab.async false
set_option linter.all false
set_option maxRecDepth 100000
namespace LG
open PySem PySem.Spec PyProof.Rows L2 L3
def isMix (φ : FF) : Prop := ∀ (x k : Int) (μ : Mu), 0 ≤ k → k < 1000 → ∃ r, φ [.int x, .int k] μ = some (.int r, μ) ∧ Dr r
theorem mix_of : isMix (bodyF 3 g__law_mixed) := fun x k μ h0 h1 => by
  obtain ⟨a0, a1⟩ := fmod_rng (x := x) (m := 2147483647) (by decide)
  have w1 := oMod_int (x := x) (y := 2147483647) μ (by decide)
  have sa : Sm 31 (x.fmod 2147483647) := by unfold Sm; have e : (2 : Nat) ^ 31 = 2147483648 := by decide
                                            omega
  have m1 := oMul_int (x := x.fmod 2147483647) (y := 48271) μ sa (show Sm 16 48271 by unfold Sm; decide) (by decide)
  have sk : Sm 10 k := by unfold Sm; have e : (2 : Nat) ^ 10 = 1024 := by decide
                          omega
  have m2 := oMul_int (x := 7919) (y := k) μ (show Sm 13 7919 by unfold Sm; decide) sk (by decide)
  have m3 := oMul_int (x := 7919 * k) (y := k) μ (sm_mul (show Sm 13 7919 by unfold Sm; decide) sk) sk (by decide)
  have w2 := oMod_int (x := x.fmod 2147483647 * 48271 + 7919 * k * k + 104729) (y := 2147483647) μ (by decide)
  obtain ⟨b0, b1⟩ := fmod_rng (x := x.fmod 2147483647 * 48271 + 7919 * k * k + 104729) (m := 2147483647) (by decide)
  generalize hn : (x.fmod 2147483647 * 48271 + 7919 * k * k + 104729).fmod 2147483647 = n at *
  have sn : Sm 31 n := by unfold Sm; have e : (2 : Nat) ^ 31 = 2147483648 := by decide
                          omega
  have m4 := oMul_int (x := n) (y := n) μ sn sn (by decide)
  have w3 := oMod_int (x := n * n) (y := 2147483629) μ (by decide)
  obtain ⟨c0, c1⟩ := fmod_rng (x := n * n) (m := 2147483629) (by decide)
  refine ⟨(n * n).fmod 2147483629, ?_, c0, by omega⟩
  unfold bodyF g__law_mixed
  simp [sSeq, sSet, M2, mVar, mC, w1, m1, m2, m3, oAdd, w2, sRet, m4, w3]
theorem app_int {δ : En} {L : List Int} {y : Int} {fs : AF} (h1 : δ[1]? = some (some (.cell 0))) (h2 : fs δ [some (L.map .int)] = some ([.int y], [some (L.map .int)])) (hl : L.length < 10000) :
    mApp (mVar 1) fs δ [some (L.map .int)] = some (.non, [some ((L ++ [y]).map .int)]) := by
  have hz : L.length < sizeLine := Nat.lt_of_lt_of_le hl (by decide)
  unfold mApp
  simp [mVar, h1, h2, liveAt, hz]
theorem in12 {φ : FF} (hφ : isMix φ) (s : D) (k c : Int) (hk : 0 ≤ k ∧ k < 100) (all : List D) : ∀ (js : List Int), (∀ j ∈ js, 0 ≤ j ∧ j < 12) → ∀ (L : List Int) (o : Option D), (∀ x ∈ L, Dr x) → L.length + js.length < 10000 → ∃ (L' : List Int) (o' : Option D),
    forL ⟨all, none⟩ (hName 4) (sDrop (mApp (mVar 1) (mCons (MC (mCons (MC (mCons (mVar 3) (mCons (M2 (M2 (mC (.int 3)) (mVar 4) oMul) (mC (.int 1)) oAdd) (mNil))) φ) (mCons (M2 (M2 (mVar 4) (mVar 2) oAdd) (mC (.int 2)) oAdd) (mNil))) φ) (mNil)))) (js.map D.int)
      [some s, some (.cell 0), some (.int k), some (.int c), o] [some (L.map .int)] = some (.nx, [some s, some (.cell 0), some (.int k), some (.int c), o'], [some (L'.map .int)]) ∧ (∀ x ∈ L', Dr x) ∧ L'.length = L.length + js.length
  | [], _, L, o, hL, _ => ⟨L, o, by unfold forL; simp [ok_none], hL, rfl⟩
  | j :: js, hj, L, o, hL, hlen => by
    have hj0 := hj j (by simp)
    obtain ⟨r1, e1, d1⟩ := hφ c (3 * j + 1) [some (L.map .int)] (by omega) (by omega)
    obtain ⟨r2, e2, d2⟩ := hφ r1 (j + k + 2) [some (L.map .int)] (by omega) (by omega)
    have m1 := oMul_int (x := 3) (y := j) [some (L.map D.int)] (show Sm 2 3 by unfold Sm; decide) (show Sm 4 j by unfold Sm; omega) (by decide)
    obtain ⟨L', o', e, hd, hl⟩ := in12 hφ s k c hk all js (fun x hx => hj x (by simp [hx])) (L ++ [r2]) (some (.int j)) (fun x hx => by
      rcases List.mem_append.mp hx with z | z
      · exact hL x z
      · simp at z; subst z; exact d2) (by simp at hlen ⊢; omega)
    refine ⟨L', o', ?_, hd, by rw [hl]; simp; omega⟩
    rw [List.map_cons]
    unfold forL
    have ea := app_int (δ := [some s, some (.cell 0), some (.int k), some (.int c), some (.int j)]) (L := L) (y := r2) (fs := mCons (MC (mCons (MC (mCons (mVar 3) (mCons (M2 (M2 (mC (.int 3)) (mVar 4) oMul) (mC (.int 1)) oAdd) (mNil))) φ) (mCons (M2 (M2 (mVar 4) (mVar 2) oAdd) (mC (.int 2)) oAdd) (mNil))) φ) (mNil)) rfl
      (by simp [mCons, mNil, MC, M2, mVar, mC, m1, oAdd, e1, e2]) (by simp at hlen; omega)
    simp only [List.map_append, List.map_cons, List.map_nil] at ea e
    simp [ok_none, hName, sDrop, ea, e]
abbrev drC : TF := tAndF (toB (M2 (mVar 3) (M2 (mC (.int 10)) (mC (.int 18)) oPow) oGe)) (toB (M2 (MC (mCons (mVar 1) (mNil)) (onOne oLen)) (mC (.int 900)) oLt))
abbrev drB : SF := sSeq (sDrop (mApp (mVar 1) (mCons (M2 (mVar 3) (mC (.int 2147483629)) oMod) (mNil)))) (sSet 3 (M2 (mVar 3) (mC (.int 2147483629)) oDiv))
theorem dr_while (s k o : Option D) : ∀ (n : Nat) (c : Int) (L : List Int), 0 ≤ c → (∀ x ∈ L, Dr x) → 900 - L.length ≤ n → ∃ (c' : Int) (L' : List Int),
    whileN drC drB (n + 1) [s, some (.cell 0), k, some (.int c), o] [some (L.map .int)] = some (.nx, [s, some (.cell 0), k, some (.int c'), o], [some (L'.map .int)]) ∧ 0 ≤ c' ∧ (∀ x ∈ L', Dr x) ∧ L'.length ≤ max L.length 900
  | n, c, L, hc, hL, hn => by
    have ep : oPow (.int 10) (.int 18) [some (L.map D.int)] = some (.int 1000000000000000000, [some (L.map .int)]) := rfl
    by_cases ht : (1000000000000000000 : Int) ≤ c ∧ L.length < 900
    · cases n with
      | zero => omega
      | succ n =>
        obtain ⟨m0, m1⟩ := fmod_rng (x := c) (m := 2147483629) (by decide)
        have w1 := oMod_int (x := c) (y := 2147483629) [some (L.map D.int)] (by decide)
        have w2 := oDiv_int (x := c) (y := 2147483629) [some ((L ++ [c.fmod 2147483629]).map D.int)] (by decide) (show Sm 31 2147483629 by unfold Sm; decide) (by decide)
        have q0 : 0 ≤ c.fdiv 2147483629 := by rw [Int.fdiv_eq_ediv_of_nonneg c (by decide)]; exact Int.ediv_nonneg hc (by decide)
        obtain ⟨c', L', e, h1, h2, h3⟩ := dr_while s k o n (c.fdiv 2147483629) (L ++ [c.fmod 2147483629]) q0 (fun x hx => by
          rcases List.mem_append.mp hx with z | z
          · exact hL x z
          · simp at z; subst z; exact ⟨m0, by omega⟩) (by simp; omega)
        refine ⟨c', L', ?_, h1, h2, by simp at h3; omega⟩
        unfold whileN
        have ea := app_int (δ := [s, some (.cell 0), k, some (.int c), o]) (L := L) (y := c.fmod 2147483629) (fs := mCons (M2 (mVar 3) (mC (.int 2147483629)) oMod) (mNil)) rfl (by simp [mCons, mNil, M2, mVar, mC, w1]) (by omega)
        simp only [List.map_append, List.map_cons, List.map_nil] at ea e w2
        have hlen : ((L.length : Nat) : Int) < 900 := by omega
        have ht1 := ht.1
        simp [tAndF, toB, M2, mVar, mC, ep, oGe, ht1, MC, mCons, mNil, onOne, oLen, itemsD, oLt, hlen, sSeq, sDrop] at ea ⊢
        simp [ea, sSet, M2, mVar, mC, w2, e]
    · refine ⟨c, L, ?_, hc, hL, by omega⟩
      unfold whileN
      by_cases h1 : (1000000000000000000 : Int) ≤ c
      · have h2 : ¬ ((L.length : Nat) : Int) < 900 := by omega
        simp [tAndF, toB, M2, mVar, mC, ep, oGe, h1, MC, mCons, mNil, onOne, oLen, itemsD, oLt, h2]
      · simp [tAndF, toB, M2, mVar, mC, ep, oGe, h1]
theorem rng_ints (n : Nat) : rngI 0 n = ((List.range n).map fun (k : Nat) => (k : Int)).map D.int := by
  unfold rngI
  rw [List.map_map]
  apply List.map_congr_left
  intro k _
  simp
noncomputable abbrev drOut (φ : FF) : SF := (sSeq (sSet 3 (MC (mCons (M2 (mVar 0) (mVar 2) oIx) (mNil)) (onOne oAbs))) (sSeq (sIf (toB (M2 (mVar 3) (M2 (mC (.int 10)) (mC (.int 18)) oPow) oLt)) (sFor (iRngD1 (mCons (mC (.int 12)) (mNil))) (hName 4) (sDrop (mApp (mVar 1) (mCons (MC (mCons (MC (mCons (mVar 3) (mCons (M2 (M2 (mC (.int 3)) (mVar 4) oMul) (mC (.int 1)) oAdd) (mNil))) φ) (mCons (M2 (M2 (mVar 4) (mVar 2) oAdd) (mC (.int 2)) oAdd) (mNil))) φ) (mNil))))) (sNext)) (sSeq (whileP drC drB) (sIf (toB (M2 (mVar 3) (mC (.int 2147483629)) oGe)) (sDrop (mApp (mVar 1) (mCons (M2 (mVar 3) (mC (.int 2147483629)) oMod) (mNil)))) (sNext)))))
theorem dr_turn {φ : FF} (hφ : isMix φ) (ns : List Int) (k : Nat) (hk : k < ns.length) (hk2 : k < 100) (L : List Int) (o3 o4 : Option D) (hL : ∀ x ∈ L, Dr x) (hlen : L.length < 9000) : ∃ (L' : List Int) (o3' o4' : Option D),
    drOut φ [some (.ro (ns.map .int)), some (.cell 0), some (.int k), o3, o4] [some (L.map .int)] = some (.nx, [some (.ro (ns.map .int)), some (.cell 0), some (.int k), o3', o4'], [some (L'.map .int)]) ∧ (∀ x ∈ L', Dr x) ∧ L'.length ≤ max (L.length + 12) 900 + 1 := by
  have hat : atI (ns.map D.int) (k : Int) = some (.int ns[k]) := atI_nat (by simp [hk])
  generalize hc : (if ns[k] < 0 then -ns[k] else ns[k]) = c
  have hc0 : 0 ≤ c := by rw [← hc]; split <;> omega
  have ep : oPow (.int 10) (.int 18) [some (L.map D.int)] = some (.int 1000000000000000000, [some (L.map .int)]) := rfl
  -- the twelve
  obtain ⟨L1, o1, e1, h1, l1⟩ : ∃ (L1 : List Int) (o1 : Option D), sIf (toB (M2 (mVar 3) (M2 (mC (.int 10)) (mC (.int 18)) oPow) oLt)) (sFor (iRngD1 (mCons (mC (.int 12)) (mNil))) (hName 4) (sDrop (mApp (mVar 1) (mCons (MC (mCons (MC (mCons (mVar 3) (mCons (M2 (M2 (mC (.int 3)) (mVar 4) oMul) (mC (.int 1)) oAdd) (mNil))) φ) (mCons (M2 (M2 (mVar 4) (mVar 2) oAdd) (mC (.int 2)) oAdd) (mNil))) φ) (mNil))))) (sNext)
      [some (.ro (ns.map .int)), some (.cell 0), some (.int k), some (.int c), o4] [some (L.map .int)] = some (.nx, [some (.ro (ns.map .int)), some (.cell 0), some (.int k), some (.int c), o1], [some (L1.map .int)]) ∧ (∀ x ∈ L1, Dr x) ∧ L1.length ≤ L.length + 12 := by
    by_cases hs : c < 1000000000000000000
    · obtain ⟨L1, o1, e, h, l⟩ := in12 hφ (.ro (ns.map .int)) k c (by omega) (rngI 0 12) ((List.range 12).map fun (k : Nat) => (k : Int)) (fun j hj => by simp at hj; omega) L o4 hL (by simp; omega)
      refine ⟨L1, o1, ?_, h, by rw [l]; simp⟩
      rw [← rng_ints] at e
      simp [sIf, toB, M2, mVar, mC, ep, oLt, hs, sFor, iRngD1, mCons, mNil]
      exact e
    · exact ⟨L, o4, by simp [sIf, toB, M2, mVar, mC, ep, oLt, hs, sNext], hL, by omega⟩
  obtain ⟨c', L2, e2, hc', h2, l2⟩ := dr_while (some (.ro (ns.map .int))) (some (.int k)) o1 _ c L1 hc0 h1 (Nat.le_refl _)
  have ew := whileP_of e2
  have hab : oAbs (.int ns[k]) [some (L.map D.int)] = some (.int c, [some (L.map D.int)]) := by rw [← hc]; rfl
  by_cases hb : (2147483629 : Int) ≤ c'
  · obtain ⟨m0, m1⟩ := fmod_rng (x := c') (m := 2147483629) (by decide)
    have w1 := oMod_int (x := c') (y := 2147483629) [some (L2.map D.int)] (by decide)
    have ea := app_int (δ := [some (.ro (ns.map .int)), some (.cell 0), some (.int k), some (.int c'), o1]) (L := L2) (y := c'.fmod 2147483629) (fs := mCons (M2 (mVar 3) (mC (.int 2147483629)) oMod) (mNil)) rfl (by simp [mCons, mNil, M2, mVar, mC, w1]) (by omega)
    refine ⟨L2 ++ [c'.fmod 2147483629], some (.int c'), o1, ?_, fun x hx => by
      rcases List.mem_append.mp hx with z | z
      · exact h2 x z
      · simp at z; subst z; exact ⟨m0, by omega⟩, by simp; omega⟩
    have e0 : sSet 3 (MC (mCons (M2 (mVar 0) (mVar 2) oIx) (mNil)) (onOne oAbs)) [some (.ro (ns.map .int)), some (.cell 0), some (.int k), o3, o4] [some (L.map .int)] = some (.nx, [some (.ro (ns.map .int)), some (.cell 0), some (.int k), some (.int c), o4], [some (L.map .int)]) := by
      simp [sSet, MC, mCons, mNil, M2, mVar, oIx, itemsD, hat, onOne, hab]
    have e3 : sIf (toB (M2 (mVar 3) (mC (.int 2147483629)) oGe)) (sDrop (mApp (mVar 1) (mCons (M2 (mVar 3) (mC (.int 2147483629)) oMod) (mNil)))) (sNext) [some (.ro (ns.map .int)), some (.cell 0), some (.int k), some (.int c'), o1] [some (L2.map .int)] = some (.nx, [some (.ro (ns.map .int)), some (.cell 0), some (.int k), some (.int c'), o1], [some ((L2 ++ [c'.fmod 2147483629]).map .int)]) := by
      simp only [sIf, toB, M2, mVar, mC, oGe, sDrop] at ea ⊢
      simp [hb] at ea ⊢
      simp [ea]
    unfold drOut sSeq
    rw [e0]
    simp only [Option.bind_some]
    rw [e1]
    simp only [Option.bind_some]
    rw [ew]
    simp only [Option.bind_some]
    exact e3
  · refine ⟨L2, some (.int c'), o1, ?_, h2, by omega⟩
    have e0 : sSet 3 (MC (mCons (M2 (mVar 0) (mVar 2) oIx) (mNil)) (onOne oAbs)) [some (.ro (ns.map .int)), some (.cell 0), some (.int k), o3, o4] [some (L.map .int)] = some (.nx, [some (.ro (ns.map .int)), some (.cell 0), some (.int k), some (.int c), o4], [some (L.map .int)]) := by
      simp [sSet, MC, mCons, mNil, M2, mVar, oIx, itemsD, hat, onOne, hab]
    have e3 : sIf (toB (M2 (mVar 3) (mC (.int 2147483629)) oGe)) (sDrop (mApp (mVar 1) (mCons (M2 (mVar 3) (mC (.int 2147483629)) oMod) (mNil)))) (sNext) [some (.ro (ns.map .int)), some (.cell 0), some (.int k), some (.int c'), o1] [some (L2.map .int)] = some (.nx, [some (.ro (ns.map .int)), some (.cell 0), some (.int k), some (.int c'), o1], [some (L2.map .int)]) := by
      simp [sIf, toB, M2, mVar, mC, oGe, hb, sNext]
    unfold drOut sSeq
    rw [e0]
    simp only [Option.bind_some]
    rw [e1]
    simp only [Option.bind_some]
    rw [ew]
    simp only [Option.bind_some]
    exact e3
theorem dr_loop {φ : FF} (hφ : isMix φ) (ns : List Int) (all : List D) : ∀ (ks : List Nat), (∀ k ∈ ks, k < ns.length ∧ k < 100) → ∀ (L : List Int) (o2 o3 o4 : Option D), (∀ x ∈ L, Dr x) → max L.length 900 + 13 * ks.length ≤ 5000 → ∃ (L' : List Int) (o2' o3' o4' : Option D),
    forL ⟨all, none⟩ (hName 2) (drOut φ) ((ks.map fun (k : Nat) => (k : Int)).map D.int) [some (.ro (ns.map .int)), some (.cell 0), o2, o3, o4] [some (L.map .int)] = some (.nx, [some (.ro (ns.map .int)), some (.cell 0), o2', o3', o4'], [some (L'.map .int)]) ∧ (∀ x ∈ L', Dr x)
  | [], _, L, o2, o3, o4, hL, _ => ⟨L, o2, o3, o4, by simp only [List.map_nil]; unfold forL; simp [ok_none], hL⟩
  | k :: ks, hk, L, o2, o3, o4, hL, hlen => by
    have hk0 := hk k (by simp)
    simp only [List.length_cons] at hlen
    obtain ⟨L1, a3, a4, e1, h1, l1⟩ := dr_turn hφ ns k hk0.1 hk0.2 L o3 o4 hL (by omega)
    obtain ⟨L', b2, b3, b4, e, h⟩ := dr_loop hφ ns all ks (fun x hx => hk x (by simp [hx])) L1 (some (.int k)) a3 a4 h1 (by omega)
    refine ⟨L', b2, b3, b4, ?_, h⟩
    rw [List.map_cons, List.map_cons]
    unfold forL
    simp only [hName, List.set_cons_succ, List.set_cons_zero, Option.bind_some]
    rw [if_pos (ok_none _ _), e1]
    exact e
def isDraws (φ : FF) : Prop := ∀ (ns : List Int), ns.length ≤ 63 → ∃ L : List Int, φ [.ro (ns.map .int)] [] = some (.cell 0, [some (L.map .int)]) ∧ ∀ x ∈ L, Dr x
theorem draws_of {φ : FF} (hφ : isMix φ) : isDraws (bodyF 5 (g__law_draws φ)) := fun ns hn => by
  obtain ⟨L, o2, o3, o4, e, h⟩ := dr_loop hφ ns (rngI 0 ns.length) (List.range ns.length) (fun k hk => by simp at hk; omega) [] none none none (fun x hx => by simp at hx) (by simp; omega)
  refine ⟨L, ?_, h⟩
  rw [← rng_ints] at e
  have hmin : (if (63 : Int) < (ns.length : Int) then (63 : Int) else (ns.length : Int)) = (ns.length : Int) := by rw [if_neg (by omega)]
  have hr : (-(2 ^ 62) ≤ (ns.length : Int) ∧ (ns.length : Int) < 2 ^ 62) := by omega
  have hz : 0 ≤ sizeLine := Nat.zero_le _
  have eS : ∀ δ : En, δ[0]? = some (some (.ro (ns.map .int))) → ∀ μ, iRngD1 (mCons (MC (mCons (MC (mCons (mVar 0) (mNil)) (onOne oLen)) (mCons (mC (.int 63)) (mNil))) (onTwo oMin2)) (mNil)) δ μ = some (⟨rngI 0 ns.length, none⟩, μ) := fun δ h0 μ => by
    simp only [iRngD1, mCons, MC, mVar, h0, mNil, onOne, oLen, itemsD, mC, onTwo, oMin2, Option.bind_some, Option.map_some, List.length_map]
    rw [hmin]
    rw [if_pos hr]
    simp
  have e0 : sSet 1 (mNew (lLst mNil)) [some (.ro (ns.map .int)), none, none, none, none] [] = some (.nx, [some (.ro (ns.map .int)), some (.cell 0), none, none, none], [some []]) := by
    simp [sSet, mNew, lLst, mNil]
  have e1 : sFor (iRngD1 (mCons (MC (mCons (MC (mCons (mVar 0) (mNil)) (onOne oLen)) (mCons (mC (.int 63)) (mNil))) (onTwo oMin2)) (mNil))) (hName 2) (drOut φ) [some (.ro (ns.map .int)), some (.cell 0), none, none, none] [some []] = some (.nx, [some (.ro (ns.map .int)), some (.cell 0), o2, o3, o4], [some (L.map .int)]) := by
    unfold sFor
    rw [eS _ rfl]
    exact e
  show (sSeq (sSet 1 (mNew (lLst mNil))) (sSeq (sFor (iRngD1 (mCons (MC (mCons (MC (mCons (mVar 0) (mNil)) (onOne oLen)) (mCons (mC (.int 63)) (mNil))) (onTwo oMin2)) (mNil))) (hName 2) (drOut φ)) (sRet (mVar 1))) [some (.ro (ns.map .int)), none, none, none, none] []).bind _ = _
  unfold sSeq
  rw [e0]
  simp only [Option.bind_some]
  rw [e1]
  simp [sRet, mVar]
end LG
set_option Elab.async false
set_option linter.all false
set_option maxRecDepth 100000
namespace L3
open PySem PySem.Spec PyProof.Rows L2
class Post (α : Type) where
  run : α → Prop
@[simp] theorem run_mk {α : Type} {f : α → Prop} {r : α} : @Post.run α ⟨f⟩ r = f r := rfl
def OkI {α : Type} (o : Option α) [Q : Post α] : Prop := ∃ r, o = some r ∧ Q.run r
abbrev Ok {α : Type} (o : Option α) (Q : α → Prop) : Prop := @OkI α o ⟨Q⟩
section
variable {α β : Type} {Q : Post α}
@[simp] theorem Ok_some {r : α} : OkI (some r) (Q := Q) = Q.run r := by
  apply propext
  exact ⟨fun ⟨q, e, h⟩ => by cases e; exact h, fun h => ⟨r, rfl, h⟩⟩
@[simp] theorem Ok_none : OkI (none : Option α) (Q := Q) = False := by
  apply propext
  exact ⟨fun ⟨q, e, h⟩ => (by cases e), fun h => h.elim⟩
@[simp] theorem Ok_bind {o : Option β} {k : β → Option α} : OkI (o.bind k) (Q := Q) = OkI o (Q := ⟨fun r => OkI (k r) (Q := Q)⟩) := by
  apply propext
  constructor
  · rintro ⟨q, e, h⟩
    obtain ⟨r, e1, e2⟩ := Option.bind_eq_some_iff.mp e
    exact ⟨r, e1, q, e2, h⟩
  · rintro ⟨r, e1, q, e2, h⟩
    exact ⟨q, by rw [e1]; exact e2, h⟩
@[simp] theorem Ok_map {o : Option β} {k : β → α} : OkI (o.map k) (Q := Q) = OkI o (Q := ⟨fun r => Q.run (k r)⟩) := by
  apply propext
  constructor
  · rintro ⟨q, e, h⟩
    obtain ⟨r, e1, e2⟩ := Option.map_eq_some_iff.mp e
    exact ⟨r, e1, by subst e2; exact h⟩
  · rintro ⟨r, e1, h⟩
    exact ⟨_, by rw [e1]; rfl, h⟩
theorem OkI.of {o : Option α} {r : α} (e : o = some r) (h : Q.run r) : OkI o (Q := Q) := ⟨r, e, h⟩
theorem OkI.mono {o : Option α} {Q' : Post α} (h : OkI o (Q := Q)) (k : ∀ r, Q.run r → Q'.run r) : OkI o (Q := Q') := let ⟨r, e, q⟩ := h; ⟨r, e, k r q⟩
end
class Two where
  t : Prop
  f : Prop
def Iff' (b : Bool) [T : Two] : Prop := if b = true then T.t else T.f
@[simp] theorem Iff'_true {P R : Prop} : Iff' true (T := ⟨P, R⟩) = P := rfl
@[simp] theorem Iff'_false {P R : Prop} : Iff' false (T := ⟨P, R⟩) = R := rfl
def asB (r : D × Mu) : Option (Bool × Mu) := match r.1 with
  | .bl k => some (k, r.2)
  | _ => none
@[simp] theorem asB_bl {k : Bool} {μ : Mu} : asB (.bl k, μ) = some (k, μ) := rfl
def rng1F (r : List D × Mu) : Option (Src × Mu) := match r.1 with
  | [.int j] => if -(2 ^ 62) ≤ j ∧ j < 2 ^ 62 then some (⟨rngI 0 j.toNat, none⟩, r.2) else none
  | _ => none
def rng2F (r : List D × Mu) : Option (Src × Mu) := match r.1 with
  | [.int i, .int j] => if (-(2 ^ 62) ≤ i ∧ i < 2 ^ 62) ∧ -(2 ^ 62) ≤ j ∧ j < 2 ^ 62 then some (⟨rngI i (j - i).toNat, none⟩, r.2) else none
  | _ => none
def lrng1F (r : List D × Mu) : Option (List D × Mu) := match r.1 with
  | [.int j] => if -(2 ^ 62) ≤ j ∧ j < 2 ^ 62 ∧ j.toNat ≤ sizeLine then some (rngI 0 j.toNat, r.2) else none
  | _ => none
def lrng2F (r : List D × Mu) : Option (List D × Mu) := match r.1 with
  | [.int i, .int j] => if (-(2 ^ 62) ≤ i ∧ i < 2 ^ 62 ∧ -(2 ^ 62) ≤ j ∧ j < 2 ^ 62) ∧ (j - i).toNat ≤ sizeLine then some (rngI i (j - i).toNat, r.2) else none
  | _ => none
theorem rng1 {j : Int} {μ : Mu} (h0 : -(2 ^ 62) ≤ j) (h1 : j < 2 ^ 62) : rng1F ([.int j], μ) = some (⟨rngI 0 j.toNat, none⟩, μ) := if_pos ⟨h0, h1⟩
def zipF (r : List D × Mu) : Option (Src × Mu) := match r.1 with
  | [x, y] => (fzItems x).bind fun xs => (fzItems y).map fun ys => (⟨zipL xs ys, none⟩, r.2)
  | _ => none
@[simp] theorem zipF_two {x y : D} {μ : Mu} : zipF ([x, y], μ) = (fzItems x).bind fun xs => (fzItems y).map fun ys => (⟨zipL xs ys, none⟩, μ) := rfl
@[simp] theorem fzi_tup {ds : List D} : fzItems (.tup ds) = some ds := rfl
@[simp] theorem fzi_lst {ds : List D} : fzItems (.lst ds) = some ds := rfl
def genF (th : D → Thunk') (r : Src × Mu) : Option (List Thunk' × Mu) := match r.1.cel with
  | none => some (r.1.items.map th, r.2)
  | some _ => none
@[simp] theorem genF_none {th : D → Thunk'} {items : List D} {μ : Mu} : genF th (⟨items, none⟩, μ) = some (items.map th, μ) := rfl
def seqF (r : D × Mu) : Option (List Thunk' × Mu) := match r.1 with
  | .tup ds => some (ds.map thE, r.2)
  | .lst ds => some (ds.map thE, r.2)
  | _ => none
@[simp] theorem seqF_tup {ds : List D} {μ : Mu} : seqF (.tup ds, μ) = some (ds.map thE, μ) := rfl
@[simp] theorem seqF_lst {ds : List D} {μ : Mu} : seqF (.lst ds, μ) = some (ds.map thE, μ) := rfl
def frzF (r : D × Mu) : Option (D × Mu) := match r.1 with
  | .cell n => (r.2.getD n none).map fun ds => (.lst ds, r.2.set n none)
  | d => some (d, r.2)
@[simp] theorem frzF_cell {n : Nat} {μ : Mu} : frzF (.cell n, μ) = (μ.getD n none).map fun ds => (.lst ds, μ.set n none) := rfl
section
variable {Q : Post (D × Mu)} {QT : Post (Bool × Mu)} {QS : Post (Fl × En × Mu)} {δ : En} {μ : Mu} {f fa fb fc : EF} {fs : AF} {t ta tc : TF} {g h : SF} {op op' : O2}
@[simp] theorem w_var0 {d : D} : mVar 0 (some d :: δ) μ = some (d, μ) := rfl
@[simp] theorem w_varS {i : Nat} {o : Option D} : mVar (i + 1) (o :: δ) μ = mVar i δ μ := rfl
@[simp] theorem w_c {d : D} : mC d δ μ = some (d, μ) := rfl
@[simp] theorem w_m1 {op : O1'} : M1 fa op δ μ = (fa δ μ).bind fun r => op r.1 r.2 := rfl
@[simp] theorem w_m2 : M2 fa fb op δ μ = (fa δ μ).bind fun r => (fb δ r.2).bind fun q => op r.1 q.1 q.2 := rfl
@[simp] theorem w_nil : mNil δ μ = some ([], μ) := rfl
@[simp] theorem w_cons : mCons f fs δ μ = (f δ μ).bind fun r => (fs δ r.2).bind fun q => some (r.1 :: q.1, q.2) := rfl
@[simp] theorem w_mc {op : ON} : MC fs op δ μ = (fs δ μ).bind fun r => op r.1 r.2 := rfl
@[simp] theorem w_mk {fk : AF} {π : List Nat} {φ : FF} : MK fs fk π φ δ μ = (fs δ μ).bind fun r => (fk δ r.2).bind fun q => φ (r.1 ++ π.map fun i => q.1.getD i .non) q.2 := rfl
@[simp] theorem w_toTr : toTr f δ μ = (f δ μ).bind fun r => (truD r.1 r.2).map fun k => (k, r.2) := rfl
@[simp] theorem w_toB : toB f δ μ = (f δ μ).bind asB := rfl
@[simp] theorem w_ch : OkI (MCh fa fb fc op op' δ μ) (Q := Q) = OkI (fa δ μ) (Q := ⟨fun r => OkI (fb δ r.2) (Q := ⟨fun q => OkI ((op r.1 q.1 q.2).bind asB) (Q := ⟨fun z => Iff' z.1 (T := ⟨OkI ((fc δ z.2).bind fun t => op' q.1 t.1 t.2) (Q := Q), Q.run (.bl false, z.2)⟩)⟩)⟩)⟩) := by
  unfold MCh; rw [Ok_bind]; congr 2; funext r; rw [Ok_bind]; congr 2; funext q; rw [Ok_bind, Ok_bind]; congr 2; funext z; obtain ⟨d, μ'⟩ := z
  cases d <;> simp [asB]
  rename_i b
  cases b <;> simp
@[simp] theorem w_and : OkI (tAndF ta tc δ μ) (Q := QT) = OkI (ta δ μ) (Q := ⟨fun r => Iff' r.1 (T := ⟨OkI (tc δ r.2) (Q := QT), QT.run (false, r.2)⟩)⟩) := by
  unfold tAndF; rw [Ok_bind]; congr 2; funext r; unfold Iff'; split <;> simp [*]
@[simp] theorem w_or : OkI (tOrF ta tc δ μ) (Q := QT) = OkI (ta δ μ) (Q := ⟨fun r => Iff' r.1 (T := ⟨QT.run (true, r.2), OkI (tc δ r.2) (Q := QT)⟩)⟩) := by
  unfold tOrF; rw [Ok_bind]; congr 2; funext r; unfold Iff'; split <;> simp [*]
@[simp] theorem w_not : tNotF ta δ μ = (ta δ μ).bind fun r => some (!r.1, r.2) := rfl
@[simp] theorem w_mif : OkI (mIf t fa fb δ μ) (Q := Q) = OkI (t δ μ) (Q := ⟨fun r => Iff' r.1 (T := ⟨OkI (fa δ r.2) (Q := Q), OkI (fb δ r.2) (Q := Q)⟩)⟩) := by
  unfold mIf; rw [Ok_bind]; congr 2; funext r; unfold Iff'; split <;> simp [*]
@[simp] theorem w_andV : OkI (mAndV fa fb δ μ) (Q := Q) = OkI ((fa δ μ).bind asB) (Q := ⟨fun k => Iff' k.1 (T := ⟨OkI (fb δ k.2) (Q := Q), Q.run (.bl false, k.2)⟩)⟩) := by
  unfold mAndV; rw [Ok_bind, Ok_bind]; congr 2; funext r; obtain ⟨d, μ'⟩ := r
  cases d <;> simp [asB]
  rename_i b
  cases b <;> simp
@[simp] theorem w_orV : OkI (mOrV fa fb δ μ) (Q := Q) = OkI ((fa δ μ).bind asB) (Q := ⟨fun k => Iff' k.1 (T := ⟨Q.run (.bl true, k.2), OkI (fb δ k.2) (Q := Q)⟩)⟩) := by
  unfold mOrV; rw [Ok_bind, Ok_bind]; congr 2; funext r; obtain ⟨d, μ'⟩ := r
  cases d <;> simp [asB]
  rename_i b
  cases b <;> simp
@[simp] theorem w_notV : mNotV fa δ μ = ((fa δ μ).bind asB).bind fun r => some (.bl !r.1, r.2) := by
  unfold mNotV
  cases fa δ μ with
  | none => rfl
  | some r => obtain ⟨d, μ'⟩ := r; cases d <;> rfl
@[simp] theorem w_next : sNext δ μ = some (.nx, δ, μ) := rfl
@[simp] theorem w_break : sBreak δ μ = some (.bk, δ, μ) := rfl
@[simp] theorem w_cont : sCont δ μ = some (.ct, δ, μ) := rfl
@[simp] theorem w_ret : sRet f δ μ = (f δ μ).bind fun r => some (.rt r.1, δ, r.2) := rfl
@[simp] theorem w_drop : sDrop f δ μ = (f δ μ).bind fun r => some (.nx, δ, r.2) := rfl
@[simp] theorem w_set {i : Nat} : sSet i f δ μ = (f δ μ).bind fun r => some (.nx, δ.set i (some r.1), r.2) := rfl
@[simp] theorem w_if : OkI (sIf t g h δ μ) (Q := QS) = OkI (t δ μ) (Q := ⟨fun r => Iff' r.1 (T := ⟨OkI (g δ r.2) (Q := QS), OkI (h δ r.2) (Q := QS)⟩)⟩) := by
  unfold sIf; rw [Ok_bind]; congr 2; funext r; unfold Iff'; split <;> simp [*]
def thenS (h : SF) (QS : Post (Fl × En × Mu)) (r : Fl × En × Mu) : Prop := match r.1 with
  | .nx => OkI (h r.2.1 r.2.2) (Q := QS)
  | _ => QS.run r
@[simp] theorem w_seq : OkI (sSeq g h δ μ) (Q := QS) = OkI (g δ μ) (Q := ⟨thenS h QS⟩) := by
  unfold sSeq
  rw [Ok_bind]
  congr 2
  funext r
  obtain ⟨fl, δ', μ'⟩ := r
  cases fl <;> simp [thenS]
@[simp] theorem then_nx {δ' : En} {μ' : Mu} : thenS h QS (.nx, δ', μ') = OkI (h δ' μ') (Q := QS) := rfl
@[simp] theorem then_rt {d : D} {δ' : En} {μ' : Mu} : thenS h QS (.rt d, δ', μ') = QS.run (.rt d, δ', μ') := rfl
@[simp] theorem then_bk {δ' : En} {μ' : Mu} : thenS h QS (.bk, δ', μ') = QS.run (.bk, δ', μ') := rfl
@[simp] theorem then_ct {δ' : En} {μ' : Mu} : thenS h QS (.ct, δ', μ') = QS.run (.ct, δ', μ') := rfl
@[simp] theorem w_asg {hh : GF} : sAsg f hh δ μ = (f δ μ).bind fun r => (hh r.1 δ r.2).bind fun δ' => some (.nx, δ', r.2) := rfl
@[simp] theorem w_par {i j : Nat} : sPar i j fs δ μ = (fs δ μ).bind fun r => match r.1 with
  | [x, y] => some (.nx, (δ.set i (some x)).set j (some y), r.2)
  | _ => none := rfl
@[simp] theorem w_for {fi : IF} {hh : GF} : sFor fi hh g δ μ = (fi δ μ).bind fun r => forL r.1 hh g r.1.items δ r.2 := rfl
@[simp] theorem w_fz {lf : LF} : mFz lf δ μ = (lf δ μ).bind fun r => some (.lst r.1, r.2) := rfl
@[simp] theorem w_new {lf : LF} : mNew lf δ μ = (lf δ μ).bind fun r => some (.cell r.2.length, r.2 ++ [some r.1]) := rfl
@[simp] theorem w_lLst : lLst fs δ μ = (fs δ μ).bind fun r => if r.1.length ≤ sizeLine then some r else none := rfl
@[simp] theorem w_name {i : Nat} {d : D} : hName i d δ μ = some (δ.set i (some d)) := rfl
@[simp] theorem w_tup {n : Nat} {hs : GsF} {ds : List D} : hTup n hs (.tup ds) δ μ = if ds.length = n then hs ds δ μ else none := rfl
@[simp] theorem w_hnil : hNil [] δ μ = some δ := rfl
@[simp] theorem w_hcons {hh : GF} {hs : GsF} {d : D} {ds : List D} : hCons hh hs (d :: ds) δ μ = (hh d δ μ).bind fun δ1 => hs ds δ1 μ := rfl
@[simp] theorem w_iseq : iSeq f δ μ = (f δ μ).bind fun r => (srcOf r.1 r.2).map fun S => (S, r.2) := rfl
@[simp] theorem src_tup {ds : List D} : srcOf (.tup ds) μ = some ⟨ds, none⟩ := rfl
@[simp] theorem src_lst {ds : List D} : srcOf (.lst ds) μ = some ⟨ds, none⟩ := rfl
@[simp] theorem w_slice {fl fh : PF} : mSl f fl fh δ μ = (f δ μ).bind fun r => (fl δ r.2).bind fun l => (fh δ l.2).bind fun u => oSl r.1 l.1 u.1 u.2 := rfl
@[simp] theorem w_lslice {fl fh : PF} : lSl f fl fh δ μ = (f δ μ).bind fun r => (fl δ r.2).bind fun l => (fh δ l.2).bind fun u => match r.1 with
  | .lst ds => some (L3.cutD ds l.1 u.1, u.2)
  | .ro ds => some (L3.cutD ds l.1 u.1, u.2)
  | _ => none := rfl
@[simp] theorem w_fno : fNo δ μ = some (none, μ) := rfl
@[simp] theorem w_fat : fAt f δ μ = (f δ μ).bind fun r => match r.1 with
  | .int i => some (some i, r.2)
  | _ => none := rfl
@[simp] theorem w_one {op : O1'} {x : D} : onOne op [x] μ = op x μ := rfl
@[simp] theorem w_two {x y : D} : onTwo op [x, y] μ = op x y μ := rfl
variable {i j : Int} {ds es : List D} {k : Bool}
@[simp] theorem a_add : oAdd (.int i) (.int j) μ = some (.int (i + j), μ) := rfl
@[simp] theorem a_addT : oAdd (.tup ds) (.tup es) μ = if ds.length + es.length ≤ sizeLine then some (.tup (ds ++ es), μ) else none := rfl
@[simp] theorem a_addL : oAdd (.lst ds) (.lst es) μ = if ds.length + es.length ≤ sizeLine then some (.lst (ds ++ es), μ) else none := rfl
@[simp] theorem a_sub : oSub (.int i) (.int j) μ = some (.int (i - j), μ) := rfl
theorem a_mul (h : bitsSum i j ≤ 134217728) : oMul (.int i) (.int j) μ = some (.int (i * j), μ) := if_pos h
@[simp] theorem a_mod (h : j ≠ 0) : oMod (.int i) (.int j) μ = some (.int (i.fmod j), μ) := if_pos h
theorem a_div (h : j ≠ 0) (h2 : j.natAbs.log2 < 9000) : oDiv (.int i) (.int j) μ = some (.int (i.fdiv j), μ) := if_pos ⟨h, h2⟩
@[simp] theorem a_lt : oLt (.int i) (.int j) μ = some (.bl (decide (i < j)), μ) := rfl
@[simp] theorem a_le : oLe (.int i) (.int j) μ = some (.bl (decide (i ≤ j)), μ) := rfl
@[simp] theorem a_gt : oGt (.int i) (.int j) μ = some (.bl (decide (j < i)), μ) := rfl
@[simp] theorem a_ge : oGe (.int i) (.int j) μ = some (.bl (decide (j ≤ i)), μ) := rfl
@[simp] theorem a_neg : oNeg (.int i) μ = some (.int (-i), μ) := rfl
@[simp] theorem a_abs : oAbs (.int i) μ = some (.int (i.natAbs), μ) := by
  show some (D.int (if i < 0 then -i else i), μ) = _
  congr 3
  split <;> omega
@[simp] theorem a_min : oMin2 (.int i) (.int j) μ = some (.int (min i j), μ) := by
  show some (D.int (if j < i then j else i), μ) = _
  congr 3
  split <;> omega
@[simp] theorem a_max : oMax2 (.int i) (.int j) μ = some (.int (max i j), μ) := by
  show some (D.int (if j > i then j else i), μ) = _
  congr 3
  split <;> omega
@[simp] theorem a_eq : oEq (.int i) (.int j) μ = some (.bl (i == j), μ) := by unfold oEq rsv; simp [pureD, depD, eqD]
@[simp] theorem a_ne : oNe (.int i) (.int j) μ = some (.bl (!(i == j)), μ) := by unfold oNe rsv; simp [pureD, depD, eqD]
@[simp] theorem a_neE : oNeE (.lst ds) (.lst []) μ = some (.bl (!ds.isEmpty), μ) := rfl
@[simp] theorem a_eqB {k l : Bool} : oEq (.bl k) (.bl l) μ = some (.bl (k == l), μ) := by unfold oEq rsv; simp [pureD, depD, eqD]
@[simp] theorem a_neB {k l : Bool} : oNe (.bl k) (.bl l) μ = some (.bl (!(k == l)), μ) := by unfold oNe rsv; simp [pureD, depD, eqD]
@[simp] theorem a_isB {k l : Bool} : oIs (.bl k) (.bl l) μ = some (.bl (k == l), μ) := rfl
@[simp] theorem a_isN {d : D} : oIs d .non μ = some (.bl (isNonD d), μ) := by cases d <;> rfl
@[simp] theorem a_isnB {k l : Bool} : oIsNot (.bl k) (.bl l) μ = some (.bl (k != l), μ) := rfl
@[simp] theorem a_isnN {d : D} : oIsNot d .non μ = some (.bl (!isNonD d), μ) := by cases d <;> rfl
@[simp] theorem a_tup : oTup ds μ = if ds.length ≤ sizeLine then some (.tup ds, μ) else none := rfl
@[simp] theorem a_lst : oLst ds μ = if ds.length ≤ sizeLine then some (.lst ds, μ) else none := rfl
@[simp] theorem a_ix {d : D} : oIx d (.int i) μ = (itemsD d μ).bind fun ds => (atI ds i).map fun d => (d, μ) := rfl
@[simp] theorem i_tup : itemsD (.tup ds) μ = some ds := rfl
@[simp] theorem i_lst : itemsD (.lst ds) μ = some ds := rfl
@[simp] theorem i_ro : itemsD (.ro ds) μ = some ds := rfl
@[simp] theorem a_lenT : oLen (.tup ds) μ = some (.int ds.length, μ) := rfl
@[simp] theorem a_lenL : oLen (.lst ds) μ = some (.int ds.length, μ) := rfl
@[simp] theorem a_lenR : oLen (.ro ds) μ = some (.int ds.length, μ) := rfl
@[simp] theorem a_tuple {d : D} : oTuple [d] μ = (itemsD d μ).map fun ds => (.tup ds, μ) := rfl
@[simp] theorem w_lOf : lOf fs δ μ = (fs δ μ).bind fun r => match r.1 with
  | [x] => (itemsD x r.2).map fun ds => (ds, r.2)
  | _ => none := rfl
@[simp] theorem t_bl : truD (.bl k) μ = some k := rfl
@[simp] theorem t_int : truD (.int i) μ = some (i != 0) := rfl
@[simp] theorem t_tup : truD (.tup ds) μ = some !ds.isEmpty := rfl
@[simp] theorem t_lst : truD (.lst ds) μ = some !ds.isEmpty := rfl
@[simp] theorem t_non : truD .non μ = some false := rfl
@[simp] theorem isi_int {T : String} : oIsi T (.int i) μ = some (.bl (T == "int"), μ) := rfl
@[simp] theorem isi_bl {T : String} : oIsi T (.bl k) μ = some (.bl (T == "bool" || T == "int"), μ) := rfl
@[simp] theorem isi_tup {T : String} : oIsi T (.tup ds) μ = some (.bl (T == "tuple"), μ) := rfl
@[simp] theorem isi_lst {T : String} : oIsi T (.lst ds) μ = some (.bl (T == "list"), μ) := rfl
@[simp] theorem isi_str {T : String} {x : Str} : oIsi T (.str x) μ = some (.bl (T == "str"), μ) := rfl
@[simp] theorem isi_non {T : String} : oIsi T .non μ = some (.bl false, μ) := rfl
@[simp] theorem isi_dic {T : String} {x} : oIsi T (.dic x) μ = some (.bl (T == "dict"), μ) := rfl
@[simp] theorem w_rng1 : iRngD1 fs δ μ = (fs δ μ).bind rng1F := rfl
@[simp] theorem w_rng2 : iRngD2 fs δ μ = (fs δ μ).bind rng2F := rfl
@[simp] theorem w_lrng1 : lRng1 fs δ μ = (fs δ μ).bind lrng1F := rfl
@[simp] theorem w_lrng2 : lRng2 fs δ μ = (fs δ μ).bind lrng2F := rfl
@[simp] theorem w_zip : iZipD fs δ μ = (fs δ μ).bind zipF := rfl
@[simp] theorem w_lc {own : List Str} {capI : List Nat} {fi : IF} {hh : GF} : lLC own capI fi hh t f δ μ = (fi δ μ).bind fun r => if r.1.items.length ≤ sizeLine then lcL r.1 hh t f (blkE own δ capI) r.1.items r.2 else none := rfl
@[simp] theorem w_all {st : StF} : mAll st δ μ = (st δ μ).bind fun r => (allT r.1 r.2).bind fun q => some (.bl q.1, q.2) := rfl
@[simp] theorem w_any {st : StF} : mAny st δ μ = (st δ μ).bind fun r => (anyT r.1 r.2).bind fun q => some (.bl q.1, q.2) := rfl
@[simp] theorem w_tupG {st : StF} : mTupG st δ μ = (st δ μ).bind fun r => if r.1.length ≤ sizeLine then (colT r.1 r.2).bind fun q => some (.tup q.1, q.2) else none := rfl
@[simp] theorem w_sum {st : StF} : mSum st δ μ = (st δ μ).bind fun r => (sumT 0 r.1 r.2).bind fun q => some (.int q.1, q.2) := rfl
@[simp] theorem w_gen {own : List Str} {capI : List Nat} {fi : IF} {hh : GF} : stGen own capI fi hh f δ μ = (fi δ μ).bind fun r => genF (thG hh f (blkE own δ capI)) r := rfl
@[simp] theorem w_seqS : stSeq f δ μ = (f δ μ).bind seqF := rfl
@[simp] theorem w_rev : mRev f δ μ = (f δ μ).bind fun r => oRev r.1 r.2 := rfl
@[simp] theorem a_revT : oRev (.tup ds) μ = some (.tup ds.reverse, μ) := rfl
@[simp] theorem a_revL : oRev (.lst ds) μ = some (.lst ds.reverse, μ) := rfl
@[simp] theorem w_put {fo fi : EF} : sPut f fo fi δ μ = (f δ μ).bind fun r => (fo δ r.2).bind fun o => (fi δ o.2).bind fun i => (putF r.1 o.1 i.1 i.2).map fun μ' => (.nx, δ, μ') := rfl
@[simp] theorem w_aug0 {x : D} : sAug 0 f op (some x :: δ) μ = (f (some x :: δ) μ).bind fun r => (op x r.1 r.2).map fun z => (.nx, (some x :: δ).set 0 (some z.1), z.2) := rfl
@[simp] theorem a_addI : oAddI (.int i) (.int j) μ = some (.int (i + j), μ) := rfl
@[simp] theorem a_subI : oSubI (.int i) (.int j) μ = some (.int (i - j), μ) := rfl
@[simp] theorem w_dic0 : mDic0 δ μ = some (.dic [], μ) := rfl
@[simp] theorem w_frz : mFrz f δ μ = (f δ μ).bind frzF := rfl
end
theorem srcOk {items : List D} {μ : Mu} : Src.ok ⟨items, none⟩ μ := fun n e => by cases e
def turnS (I : En → Mu → Prop) (QS : Post (Fl × En × Mu)) (r : Fl × En × Mu) : Prop := match r.1 with
  | .nx => I r.2.1 r.2.2
  | .ct => I r.2.1 r.2.2
  | .bk => QS.run (.nx, r.2)
  | .rt d => QS.run (.rt d, r.2)
section
variable {I : En → Mu → Prop} {QS : Post (Fl × En × Mu)} {δ : En} {μ : Mu}
@[simp] theorem turn_nx : turnS I QS (.nx, δ, μ) = I δ μ := rfl
@[simp] theorem turn_ct : turnS I QS (.ct, δ, μ) = I δ μ := rfl
@[simp] theorem turn_bk : turnS I QS (.bk, δ, μ) = QS.run (.nx, δ, μ) := rfl
@[simp] theorem turn_rt {d : D} : turnS I QS (.rt d, δ, μ) = QS.run (.rt d, δ, μ) := rfl
end
theorem for_inv {all : List D} {h : GF} {b : SF} {QS : Post (Fl × En × Mu)} (I : List D → En → Mu → Prop)
    (turn : ∀ d r δ μ, I (d :: r) δ μ → OkI (h d δ μ) (Q := ⟨fun δ1 => OkI (b δ1 μ) (Q := ⟨turnS (I r) QS⟩)⟩)) (fin : ∀ δ μ, I [] δ μ → QS.run (.nx, δ, μ)) :
    ∀ (its : List D) (δ : En) (μ : Mu), I its δ μ → OkI (forL ⟨all, none⟩ h b its δ μ) (Q := QS)
  | [], δ, μ, hI => by unfold forL; rw [if_pos srcOk, Ok_some]; exact fin δ μ hI
  | d :: r, δ, μ, hI => by
    unfold forL
    rw [if_pos srcOk, Ok_bind]
    refine (turn d r δ μ hI).mono fun δ1 h1 => ?_
    rw [run_mk] at h1 ⊢
    rw [Ok_bind]
    refine h1.mono fun q h2 => ?_
    rw [run_mk] at h2 ⊢
    obtain ⟨fl, δ', μ'⟩ := q
    cases fl with
    | nx => exact for_inv (all := all) I turn fin r δ' μ' h2
    | ct => exact for_inv (all := all) I turn fin r δ' μ' h2
    | bk => exact ⟨_, rfl, h2⟩
    | rt d => exact ⟨_, rfl, h2⟩
def retS (R : Post (D × Mu)) (r : Fl × En × Mu) : Prop := match r.1 with
  | .rt d => R.run (d, r.2.2)
  | .nx => R.run (.non, r.2.2)
  | _ => False
@[simp] theorem ret_rt {R : Post (D × Mu)} {d : D} {δ : En} {μ : Mu} : retS R (.rt d, δ, μ) = R.run (d, μ) := rfl
@[simp] theorem ret_nx {R : Post (D × Mu)} {δ : En} {μ : Mu} : retS R (.nx, δ, μ) = R.run (.non, μ) := rfl
theorem w_body {m : Nat} {g : SF} {ds : List D} {μ : Mu} {R : Post (D × Mu)} (h : OkI (g (ds.map some ++ List.replicate (m - ds.length) none) μ) (Q := ⟨retS R⟩)) : OkI (bodyF m g ds μ) (Q := R) := by
  unfold bodyF
  rw [Ok_bind]
  refine h.mono fun r hr => ?_
  obtain ⟨fl, δ, μ'⟩ := r
  cases fl with
  | rt d => exact ⟨_, rfl, hr⟩
  | nx => exact ⟨_, rfl, hr⟩
  | bk => exact hr.elim
  | ct => exact hr.elim
theorem ok_trunc {φ : FF} {ds : List D} {μ : Mu} {R : Post (D × Mu)} (h : OkI (φ ds μ) (Q := ⟨fun r => r.2.length = μ.length ∧ R.run r⟩)) : OkI (trunc φ ds μ) (Q := R) := by
  obtain ⟨⟨d, μ'⟩, e, hl, hr⟩ := h
  exact ⟨_, trunc_len e hl, hr⟩
end L3
set_option Elab.async false
set_option linter.all false
set_option maxRecDepth 100000
namespace LG
open PySem PySem.Spec PyProof.Rows L2 L3
theorem ok_eq {α : Type} {o : Option α} {x : α} (h : Ok o (fun r => r = x)) : o = some x := by
  obtain ⟨r, e, h⟩ := h
  have h : r = x := h
  rw [e, h]
theorem body_eq {m : Nat} {g : SF} {ds : List D} {μ : Mu} {d : D} (h : OkI (g (ds.map some ++ List.replicate (m - ds.length) none) μ) (Q := ⟨retS ⟨fun r => r = (d, μ)⟩⟩)) : trunc (bodyF m g) ds μ = some (d, μ) :=
  trunc_same (ok_eq (w_body h))
@[simp] theorem sz {n : Nat} (h : n ≤ 1000) : (n ≤ sizeLine) = True := eq_true (Nat.le_trans h (by decide))
abbrev nc (d : D) : Prop := cLt 0 d = true
theorem ncL_iff : ∀ {ds : List D}, cLtL 0 ds = true ↔ ∀ d ∈ ds, nc d
  | [] => by unfold cLtL; simp
  | d :: ds => by unfold cLtL; simp [ncL_iff (ds := ds)]
theorem nc_tup {ds : List D} : nc (.tup ds) ↔ ∀ d ∈ ds, nc d := by
  have e : cLt 0 (.tup ds) = cLtL 0 ds := by rw [cLt]
  unfold nc
  rw [e]
  exact ncL_iff
theorem nc_lst {ds : List D} : nc (.lst ds) ↔ ∀ d ∈ ds, nc d := by
  have e : cLt 0 (.lst ds) = cLtL 0 ds := by rw [cLt]
  unfold nc
  rw [e]
  exact ncL_iff
theorem nc_int {i : Int} : nc (.int i) := by unfold nc cLt; rfl
theorem nc_ints {ns : List Int} : ∀ d ∈ ns.map D.int, nc d := fun d h => by
  obtain ⟨n, _, rfl⟩ := List.mem_map.mp h
  exact nc_int
def isInt : D → Bool
  | .int _ => true
  | _ => false
def intOf : D → Int
  | .int i => i
  | _ => 0
@[simp] theorem isInt_int {i : Int} : isInt (.int i) = true := rfl
@[simp] theorem intOf_int {i : Int} : intOf (.int i) = i := rfl
theorem ints_of : ∀ {ds : List D}, ds.all isInt = true → ds = (ds.map intOf).map D.int
  | [], _ => rfl
  | d :: ds, h => by
    rw [List.all_cons, Bool.and_eq_true] at h
    cases d with
    | int i => rw [List.map_cons, List.map_cons, ← ints_of h.2]; rfl
    | _ => exact absurd h.1 (by simp [isInt])
theorem ints_map (ns : List Int) : (ns.map D.int).map intOf = ns := by simp [Function.comp_def]
theorem ints_all (ns : List Int) : (ns.map D.int).all isInt = true := by simp
theorem num_of (d : D) (μ : Mu) (h : nc d) : trunc (bodyF 1 g_is_number) [d] μ = some (.bl (isInt d), μ) := by
  apply body_eq
  cases d with
  | cell n => simp [nc, cLt] at h
  | ro ds => simp [g_is_number, isInt, oIsi, isiD]
  | _ => simp [g_is_number, isInt]
theorem whole_of (d : D) (μ : Mu) (h : nc d) : trunc (bodyF 1 g__law_whole) [d] μ = some (.bl (isInt d), μ) := num_of d μ h
theorem allT_map {th : D → Thunk'} {p : D → Bool} {μ : Mu} : ∀ (ds : List D), (∀ d ∈ ds, th d μ = some (.bl (p d), μ)) → allT (ds.map th) μ = some (ds.all p, μ)
  | [], _ => rfl
  | d :: ds, h => by
    rw [List.map_cons]
    unfold allT
    rw [h d (by simp)]
    have ih := allT_map ds fun x hx => h x (by simp [hx])
    cases hp : p d <;> simp [hp, truI, ih]
theorem lcL_filter {all : List D} {h : GF} {tt : TF} {fe : EF} {δb : En} {p : D → Bool} {f : D → D} {μ : Mu} : ∀ (items : List D), (∀ d ∈ items, ∃ δ1, h d δb μ = some δ1 ∧ tt δ1 μ = some (p d, μ) ∧ (p d = true → fe δ1 μ = some (f d, μ))) → lcL ⟨all, none⟩ h tt fe δb items μ = some ((items.filter p).map f, μ)
  | [], _ => by unfold lcL; simp [ok_none]
  | d :: r, hd => by
    obtain ⟨δ1, h1, h2, h3⟩ := hd d (by simp)
    have ih := lcL_filter (all := all) r fun x hx => hd x (by simp [hx])
    unfold lcL
    cases hp : p d with
    | false => simp [ok_none, h1, h2, hp, ih]
    | true => simp [ok_none, h1, h2, hp, h3 hp, ih]
def numsB : D → Bool
  | .tup ds => ds.all isInt
  | _ => false
def isNum (φ : FF) : Prop := ∀ d μ, nc d → φ [d] μ = some (.bl (isInt d), μ)
theorem numbers_of {φ : FF} (hφ : isNum φ) (d : D) (μ : Mu) (h : nc d) : trunc (bodyF 1 (g_is_numbers φ)) [d] μ = some (.bl (numsB d), μ) := by
  apply body_eq
  cases d with
  | cell n => simp [nc, cLt] at h
  | ro ds => simp [g_is_numbers, numsB, oIsi, isiD]
  | tup ds =>
    have e := allT_map (th := thG (hName 0) (MC (mCons (mVar 0) mNil) φ) (blkE ["part"] [some (D.tup ds)] [])) (p := isInt) (μ := μ) ds fun x hx => by
      simp [thG, blkE, hφ x μ (nc_tup.mp h x hx)]
    simp [g_is_numbers, numsB, e]
  | _ => simp [g_is_numbers, numsB]
theorem atI_last {ds : List D} (h : ds ≠ []) : atI ds (-1) = some (ds.getLast h) := by
  have hl : 0 < ds.length := List.length_pos_iff.mpr h
  unfold atI ixN
  rw [if_neg (by omega), if_pos (by omega)]
  have : ((-1 : Int) + ds.length).toNat = ds.length - 1 := by omega
  simp only [Option.bind_some, this]
  rw [List.getLast_eq_getElem]
  simp [hl]
theorem atI_lastI {ns : List Int} (h : ns ≠ []) : atI (ns.map D.int) (-1) = some (.int (ns.getLastD 0)) := by
  rw [atI_last (by simpa using h)]
  simp [List.getLastD_eq_getLast?, List.getLast?_eq_some_getLast h]
def spotL (ns : List Int) : Bool := decide (2 ≤ ns.length ∧ ns.length ≤ 4 ∧ 1 ≤ ns.getLastD 0 ∧ gcdF 0 ns = 1)
def spotB : D → Bool
  | .tup ds => ds.all isInt && spotL (ds.map intOf)
  | _ => false
theorem spotB_tup {ds : List D} : spotB (.tup ds) = (ds.all isInt && spotL (ds.map intOf)) := rfl
theorem spotB_ints (ns : List Int) : spotB (.tup (ns.map .int)) = spotL ns := by
  rw [spotB_tup, ints_map, ints_all]
  rfl
def isCommonT (φ : FF) : Prop := ∀ (ns : List Int) (μ : Mu), φ [.tup (ns.map .int)] μ = some (.int (gcdF 0 ns : Nat), μ)
theorem common_divT {φ : FF} (hφ : isGcd φ) (ns : List Int) (μ : Mu) : trunc (bodyF 3 (g_common_divisor φ)) [.tup (ns.map .int)] μ = some (.int (gcdF 0 ns : Nat), μ) := by
  obtain ⟨o', e⟩ := cd_loop hφ (.tup (ns.map .int)) (ns.map .int) ns 0 none μ
  apply trunc_same
  unfold bodyF g_common_divisor
  have e' := e
  simp at e'
  simp [sSeq, sSet, mC, sFor, iSeq, mVar, srcOf, e', sRet]
def isNums (φ : FF) : Prop := ∀ d μ, nc d → φ [d] μ = some (.bl (numsB d), μ)
theorem is_spot_of {φ1 φ2 : FF} (h1 : isNums φ1) (h2 : isCommonT φ2) (d : D) (μ : Mu) (h : nc d) : trunc (bodyF 1 (g_is_spot φ1 φ2)) [d] μ = some (.bl (spotB d), μ) := by
  apply body_eq
  have e1 := h1 d μ h
  by_cases hn : numsB d = true
  · cases d with
    | tup ds =>
      have hd := ints_of hn
      generalize ds.map intOf = ns at hd
      subst hd
      rw [spotB_ints]
      rw [hn] at e1
      by_cases hl : 2 ≤ ns.length ∧ ns.length ≤ 4
      · have hne : ns ≠ [] := fun z => by rw [z] at hl; simp at hl
        have el := atI_lastI hne
        have a1 : (2 : Int) ≤ ns.length := by omega
        have a2 : (ns.length : Int) ≤ 4 := by omega
        have e2 := h2 ns μ
        by_cases hb : (1 : Int) ≤ ns.getLastD 0
        · have es : spotL ns = ((gcdF 0 ns : Int) == 1) := by
            unfold spotL
            simp only [hl.1, hl.2, hb, true_and]
            by_cases hg : gcdF 0 ns = 1
            · simp [hg]
            · have : ((gcdF 0 ns : Nat) : Int) ≠ 1 := by omega
              simp [hg, this]
          rw [es]
          generalize ns.getLastD 0 = l at *
          simp [g_is_spot, e1, a1, a2, el, hb, e2]
        · have es : spotL ns = false := by unfold spotL; simp only [hb, false_and, and_false, decide_false]
          rw [es]
          generalize ns.getLastD 0 = l at *
          simp [g_is_spot, e1, a1, a2, el, hb]
      · have es : spotL ns = false := by
          unfold spotL
          rw [decide_eq_false_iff_not]
          rintro ⟨x, y, _⟩
          exact hl ⟨x, y⟩
        rw [es]
        by_cases a1 : (2 : Int) ≤ ns.length
        · have a2 : ¬ (ns.length : Int) ≤ 4 := by omega
          simp [g_is_spot, e1, a1, a2]
        · simp [g_is_spot, e1, a1]
    | _ => simp [numsB] at hn
  · have hn : numsB d = false := by simpa using hn
    have es : spotB d = false := by
      cases d with
      | tup ds =>
        have hn : ds.all isInt = false := hn
        rw [spotB_tup, hn]
        rfl
      | _ => rfl
    rw [hn] at e1
    simp [g_is_spot, e1, es]
theorem law_spot_of {φ1 φ2 : FF} (h1 : isNum φ1) (h2 : isGcd φ2) (d : D) (μ : Mu) (h : nc d) : trunc (bodyF 3 (g__law_is_spot φ1 φ2)) [d] μ = some (.bl (spotB d), μ) := by
  apply body_eq
  cases d with
  | cell n => simp [nc, cLt] at h
  | ro ds => simp [g__law_is_spot, spotB, oIsi, isiD]
  | tup ds =>
    by_cases hl : 2 ≤ ds.length ∧ ds.length ≤ 4
    · have a1 : ¬ (ds.length : Int) < 2 := by omega
      have a2 : ¬ (4 : Int) < ds.length := by omega
      have a3 : ds.length ≤ sizeLine := Nat.le_trans hl.2 (by decide)
      have ef := lcL_filter (all := ds) (h := hName 0) (tt := tNotF (toTr (MC (mCons (mVar 0) mNil) φ1))) (fe := mVar 0) (δb := blkE ["_law_one"] [some (D.tup ds), none, none] []) (p := fun d => !isInt d) (f := id) (μ := μ) ds fun x hx => by
        refine ⟨_, rfl, ?_, fun _ => ?_⟩ <;> simp [blkE, h1 x μ (nc_tup.mp h x hx)]
      by_cases hn : ds.all isInt = true
      · have hd := ints_of hn
        have ees : spotB (.tup ds) = spotL (ds.map intOf) := by rw [spotB_tup, hn]; rfl
        rw [ees]
        generalize ds.map intOf = ns at hd
        subst hd
        have fe : (ns.map D.int).filter (fun d => !isInt d) = [] := by simp
        rw [fe] at ef
        have hl : 2 ≤ ns.length ∧ ns.length ≤ 4 := by simpa using hl
        have hne : ns ≠ [] := fun z => by rw [z] at hl; simp at hl
        have el := atI_lastI hne
        by_cases hb : ns.getLastD 0 < 1
        · have es : spotL ns = false := by
            unfold spotL
            rw [decide_eq_false_iff_not]
            rintro ⟨_, _, z, _⟩
            omega
          rw [es]
          generalize ns.getLastD 0 = l at *
          simp only [List.length_map] at a1 a2 a3
          simp [g__law_is_spot, a1, a2, a3, ef, show 0 ≤ sizeLine by decide, el, hb]
        · have es : spotL ns = ((gcdF 0 ns : Int) == 1) := by
            unfold spotL
            have hb : 1 ≤ ns.getLastD 0 := by omega
            simp only [hl.1, hl.2, hb, true_and]
            by_cases hg : gcdF 0 ns = 1
            · simp [hg]
            · have : ((gcdF 0 ns : Nat) : Int) ≠ 1 := by omega
              simp [hg, this]
          rw [es]
          generalize ns.getLastD 0 = l at *
          simp only [List.length_map] at a1 a2 a3
          simp [g__law_is_spot, a1, a2, a3, ef, show 0 ≤ sizeLine by decide, el, hb]
          refine for_inv (fun its δ μ' => ∃ (ms : List Int) (g : Nat) (o : Option D), its = ms.map D.int ∧ δ = [some (.tup (ns.map .int)), some (.int g), o] ∧ μ' = μ ∧ gcdF g ms = gcdF 0 ns) ?_ ?_ _ _ _ ⟨ns, 0, none, rfl, rfl, rfl, rfl⟩
          · rintro d r δ μ' ⟨ms, g, o, hi, rfl, rfl, hg⟩
            cases ms with
            | nil => cases hi
            | cons m ms =>
              cases hi
              have := h2 g m μ'
              simp [this]
              exact ⟨ms, rfl, _, rfl, hg⟩
          · rintro δ μ' ⟨ms, g, o, hi, rfl, rfl, hg⟩
            cases ms with
            | nil =>
              have hg : g = gcdF 0 ns := hg
              subst hg
              simp
            | cons m ms => cases hi
      · have hn : ds.all isInt = false := by simpa using hn
        have es : spotB (.tup ds) = false := by rw [spotB_tup, hn]; rfl
        have fe : (ds.filter (fun d => !isInt d)).isEmpty = false := by
          rw [List.all_eq_false] at hn
          obtain ⟨x, hx, hi⟩ := hn
          cases hf : ds.filter (fun d => !isInt d) with
          | nil => rw [List.filter_eq_nil_iff] at hf; exact absurd (by simpa using hi) (hf x hx)
          | cons a b => rfl
        rw [List.map_id] at ef
        rw [es]
        simp [g__law_is_spot, a1, a2, a3, ef, show 0 ≤ sizeLine by decide, fe]
    · have es : spotB (.tup ds) = false := by
        rw [spotB_tup]
        unfold spotL
        rw [Bool.and_eq_false_iff]
        right
        rw [decide_eq_false_iff_not]
        rintro ⟨x, y, _⟩
        simp at x y
        exact hl ⟨x, y⟩
      rw [es]
      by_cases a1 : (ds.length : Int) < 2
      · simp [g__law_is_spot, a1]
      · have a2 : (4 : Int) < ds.length := by omega
        simp [g__law_is_spot, a1, a2]
  | _ => simp [g__law_is_spot, spotB]
theorem says_of (k l : Bool) (μ : Mu) : trunc (bodyF 2 g__law_says) [.bl k, .bl l] μ = some (.bl (k == l), μ) := by
  apply body_eq
  simp [g__law_says]
noncomputable def odds : List D := [.non, .bl true, .bl false, .int 0, .int 1, .int (-1), .int 7, .str "", .str "1", .str "spot", .tup [], .lst [], .dic [], .tup [.int 1], .lst [.int 1], .tup [.int 0, .int 1], .lst [.int 0, .int 1], .tup [.tup [.int 0, .int 1]], .int (10 ^ 30),
  .tup [.int 1, .int 1], .tup [.bl true, .int 1], .tup [.int 0, .bl true], .dic [(.inl 0, .int 1)], .tup [.non, .int 1], .tup [.str "0", .int 1], .tup [.int 0, .int 0, .int 1], .lst [.tup [.int 0, .int 1]], .int (10 ^ 64), .tup [.int 2, .int 2]]
theorem odds_nc : ∀ d ∈ odds, nc d := by
  have h : cLtL 0 odds = true := by unfold odds; simp [cLtL, cLt, cLtK]
  exact ncL_iff.mp h
def isOdd (φ : FF) : Prop := ∀ (x : Int) (μ : Mu), ∃ d, φ [.int x] μ = some (d, μ) ∧ nc d
theorem odds_nro : ∀ d ∈ odds, ∀ ds, d ≠ .ro ds := by
  intro d h ds e
  subst e
  unfold odds at h
  simp at h
theorem odd_mem (x : Int) (μ : Mu) : ∃ d, trunc (bodyF 2 g__law_odd) [.int x] μ = some (d, μ) ∧ d ∈ odds := by
  obtain ⟨i0, i1⟩ := fmod_rng (x := x) (m := 29) (by decide)
  obtain ⟨d, hd, ed⟩ := atI_mem (ds := odds) i0 i1
  refine ⟨d, ?_, hd⟩
  apply body_eq
  have e30 : oPow (.int 10) (.int 30) μ = some (.int (10 ^ 30), μ) := by unfold oPow; rfl
  have e64 : oPow (.int 10) (.int 64) μ = some (.int (10 ^ 64), μ) := by unfold oPow; rfl
  generalize hO : odds = O at *
  unfold g__law_odd
  simp [e30, e64, mDic1, keyD, -Int.reducePow]
  rw [show ([D.non, .bl true, .bl false, .int 0, .int 1, .int (-1), .int 7, .str "", .str "1", .str "spot", .tup [], .lst [], .dic [], .tup [.int 1], .lst [.int 1], .tup [.int 0, .int 1], .lst [.int 0, .int 1], .tup [.tup [.int 0, .int 1]], .int (10 ^ 30),
  .tup [.int 1, .int 1], .tup [.bl true, .int 1], .tup [.int 0, .bl true], .dic [(.inl 0, .int 1)], .tup [.non, .int 1], .tup [.str "0", .int 1], .tup [.int 0, .int 0, .int 1], .lst [.tup [.int 0, .int 1]], .int (10 ^ 64), .tup [.int 2, .int 2]] : List D) = O from hO]
  rw [ed]
  simp
theorem odd_of : isOdd (trunc (bodyF 2 g__law_odd)) := fun x μ => by
  obtain ⟨d, e, h⟩ := odd_mem x μ
  exact ⟨d, e, odds_nc d h⟩
theorem six_pos {n d : Nat} {i : Int} (h : 0 ≤ i) : HT.sIx n d (some i) = min i.toNat n := if_neg (by omega)
theorem ok_atI {ds : List D} {i : Int} {Q : Post D} (h0 : 0 ≤ i) (h1 : i < ds.length) (h : ∀ d ∈ ds, Q.run d) : OkI (atI ds i) (Q := Q) := by
  obtain ⟨d, hd, e⟩ := atI_mem h0 h1
  rw [e, Ok_some]
  exact h d hd
theorem sl_init {ds : List D} {μ : Mu} (h : ds ≠ []) : oSl (.tup ds) none (some (-1)) μ = some (.tup ds.dropLast, μ) := by
  have hl : 0 < ds.length := List.length_pos_iff.mpr h
  have e : HT.sIx ds.length ds.length (some (-1)) = ds.length - 1 := by show (if (-1 : Int) < 0 then ((-1 : Int) + ds.length).toNat else min (-1 : Int).toNat ds.length) = _; rw [if_pos (by decide)]; omega
  have e0 : HT.sIx ds.length 0 none = 0 := rfl
  unfold oSl L3.cutD
  simp only [e, e0]
  rw [if_neg (by omega)]
  simp [List.dropLast_eq_take]
theorem slL_to {ds : List D} {i : Int} {μ : Mu} (h0 : 0 ≤ i) : oSl (.lst ds) none (some i) μ = some (.lst (ds.take i.toNat), μ) := by
  have h0' : 0 ≤ i := by omega
  have e : HT.sIx ds.length ds.length (some i) = min i.toNat ds.length := by rw [six_pos h0']
  have e0 : HT.sIx ds.length 0 none = 0 := rfl
  unfold oSl L3.cutD
  simp only [e, e0]
  simp [List.take_eq_take_iff]
theorem slL_from {ds : List D} {i : Int} {μ : Mu} (h0 : 0 ≤ i) : oSl (.lst ds) (some i) none μ = some (.lst (ds.drop i.toNat), μ) := by
  have h0' : 0 ≤ i := by omega
  have e : HT.sIx ds.length 0 (some i) = min i.toNat ds.length := by rw [six_pos h0']
  have e0 : HT.sIx ds.length ds.length none = ds.length := rfl
  unfold oSl L3.cutD
  simp only [e, e0]
  congr 3
  by_cases h : i.toNat ≤ ds.length
  · rw [Nat.min_eq_left h]; simp [List.take_of_length_le]
  · rw [Nat.min_eq_right (by omega)]; simp; omega
def muD (L : List Int) : Mu := [some (L.map .int)]
def DlD (L : List Int) : Prop := ∀ x ∈ L, Dr x
theorem sm_fdivA {a : Nat} {x y : Int} (hx : Sm a x) (hy : 0 < y) : Sm a (x.fdiv y) := by
  rw [Int.fdiv_eq_ediv_of_nonneg x (by omega)]
  unfold Sm at *
  have := Int.natAbs_ediv_le_natAbs x y
  omega
theorem zeros {k : Int} {μ : Mu} (h0 : 0 ≤ k) (h1 : k ≤ 500) : ∃ zs, oMul (.tup [.int 0]) (.int k) μ = some (.tup zs, μ) ∧ zs.length = k.toNat ∧ ∀ z ∈ zs, z = D.int 0 := by
  refine ⟨(List.replicate k.toNat [D.int 0]).flatten, if_pos ⟨by omega, by omega, ?_⟩, by simp, fun z hz => by simp at hz; exact hz.2⟩
  simp only [List.length_cons, List.length_nil]
  exact Nat.le_trans (by omega : _ ≤ 1000) (by decide)
theorem mulL {ds : List D} {k : Int} {μ : Mu} (h0 : 0 ≤ k) (h1 : k ≤ 1000) (hl : ds.length * k.toNat ≤ 1000) : oMul (.lst ds) (.int k) μ = some (.lst (List.replicate k.toNat ds).flatten, μ) := if_pos ⟨by omega, by omega, Nat.le_trans hl (by decide)⟩
theorem rng_len {a : Int} {n : Nat} : (rngI a n).length = n := by unfold rngI; simp
theorem draws_ex {φ : FF} (h : isDraws φ) (ns : List Int) (hn : ns.length ≤ 63) : ∃ L, φ [.ro (ns.map .int)] [] = some (.cell 0, muD L) ∧ DlD L := h ns hn
theorem law_end {φ : FF} {ns : List Int} (h : Ok (φ [.ro (ns.map .int)] []) (fun r => r.1 = .bl true)) : ∃ μ', φ [.ro (ns.map .int)] [] = some (.bl true, μ') := by
  obtain ⟨⟨d, μ'⟩, e, h⟩ := h
  have h : d = .bl true := h
  subst h
  exact ⟨μ', e⟩
theorem low_ex {φ : FF} (h : isLow φ) {b : Nat} (ns : List Int) (c : Int) (μ : Mu) (hc : 0 < c) (hs : Sm b c) (hb : b ≤ 4000) (hn : ∀ n ∈ ns, Sm b n) (hl : ns.length ≤ 50) (hne : ns ≠ []) :
    ∃ ms, φ [.lst (ns.map .int), .int c] μ = some (.tup (ms.map .int), μ) ∧ ms.length = ns.length + 1 ∧ (∀ m ∈ ms, Sm b m) ∧ ms = (ns ++ [c]).map fun n => n.fdiv (gcdF c.natAbs ns : Nat) := by
  have e := h ns c μ (by omega) (sm_mono hs hb) hl hne
  have e1 : sgn c = 1 := if_pos hc
  rw [e1, Int.one_mul] at e
  have g0 : gcdF c.natAbs ns ≠ 0 := gcdF_pos (.inl (by omega))
  refine ⟨(ns ++ [c]).map fun n => n.fdiv (gcdF c.natAbs ns : Nat), by rw [e, List.map_map]; rfl, by simp, fun m hm => ?_, rfl⟩
  obtain ⟨n, hn', rfl⟩ := List.mem_map.mp hm
  refine sm_fdivA ?_ (by omega)
  rcases List.mem_append.mp hn' with z | z
  · exact hn n z
  · rw [List.mem_singleton.mp z]; exact hs
end LG
set_option Elab.async false
set_option linter.all false
set_option maxRecDepth 100000
namespace LG
open PySem PySem.Spec PyProof.Rows L2 L3
@[simp] theorem set_last {α : Type} {l : List α} {x y : α} : (l ++ [x]).set l.length y = l ++ [y] := by simp [List.set_append]
mutual
theorem cLt_mono {m : Nat} : ∀ {d : D}, cLt 0 d = true → cLt m d = true
  | .non, _ => by simp [cLt]
  | .bl _, _ => by simp [cLt]
  | .int _, _ => by simp [cLt]
  | .str _, _ => by simp [cLt]
  | .tup ds, h => by rw [cLt] at h ⊢; exact cLtL_mono h
  | .lst ds, h => by rw [cLt] at h ⊢; exact cLtL_mono h
  | .ro ds, h => by rw [cLt] at h ⊢; exact cLtL_mono h
  | .dic ds, h => by rw [cLt] at h ⊢; exact cLtK_mono h
  | .cell n, h => by rw [cLt] at h; simp at h
theorem cLtL_mono {m : Nat} : ∀ {ds : List D}, cLtL 0 ds = true → cLtL m ds = true
  | [], _ => by rw [cLtL]
  | d :: ds, h => by
    rw [cLtL, Bool.and_eq_true] at h ⊢
    exact ⟨cLt_mono h.1, cLtL_mono h.2⟩
theorem cLtK_mono {m : Nat} : ∀ {ds : List (Key × D)}, cLtK 0 ds = true → cLtK m ds = true
  | [], _ => by rw [cLtK]
  | d :: ds, h => by
    rw [cLtK, Bool.and_eq_true] at h ⊢
    exact ⟨cLt_mono h.1, cLtK_mono h.2⟩
end
def MuOk (μ : Mu) : Prop := ∀ ds, some ds ∈ μ → ∀ d ∈ ds, nc d
theorem MuOk.c {μ : Mu} (h : MuOk μ) (m : Nat) : cOk m μ = true := by
  unfold cOk
  rw [List.all_eq_true]
  intro o ho
  cases o with
  | none => rfl
  | some ds => exact cLtL_mono (ncL_iff.mpr (h ds ho))
theorem MuOk.nil : MuOk [] := fun ds h => by simp at h
theorem MuOk.cons {ds : List D} {μ : Mu} (h1 : ∀ d ∈ ds, nc d) (h2 : MuOk μ) : MuOk (some ds :: μ) := fun es h => by
  rcases List.mem_cons.mp h with z | z
  · cases z; exact h1
  · exact h2 es z
theorem MuOk.tl {o : Option (List D)} {μ : Mu} (h : MuOk (o :: μ)) : MuOk μ := fun ds hd => h ds (by simp [hd])
theorem MuOk.dr {L : List Int} {μ : Mu} (h : MuOk μ) : MuOk (some (L.map .int) :: μ) := MuOk.cons nc_ints h
theorem trunc_ok {φ : FF} {ds : List D} {μ μ' junk : Mu} {d : D} (h : φ ds μ = some (d, μ' ++ junk)) (hl : μ'.length = μ.length) (hd : nc d) (hm : MuOk μ') : trunc φ ds μ = some (d, μ') := by
  unfold trunc
  rw [h]
  simp only [Option.bind_some]
  have e : (μ' ++ junk).take μ.length = μ' := by rw [← hl]; simp
  rw [e, cLt_mono hd, hm.c]
  rfl
theorem ok_cut1 {φ : FF} {ds : List D} {μ : Mu} {P : D → Prop} (hm : MuOk μ) (h : Ok (φ ds μ) (fun r => ∃ junk, r.2 = μ ++ junk ∧ nc r.1 ∧ P r.1)) : ∃ d, trunc φ ds μ = some (d, μ) ∧ P d := by
  obtain ⟨⟨d, μ1⟩, e, junk, h1, h4, h5⟩ := h
  have h1 : μ1 = μ ++ junk := h1
  subst h1
  exact ⟨d, trunc_ok e rfl h4 hm, h5⟩
def isNextR (φ : FF) : Prop := ∀ (L : List Int) (rest : Mu), φ [.cell 0] (some (L.map .int) :: rest) = some (.int (L.headD 0), some (L.tail.map .int) :: rest)
theorem next_ofR : isNextR (trunc (bodyF 1 g__law_next)) := fun L rest => by
  have h1 : oEq (.cell 0) (.lst []) (some (L.map D.int) :: rest) = some (.bl L.isEmpty, some (L.map D.int) :: rest) := by
    unfold oEq rsv
    simp [pureD, pure_ints, depD, dep_ints, eqD, pureDL]
    cases L <;> simp [eqDL]
  refine trunc_len ?_ (by simp)
  unfold bodyF g__law_next
  have hz : 0 ≤ sizeLine := Nat.zero_le _
  cases L with
  | nil =>
    simp at h1
    simp [sSeq, sIf, toB, M2, mVar, MC, mNil, oLst, hz, h1, sRet, mC]
  | cons x t =>
    simp at h1
    simp [sSeq, sIf, toB, M2, mVar, MC, mNil, oLst, hz, h1, sRet, mC, sNext, mPop0]
theorem next_exR {φ : FF} (h : isNextR φ) {L : List Int} (hL : DlD L) (rest : Mu) : ∃ x L', φ [.cell 0] (some (L.map .int) :: rest) = some (.int x, some (L'.map .int) :: rest) ∧ Dr x ∧ DlD L' := by
  refine ⟨L.headD 0, L.tail, h L rest, ?_, fun x hx => hL x (List.mem_of_mem_tail hx)⟩
  cases L with
  | nil => exact ⟨by decide, by decide⟩
  | cons a b => exact hL a (by simp)
def PtL (d : Nat) (ns : List Int) (b : Int) : Prop := ns.length = d ∧ (∀ n ∈ ns, n.natAbs ≤ 10000) ∧ 1 ≤ b ∧ b ≤ 60
def PtOk (d : Nat) (p : D) : Prop := ∃ ns b, p = .tup ((ns ++ [b]).map .int) ∧ PtL d ns b
theorem PtOk.nc {d : Nat} {p : D} (h : PtOk d p) : nc p := by
  obtain ⟨ns, b, rfl, _⟩ := h
  exact nc_tup.mpr nc_ints
theorem natAbs_fdiv {x y : Int} (hy : 0 < y) : (x.fdiv y).natAbs ≤ x.natAbs := by
  rw [Int.fdiv_eq_ediv_of_nonneg x (by omega)]
  exact Int.natAbs_ediv_le_natAbs x y
theorem low_pt {φ : FF} (h : isLow φ) {d : Nat} {ns : List Int} {b : Int} (μ : Mu) (hd : 1 ≤ d) (hd3 : d ≤ 3) (hp : PtL d ns b) : ∃ p, φ [.lst (ns.map .int), .int b] μ = some (p, μ) ∧ PtOk d p := by
  obtain ⟨hl, hn, b0, b1⟩ := hp
  have e := h ns b μ (by omega) (by unfold Sm; have : (2 : Nat) ^ 4000 ≥ 2 ^ 7 := Nat.pow_le_pow_right (by decide) (by decide); omega) (by omega) (fun z => by rw [z] at hl; simp at hl; omega)
  have e1 : sgn b = 1 := if_pos (by omega)
  rw [e1, Int.one_mul] at e
  have g0 : gcdF b.natAbs ns ≠ 0 := gcdF_pos (.inl (by omega))
  have gd := (gcdF_dvd ns b.natAbs).2
  have gle := Nat.le_of_dvd (by omega) gd
  refine ⟨_, e, ns.map (fun n => n.fdiv (gcdF b.natAbs ns : Nat)), b.fdiv (gcdF b.natAbs ns : Nat), by simp [List.map_append], by simp [hl], fun m hm => ?_, ?_, ?_⟩
  · obtain ⟨n, hn', rfl⟩ := List.mem_map.mp hm
    have := natAbs_fdiv (x := n) (y := (gcdF b.natAbs ns : Nat)) (by omega)
    have := hn n hn'
    omega
  · rw [Int.fdiv_eq_ediv_of_nonneg b (by omega)]
    exact (Int.le_ediv_iff_mul_le (by omega)).mpr (by omega)
  · have := natAbs_fdiv (x := b) (y := (gcdF b.natAbs ns : Nat)) (by omega)
    omega
def isPlace (φ : FF) : Prop := ∀ (x k b : Int) (μ : Mu), Dr x → 0 ≤ k → k ≤ 4 → 0 ≤ b → b ≤ 500 → ∃ t u : Int, φ [.int x, .int k, .int b] μ = some (.tup [.int t, .int u], μ) ∧ t.natAbs ≤ 10000 ∧ 1 ≤ u ∧ u ≤ 60
theorem place_of : isPlace (trunc (bodyF 3 g__law_place)) := fun x k b μ hx k0 k4 b0 b5 => by
  have q1 := fmod_rng (x := x) (m := 20001) (by decide)
  have q2 := fmod_rng (x := x.fdiv 20001) (m := 60) (by decide)
  have q3 := fmod_rng (x := x) (m := 5) (by decide)
  have q4 := fmod_rng (x := x) (m := 11) (by decide)
  have q5 := fmod_rng (x := x.fdiv 11) (m := 3) (by decide)
  have q6 := fmod_rng (x := x) (m := 4) (by decide)
  have q7 := fmod_rng (x := x) (m := 2) (by decide)
  have q8 := fmod_rng (x := b) (m := 7) (by decide)
  have d1 := a_div (i := x) (j := 20001) (μ := μ) (by decide) (by decide)
  have d2 := a_div (i := x) (j := 11) (μ := μ) (by decide) (by decide)
  have hk : k = 0 ∨ k = 1 ∨ k = 2 ∨ k = 3 ∨ k = 4 := by omega
  rcases hk with rfl | rfl | rfl | rfl | rfl
  · refine ⟨x.fmod 20001 - 10000, 1 + (x.fdiv 20001).fmod 60, body_eq ?_, by omega, by omega, by omega⟩
    simp [g__law_place, d1]
  · refine ⟨x.fmod 5 - 2, 1, body_eq ?_, by omega, by omega, by omega⟩
    simp [g__law_place]
  · refine ⟨x.fmod 11 - 5, 1 + (x.fdiv 11).fmod 3, body_eq ?_, by omega, by omega, by omega⟩
    simp [g__law_place, d2]
  · obtain ⟨y, hy, e⟩ := atI_mem (ds := [D.int 0, .int 0, .int 1, .int 40]) q6.1 q6.2
    have hy : ∃ z : Int, y = .int z ∧ 0 ≤ z ∧ z ≤ 40 := by
      simp only [List.mem_cons, List.not_mem_nil, or_false] at hy
      rcases hy with rfl | rfl | rfl | rfl <;> exact ⟨_, rfl, by decide, by decide⟩
    obtain ⟨z, rfl, z0, z1⟩ := hy
    refine ⟨b + z, 1, body_eq ?_, by omega, by omega, by omega⟩
    simp [g__law_place, e]
  · have s1 : Sm 10 (x.fmod 2) := by
      unfold Sm
      have : (2 : Nat) ^ 10 = 1024 := by decide
      omega
    have s2 : Sm 10 (1 + b.fmod 7) := by
      unfold Sm
      have : (2 : Nat) ^ 10 = 1024 := by decide
      omega
    have m := a_mul (μ := μ) (mul_ok s1 s2 (by decide))
    have hb : (x.fmod 2 * (1 + b.fmod 7)).natAbs ≤ 10000 := by
      have h2 : x.fmod 2 = 0 ∨ x.fmod 2 = 1 := by omega
      rcases h2 with h2 | h2 <;> rw [h2] <;> omega
    refine ⟨x.fmod 2 * (1 + b.fmod 7), 1, body_eq ?_, hb, by omega, by omega⟩
    simp [g__law_place, m]
theorem rng_mem {a : Int} {n : Nat} {d : D} (h : d ∈ rngI a n) : ∃ k : Int, d = .int k ∧ a ≤ k ∧ k < a + n := by
  unfold rngI at h
  obtain ⟨k, hk, rfl⟩ := List.mem_map.mp h
  have := List.mem_range.mp hk
  exact ⟨_, rfl, by omega, by omega⟩
def isPoint (φ : FF) : Prop := ∀ (x d k b : Int) (μ : Mu), MuOk μ → Dr x → 1 ≤ d → d ≤ 3 → 0 ≤ k → k ≤ 4 → 0 ≤ b → b ≤ 400 → ∃ p, φ [.int x, .int d, .int k, .int b] μ = some (p, μ) ∧ PtOk d.toNat p
theorem point_of {φ1 φ2 φ3 : FF} (h1 : isMix φ1) (h2 : isPlace φ2) (h3 : isLow φ3) : isPoint (trunc (bodyF 9 (g__law_point φ1 φ2 φ3))) := fun x d k b μ hm hx d1 d3 k0 k4 b0 b4 => by
  apply ok_cut1 hm
  apply w_body
  unfold g__law_point
  simp [rng1 (j := d) (by omega) (by omega)]
  refine for_inv (fun its δ μ' => ∃ (acc : List Int) (bot : Int) (o6 o7 o8 : Option D), μ' = μ ++ [some (acc.map .int)] ∧ acc.length + its.length = d.toNat ∧ (∀ n ∈ acc, n.natAbs ≤ 10000) ∧ (1 ≤ bot ∧ bot ≤ 60) ∧ (∀ i ∈ its, ∃ k : Int, i = .int k ∧ 0 ≤ k ∧ k < 3) ∧
    δ = [some (.int x), some (.int d), some (.int k), some (.int b), some (.cell μ.length), some (.int bot), o6, o7, o8]) ?_ ?_ _ _ _ ⟨[], 1, none, none, none, rfl, by simp [rng_len], by simp, by omega, fun i hi => by
      obtain ⟨k, rfl, h0, h1⟩ := rng_mem hi
      exact ⟨k, rfl, by omega, by omega⟩, rfl⟩
  · rintro i rest δ μ' ⟨acc, bot, o6, o7, o8, rfl, hl, ha, hb, hi, rfl⟩
    obtain ⟨j, rfl, j0, j1⟩ := hi i (by simp)
    obtain ⟨y, ey, hy⟩ := h1 x (j + 1) (μ ++ [some (acc.map .int)]) (by omega) (by omega)
    obtain ⟨t, u, et, ht, u0, u1⟩ := h2 y k (b + j) (μ ++ [some (acc.map .int)]) hy k0 k4 (by omega) (by omega)
    have hz : acc.length < sizeLine := Nat.lt_of_lt_of_le (by omega : acc.length < 1000) (by decide)
    have fin : ∀ bot', 1 ≤ bot' → bot' ≤ 60 → ∃ (acc' : List Int) (bot : Int) (o6 o7 o8 : Option D), μ ++ [some (acc.map D.int ++ [.int t])] = μ ++ [some (acc'.map .int)] ∧ acc'.length + rest.length = d.toNat ∧ (∀ n ∈ acc', n.natAbs ≤ 10000) ∧ (1 ≤ bot ∧ bot ≤ 60) ∧ (∀ i ∈ rest, ∃ k : Int, i = .int k ∧ 0 ≤ k ∧ k < 3) ∧
        ([some (.int x), some (.int d), some (.int k), some (.int b), some (.cell μ.length), some (.int bot'), some (.int j), some (.int t), some (.int u)] : En) = [some (.int x), some (.int d), some (.int k), some (.int b), some (.cell μ.length), some (.int bot), o6, o7, o8] := fun bot' q1 q2 =>
      ⟨acc ++ [t], bot', _, _, _, by simp, by simp at hl ⊢; omega, fun n hn => by
        rcases List.mem_append.mp hn with z | z
        · exact ha n z
        · rw [List.mem_singleton.mp z]; exact ht, ⟨q1, q2⟩, fun i h => hi i (by simp [h]), rfl⟩
    by_cases hj : j = 0
    · subst hj
      rw [show (0 : Int) + 1 = 1 from rfl] at ey
      rw [show b + (0 : Int) = b by omega] at et
      simp [ey, et, mApp, liveAt, hz]
      simpa using fin u u0 u1
    · have hjb : (j == 0) = false := by simpa using hj
      simp [ey, et, hjb, mApp, liveAt, hz]
      simpa using fin bot hb.1 hb.2
  · rintro δ μ' ⟨acc, bot, o6, o7, o8, rfl, hl, ha, hb, hi, rfl⟩
    obtain ⟨p, ep, hp⟩ := low_pt h3 (d := d.toNat) (ns := acc) (b := bot) (μ ++ [none]) (by omega) (by omega) ⟨by simpa using hl, ha, hb⟩
    simp [ep]
    exact ⟨hp.nc, hp⟩
end LG
set_option Elab.async false
set_option linter.all false
set_option maxRecDepth 100000
namespace LG
open PySem PySem.Spec PyProof.Rows L2 L3
section
variable {α : Type} {r j : List α} {x y z : α}
@[simp] theorem get_mid : (r ++ x :: j)[r.length]? = some x := by simp
@[simp] theorem set_mid : (r ++ x :: j).set r.length y = r ++ y :: j := by simp [List.set_append]
@[simp] theorem get_end : (r ++ x :: (j ++ [y]))[r.length + (j.length + 1)]? = some y := by
  rw [List.getElem?_append_right (by omega)]
  have : r.length + (j.length + 1) - r.length = j.length + 1 := by omega
  rw [this]
  simp
@[simp] theorem set_end : (r ++ x :: (j ++ [y])).set (r.length + (j.length + 1)) z = r ++ x :: (j ++ [z]) := by
  rw [List.set_append_right _ _ (by omega)]
  have : r.length + (j.length + 1) - r.length = j.length + 1 := by omega
  rw [this]
  simp
end
theorem atI_int {ys : List Int} {k : Int} (h0 : 0 ≤ k) (h1 : k < ys.length) : atI (ys.map D.int) k = some (.int (ys.getD k.toNat 0)) ∧ ys.getD k.toNat 0 ∈ ys := by
  have hk : k.toNat < ys.length := by omega
  have e : ys.getD k.toNat 0 = ys[k.toNat] := by simp [List.getD, hk]
  refine ⟨?_, by rw [e]; exact List.getElem_mem hk⟩
  unfold atI ixN
  rw [if_pos h0, if_pos (by simpa using h1), e]
  simp [hk]
theorem lc_next {φ : FF} (h : isNextR φ) (a c : Int) (ha : 0 < a) (all : List D) (rest : Mu) : ∀ (its : List D) (L : List Int), DlD L → ∃ ys L' : List Int,
    lcL ⟨all, none⟩ (hName 0) tYesF (M2 (M2 (MC (mCons (mVar 1) mNil) φ) (mC (.int a)) oMod) (mC (.int c)) oSub) [none, some (.cell 0)] its (some (L.map .int) :: rest) = some (ys.map .int, some (L'.map .int) :: rest) ∧ DlD L' ∧ ys.length = its.length ∧ ∀ y ∈ ys, -c ≤ y ∧ y < a - c
  | [], L, hL => ⟨[], L, by unfold lcL; simp [ok_none], hL, rfl, by simp⟩
  | d :: its, L, hL => by
    obtain ⟨x, L1, e1, hx, hL1⟩ := next_exR h hL rest
    obtain ⟨ys, L', e, hL', hl, hs⟩ := lc_next h a c ha all rest its L1 hL1
    obtain ⟨q0, q1⟩ := fmod_rng (x := x) (m := a) ha
    have ha' : a ≠ 0 := by omega
    refine ⟨(x.fmod a - c) :: ys, L', ?_, hL', by simp [hl], fun n hn => ?_⟩
    · unfold lcL
      simp [ok_none, tYesF, e1, ha', e]
    · rcases List.mem_cons.mp hn with z | z
      · rw [z]; omega
      · exact hs n z
def isLine (φ : FF) : Prop := ∀ (L : List Int) (rest : Mu) (d many : Int), DlD L → MuOk rest → 1 ≤ d → d ≤ 3 → 0 ≤ many → many ≤ 40 →
  ∃ ps L', φ [.cell 0, .int d, .int many] (some (L.map .int) :: rest) = some (.lst ps, some (L'.map .int) :: rest) ∧ DlD L' ∧ ps.length = many.toNat ∧ ∀ p ∈ ps, PtOk d.toNat p
theorem lst_ex {φ : FF} {as : List D} {μ : Mu} {P : List D → List Int → Prop} {rest : Mu} (hl : μ.length = rest.length + 1) (hm : MuOk rest) (h : Ok (φ as μ) (fun r => ∃ ps L junk, r = (.lst ps, some (L.map .int) :: (rest ++ junk)) ∧ (∀ p ∈ ps, nc p) ∧ P ps L)) :
    ∃ ps L', trunc φ as μ = some (.lst ps, some (L'.map .int) :: rest) ∧ P ps L' := by
  obtain ⟨r, e, ps, L, junk, h1, h2, h3⟩ := h
  have h1 : r = (.lst ps, some (L.map .int) :: (rest ++ junk)) := h1
  rw [h1] at e
  exact ⟨ps, L, trunc_ok (junk := junk) (by rw [e]; rfl) (by simp [hl]) (nc_lst.mpr h2) hm.dr, h3⟩
theorem on_line_of {φ1 φ2 : FF} (h1 : isNextR φ1) (h2 : isLow φ2) : isLine (trunc (bodyF 8 (g__law_on_line φ1 φ2))) := fun L rest d many hL hm d1 d3 m0 m40 => by
  apply lst_ex (by simp) hm
  apply w_body
  unfold g__law_on_line
  obtain ⟨ys, L1, e1, hL1, hl1, hs1⟩ := lc_next h1 41 20 (by decide) (rngI 0 d.toNat) rest (rngI 0 d.toNat) L hL
  obtain ⟨zs, L2, e2, hL2, hl2, hs2⟩ := lc_next h1 7 3 (by decide) (rngI 0 d.toNat) rest (rngI 0 d.toNat) L1 hL1
  rw [rng_len] at hl1 hl2
  have zd : d.toNat ≤ 1000 := by omega
  simp [rng1 (j := d) (by omega) (by omega), rng1 (j := many) (by omega) (by omega), rng_len, zd, blkE, e1, e2]
  refine for_inv (fun its δ μ' => ∃ (L : List Int) (acc : List D) (o6 o7 : Option D), μ' = some (L.map .int) :: (rest ++ [some acc]) ∧ DlD L ∧ (∀ p ∈ acc, PtOk d.toNat p) ∧ acc.length + its.length = many.toNat ∧
    δ = [some (.cell 0), some (.int d), some (.int many), some (.lst (ys.map .int)), some (.lst (zs.map .int)), some (.cell (rest.length + 1)), o6, o7]) ?_ ?_ _ _ _ ⟨L2, [], none, none, rfl, hL2, by simp, by simp [rng_len], rfl⟩
  · rintro i its δ μ' ⟨L, acc, o6, o7, rfl, hL, ha, hl, rfl⟩
    obtain ⟨x, L3, e3, hx, hL3⟩ := next_exR h1 hL (rest ++ [some acc])
    obtain ⟨q0, q1⟩ := fmod_rng (x := x) (m := 13) (by decide)
    generalize ht : x.fmod 13 - 6 = t
    have ht1 : t.natAbs ≤ 6 := by omega
    have ec := lcL_map (all := rngI 0 d.toNat) (h := hName 0) (fe := M2 (M2 (mVar 1) (mVar 0) oIx) (M2 (mVar 2) (M2 (mVar 3) (mVar 0) oIx) oMul) oAdd) (δb := [none, some (.lst (ys.map .int)), some (.int t), some (.lst (zs.map .int))])
      (f := fun i => .int (ys.getD (intOf i).toNat 0 + t * zs.getD (intOf i).toNat 0)) (μ := some (L3.map .int) :: (rest ++ [some acc])) (rngI 0 d.toNat) fun i hi => by
        obtain ⟨k, rfl, k0, k1⟩ := rng_mem hi
        obtain ⟨a1, _⟩ := atI_int (ys := ys) (k := k) (by omega) (by omega)
        obtain ⟨a2, b2⟩ := atI_int (ys := zs) (k := k) (by omega) (by omega)
        have b3 := hs2 _ b2
        have mm := oMul_int (x := t) (y := zs.getD k.toNat 0) (some (L3.map .int) :: (rest ++ [some acc])) (a := 3) (b := 3) (by unfold Sm; omega) (by unfold Sm; omega) (by decide)
        refine ⟨_, rfl, ?_⟩
        simp only [intOf_int]
        generalize zs.getD k.toNat 0 = c2 at *
        generalize ys.getD k.toNat 0 = c1 at *
        simp [a1, a2, mm]
    have ep : (rngI 0 d.toNat).map (fun i => D.int (ys.getD (intOf i).toNat 0 + t * zs.getD (intOf i).toNat 0)) = ((rngI 0 d.toNat).map (fun i => ys.getD (intOf i).toNat 0 + t * zs.getD (intOf i).toNat 0)).map D.int := by simp
    rw [ep] at ec
    obtain ⟨p, e4, hp⟩ := low_pt h2 (d := d.toNat) (ns := (rngI 0 d.toNat).map (fun i => ys.getD (intOf i).toNat 0 + t * zs.getD (intOf i).toNat 0)) (b := 1) (some (L3.map .int) :: (rest ++ [some acc])) (by omega) (by omega) ⟨by simp [rng_len], fun n hn => by
      obtain ⟨i, hi, rfl⟩ := List.mem_map.mp hn
      obtain ⟨k, rfl, k0, k1⟩ := rng_mem hi
      obtain ⟨_, b1⟩ := atI_int (ys := ys) (k := k) (by omega) (by omega)
      obtain ⟨_, b2⟩ := atI_int (ys := zs) (k := k) (by omega) (by omega)
      have b3 := hs1 _ b1
      have b4 := hs2 _ b2
      simp only [intOf_int]
      generalize zs.getD k.toNat 0 = c2 at *
      generalize ys.getD k.toNat 0 = c1 at *
      have h1 : (t * c2).natAbs ≤ 6 * 3 := by rw [Int.natAbs_mul]; exact Nat.mul_le_mul ht1 (by omega)
      omega, by decide, by decide⟩
    have hz : acc.length < sizeLine := Nat.lt_of_lt_of_le (by omega : acc.length < 1000) (by decide)
    generalize ((rngI 0 d.toNat).map (fun i => ys.getD (intOf i).toNat 0 + t * zs.getD (intOf i).toNat 0)) = ms at *
    simp [e3, ht, rng1 (j := d) (by omega) (by omega), rng_len, zd, blkE, ec, e4, mApp, liveAt, hz]
    refine ⟨L3, acc ++ [p], by simp, hL3, fun q hq => ?_, by simp at hl ⊢; omega⟩
    rcases List.mem_append.mp hq with z | z
    · exact ha q z
    · rw [List.mem_singleton.mp z]; exact hp
  · rintro δ μ' ⟨L, acc, o6, o7, rfl, hL, ha, hl, rfl⟩
    simp
    exact ⟨acc, L, ⟨rfl, rfl⟩, fun p hp => (ha p hp).nc, hL, by simpa using hl, ha⟩
theorem flat_of {φ1 φ2 : FF} (h1 : isNextR φ1) (h2 : isLow φ2) : isLine (trunc (bodyF 9 (g__law_flat φ1 φ2))) := fun L rest d many hL hm d1 d3 m0 m40 => by
  apply lst_ex (by simp) hm
  apply w_body
  unfold g__law_flat
  obtain ⟨x1, L1, e1, hx1, hL1⟩ := next_exR h1 hL rest
  obtain ⟨x2, L2, e2, hx2, hL2⟩ := next_exR h1 hL1 rest
  obtain ⟨q0, q1⟩ := fmod_rng (x := x1) (m := 5) (by decide)
  obtain ⟨q2, q3⟩ := fmod_rng (x := x2) (m := 5) (by decide)
  generalize hf : x1.fmod 5 - 2 = f
  generalize hs : x2.fmod 5 - 2 = s
  have f1 : f.natAbs ≤ 2 := by omega
  have s1 : s.natAbs ≤ 2 := by omega
  simp [e1, e2, hf, hs, rng1 (j := many) (by omega) (by omega)]
  refine for_inv (fun its δ μ' => ∃ (L : List Int) (acc : List D) (junk : Mu) (o6 o7 o8 : Option D), μ' = some (L.map .int) :: (rest ++ some acc :: junk) ∧ DlD L ∧ (∀ p ∈ acc, PtOk d.toNat p) ∧ acc.length + its.length = many.toNat ∧
    δ = [some (.cell 0), some (.int d), some (.int many), some (.int f), some (.int s), some (.cell (rest.length + 1)), o6, o7, o8]) ?_ ?_ _ _ _ ⟨L2, [], [], none, none, none, rfl, hL2, by simp, by simp [rng_len], rfl⟩
  · rintro i its δ μ' ⟨L, acc, junk, o6, o7, o8, rfl, hL, ha, hl, rfl⟩
    obtain ⟨x, M3, e3, hx, hM3⟩ := next_exR h1 hL (rest ++ some acc :: junk)
    have b1 := fmod_rng (x := x) (m := 9) (by decide)
    have b2 := fmod_rng (x := x.fdiv 9) (m := 9) (by decide)
    have b3 := fmod_rng (x := x.fdiv 81) (m := 9) (by decide)
    have v1 := a_div (i := x) (j := 9) (μ := some (M3.map .int) :: (rest ++ some acc :: junk)) (by decide) (by decide)
    have v2 := a_div (i := x) (j := 81) (μ := some (M3.map .int) :: (rest ++ some acc :: junk)) (by decide) (by decide)
    generalize ha1 : x.fmod 9 - 4 = a1
    generalize ha2 : (x.fdiv 9).fmod 9 - 4 = a2
    generalize ha3 : (x.fdiv 81).fmod 9 - 4 = a3
    have hz : acc.length < sizeLine := Nat.lt_of_lt_of_le (by omega : acc.length < 1000) (by decide)
    have fin : ∀ p, PtOk d.toNat p → ∀ (j' : Mu), ∃ (L : List Int) (acc' : List D) (junk : Mu), some (M3.map D.int) :: (rest ++ some (acc ++ [p]) :: j') = some (L.map .int) :: (rest ++ some acc' :: junk) ∧ DlD L ∧ (∀ p ∈ acc', PtOk d.toNat p) ∧ acc'.length + its.length = many.toNat := fun p hp j' => by
      refine ⟨M3, acc ++ [p], j', rfl, hM3, fun q hq => ?_, by simp at hl ⊢; omega⟩
      rcases List.mem_append.mp hq with z | z
      · exact ha q z
      · rw [List.mem_singleton.mp z]; exact hp
    have hdd : d = 1 ∨ d = 2 ∨ d = 3 := by omega
    rcases hdd with rfl | rfl | rfl
    · obtain ⟨p, e4, hp⟩ := low_pt h2 (d := 1) (ns := [a1]) (b := 1) (some (M3.map .int) :: (rest ++ some acc :: (junk ++ [none]))) (by decide) (by decide) ⟨rfl, by simp; omega, by decide, by decide⟩
      simp at e4
      have ec : L3.cutD [D.int a1, D.int a2, D.int a3] none (some 1) = [.int a1] := rfl
      simp [e3, v1, v2, ha1, ha2, ha3, ec, e4, mApp, liveAt, hz]
      simpa using fin p hp (junk ++ [none])
    · have m1 := oMul_int (x := f) (y := a1) (some (M3.map .int) :: (rest ++ some acc :: (junk ++ [some [D.int a1, .int a2]]))) (a := 5) (b := 5) (by unfold Sm; omega) (by unfold Sm; omega) (by decide)
      have m2 := oMul_int (x := s) (y := a1) (some (M3.map .int) :: (rest ++ some acc :: (junk ++ [some [D.int a1, .int a2]]))) (a := 5) (b := 5) (by unfold Sm; omega) (by unfold Sm; omega) (by decide)
      have bd : (f * a1 + s * a1).natAbs ≤ 10000 := by
        have c1 : (f * a1).natAbs ≤ 2 * 4 := by rw [Int.natAbs_mul]; exact Nat.mul_le_mul f1 (by omega)
        have c2 : (s * a1).natAbs ≤ 2 * 4 := by rw [Int.natAbs_mul]; exact Nat.mul_le_mul s1 (by omega)
        omega
      obtain ⟨p, e4, hp⟩ := low_pt h2 (d := 2) (ns := [a1, f * a1 + s * a1]) (b := 1) (some (M3.map .int) :: (rest ++ some acc :: (junk ++ [none]))) (by decide) (by decide) ⟨rfl, fun n hn => by
        simp at hn
        rcases hn with rfl | rfl
        · omega
        · exact bd, by decide, by decide⟩
      simp at e4
      have ec : L3.cutD [D.int a1, D.int a2, D.int a3] none (some 2) = [.int a1, .int a2] := rfl
      have at0 : atI [D.int a1, .int a2] 0 = some (.int a1) := rfl
      simp [e3, v1, v2, ha1, ha2, ha3, ec, itemsD, at0, m1, m2, L3.putF, ixN, e4, mApp, liveAt, hz]
      simpa using fin p hp (junk ++ [none])
    · have m1 := oMul_int (x := f) (y := a1) (some (M3.map .int) :: (rest ++ some acc :: (junk ++ [some [D.int a1, .int a2, .int a3]]))) (a := 5) (b := 5) (by unfold Sm; omega) (by unfold Sm; omega) (by decide)
      have m2 := oMul_int (x := s) (y := a2) (some (M3.map .int) :: (rest ++ some acc :: (junk ++ [some [D.int a1, .int a2, .int a3]]))) (a := 5) (b := 5) (by unfold Sm; omega) (by unfold Sm; omega) (by decide)
      have bd : (f * a1 + s * a2).natAbs ≤ 10000 := by
        have c1 : (f * a1).natAbs ≤ 2 * 4 := by rw [Int.natAbs_mul]; exact Nat.mul_le_mul f1 (by omega)
        have c2 : (s * a2).natAbs ≤ 2 * 4 := by rw [Int.natAbs_mul]; exact Nat.mul_le_mul s1 (by omega)
        omega
      obtain ⟨p, e4, hp⟩ := low_pt h2 (d := 3) (ns := [a1, a2, f * a1 + s * a2]) (b := 1) (some (M3.map .int) :: (rest ++ some acc :: (junk ++ [none]))) (by decide) (by decide) ⟨rfl, fun n hn => by
        simp at hn
        rcases hn with rfl | rfl | rfl
        · omega
        · omega
        · exact bd, by decide, by decide⟩
      simp at e4
      have ec : L3.cutD [D.int a1, D.int a2, D.int a3] none (some 3) = [.int a1, .int a2, .int a3] := rfl
      have at0 : atI [D.int a1, .int a2, .int a3] 0 = some (.int a1) := rfl
      have at1 : atI [D.int a1, .int a2, .int a3] 1 = some (.int a2) := rfl
      simp [e3, v1, v2, ha1, ha2, ha3, ec, itemsD, at0, at1, m1, m2, L3.putF, ixN, e4, mApp, liveAt, hz]
      simpa using fin p hp (junk ++ [none])
  · rintro δ μ' ⟨L, acc, junk, o6, o7, o8, rfl, hL, ha, hl, rfl⟩
    simp
    exact ⟨acc, L, ⟨rfl, rfl⟩, fun p hp => (ha p hp).nc, hL, by simpa using hl, ha⟩
theorem pt_pure {d : Nat} : ∀ {ps : List D}, (∀ p ∈ ps, PtOk d p) → pureDL ps = true ∧ depDL ps ≤ 1
  | [], _ => ⟨by rw [pureDL], by rw [depDL]; decide⟩
  | p :: ps, h => by
    obtain ⟨ns, b, rfl, _⟩ := h p (by simp)
    obtain ⟨i1, i2⟩ := pt_pure (ps := ps) fun q hq => h q (by simp [hq])
    refine ⟨?_, ?_⟩
    · rw [pureDL, i1, pureD, pure_ints]; rfl
    · rw [depDL, depD, dep_ints]; omega
theorem ne_nil {n : Nat} {ps : List D} {μ : Mu} (h : μ[n]? = some (some ps)) (h1 : pureDL ps = true) (h2 : depDL ps < 90) : oNeE (.cell n) (.lst []) μ = some (.bl (!ps.isEmpty), μ) := by
  show oNe (.cell n) (.lst []) μ = _
  have e1 : rsv (.cell n) μ = .lst ps := by
    show (match μ[n]? with | some (some ds) => D.lst ds | _ => D.cell n) = _
    rw [h]
  have e2 : rsv (.lst []) μ = .lst [] := rfl
  unfold oNe
  rw [e1, e2]
  have e3 : pureD (.lst ps) = true := by rw [pureD]; exact h1
  have e4 : pureD (.lst []) = true := by rw [pureD, pureDL]
  have e5 : depD (.lst ps) < 100 := by rw [depD]; omega
  have e6 : eqD (.lst ps) (.lst []) = ps.isEmpty := by cases ps <;> rw [eqD] <;> simp [eqDL]
  rw [e3, e4, e6, if_pos ⟨rfl, e5⟩]
def isPoints (φ : FF) : Prop := ∀ (L : List Int) (rest : Mu) (d most : Int), DlD L → MuOk rest → 1 ≤ d → d ≤ 3 → 0 ≤ most → most ≤ 40 →
  ∃ ps L', φ [.cell 0, .int d, .int most] (some (L.map .int) :: rest) = some (.lst ps, some (L'.map .int) :: rest) ∧ DlD L' ∧ ps.length ≤ most.toNat ∧ ∀ p ∈ ps, PtOk d.toNat p
theorem points_of {φ1 φ2 φ3 φ4 : FF} (h1 : isNextR φ1) (h2 : isLine φ2) (h3 : isLine φ3) (h4 : isPoint φ4) : isPoints (trunc (bodyF 9 (g__law_points φ1 φ2 φ3 φ4))) := fun L rest d most hL hm d1 d3 m0 m40 => by
  apply lst_ex (by simp) hm
  apply w_body
  unfold g__law_points
  obtain ⟨x, L1, e1, hx, hL1⟩ := next_exR h1 hL rest
  obtain ⟨q0, q1⟩ := fmod_rng (x := x.fdiv 9) (m := most + 1) (by omega)
  obtain ⟨k0, k1⟩ := fmod_rng (x := x) (m := 9) (by decide)
  have v1 := a_div (i := x) (j := 9) (μ := some (L1.map .int) :: rest) (by decide) (by decide)
  have w1 := oMod_int (x := x.fdiv 9) (y := most + 1) (some (L1.map .int) :: rest) (by omega)
  generalize (x.fdiv 9).fmod (most + 1) = many at *
  generalize hk : x.fmod 9 = kind at *
  by_cases c5 : kind = 5
  · subst c5
    obtain ⟨ps, L2, e2, hL2, hl2, hp2⟩ := h2 L1 rest d many hL1 hm d1 d3 q0 (by omega)
    simp [e1, v1, w1, hk, e2]
    exact ⟨ps, L2, ⟨rfl, rfl⟩, fun p hp => (hp2 p hp).nc, hL2, by omega, hp2⟩
  · have c5b : (kind == 5) = false := by simpa using c5
    by_cases c6 : kind = 6
    · subst c6
      obtain ⟨ps, L2, e2, hL2, hl2, hp2⟩ := h3 L1 rest d many hL1 hm d1 d3 q0 (by omega)
      simp [e1, v1, w1, hk, e2]
      exact ⟨ps, L2, ⟨rfl, rfl⟩, fun p hp => (hp2 p hp).nc, hL2, by omega, hp2⟩
    · have c6b : (kind == 6) = false := by simpa using c6
      by_cases c7 : kind = 7
      · subst c7
        obtain ⟨p, e2, hp⟩ := h4 x d 2 0 (some (L1.map .int) :: rest) hm.dr hx d1 d3 (by decide) (by decide) (by decide) (by decide)
        have em : oMul (.lst [p]) (.int many) (some (L1.map .int) :: rest) = some (.lst (List.replicate many.toNat [p]).flatten, some (L1.map .int) :: rest) := if_pos ⟨by omega, by omega, by
          simp only [List.length_cons, List.length_nil]
          exact Nat.le_trans (by omega : _ ≤ 1000) (by decide)⟩
        simp [e1, v1, w1, hk, e2, em]
        have hps : ∀ q ∈ List.replicate many.toNat p, PtOk d.toNat q := fun q hq => by rw [(List.mem_replicate.mp hq).2]; exact hp
        exact ⟨_, L1, ⟨rfl, rfl⟩, fun q hq => (hps q hq).nc, hL1, by simp; omega, hps⟩
      · have c7b : (kind == 7) = false := by simpa using c7
        simp [e1, v1, w1, hk, c5b, c6b, c7b, rng1 (j := many) (by omega) (by omega)]
        refine for_inv (fun its δ μ' => ∃ (L : List Int) (acc : List D) (o7 o8 : Option D), μ' = some (L.map .int) :: (rest ++ [some acc]) ∧ DlD L ∧ (∀ p ∈ acc, PtOk d.toNat p) ∧ acc.length + its.length = many.toNat ∧
          δ = [some (.cell 0), some (.int d), some (.int most), some (.int x), some (.int many), some (.int kind), some (.cell (rest.length + 1)), o7, o8]) ?_ ?_ _ _ _ ⟨L1, [], none, none, rfl, hL1, by simp, by simp [rng_len], rfl⟩
        · rintro i its δ μ' ⟨L, acc, o7, o8, rfl, hL, ha, hl, rfl⟩
          obtain ⟨y, M3, e3, hy, hM3⟩ := next_exR h1 hL (rest ++ [some acc])
          have hz : acc.length < sizeLine := Nat.lt_of_lt_of_le (by omega : acc.length < 1000) (by decide)
          have fin : ∀ p, PtOk d.toNat p → ∃ (L : List Int) (acc' : List D), some (M3.map D.int) :: (rest ++ [some (acc ++ [p])]) = some (L.map .int) :: (rest ++ [some acc']) ∧ DlD L ∧ (∀ p ∈ acc', PtOk d.toNat p) ∧ acc'.length + its.length = many.toNat := fun p hp => by
            refine ⟨M3, acc ++ [p], rfl, hM3, fun q hq => ?_, by simp at hl ⊢; omega⟩
            rcases List.mem_append.mp hq with z | z
            · exact ha q z
            · rw [List.mem_singleton.mp z]; exact hp
          obtain ⟨pu, pd⟩ := pt_pure ha
          have en := ne_nil (n := rest.length + 1) (ps := acc) (μ := some (M3.map .int) :: (rest ++ [some acc])) (by simp) pu (by omega)
          have t3 := fmod_rng (x := y) (m := 3) (by decide)
          have t5 := fmod_rng (x := y) (m := 5) (by decide)
          have dv3 := a_div (i := y) (j := 3) (μ := some (M3.map .int) :: (rest ++ [some acc])) (by decide) (by decide)
          have dv7 := a_div (i := y) (j := 7) (μ := some (M3.map .int) :: (rest ++ [some acc])) (by decide) (by decide)
          have mm := oMul_int (x := y.fmod 5) (y := 30) (some (M3.map .int) :: (rest ++ [some acc])) (a := 5) (b := 5) (by unfold Sm; omega) (by unfold Sm; decide) (by decide)
          have kk : 0 ≤ (kind.fmod 8).fmod 5 ∧ (kind.fmod 8).fmod 5 ≤ 4 := by have := fmod_rng (x := kind.fmod 8) (m := 5) (by decide); omega
          obtain ⟨p, e4, hp⟩ := h4 (y.fdiv 7) d ((kind.fmod 8).fmod 5) (y.fmod 5 * 30) (some (M3.map .int) :: (rest ++ [some acc])) (MuOk.dr (fun ds hd => by
              rcases List.mem_append.mp hd with z | z
              · exact hm ds z
              · simp at z; subst z; exact fun q hq => (ha q hq).nc)) (by
                have := hy.1
                have := hy.2
                refine ⟨?_, ?_⟩
                · exact (sm_fdiv hy.sm hy.1 (by decide)).2
                · have := natAbs_fdiv (x := y) (y := 7) (by decide); omega) d1 d3 kk.1 kk.2 (by omega) (by omega)
          by_cases ctest : kind = 8 ∧ acc ≠ [] ∧ y.fmod 3 = 0
          · obtain ⟨k8, hne, y3⟩ := ctest
            subst k8
            have hpos : 0 < acc.length := List.length_pos_iff.mpr hne
            obtain ⟨i0, i1⟩ := fmod_rng (x := y.fdiv 3) (m := acc.length) (by omega)
            obtain ⟨q, hq, eq⟩ := atI_mem i0 i1
            have wl := oMod_int (x := y.fdiv 3) (y := (acc.length : Int)) (some (M3.map .int) :: (rest ++ [some acc])) (by omega)
            have hemp : acc.isEmpty = false := by cases acc <;> simp_all
            have olen : oLen (.cell (rest.length + 1)) (some (M3.map .int) :: (rest ++ [some acc])) = some (.int acc.length, some (M3.map .int) :: (rest ++ [some acc])) := by simp [oLen, itemsD]
            simp [e3, en, hemp, y3, dv3, olen, wl, itemsD, eq, mApp, liveAt, hz]
            simpa using fin q (ha q hq)
          · simp [e3]
            by_cases k8 : kind = 8
            · subst k8
              rw [show ((8 : Int).fmod 8).fmod 5 = 0 from rfl] at e4
              simp [en]
              cases hac : acc.isEmpty with
              | true =>
                simp [dv7, mm, e4, mApp, liveAt, hz]
                simpa using fin p hp
              | false =>
                have y3 : ¬ y.fmod 3 = 0 := fun z => ctest ⟨rfl, (fun z2 => by rw [z2] at hac; cases hac), z⟩
                have y3b : (y.fmod 3 == 0) = false := by simpa using y3
                simp [y3b, dv7, mm, e4, mApp, liveAt, hz]
                simpa using fin p hp
            · have k8b : (kind == 8) = false := by simpa using k8
              simp [k8b, dv7, mm, e4, mApp, liveAt, hz]
              simpa using fin p hp
        · rintro δ μ' ⟨L, acc, o7, o8, rfl, hL, ha, hl, rfl⟩
          simp
          exact ⟨acc, L, ⟨rfl, rfl⟩, fun p hp => (ha p hp).nc, hL, by simp at hl; omega, ha⟩
end LG
set_option Elab.async false
set_option linter.all false
set_option maxRecDepth 100000
namespace LG
open PySem PySem.Spec PyProof.Rows L2 L3
theorem eq_nil {ps : List D} {μ : Mu} (h1 : pureDL ps = true) (h2 : depDL ps < 90) : oEq (.lst ps) (.lst []) μ = some (.bl ps.isEmpty, μ) := by
  unfold oEq
  have e1 : rsv (.lst ps) μ = .lst ps := rfl
  have e2 : rsv (.lst []) μ = .lst [] := rfl
  rw [e1, e2]
  have e3 : pureD (.lst ps) = true := by rw [pureD]; exact h1
  have e4 : pureD (.lst []) = true := by rw [pureD, pureDL]
  have e5 : depD (.lst ps) < 100 := by rw [depD]; omega
  have e6 : eqD (.lst ps) (.lst []) = ps.isEmpty := by cases ps <;> rw [eqD] <;> simp [eqDL]
  rw [e3, e4, e6, if_pos ⟨rfl, e5⟩]
theorem all_filter {α : Type} {p q : α → Bool} : ∀ (l : List α), (∀ x ∈ l, q x = !p x) → (l.filter q).isEmpty = l.all p
  | [], _ => rfl
  | x :: l, h => by
    have hx := h x (by simp)
    have ih := all_filter l fun y hy => h y (by simp [hy])
    rw [List.filter_cons, List.all_cons]
    cases hp : p x with
    | true => rw [hp] at hx; rw [hx]; simpa using ih
    | false => rw [hp] at hx; rw [hx]; rfl
def inB (d : D) : Bool := decide (-10000 ≤ intOf d ∧ intOf d ≤ 10000)
def pointB : D → Bool
  | .tup ds => spotB (.tup ds) && (decide (intOf (ds.getLastD .non) ≤ 60) && ds.dropLast.all inB)
  | _ => false
theorem pointB_tup {ds : List D} : pointB (.tup ds) = (spotB (.tup ds) && (decide (intOf (ds.getLastD .non) ≤ 60) && ds.dropLast.all inB)) := rfl
def isSpotF (φ : FF) : Prop := ∀ d μ, nc d → φ [d] μ = some (.bl (spotB d), μ)
theorem spotB_is {d : D} (h : spotB d = true) : ∃ ns : List Int, d = .tup (ns.map .int) ∧ 2 ≤ ns.length ∧ ns.length ≤ 4 := by
  cases d with
  | tup ds =>
    rw [spotB_tup, Bool.and_eq_true] at h
    have hd := ints_of h.1
    have hs := h.2
    unfold spotL at hs
    have hs := of_decide_eq_true hs
    exact ⟨_, congrArg D.tup hd, hs.1, hs.2.1⟩
  | _ => cases h
theorem pointB_no {d : D} (h : spotB d = false) : pointB d = false := by
  cases d with
  | tup ds => rw [pointB_tup, h]; rfl
  | _ => rfl
theorem is_point_of {φ : FF} (hφ : isSpotF φ) (d : D) (μ : Mu) (h : nc d) : trunc (bodyF 1 (g_is_point φ)) [d] μ = some (.bl (pointB d), μ) := by
  apply body_eq
  have e1 := hφ d μ h
  cases hs : spotB d with
  | false =>
    rw [hs] at e1
    rw [pointB_no hs]
    simp [g_is_point, e1]
  | true =>
    rw [hs] at e1
    obtain ⟨ns, rfl, l2, l4⟩ := spotB_is hs
    have hne : ns ≠ [] := fun z => by rw [z] at l2; simp at l2
    have hne' : ns.map D.int ≠ [] := by simpa using hne
    have el := atI_lastI hne
    have ei := sl_init (μ := μ) hne'
    have eb : pointB (.tup (ns.map .int)) = (decide (ns.getLastD 0 ≤ 60) && (ns.map D.int).dropLast.all inB) := by
      rw [pointB_tup, hs]
      have : intOf ((ns.map D.int).getLastD .non) = ns.getLastD 0 := by
        rw [List.getLastD_eq_getLast?, List.getLastD_eq_getLast?, List.getLast?_map, List.getLast?_eq_some_getLast hne]
        rfl
      rw [this]
      rfl
    rw [eb]
    have ea := allT_map (th := thG (hName 0) (MCh (M1 (mC (.int 10000)) oNeg) (mVar 0) (mC (.int 10000)) oLe oLe) (blkE ["number"] [some (D.tup (ns.map .int))] [])) (p := inB) (μ := μ) (ns.map D.int).dropLast fun x hx => by
      obtain ⟨n, _, rfl⟩ := List.mem_map.mp (List.dropLast_subset _ hx)
      apply ok_eq
      simp [thG, blkE, inB]
      by_cases h1 : -10000 ≤ n <;> simp [h1]
    generalize ns.getLastD 0 = l at *
    generalize (ns.map D.int).dropLast = es at *
    by_cases hb : 60 < l
    · have hb' : ¬ l ≤ 60 := by omega
      simp [g_is_point, e1, el, hb, hb']
    · have hb' : l ≤ 60 := by omega
      simp [g_is_point, e1, el, hb, hb', ei, ea]
theorem law_point_of' {φ : FF} (hφ : isSpotF φ) (d : D) (μ : Mu) (h : nc d) : trunc (bodyF 1 (g__law_is_point φ)) [d] μ = some (.bl (pointB d), μ) := by
  apply body_eq
  have e1 := hφ d μ h
  cases hs : spotB d with
  | false =>
    rw [hs] at e1
    rw [pointB_no hs]
    simp [g__law_is_point, e1]
  | true =>
    rw [hs] at e1
    obtain ⟨ns, rfl, l2, l4⟩ := spotB_is hs
    have hne : ns ≠ [] := fun z => by rw [z] at l2; simp at l2
    have hne' : ns.map D.int ≠ [] := by simpa using hne
    have el := atI_lastI hne
    have ei := sl_init (μ := μ) hne'
    have eb : pointB (.tup (ns.map .int)) = (decide (ns.getLastD 0 ≤ 60) && (ns.map D.int).dropLast.all inB) := by
      rw [pointB_tup, hs]
      have : intOf ((ns.map D.int).getLastD .non) = ns.getLastD 0 := by
        rw [List.getLastD_eq_getLast?, List.getLastD_eq_getLast?, List.getLast?_map, List.getLast?_eq_some_getLast hne]
        rfl
      rw [this]
      rfl
    rw [eb]
    have hm : ∀ x ∈ (ns.map D.int).dropLast, ∃ n, x = D.int n := fun x hx => by
      obtain ⟨n, _, rfl⟩ := List.mem_map.mp (List.dropLast_subset _ hx)
      exact ⟨n, rfl⟩
    have ef := lcL_filter (all := (ns.map D.int).dropLast) (h := hName 0) (tt := tOrF (toB (M2 (mVar 0) (M1 (mC (.int 10000)) oNeg) oLt)) (toB (M2 (mVar 0) (mC (.int 10000)) oGt))) (fe := mVar 0) (δb := blkE ["_law_one"] [some (D.tup (ns.map .int))] []) (p := fun d => !inB d) (f := id) (μ := μ) (ns.map D.int).dropLast fun x hx => by
      obtain ⟨n, rfl⟩ := hm x hx
      refine ⟨_, rfl, ?_, fun _ => by simp [blkE]⟩
      apply ok_eq
      simp [blkE, inB]
      by_cases h1 : n < -10000
      · have : ¬ -10000 ≤ n := by omega
        simp [h1, this]
      · have h2 : -10000 ≤ n := by omega
        have h3 : decide (10000 < n) = !decide (n ≤ 10000) := by
          by_cases h : n ≤ 10000
          · have : ¬ 10000 < n := by omega
            simp [h, this]
          · have : 10000 < n := by omega
            simp [h, this]
        simp [h1, h2, h3]
    rw [List.map_id] at ef
    have hl : (ns.map D.int).dropLast.length ≤ 1000 := by simp; omega
    have hp : pureDL (((ns.map D.int).dropLast).filter fun d => !inB d) = true ∧ depDL (((ns.map D.int).dropLast).filter fun d => !inB d) < 90 := by
      have : ((ns.map D.int).dropLast).filter (fun d => !inB d) = (((ns.map D.int).dropLast.filter (fun d => !inB d)).map intOf).map D.int := ints_of (by
        rw [List.all_eq_true]
        intro x hx
        obtain ⟨n, rfl⟩ := hm x (List.mem_filter.mp hx).1
        rfl)
      rw [this]
      exact ⟨pure_ints _, by rw [dep_ints]; decide⟩
    have en := eq_nil (μ := μ) hp.1 hp.2
    rw [all_filter (p := inB) _ (fun _ _ => rfl)] at en
    generalize ns.getLastD 0 = l at *
    generalize (ns.map D.int).dropLast = es at *
    by_cases hb : 60 < l
    · have hb' : ¬ l ≤ 60 := by omega
      simp [g__law_is_point, e1, el, hb, hb']
    · have hb' : l ≤ 60 := by omega
      simp [g__law_is_point, e1, el, hb, hb', ei, ef, hl, en]
def lenD : D → Int
  | .tup ds => ds.length
  | _ => 0
def isPointF (φ : FF) : Prop := ∀ d μ, nc d → φ [d] μ = some (.bl (pointB d), μ)
def sameLen (ds : List D) (p : D) : Bool := lenD p == lenD (ds.headD .non)
def pointsB : D → Bool
  | .lst ds => decide (ds.length ≤ 40) && (ds.all pointB && ds.all (sameLen ds))
  | _ => false
theorem pointsB_lst {ds : List D} : pointsB (.lst ds) = (decide (ds.length ≤ 40) && (ds.all pointB && ds.all (sameLen ds))) := rfl
theorem pointB_is {d : D} (h : pointB d = true) : ∃ ns : List Int, d = .tup (ns.map .int) := by
  have : spotB d = true := by
    cases hs : spotB d with
    | true => rfl
    | false => rw [pointB_no hs] at h; cases h
  obtain ⟨ns, e, _⟩ := spotB_is this
  exact ⟨ns, e⟩
theorem hd_at {ds : List D} (h : ds ≠ []) : atI ds 0 = some (ds.headD .non) := by
  cases ds with
  | nil => exact absurd rfl h
  | cons d ds => unfold atI ixN; simp
theorem is_points_of {φ : FF} (hφ : isPointF φ) (d : D) (μ : Mu) (h : nc d) (hr : ∀ ds, d ≠ .ro ds) : trunc (bodyF 1 (g_is_points φ)) [d] μ = some (.bl (pointsB d), μ) := by
  apply body_eq
  cases d with
  | cell n => simp [nc, cLt] at h
  | ro ds => exact absurd rfl (hr ds)
  | lst ds =>
    have hn := nc_lst.mp h
    have ea := allT_map (th := thG (hName 0) (MC (mCons (mVar 0) mNil) φ) (blkE ["part"] [some (D.lst ds)] [])) (p := pointB) (μ := μ) ds fun x hx => by
      simp [thG, blkE, hφ x μ (hn x hx)]
    by_cases hl : ds.length ≤ 40
    · have hl' : ¬ (40 : Int) < ds.length := by omega
      cases hp : ds.all pointB with
      | false =>
        rw [hp] at ea
        have e : pointsB (.lst ds) = false := by rw [pointsB_lst, hp]; simp
        rw [e]
        simp [g_is_points, hl', ea]
      | true =>
        rw [hp] at ea
        have e : pointsB (.lst ds) = ds.all (sameLen ds) := by rw [pointsB_lst]; rw [hp]; simp [hl]
        rw [e]
        have eb := allT_map (th := thG (hName 0) (M2 (MC (mCons (mVar 0) mNil) (onOne oLen)) (MC (mCons (M2 (mVar 1) (mC (.int 0)) oIx) mNil) (onOne oLen)) oEq) (blkE ["part"] [some (D.lst ds)] [0])) (p := sameLen ds) (μ := μ) ds fun x hx => by
          rw [List.all_eq_true] at hp
          have hne : ds ≠ [] := List.ne_nil_of_mem hx
          obtain ⟨ns, rfl⟩ := pointB_is (hp x hx)
          have hh : ds.headD .non ∈ ds := by cases ds with
            | nil => exact absurd rfl hne
            | cons a b => simp
          have e0 := hd_at hne
          obtain ⟨ms, em⟩ := pointB_is (hp _ hh)
          unfold sameLen
          rw [em] at e0 ⊢
          simp [thG, blkE, e0, lenD]
        simp [g_is_points, hl', ea, eb]
    · have hl' : (40 : Int) < ds.length := by omega
      have e : pointsB (.lst ds) = false := by rw [pointsB_lst]; simp [hl]
      rw [e]
      simp [g_is_points, hl']
  | _ => simp [g_is_points, pointsB]
theorem law_points_of' {φ : FF} (hφ : isPointF φ) (d : D) (μ : Mu) (h : nc d) (hr : ∀ ds, d ≠ .ro ds) : trunc (bodyF 1 (g__law_are_points φ)) [d] μ = some (.bl (pointsB d), μ) := by
  apply body_eq
  cases d with
  | cell n => simp [nc, cLt] at h
  | ro ds => exact absurd rfl (hr ds)
  | lst ds =>
    have hn := nc_lst.mp h
    have ef := lcL_filter (all := ds) (h := hName 0) (tt := tNotF (toTr (MC (mCons (mVar 0) mNil) φ))) (fe := mVar 0) (δb := blkE ["_law_one"] [some (D.lst ds)] []) (p := fun d => !pointB d) (f := id) (μ := μ) ds fun x hx => by
      refine ⟨_, rfl, ?_, fun _ => ?_⟩ <;> simp [blkE, hφ x μ (hn x hx)]
    rw [List.map_id] at ef
    by_cases hl : ds.length ≤ 40
    · have hl' : ¬ (40 : Int) < ds.length := by omega
      have hz : ds.length ≤ 1000 := by omega
      have hem := all_filter (p := pointB) (q := fun d => !pointB d) ds (fun _ _ => rfl)
      cases hp : ds.all pointB with
      | false =>
        rw [hp] at hem
        have e : pointsB (.lst ds) = false := by rw [pointsB_lst, hp]; simp
        rw [e]
        simp [g__law_are_points, hl', hz, ef, hem]
      | true =>
        rw [hp] at hem
        have e : pointsB (.lst ds) = ds.all (sameLen ds) := by rw [pointsB_lst, hp]; simp [hl]
        rw [e]
        rw [List.all_eq_true] at hp
        have eg := lcL_filter (all := ds) (h := hName 0) (tt := toB (M2 (MC (mCons (mVar 0) mNil) (onOne oLen)) (MC (mCons (M2 (mVar 1) (mC (.int 0)) oIx) mNil) (onOne oLen)) oNe)) (fe := mVar 0) (δb := blkE ["_law_one"] [some (D.lst ds)] [0]) (p := fun d => !sameLen ds d) (f := id) (μ := μ) ds fun x hx => by
          have hne : ds ≠ [] := List.ne_nil_of_mem hx
          obtain ⟨ns, rfl⟩ := pointB_is (hp x hx)
          have hh : ds.headD .non ∈ ds := by cases ds with
            | nil => exact absurd rfl hne
            | cons a b => simp
          have e0 := hd_at hne
          obtain ⟨ms, em⟩ := pointB_is (hp _ hh)
          refine ⟨_, rfl, ?_, fun _ => by simp [blkE]⟩
          unfold sameLen
          rw [em] at e0 ⊢
          simp [blkE, e0, lenD]
        rw [List.map_id] at eg
        have hpu : pureDL (ds.filter fun d => !sameLen ds d) = true ∧ depDL (ds.filter fun d => !sameLen ds d) < 90 := by
          have gen : ∀ es : List D, (∀ x ∈ es, ∃ ns : List Int, x = .tup (ns.map .int)) → pureDL es = true ∧ depDL es < 90 := fun es => by
            induction es with
            | nil => exact fun _ => ⟨by rw [pureDL], by rw [depDL]; decide⟩
            | cons x es ih =>
              intro hx
              obtain ⟨ns, rfl⟩ := hx x (by simp)
              obtain ⟨i1, i2⟩ := ih fun y hy => hx y (by simp [hy])
              refine ⟨?_, ?_⟩
              · rw [pureDL, i1, pureD, pure_ints]; rfl
              · rw [depDL, depD, dep_ints]; omega
          exact gen _ fun x hx => pointB_is (hp x (List.mem_filter.mp hx).1)
        have en := eq_nil (μ := μ) hpu.1 hpu.2
        rw [all_filter (p := sameLen ds) _ (fun _ _ => rfl)] at en
        simp [g__law_are_points, hl', hz, ef, hem, eg, en]
    · have hl' : (40 : Int) < ds.length := by omega
      have e : pointsB (.lst ds) = false := by rw [pointsB_lst]; simp [hl]
      rw [e]
      simp [g__law_are_points, hl']
  | _ => simp [g__law_are_points, pointsB]
end LG
set_option Elab.async false
set_option linter.all false
set_option maxRecDepth 100000
namespace Lk02
open PySem PySem.Spec PyProof.Rows L2 L3 LG
theorem gcd1 : isGcd φ__law_gcd := fun a b μ => trunc_same (gcd_law a b μ)
theorem gcd2 : isGcd φ_divisor_of_two := fun a b μ => trunc_same (gcd_div a b μ)
theorem mix' : isMix φ__law_mixed := fun x k μ h0 h1 => by
  obtain ⟨r, e, h⟩ := mix_of x k μ h0 h1
  exact ⟨r, trunc_same e, h⟩
theorem next' : isNextR φ__law_next := next_ofR
theorem low' : isLow φ__law_lowest := fun ns b μ h1 h2 h3 h4 => trunc_same (low_of gcd1 ns b μ h1 h2 h3 h4)
theorem draws' : isDraws φ__law_draws := draws_of mix'
theorem num' : isNum φ_is_number := num_of
theorem whole' : isNum φ__law_whole := whole_of
theorem nums' : isNums φ_is_numbers := numbers_of num'
theorem comm' : isCommonT φ_common_divisor := common_divT gcd2
theorem spot' : isSpotF φ_is_spot := is_spot_of nums' comm'
theorem lspot' : isSpotF φ__law_is_spot := law_spot_of whole' gcd1
theorem point' : isPointF φ_is_point := is_point_of spot'
theorem lpoint' : isPointF φ__law_is_point := law_point_of' lspot'
theorem says' (k l : Bool) (μ : Mu) : φ__law_says [.bl k, .bl l] μ = some (.bl (k == l), μ) := says_of k l μ
theorem odd' : isOdd φ__law_odd := odd_of
theorem place' : isPlace φ__law_place := place_of
theorem apoint' : isPoint φ__law_point := point_of mix' place' low'
theorem pts' : isPoints φ__law_points := points_of next' (on_line_of next' low') (flat_of next' low') apoint'
def Th (d : D) : Prop := nc d ∧ ∀ ds, d ≠ .ro ds
theorem th_lst {ds : List D} (h : ∀ d ∈ ds, nc d) : Th (.lst ds) := ⟨nc_lst.mpr h, fun es e => by cases e⟩
theorem th_tup {ds : List D} (h : ∀ d ∈ ds, nc d) : Th (.tup ds) := ⟨nc_tup.mpr h, fun es e => by cases e⟩
theorem odd_th (x : Int) (μ : Mu) : ∃ d, φ__law_odd [.int x] μ = some (d, μ) ∧ Th d := by
  obtain ⟨d, e, h⟩ := odd_mem x μ
  exact ⟨d, e, odds_nc d h, odds_nro d h⟩
theorem edge' (d x : Int) (μ : Mu) (hm : MuOk μ) (d1 : 1 ≤ d) (d3 : d ≤ 3) : ∃ p, φ__law_edge [.int d, .int x] μ = some (p, μ) ∧ nc p := by
  apply ok_cut1 hm
  apply w_body
  unfold g__law_edge
  obtain ⟨i0, i1⟩ := fmod_rng (x := x) (m := 8) (by decide)
  obtain ⟨t, ht, et⟩ := atI_mem (ds := [D.int 10000, .int 10001, .int (-10000), .int (-10001), .int 1, .int 0, .int 9999, .int (-1)]) i0 i1
  have ht : ∃ z : Int, t = .int z ∧ z.natAbs ≤ 10001 := by
    simp only [List.mem_cons, List.not_mem_nil, or_false] at ht
    rcases ht with rfl | rfl | rfl | rfl | rfl | rfl | rfl | rfl <;> exact ⟨_, rfl, by decide⟩
  obtain ⟨t, rfl, tb⟩ := ht
  obtain ⟨j0, j1⟩ := fmod_rng (x := x.fdiv 8) (m := 8) (by decide)
  obtain ⟨b, hb, eb⟩ := atI_mem (ds := [D.int 1, .int 60, .int 61, .int 59, .int 7, .int 0, .int (-1), .int 120]) j0 j1
  have hb : ∃ z : Int, b = .int z ∧ -1 ≤ z ∧ z ≤ 120 := by
    simp only [List.mem_cons, List.not_mem_nil, or_false] at hb
    rcases hb with rfl | rfl | rfl | rfl | rfl | rfl | rfl | rfl <;> exact ⟨_, rfl, by decide, by decide⟩
  obtain ⟨b, rfl, b0, b1⟩ := hb
  have v8 := a_div (i := x) (j := 8) (μ := μ) (by decide) (by decide)
  have v64 := fun μ => a_div (i := x) (j := 64) (μ := μ) (by decide) (by decide)
  have v192 := fun μ => a_div (i := x) (j := 192) (μ := μ) (by decide) (by decide)
  have v800 := fun μ => a_div (i := x) (j := 800) (μ := μ) (by decide) (by decide)
  obtain ⟨k0, k1⟩ := fmod_rng (x := x.fdiv 64) (m := 3) (by decide)
  obtain ⟨c, hc, ec⟩ := atI_mem (ds := [D.int 0, .int 1, .int t]) k0 k1
  have hc : ∃ z : Int, c = .int z ∧ z.natAbs ≤ 10001 := by
    simp only [List.mem_cons, List.not_mem_nil, or_false] at hc
    rcases hc with rfl | rfl | rfl
    · exact ⟨_, rfl, by decide⟩
    · exact ⟨_, rfl, by decide⟩
    · exact ⟨_, rfl, tb⟩
  obtain ⟨c, rfl, cb⟩ := hc
  have el := lcL_map (all := rngI 0 d.toNat) (h := hName 0) (fe := M2 (MC (mCons (mC (.int 0)) (mCons (mC (.int 1)) (mCons (mVar 1) (mNil)))) oLst) (M2 (M2 (mVar 2) (mC (.int 64)) oDiv) (mC (.int 3)) oMod) oIx) (δb := [none, some (.int t), some (.int x)]) (f := fun _ => .int c) (μ := μ) (rngI 0 d.toNat) fun i hi => ⟨_, rfl, by simp [v64, ec]⟩
  have er : (rngI 0 d.toNat).map (fun _ => D.int c) = (List.replicate d.toNat c).map D.int := by
    rw [List.map_const', rng_len]; simp
  rw [er] at el
  obtain ⟨p0, p1⟩ := fmod_rng (x := x.fdiv 192) (m := d) (by omega)
  have wd := fun μ => oMod_int (x := x.fdiv 192) (y := d) μ (by omega)
  generalize (x.fdiv 192).fmod d = at_ at *
  have zd : d.toNat ≤ 1000 := by omega
  have hix : ixN d.toNat at_ = some at_.toNat := by unfold ixN; rw [if_pos p0, if_pos (by omega)]
  generalize hrow : (List.replicate d.toNat c).set at_.toNat t = row
  have hrowl : row.length = d.toNat := by rw [← hrow]; simp
  have hrowb : ∀ n ∈ row, Sm 20 n := fun n hn => by
    rw [← hrow] at hn
    unfold Sm
    have : (2 : Nat) ^ 20 = 1048576 := by decide
    rcases List.mem_or_eq_of_mem_set hn with z | z
    · rw [(List.mem_replicate.mp z).2]; omega
    · rw [z]; omega
  have hset : ((List.replicate d.toNat c).map D.int).set at_.toNat (.int t) = row.map D.int := by rw [← hrow, List.map_set]
  have hlen : ((List.replicate d.toNat c).map D.int).length = d.toNat := by simp
  generalize (List.replicate d.toNat c).map D.int = rw0 at *
  simp [et, v8, eb, rng1 (j := d) (by omega) (by omega), rng_len, zd, blkE, el, v192, wd, L3.putF, hlen, hix, hset, v800]
  have s1 : row.length + 1 ≤ sizeLine := Nat.le_trans (by omega : _ ≤ 1000) (by decide)
  by_cases h0 : (x.fdiv 800).fmod 3 = 0
  · simp [h0, itemsD, s1]
    exact nc_tup.mpr (by have := nc_ints (ns := row ++ [b]); rwa [List.map_append] at this)
  · have h0b : ((x.fdiv 800).fmod 3 == 0) = false := by simpa using h0
    by_cases hb1 : b < 1
    · simp [h0b, hb1, itemsD, s1]
      exact nc_tup.mpr (by have := nc_ints (ns := row ++ [b]); rwa [List.map_append] at this)
    · obtain ⟨ms, em, _⟩ := low_ex low' (b := 20) row b (μ ++ [none]) (by omega) (by unfold Sm; have : (2 : Nat) ^ 20 = 1048576 := by decide
                                                                                     omega) (by decide) hrowb (by omega) (fun z => by rw [z] at hrowl; simp at hrowl; omega)
      simp [h0b, hb1, em]
      exact nc_tup.mpr nc_ints
theorem nc_app {as bs : List D} (h1 : ∀ d ∈ as, nc d) (h2 : ∀ d ∈ bs, nc d) : ∀ d ∈ as ++ bs, nc d := fun d h => by
  rcases List.mem_append.mp h with z | z
  · exact h1 d z
  · exact h2 d z
theorem nc_take {as : List D} {n : Nat} (h : ∀ d ∈ as, nc d) : ∀ d ∈ as.take n, nc d := fun d z => h d (List.mem_of_mem_take z)
theorem nc_drop {as : List D} {n : Nat} (h : ∀ d ∈ as, nc d) : ∀ d ∈ as.drop n, nc d := fun d z => h d (List.mem_of_mem_drop z)
theorem nc_one {p : D} (h : nc p) : ∀ d ∈ [p], nc d := fun d z => by rw [List.mem_singleton.mp z]; exact h
theorem nc_dic {k : Key} {d : D} (h : nc d) : nc (.dic [(k, d)]) := by
  have e : cLt 0 (.dic [(k, d)]) = cLtK 0 [(k, d)] := by rw [cLt]
  unfold nc
  rw [e, cLtK, cLtK]
  simpa using h
theorem zs_nc {zs : List D} (h : ∀ z ∈ zs, z = D.int 0) (b : Int) : nc (.tup (zs ++ [.int b])) := nc_tup.mpr (nc_app (fun d hd => by rw [h d hd]; exact nc_int) (nc_one nc_int))
theorem bent' (ps : List D) (d x : Int) (μ : Mu) (hm : MuOk μ) (d1 : 1 ≤ d) (d3 : d ≤ 3) (hl : ps.length ≤ 40) (hp : ∀ p ∈ ps, PtOk d.toNat p) : ∃ t, φ__law_bent [.lst ps, .int d, .int x] μ = some (t, μ) ∧ Th t := by
  suffices h : Ok (φ__law_bent [.lst ps, .int d, .int x] μ) (fun r => r.2 = μ ∧ Th r.1) by
    obtain ⟨⟨t, μ'⟩, e, h1, h2⟩ := h
    have h1 : μ' = μ := h1
    subst h1
    exact ⟨t, e, h2⟩
  apply ok_trunc
  apply w_body
  have hpn : ∀ p ∈ ps, nc p := fun p h => (hp p h).nc
  have v8 := a_div (i := x) (j := 8) (μ := μ) (by decide) (by decide)
  obtain ⟨a0, a1⟩ := fmod_rng (x := x.fdiv 8) (m := ps.length + 1) (by omega)
  have wa := oMod_int (x := x.fdiv 8) (y := ps.length + 1) μ (by omega)
  have v41 := a_div (i := x.fdiv 8) (j := 41) (μ := μ) (by decide) (by decide)
  obtain ⟨t0, t1⟩ := fmod_rng (x := x) (m := 8) (by decide)
  generalize x.fdiv 8 = r at *
  generalize r.fmod (ps.length + 1) = at_ at *
  generalize hc : x.fmod 8 = c at *
  have z2 : ps.length + ps.length ≤ sizeLine := Nat.le_trans (by omega : _ ≤ 1000) (by decide)
  have st := slL_to (ds := ps) (i := at_) (μ := μ) a0
  have sf := slL_from (ds := ps) (i := at_) (μ := μ) a0
  have sf1 := slL_from (ds := ps) (i := at_ + 1) (μ := μ) (by omega)
  have nt := nc_take (n := at_.toNat) hpn
  have nf := nc_drop (n := at_.toNat) hpn
  have nf1 := nc_drop (n := (at_ + 1).toNat) hpn
  have lt : (ps.take at_.toNat).length ≤ 40 := by simp; omega
  have lf : (ps.drop at_.toNat).length ≤ 40 := by simp; omega
  have lf1 : (ps.drop (at_ + 1).toNat).length ≤ 40 := by simp; omega
  generalize ps.take at_.toNat = A at *
  generalize ps.drop at_.toNat = B at *
  generalize ps.drop (at_ + 1).toNat = C at *
  have zA : A.length + 1 ≤ sizeLine := Nat.le_trans (by omega : _ ≤ 1000) (by decide)
  have zB : A.length + 1 + B.length ≤ sizeLine := Nat.le_trans (by omega : _ ≤ 1000) (by decide)
  have zC : A.length + 1 + C.length ≤ sizeLine := Nat.le_trans (by omega : _ ≤ 1000) (by decide)
  have mk : ∀ (y : D) (T : List D), nc y → (∀ d ∈ T, nc d) → Th (.lst (A ++ y :: T)) := fun y T hy hT => th_lst (nc_app nt fun d hd => by
    rcases List.mem_cons.mp hd with z | z
    · rw [z]; exact hy
    · exact hT d z)
  have hcc : c = 0 ∨ c = 1 ∨ c = 2 ∨ c = 3 ∨ c = 4 ∨ (c ≠ 0 ∧ c ≠ 1 ∧ c ≠ 2 ∧ c ≠ 3 ∧ c ≠ 4) := by omega
  unfold g__law_bent_k02
  obtain ⟨ed, eed, hed⟩ := edge' d (r.fdiv 41) μ hm d1 d3
  rcases hcc with rfl | rfl | rfl | rfl | rfl | ⟨n0, n1, n2, n3, n4⟩
  · obtain ⟨i0, i1⟩ := fmod_rng (x := r) (m := 5) (by decide)
    simp [v8, wa, hc, mDic1, keyD, z2]
    apply ok_atI i0
    · simpa using i1
    intro t ht
    simp
    simp only [List.mem_cons, List.not_mem_nil, or_false] at ht
    rcases ht with rfl | rfl | rfl | rfl | rfl
    · exact th_tup hpn
    · exact th_lst (nc_one (nc_lst.mpr hpn))
    · exact th_lst (nc_app hpn hpn)
    · exact ⟨nc_dic (nc_lst.mpr hpn), fun ds e => by cases e⟩
    · exact th_lst (nc_one (nc_tup.mpr hpn))
  · obtain ⟨i0, i1⟩ := fmod_rng (x := r) (m := 3) (by decide)
    obtain ⟨k, hk, ek⟩ := atI_mem (ds := [D.int 39, .int 40, .int 41]) i0 i1
    have hk : ∃ z : Int, k = .int z ∧ 0 ≤ z := by
      simp only [List.mem_cons, List.not_mem_nil, or_false] at hk
      rcases hk with rfl | rfl | rfl <;> exact ⟨_, rfl, by decide⟩
    obtain ⟨k, rfl, hk0⟩ := hk
    obtain ⟨zs, ez, hzl, hz0⟩ := zeros (k := d) (μ := μ) (by omega) (by omega)
    have y1 : zs.length + 1 ≤ sizeLine := Nat.le_trans (by omega : _ ≤ 1000) (by decide)
    have em := mulL (ds := [D.tup (zs ++ [.int 1])]) (k := 41) (μ := μ) (by decide) (by decide) (by simp)
    rw [show (41 : Int).toNat = 41 from rfl] at em
    have y2 : ps.length + 41 ≤ sizeLine := Nat.le_trans (by omega : _ ≤ 1000) (by decide)
    have sl := slL_to (ds := ps ++ List.replicate 41 (D.tup (zs ++ [.int 1]))) (i := k) (μ := μ) hk0
    have hn : ∀ d ∈ ps ++ List.replicate 41 (D.tup (zs ++ [.int 1])), nc d := nc_app hpn fun d h => by rw [(List.mem_replicate.mp h).2]; exact zs_nc hz0 1
    have ef : (List.replicate 41 [D.tup (zs ++ [.int 1])]).flatten = List.replicate 41 (D.tup (zs ++ [.int 1])) := by simp
    rw [ef] at em
    generalize hRR : List.replicate 41 (D.tup (zs ++ [.int 1])) = RR at *
    have hRl : RR.length = 41 := by rw [← hRR]; simp
    simp [v8, wa, hc, ez, y1, em, hRl, y2, ek, sl]
    exact th_lst (nc_take hn)
  · obtain ⟨i0, i1⟩ := fmod_rng (x := d + (r.fdiv 41).fmod 2) (m := 3) (by decide)
    obtain ⟨zs, ez, hzl, hz0⟩ := zeros (k := 1 + (d + (r.fdiv 41).fmod 2).fmod 3) (μ := μ) (by omega) (by omega)
    have y1 : zs.length + 1 ≤ sizeLine := Nat.le_trans (by omega : _ ≤ 1000) (by decide)
    simp [v8, wa, hc, v41, ez, y1, st, sf, zA, zB]
    exact mk _ _ (zs_nc hz0 1) nf
  · obtain ⟨o, eo, ho⟩ := odd' (r.fdiv 41) μ
    simp [v8, wa, hc, v41, eo, st, sf1, zA, zC]
    exact mk _ _ ho nf1
  · by_cases hne : ps = []
    · subst hne
      have wa' : oMod (.int r) (.int 1) μ = some (.int at_, μ) := wa
      simp [v8, wa', hc, v41, eed, st, sf1, zA, zC]
      exact mk _ _ hed nf1
    · have hpos : 0 < ps.length := List.length_pos_iff.mpr hne
      have hq : ∃ q, atI ps (at_ - 1) = some q ∧ q ∈ ps := by
        by_cases h1 : 1 ≤ at_
        · obtain ⟨q, hq, e⟩ := atI_mem (ds := ps) (i := at_ - 1) (by omega) (by omega)
          exact ⟨q, e, hq⟩
        · have : at_ - 1 = -1 := by omega
          rw [this]
          exact ⟨_, atI_last hne, List.getLast_mem hne⟩
      obtain ⟨q, eq, hqm⟩ := hq
      obtain ⟨ns, b, rfl, _⟩ := hp q hqm
      have hem : ps.isEmpty = false := by cases ps <;> simp_all
      simp [v8, wa, hc, hem, eq, st, sf1, zA, zC]
      refine mk _ _ ?_ nf1
      have := nc_ints (ns := ns ++ [b])
      rw [List.map_append] at this
      exact nc_lst.mpr this
  · have n0b : (c == 0) = false := by simpa using n0
    have n1b : (c == 1) = false := by simpa using n1
    have n2b : (c == 2) = false := by simpa using n2
    have n3b : (c == 3) = false := by simpa using n3
    have n4b : (c == 4) = false := by simpa using n4
    simp [v8, wa, hc, n0b, n1b, n2b, n3b, n4b, v41, eed, st, sf1, zA, zC]
    exact mk _ _ hed nf1
theorem law_all (ns : List Int) (h : ns.length ≤ 63) : ∃ μ', φ_law [.ro (ns.map .int)] [] = some (.bl true, μ') := by
  apply law_end
  obtain ⟨L, eD, hL⟩ := draws_ex draws' ns h
  apply w_body
  unfold g_law_k02
  have hk : ∃ k : Int, (1 + min 5 (ns.length : Int)) = k ∧ 0 ≤ k ∧ k < 10 := ⟨_, rfl, by omega, by omega⟩
  obtain ⟨k, ek, k0, k1⟩ := hk
  simp [eD, ek, rng1 (j := k) (by omega) (by omega)]
  refine for_inv (fun its δ μ => ∃ L o2 o3 o4 o5 o6 o7 o8, DlD L ∧ μ = [some (L.map .int)] ∧ δ = [some (.ro (ns.map .int)), some (.cell 0), o2, o3, o4, o5, o6, o7, o8]) ?_ ?_ _ _ _ ⟨L, none, none, none, none, none, none, none, hL, rfl, rfl⟩
  · rintro d rest δ μ ⟨L, o2, o3, o4, o5, o6, o7, o8, hL, rfl, rfl⟩
    obtain ⟨x, L1, e1, hx, hL1⟩ := next_exR next' hL []
    obtain ⟨x2, L2, e2, hx2, hL2⟩ := next_exR next' hL1 []
    obtain ⟨m0, m1⟩ := fmod_rng (x := x) (m := 3) (by decide)
    generalize hdd : 1 + x.fmod 3 = dd
    obtain ⟨i0, i1⟩ := fmod_rng (x := x2) (m := 3) (by decide)
    obtain ⟨mo, hmo, emo⟩ := atI_mem (ds := [D.int 40, .int 6, .int 3]) i0 i1
    have hmo : ∃ z : Int, mo = .int z ∧ 0 ≤ z ∧ z ≤ 40 := by
      simp only [List.mem_cons, List.not_mem_nil, or_false] at hmo
      rcases hmo with rfl | rfl | rfl <;> exact ⟨_, rfl, by decide, by decide⟩
    obtain ⟨mo, rfl, mo0, mo1⟩ := hmo
    obtain ⟨ps, L3', e3, hL3, hl3, hp3⟩ := pts' L2 [] dd mo hL2 MuOk.nil (by omega) (by omega) mo0 mo1
    have hpn : ∀ p ∈ ps, nc p := fun p h => (hp3 p h).nc
    have st := slL_to (ds := ps) (i := 1) (μ := [some (L3'.map .int)]) (by decide)
    rw [show (1 : Int).toNat = 1 from rfl] at st
    have hl1 : (ps.take 1).length ≤ 1 := by simp; omega
    have hn1 := nc_take (n := 1) hpn
    generalize ps.take 1 = P1 at *
    have em := mulL (ds := P1) (k := 2) (μ := [some (L3'.map .int)]) (by decide) (by decide) (by rw [show (2 : Int).toNat = 2 from rfl]; omega)
    rw [show (2 : Int).toNat = 2 from rfl] at em
    have hn2 : ∀ d ∈ (List.replicate 2 P1).flatten, nc d := fun d hd => by
      obtain ⟨l, hl, hd⟩ := List.mem_flatten.mp hd
      rw [(List.mem_replicate.mp hl).2] at hd
      exact hn1 d hd
    generalize (List.replicate 2 P1).flatten = P2 at *
    simp [e1, e2, hdd, emo, e3, st, em, rng1 (j := 8) (by decide) (by decide)]
    have hnb : ∀ t ∈ [D.lst ps, D.lst [], D.lst P2], Th t := fun t ht => by
      simp only [List.mem_cons, List.not_mem_nil, or_false] at ht
      rcases ht with rfl | rfl | rfl
      · exact th_lst hpn
      · exact th_lst (by simp)
      · exact th_lst hn2
    refine for_inv (fun its δ μ => ∃ L ts o6 o7, DlD L ∧ μ = [some (L.map .int)] ∧ (∀ t ∈ ts, Th t) ∧ ts.length + 3 * its.length ≤ 28 ∧ δ = [some (.ro (ns.map .int)), some (.cell 0), some d, some (.int dd), some (.lst ps), some (.lst ts), o6, o7, o8]) ?_ ?_ _ _ _ ⟨L3', _, _, _, hL3, rfl, hnb, by rw [rng_len]; simp, rfl⟩
    · rintro d6 rest6 δ μ ⟨L, ts, o6, o7, hL, rfl, hts, hlen, rfl⟩
      obtain ⟨x, L1, e1, hx, hL1⟩ := next_exR next' hL []
      obtain ⟨b, e2, hb⟩ := bent' ps dd x [some (L1.map .int)] (MuOk.dr MuOk.nil) (by omega) (by omega) (by omega) hp3
      obtain ⟨p, e3, hp⟩ := odd_th x [some (L1.map .int)]
      obtain ⟨q, e4, hq⟩ := odd_th (x.fdiv 29) [some (L1.map .int)]
      have d29 := a_div (i := x) (j := 29) (μ := [some (L1.map .int)]) (by decide) (by decide)
      simp only [List.length_cons] at hlen
      have z3 : ts.length + 3 ≤ sizeLine := Nat.le_trans (by omega : _ ≤ 1000) (by decide)
      have hone : Th (.lst [q]) := th_lst (nc_one hq.1)
      simp [e1, e2, e3, d29, e4, z3]
      refine ⟨L1, hL1, rfl, fun t ht => ?_, by omega⟩
      rcases ht with ht | rfl | rfl | rfl
      · exact hts t ht
      · exact hb
      · exact hp
      · exact hone
    · rintro δ μ ⟨L, ts, o6, o7, hL, rfl, hts, hlen, rfl⟩
      simp
      refine for_inv (fun its δ μ => ∃ o8, (∀ t ∈ its, Th t) ∧ μ = [some (L.map .int)] ∧ δ = [some (.ro (ns.map .int)), some (.cell 0), some d, some (.int dd), some (.lst ps), some (.lst ts), o6, o7, o8]) ?_ ?_ _ _ _ ⟨_, hts, rfl, rfl⟩
      · rintro d8 rest8 δ μ ⟨o8, ht, rfl, rfl⟩
        obtain ⟨h8, r8⟩ := ht d8 (by simp)
        have p1 : φ_is_points [d8] [some (L.map .int)] = _ := is_points_of point' d8 _ h8 r8
        have p2 : φ__law_are_points [d8] [some (L.map .int)] = _ := law_points_of' lpoint' d8 _ h8 r8
        simp [p1, p2, says']
        exact fun t h => ht t (by simp [h])
      · rintro δ μ ⟨o8, _, rfl, rfl⟩
        simp
        exact ⟨L, hL, rfl⟩
  · rintro δ μ ⟨L, o2, o3, o4, o5, o6, o7, o8, hL, rfl, rfl⟩
    simp
end Lk02
open PySem PySem.W PyProof.Rows
set_option maxRecDepth 100000 in
set_option maxHeartbeats 0 in
theorem PySem.Challenge.cw_heapsmeet_k02_points_of_anything_holds : PySem.Challenge.rw_heapsmeet_k02_points_of_anything.Holds := by
  w_on; o_law; k_head; (case hw => w_witness2)
  k_fill
  refine L3.walk_ofT (l := PySem.Challenge.rw_heapsmeet_k02_points_of_anything) (n := 63) (k := 9) (x := "_law_script") (φ := Lk02.φ_law) rfl (by decide) rfl ⟨rfl, by decide, by decide⟩ (fun w h Y => PySem.W.kIn_of Y) ?F ?S
  case F =>
    intro w mg mb mean lo fa h KX G hmg
    refine' Lk02.all_mk KX G hmg ?a__law_mixed ?l__law_mixed ?h__law_mixed ?k__law_mixed ?lc__law_mixed ?p__law_mixed ?q__law_mixed ?ne__law_mixed ?a__law_draws ?l__law_draws ?h__law_draws ?k__law_draws ?lc__law_draws ?p__law_draws ?q__law_draws ?ne__law_draws ?a__law_next ?l__law_next ?h__law_next ?k__law_next ?lc__law_next ?p__law_next ?q__law_next ?ne__law_next ?a__law_gcd ?l__law_gcd ?h__law_gcd ?k__law_gcd ?lc__law_gcd ?p__law_gcd ?q__law_gcd ?ne__law_gcd ?a__law_lowest ?l__law_lowest ?h__law_lowest ?k__law_lowest ?lc__law_lowest ?p__law_lowest ?q__law_lowest ?ne__law_lowest ?a__law_on_line ?l__law_on_line ?h__law_on_line ?k__law_on_line ?lc__law_on_line ?p__law_on_line ?q__law_on_line ?ne__law_on_line ?a__law_flat ?l__law_flat ?h__law_flat ?k__law_flat ?lc__law_flat ?p__law_flat ?q__law_flat ?ne__law_flat ?a__law_place ?l__law_place ?h__law_place ?k__law_place ?lc__law_place ?p__law_place ?q__law_place ?ne__law_place ?a__law_point ?l__law_point ?h__law_point ?k__law_point ?lc__law_point ?p__law_point ?q__law_point ?ne__law_point ?a__law_points ?l__law_points ?h__law_points ?k__law_points ?lc__law_points ?p__law_points ?q__law_points ?ne__law_points ?a__law_odd ?l__law_odd ?h__law_odd ?k__law_odd ?lc__law_odd ?p__law_odd ?q__law_odd ?ne__law_odd ?a__law_edge ?l__law_edge ?h__law_edge ?k__law_edge ?lc__law_edge ?p__law_edge ?q__law_edge ?ne__law_edge ?a__law_bent ?l__law_bent ?h__law_bent ?k__law_bent ?lc__law_bent ?p__law_bent ?q__law_bent ?ne__law_bent ?a__law_whole ?l__law_whole ?h__law_whole ?k__law_whole ?lc__law_whole ?p__law_whole ?q__law_whole ?ne__law_whole ?a__law_is_spot ?l__law_is_spot ?h__law_is_spot ?k__law_is_spot ?lc__law_is_spot ?p__law_is_spot ?q__law_is_spot ?ne__law_is_spot ?a__law_is_point ?l__law_is_point ?h__law_is_point ?k__law_is_point ?lc__law_is_point ?p__law_is_point ?q__law_is_point ?ne__law_is_point ?a__law_are_points ?l__law_are_points ?h__law_are_points ?k__law_are_points ?lc__law_are_points ?p__law_are_points ?q__law_are_points ?ne__law_are_points ?a_is_number ?l_is_number ?h_is_number ?k_is_number ?lc_is_number ?p_is_number ?q_is_number ?ne_is_number ?a_is_numbers ?l_is_numbers ?h_is_numbers ?k_is_numbers ?lc_is_numbers ?p_is_numbers ?q_is_numbers ?ne_is_numbers ?a_divisor_of_two ?l_divisor_of_two ?h_divisor_of_two ?k_divisor_of_two ?lc_divisor_of_two ?p_divisor_of_two ?q_divisor_of_two ?ne_divisor_of_two ?a_common_divisor ?l_common_divisor ?h_common_divisor ?k_common_divisor ?lc_common_divisor ?p_common_divisor ?q_common_divisor ?ne_common_divisor ?a_is_spot ?l_is_spot ?h_is_spot ?k_is_spot ?lc_is_spot ?p_is_spot ?q_is_spot ?ne_is_spot ?a_is_point ?l_is_point ?h_is_point ?k_is_point ?lc_is_point ?p_is_point ?q_is_point ?ne_is_point ?a_is_points ?l_is_points ?h_is_points ?k_is_points ?lc_is_points ?p_is_points ?q_is_points ?ne_is_points ?a__law_says ?l__law_says ?h__law_says ?k__law_says ?lc__law_says ?p__law_says ?q__law_says ?ne__law_says ?a_law ?l_law ?h_law ?k_law ?lc_law ?p_law ?q_law ?ne_law ?z_abs ?z_all ?z_bool ?z_int ?z_isinstance ?z_len ?z_list ?z_min ?z_range ?z_tuple ?y_FARTHEST ?y_GREATEST_BOTTOM ?y_MOST_DIRECTIONS ?y_MOST_POINTS ?r_is_numbers ?r_is_point ?r_is_points ?hnt
    (case a__law_mixed => k_is)
    (case l__law_mixed => k_is)
    (case h__law_mixed => k_is)
    (case k__law_mixed => k_is)
    (case lc__law_mixed => k_is)
    (case p__law_mixed => rfl)
    (case q__law_mixed => rfl)
    (case ne__law_mixed => rfl)
    (case a__law_draws => k_is)
    (case l__law_draws => k_is)
    (case h__law_draws => k_is)
    (case k__law_draws => k_is)
    (case lc__law_draws => k_is)
    (case p__law_draws => rfl)
    (case q__law_draws => rfl)
    (case ne__law_draws => rfl)
    (case a__law_next => k_is)
    (case l__law_next => k_is)
    (case h__law_next => k_is)
    (case k__law_next => k_is)
    (case lc__law_next => k_is)
    (case p__law_next => rfl)
    (case q__law_next => rfl)
    (case ne__law_next => rfl)
    (case a__law_gcd => k_is)
    (case l__law_gcd => k_is)
    (case h__law_gcd => k_is)
    (case k__law_gcd => k_is)
    (case lc__law_gcd => k_is)
    (case p__law_gcd => rfl)
    (case q__law_gcd => rfl)
    (case ne__law_gcd => rfl)
    (case a__law_lowest => k_is)
    (case l__law_lowest => k_is)
    (case h__law_lowest => k_is)
    (case k__law_lowest => k_is)
    (case lc__law_lowest => k_is)
    (case p__law_lowest => rfl)
    (case q__law_lowest => rfl)
    (case ne__law_lowest => rfl)
    (case a__law_on_line => k_is)
    (case l__law_on_line => k_is)
    (case h__law_on_line => k_is)
    (case k__law_on_line => k_is)
    (case lc__law_on_line => k_is)
    (case p__law_on_line => rfl)
    (case q__law_on_line => rfl)
    (case ne__law_on_line => rfl)
    (case a__law_flat => k_is)
    (case l__law_flat => k_is)
    (case h__law_flat => k_is)
    (case k__law_flat => k_is)
    (case lc__law_flat => k_is)
    (case p__law_flat => rfl)
    (case q__law_flat => rfl)
    (case ne__law_flat => rfl)
    (case a__law_place => k_is)
    (case l__law_place => k_is)
    (case h__law_place => k_is)
    (case k__law_place => k_is)
    (case lc__law_place => k_is)
    (case p__law_place => rfl)
    (case q__law_place => rfl)
    (case ne__law_place => rfl)
    (case a__law_point => k_is)
    (case l__law_point => k_is)
    (case h__law_point => k_is)
    (case k__law_point => k_is)
    (case lc__law_point => k_is)
    (case p__law_point => rfl)
    (case q__law_point => rfl)
    (case ne__law_point => rfl)
    (case a__law_points => k_is)
    (case l__law_points => k_is)
    (case h__law_points => k_is)
    (case k__law_points => k_is)
    (case lc__law_points => k_is)
    (case p__law_points => rfl)
    (case q__law_points => rfl)
    (case ne__law_points => rfl)
    (case a__law_odd => k_is)
    (case l__law_odd => k_is)
    (case h__law_odd => k_is)
    (case k__law_odd => k_is)
    (case lc__law_odd => k_is)
    (case p__law_odd => rfl)
    (case q__law_odd => rfl)
    (case ne__law_odd => rfl)
    (case a__law_edge => k_is)
    (case l__law_edge => k_is)
    (case h__law_edge => k_is)
    (case k__law_edge => k_is)
    (case lc__law_edge => k_is)
    (case p__law_edge => rfl)
    (case q__law_edge => rfl)
    (case ne__law_edge => rfl)
    (case a__law_bent => k_is)
    (case l__law_bent => k_is)
    (case h__law_bent => k_is)
    (case k__law_bent => k_is)
    (case lc__law_bent => k_is)
    (case p__law_bent => rfl)
    (case q__law_bent => rfl)
    (case ne__law_bent => rfl)
    (case a__law_whole => k_is)
    (case l__law_whole => k_is)
    (case h__law_whole => k_is)
    (case k__law_whole => k_is)
    (case lc__law_whole => k_is)
    (case p__law_whole => rfl)
    (case q__law_whole => rfl)
    (case ne__law_whole => rfl)
    (case a__law_is_spot => k_is)
    (case l__law_is_spot => k_is)
    (case h__law_is_spot => k_is)
    (case k__law_is_spot => k_is)
    (case lc__law_is_spot => k_is)
    (case p__law_is_spot => rfl)
    (case q__law_is_spot => rfl)
    (case ne__law_is_spot => rfl)
    (case a__law_is_point => k_is)
    (case l__law_is_point => k_is)
    (case h__law_is_point => k_is)
    (case k__law_is_point => k_is)
    (case lc__law_is_point => k_is)
    (case p__law_is_point => rfl)
    (case q__law_is_point => rfl)
    (case ne__law_is_point => rfl)
    (case a__law_are_points => k_is)
    (case l__law_are_points => k_is)
    (case h__law_are_points => k_is)
    (case k__law_are_points => k_is)
    (case lc__law_are_points => k_is)
    (case p__law_are_points => rfl)
    (case q__law_are_points => rfl)
    (case ne__law_are_points => rfl)
    (case a_is_number => k_is)
    (case l_is_number => k_is)
    (case h_is_number => k_is)
    (case k_is_number => k_is)
    (case lc_is_number => k_is)
    (case p_is_number => rfl)
    (case q_is_number => rfl)
    (case ne_is_number => rfl)
    (case a_is_numbers => k_is)
    (case l_is_numbers => k_is)
    (case h_is_numbers => k_is)
    (case k_is_numbers => k_is)
    (case lc_is_numbers => k_is)
    (case p_is_numbers => rfl)
    (case q_is_numbers => rfl)
    (case ne_is_numbers => rfl)
    (case a_divisor_of_two => k_is)
    (case l_divisor_of_two => k_is)
    (case h_divisor_of_two => k_is)
    (case k_divisor_of_two => k_is)
    (case lc_divisor_of_two => k_is)
    (case p_divisor_of_two => rfl)
    (case q_divisor_of_two => rfl)
    (case ne_divisor_of_two => rfl)
    (case a_common_divisor => k_is)
    (case l_common_divisor => k_is)
    (case h_common_divisor => k_is)
    (case k_common_divisor => k_is)
    (case lc_common_divisor => k_is)
    (case p_common_divisor => rfl)
    (case q_common_divisor => rfl)
    (case ne_common_divisor => rfl)
    (case a_is_spot => k_is)
    (case l_is_spot => k_is)
    (case h_is_spot => k_is)
    (case k_is_spot => k_is)
    (case lc_is_spot => k_is)
    (case p_is_spot => rfl)
    (case q_is_spot => rfl)
    (case ne_is_spot => rfl)
    (case a_is_point => k_is)
    (case l_is_point => k_is)
    (case h_is_point => k_is)
    (case k_is_point => k_is)
    (case lc_is_point => k_is)
    (case p_is_point => rfl)
    (case q_is_point => rfl)
    (case ne_is_point => rfl)
    (case a_is_points => k_is)
    (case l_is_points => k_is)
    (case h_is_points => k_is)
    (case k_is_points => k_is)
    (case lc_is_points => k_is)
    (case p_is_points => rfl)
    (case q_is_points => rfl)
    (case ne_is_points => rfl)
    (case a__law_says => k_is)
    (case l__law_says => k_is)
    (case h__law_says => k_is)
    (case k__law_says => k_is)
    (case lc__law_says => k_is)
    (case p__law_says => rfl)
    (case q__law_says => rfl)
    (case ne__law_says => rfl)
    (case a_law => k_is)
    (case l_law => k_is)
    (case h_law => k_is)
    (case k_law => k_is)
    (case lc_law => k_is)
    (case p_law => rfl)
    (case q_law => rfl)
    (case ne_law => rfl)
    (case z_abs => k_is)
    (case z_all => k_is)
    (case z_bool => k_is)
    (case z_int => k_is)
    (case z_isinstance => k_is)
    (case z_len => k_is)
    (case z_list => k_is)
    (case z_min => k_is)
    (case z_range => k_is)
    (case z_tuple => k_is)
    (case y_FARTHEST => k_is)
    (case y_GREATEST_BOTTOM => k_is)
    (case y_MOST_DIRECTIONS => k_is)
    (case y_MOST_POINTS => k_is)
    (case r_is_numbers => rfl)
    (case r_is_point => rfl)
    (case r_is_points => rfl)
    (case hnt => rfl)
  case S => exact fun ns hl => Lk02.law_all ns hl
