import PyProof.Rows.All
import Wide.All
import OpenK.AllK
import Wide.FinOn
import Lean
import PyProof.EqAt
import PyProof.EqKinds
import PyProof.TupleCall
import PyProof.ListRange
import PyProof.TupleOfSeq
import PySem.Challenge.RW_heapsmeet_k75_gap_papers
set_option Elab.async false
abbrev Za:=@Option.bind_eq_some_iff
abbrev Zb:=@PySem.Heap.get?_push_of_some
abbrev Zc:=@Nat.lt_of_lt_of_le
abbrev Zd:=@List.size_toArray
abbrev Ze:=@PySem.Heap.lt_size
abbrev Zf:=@PySem.Heap.get?_push_size
abbrev Zg:=@Nat.le_refl
abbrev Zh:=@List.getElem?_eq_some_iff
abbrev Zi:=@List.mem_cons
abbrev Zj:=@List.map_cons
abbrev Zk:=@Nat.ne_of_lt
abbrev Zl:=@Nat.le_trans
abbrev Zm:=@List.mem_append
abbrev Zn:=@List.mem_append_right
abbrev Zo:=@Bool.and_eq_true
abbrev Zp:=@Option.map_eq_some_iff
abbrev Zq:=@List.mem_map
abbrev Zr:=@Bool.false_ne_true
abbrev Zs:=@List.getElem?_append_left
abbrev Zt:=@PySem.mem_of_lookup
abbrev Zu:=@List.length_map
set_option linter.all false
set_option maxRecDepth 100000
namespace L2
open PySem PySem.Spec PyProof.Rows
abbrev Key:=Sum Int Str
def Oo:Key->Value->Bool
 | .inl k,v=>Value.isInt k v
 | .inr x,v=>Value.isStrOf x v
def keyH(w:World):Key->Int
 | .inl k=>hashInt k
 | .inr x=>hashStr w x
theorem dI:∀{k:Key}{v:Value},Oo k v=true->(∃i t,k=Sum.inl i/\v=Value.int i t)∨(∃x t,k=Sum.inr x/\v=Value.str x t)
 | .inl i,v,h=>by
  obtain⟨t,e⟩:=Value.isInt_shape (k:=i) (v:=v) h
  exact .inl ⟨i,t,rfl,e⟩
 | .inr x,v,h=>by
  obtain⟨t,e⟩:=Value.isStrOf_shape (x:=x) (v:=v) h
  exact .inr ⟨x,t,rfl,e⟩
theorem QJ(a b:Int):decide ((Sum.inl a:Key)=Sum.inl b)=(a==b):=by
 by_cases e:a=b
 .subst e;simp
 .have h:¬(Sum.inl a:Key)=Sum.inl b:=λq=>e (Sum.inl.inj q)
  rw[decide_eq_false h]
  exact(beq_eq_false_iff_ne.mpr e).symm
theorem Rc(a b:Str):decide ((Sum.inr a:Key)=Sum.inr b)=decide (a=b):=by
 by_cases e:a=b
 .subst e;simp
 .have h:¬(Sum.inr a:Key)=Sum.inr b:=λq=>e (Sum.inr.inj q)
  rw[decide_eq_false h,decide_eq_false e]
theorem QC(a:Int)(b:Str):decide ((Sum.inl a:Key)=Sum.inr b)=false:=decide_eq_false (λq=>nomatch q)
theorem Rt(a:Str)(b:Int):decide ((Sum.inr a:Key)=Sum.inl b)=false:=decide_eq_false (λq=>nomatch q)
def yg(prog:Program)(w:World):PySem.KeyKind prog w Key where
 is:=Oo
 hash:=keyH w
 inj:=λv a b ha hb=>by
  rcases dI ha with⟨i,t,rfl,rfl⟩|⟨x,t,rfl,rfl⟩
  .rcases dI hb with⟨j,u,rfl,e⟩|⟨y,u,rfl,e⟩
   .injection e with e1 _;rw[e1]
   .exact nomatch e
  .rcases dI hb with⟨j,u,rfl,e⟩|⟨y,u,rfl,e⟩
   .exact nomatch e
   .injection e with e1 _;rw[e1]
 byValue:=λk v h=>by
  rcases dI h with⟨i,t,rfl,rfl⟩|⟨x,t,rfl,rfl⟩<;>rfl
 pyHash:=λhv h=>by
  rcases dI hv with⟨i,t,rfl,rfl⟩|⟨x,t,rfl,rfl⟩
  .exact wpAny_pyHash_int h
  .exact wpAny_pyHash_str h
 eqBool:=λhu hv h=>by
  rcases dI hu with⟨i,t,rfl,rfl⟩|⟨x,t,rfl,rfl⟩
  .rcases dI hv with⟨j,u,rfl,rfl⟩|⟨y,u,rfl,rfl⟩
   .rw[QJ]at h;exact wpAny_eqBool_int h
   .rw[QC]at h;exact SeqAt.EqAt.int_str i t y u _ _ _ _ h
  .rcases dI hv with⟨j,u,rfl,rfl⟩|⟨y,u,rfl,rfl⟩
   .rw[Rt]at h;exact SeqAt.EqAt.str_int x t j u _ _ _ _ h
   .rw[Rc]at h;exact wpAny_eqBool_str h
 «strs»:=λk x t v h=>by
  rcases dI h with⟨i,u,rfl,e⟩|⟨y,u,rfl,e⟩
  .exact nomatch e
  .injection e with e1 _
   subst e1
   cases v<;>rfl
inductive V where
 |non|bl (b:Bool)|int (i:Int)|str (x:Str)|byt (b:Array UInt8)|flt (b:UInt64)|ref (a:Addr)|ty (n:String)
 deriving DecidableEq
def RelV:V->Value->Prop
 | .non,u=>u=Value.none
 | .bl b,u=>u=Value.bool b
 | .int i,u=>∃t,u=Value.int i t
 | .str x,u=>∃t,u=Value.str x t
 | .byt b,u=>∃t,u=Value.bytes b t
 | .flt b,u=>∃t,u=Value.float b t
 | .ref a,u=>u=Value.ref a
 | .ty n,u=>u=Value.type n
abbrev Vals:List V->List Value->Prop:=Paired RelV
theorem Vals.length{xs:List V}{us:List Value}(r:Vals xs us):xs.length=us.length:=Paired.length r
theorem Vals.get:∀{xs:List V}{us:List Value}{i:Nat}{x:V},Vals xs us->xs[i]? =some x->∃u,us[i]? =some u/\RelV x u
 |_,_,_,_,.nil,e=>by simp at e
 |_,_,0,_,.cons r _,e=>by simp at e;subst e;exact⟨_,rfl,r⟩
 |_,_,i+1,x,.cons _ t,e=>by
  obtain⟨u,h1,h2⟩:=Vals.get (i:=i) (x:=x) t (by simpa using e)
  exact⟨u,by simpa using h1,h2⟩
theorem Vals.set{x:V}{u:Value}(r:RelV x u):∀{xs:List V}{us:List Value}(i:Nat),Vals xs us->Vals (xs.set i x) (us.set i u)
 |_,_,_,.nil=>.nil
 |_,_,0,.cons _ t=>.cons r t
 |_,_,i+1,.cons q t=>.cons q (Vals.set r i t)
theorem Vals.append:∀{xs ys:List V}{us ws:List Value},Vals xs us->Vals ys ws->Vals (xs++ys) (us++ws)
 |_,_,_,_,.nil,s=>s
 |_,_,_,_,.cons r t,s=>.cons r (Vals.append t s)
theorem Vals.take:∀{xs:List V}{us:List Value}(n:Nat),Vals xs us->Vals (xs.take n) (us.take n)
 |_,_,0,_=>.nil
 |_,_,_+1,.nil=>.nil
 |_,_,n+1,.cons r t=>.cons r (Vals.take n t)
theorem Vals.drop:∀{xs:List V}{us:List Value}(n:Nat),Vals xs us->Vals (xs.drop n) (us.drop n)
 |_,_,0,r=>r
 |_,_,_+1,.nil=>.nil
 |_,_,n+1,.cons _ t=>Vals.drop n t
theorem Vals.none_of:∀{xs:List V}{us:List Value}{i:Nat},Vals xs us->xs[i]? =none->us[i]? =none:=λ{xs us i} r e=>by
 have h1:=r.length
 have h2:xs.length<=i:=List.getElem?_eq_none_iff.mp e
 exact List.getElem?_eq_none_iff.mpr (by omega)
def Th:Option V->Option Value->Prop
 |some v,some u=>RelV v u
 |none,none=>True
 |_,_=>False
def KV{κ:Type}:List (κ×V)->List (κ×Value)->Prop:=Paired λ(p:κ×V)(q:κ×Value)=>p.1=q.1/\RelV p.2 q.2
def kV:Key->V
 | .inl i=>.int i
 | .inr x=>.str x
inductive HO where
 |lst (xs:List V)
 |tup (xs:List V)
 |dK (kvs:List (Key×V))|dT (kvs:List (List Key×V))
 |set (S:Int->Bool) (n:Nat)
 |ins (C dx:Addr) (fs:List (Str×V))
 |own (x:Addr)
 |xd (fs:List (Str×V))
 |met (f x:Addr)
 |rng (lo hi:Int)
 |frz (o:Obj) (u:HO)
 |tbl (ps:Array Value)
 |ext (φ:Heap->Prop)
abbrev Hp:=Addr->Option HO
def upd(H:Hp)(a:Addr)(o:HO):Hp:=λb=>if b=a then some o else H b
theorem cX{H:Hp}{a:Addr}{o:HO}:upd H a o a=some o:=by unfold upd;rw[if_pos rfl]
theorem aU{H:Hp}{a b:Addr}{o:HO}(h:b≠a):upd H a o b=H b:=by unfold upd;rw[if_neg h]
theorem zP{H:Hp}{a b:Addr}{o u:HO}(h:H a=some o)(h':H b=some u)(d:o≠u):a≠b:=by
 intro e;subst e;rw[h]at h';exact d (Option.some.inj h')
theorem cQ{H:Hp}{a b:Addr}{o:HO}(h:H a=some o)(h':H b=none):a≠b:=by
 intro e;subst e;rw[h]at h';cases h'
section
variable (P:Program) (w:World)
def iD(H:Hp)(h:Heap)(a:Addr):HO->Prop
 | .lst xs=>xs.length<=sizeLine/\∃(its:List Value)(n:Nat),Vals xs its/\h.get? a=some { cls:=.type "list",data:=.seq its.toArray n}
 | .tup xs=>xs.length<=sizeLine/\∃its:List Value,Vals xs its/\IsTup h a its.toArray
 | .dK kvs=>kvs.length<=sizeLine/\(a==sysModules)=false/\∃vs,KV kvs vs/\h.DictOf (yg P w) a vs
 | .dT kvs=>kvs.length<=sizeLine/\(a==sysModules)=false/\∃xs:List (List Key×Addr×Value),
   Paired (λ(p:List Key×V)(q:List Key×Addr×Value)=>p.1=q.1/\H q.2.1=some (.tup (p.1.map kV))/\RelV p.2 q.2.2) kvs xs/\
   ∃o es ep,h.get? a=some o/\o.ExactDict/\o.data= .dict es ep/\es.toList=xs.map (entryOfKey (tupleKind (yg P w)))/\(xs.map (·.1)).Nodup
 | .set S n=>h.SetOf (intKind P w) a S n
 | .ins C dx fs=>H dx=some (.own a)/\fs.length<=1000/\dx≠a/\h.get? a=some (PySem.W.instObj C dx)/\
   ∃mA,h.Ns1 dx mA/\(∀f,Th (fs.lookup f) (mA f))/\PySem.Within mA (fs.map (·.1))
 | .own _=>∃o,h.get? a=some o
 | .xd fs=>∃mA,h.Ns1 a mA/\∀f,Th (fs.lookup f) (mA f)
 | .rng lo hi=>∃t u v,h.get? a=some { cls:=.type "range",data:=.fields #[.int lo t,.int hi u,.int 1 v] }
 | .frz o u=>h.get? a=some o/\iD H h a u
 | .tbl ps=>h.get? a=some { cls:=.none,data:=.fields ps}
 | .met f x=>h.get? a=some (PySem.W.methodObj (.ref f) (.ref x))
 | .ext φ=>φ h/\(∃o,h.get? a=some o)/\∀h1 h2:Heap,φ h1->(∀o,h1.get? a=some o->h2.get? a=some o)->φ h2
def HOk(H:Hp)(h:Heap):Prop:=∀a o,H a=some o->iD P w H h a o
end
section
variable {P:Program} {w:World} {H H':Hp} {h h':Heap} {a:Addr} {o:HO}
theorem iD.lt(x:iD P w H h a o):a<h.objs.size:=by
 cases o with
 |lst xs=>obtain⟨_,_,_,_,e⟩:=x;exact Ze e
 |tup xs=>obtain⟨_,_,_,p⟩:=x;exact p.lt
 |dK kvs=>obtain⟨_,_,_,_,o,_,_,e,_⟩:=x;exact Ze e
 |dT kvs=>obtain⟨_,_,_,_,o,_,_,e,_⟩:=x;exact Ze e
 |set S n=>obtain⟨o,_,_,_,e,_⟩:=x;exact Ze e
 |ins C dx fs=>obtain⟨_,_,_,e,_⟩:=x;exact Ze e
 |own y=>obtain⟨_,e⟩:=x;exact Ze e
 |xd fs=>obtain⟨_,⟨_,_,_,e,_⟩,_⟩:=x;exact Ze e
 |rng lo hi=>obtain⟨_,_,_,e⟩:=x;exact Ze e
 |frz ob u=>obtain⟨e,_⟩:=x;exact Ze e
 |tbl ps=>exact Ze (show h.get? a=some _ from x)
 |met f y=>exact Ze (show h.get? a=some _ from x)
 |ext φ=>obtain⟨_,⟨_,e⟩,_⟩:=x;exact Ze e
theorem Paired.mapP{α β:Type}{F G:α->β->Prop}:∀{l₁:List α}{l₂:List β},Paired F l₁ l₂->(∀a b,F a b->G a b)->Paired G l₁ l₂
 |_,_,.nil,_=>.nil
 |_,_,.cons r t,f=>.cons (f _ _ r) (Paired.mapP t f)
theorem iD.stay(x:iD P w H h a o)(k:∀b u,(b=a∨H b=some (.own a))->h.get? b=some u->h'.get? b=some u)
  (ho:∀b,H b=some (.own a)->H' b=some (.own a)) (ht:∀b xs,H b=some (.tup xs)->H' b=some (.tup xs)):iD P w H' h' a o:=by
 induction o with
 |lst xs=>obtain⟨z,its,n,r,e⟩:=x;exact⟨z,its,n,r,k _ _ (.inl rfl) e⟩
 |tup xs=>obtain⟨z,its,r,ob,e,c⟩:=x;exact⟨z,its,r,ob,k _ _ (.inl rfl) e,c⟩
 |dK kvs=>obtain⟨z,y,vs,r,ob,es,ep,e,c⟩:=x;exact⟨z,y,vs,r,ob,es,ep,k _ _ (.inl rfl) e,c⟩
 |dT kvs=>
  obtain⟨z,y,xs,r,ob,es,ep,e,c⟩:=x
  exact⟨z,y,xs,Paired.mapP r λp q z=>⟨z.1,ht _ _ z.2.1,z.2.2⟩,ob,es,ep,k _ _ (.inl rfl) e,c⟩
 |set S n=>obtain⟨ob,es,ep,t,e,c⟩:=x;exact⟨ob,es,ep,t,k _ _ (.inl rfl) e,c⟩
 |ins C dx fs=>
  obtain⟨d,z,ne,e,mA,⟨od,es,ep,e2,c⟩,r⟩:=x
  exact⟨ho _ d,z,ne,k _ _ (.inl rfl) e,mA,⟨od,es,ep,k _ _ (.inr d) e2,c⟩,r⟩
 |own y=>obtain⟨ob,e⟩:=x;exact⟨ob,k _ _ (.inl rfl) e⟩
 |xd fs=>obtain⟨mA,⟨od,es,ep,e,c⟩,r⟩:=x;exact⟨mA,⟨od,es,ep,k _ _ (.inl rfl) e,c⟩,r⟩
 |rng lo hi=>obtain⟨t,u,v,e⟩:=x;exact⟨t,u,v,k _ _ (.inl rfl) e⟩
 |frz ob u ih=>obtain⟨e,q⟩:=x;exact⟨k _ _ (.inl rfl) e,ih q⟩
 |tbl ps=>
  have e:h.get? a=some { cls:=.none,data:=.fields ps}:=x
  show h'.get? a=some { cls:=.none,data:=.fields ps}
  exact k a _ (.inl rfl) e
 |met f y=>
  have e:h.get? a=some (PySem.W.methodObj (.ref f) (.ref y)):=x
  show h'.get? a=some (PySem.W.methodObj (.ref f) (.ref y))
  exact k a _ (.inl rfl) e
 |ext φ=>obtain⟨p,⟨o,e⟩,st⟩:=x;exact⟨st _ _ p λo q=>k _ _ (.inl rfl) q,⟨o,k _ _ (.inl rfl) e⟩,st⟩
theorem HOk.lt(x:HOk P w H h)(e:H a=some o):a<h.objs.size:=(x a o e).lt
theorem HOk.fresh(x:HOk P w H h)(e:h.objs.size<=a):H a=none:=by
 cases q:H a with
 |none=>rfl
 |some u=>exact absurd (Zc (x.lt q) e) (Nat.lt_irrefl _)
theorem HOk.kept(x:HOk P w H h)(k:∀b u,h.get? b=some u->h'.get? b=some u):HOk P w H h':=λa o e=>
 (x a o e).stay (λb u _ q=>k b u q) (λ_ q=>q) λ_ _ q=>q
theorem HOk.laid(x:HOk P w H h)(k:∀b u,h.get? b=some u->h'.get? b=some u)(hp:h.objs.size<=a)(new:iD P w (upd H a o) h' a o):HOk P w (upd H a o) h':=λb u e=>by
 have hn:=x.fresh hp
 by_cases hb:b=a
 .subst hb;rw[cX]at e;cases e;exact new
 .rw[aU hb]at e
  exact(x b u e).stay (λc v _ q=>k c v q) (λc q=>by rw[aU (cQ q hn)];exact q) λc xs q=>by rw[aU (cQ q hn)];exact q
end
def Rd(H:Hp)(a:Addr)(u:HO):Prop:=H a=some u∨∃o,H a=some (.frz o u)
theorem Rd.ok{P:Program}{w:World}{H:Hp}{h:Heap}{a:Addr}{u:HO}(r:Rd H a u)(x:HOk P w H h):iD P w H h a u:=by
 rcases r with r|⟨o,r⟩
 .exact x a u r
 .obtain⟨_,q⟩:=x a _ r
  exact q
def Mut:Option HO->Prop
 |some (.lst _)=>True
 |some (.dK _)=>True
 |some (.dT _)=>True
 |some (.set _ _)=>True
 |some (.ins _ _ _)=>True
 |some (.ext _)=>True
 |_=>False
section
variable {P:Program} {w:World} {H:Hp} {h h':Heap} {x e:Addr} {o':HO}
theorem HOk.write(ok:HOk P w H h)(mu:Mut (H x))(he:e=x∨H e=some (.own x))(k:∀b u,b≠e->h.get? b=some u->h'.get? b=some u)(heo:∃u,h'.get? e=some u)
  (new:iD P w (upd H x o') h' x o'):HOk P w (upd H x o') h':=λb u q=>by
 have nown:∀c y,H c=some (.own y)->c≠x:=λc y r z=>by subst z;rw[r]at mu;exact mu
 have ntup:∀c xs,H c=some (.tup xs)->c≠x:=λc xs r z=>by subst z;rw[r]at mu;exact mu
 by_cases hb:b=x
 .subst hb;rw[cX]at q;cases q;exact new
 .rw[aU hb]at q
  by_cases hbe:b=e
  .have q':H b=some (.own x):=by
    rcases he with z|z
    .exact absurd (hbe.trans z) hb
    .rw[hbe];exact z
   rw[q]at q';cases q'
   obtain⟨v,hv⟩:=heo
   exact⟨v,by rw[hbe];exact hv⟩
  .refine(ok b u q).stay (λc v hc r=>k c v ?_ r) (λc r=>by rw[aU (nown c b r)];exact r) λc xs r=>by rw[aU (ntup c xs r)];exact r
   rcases hc with rfl|hc
   .exact hbe
   .rintro rfl
    rcases he with z|z
    .exact nown c b hc z
    .rw[hc]at z;cases z;exact hb rfl
end
structure Un(fs ex:List Addr)(H H':Hp)(h h':Heap):Prop where
 keep:∀b o,h.get? b=some o->H b=none->b∉fs->b∉ex->h'.get? b=some o
 slot:∀b o,h.get? b=some o->H b=none->b∈fs->b∉ex->∃sl,h'.get? b=some { o with slots:=sl}
 free:∀b o,h.get? b=some o->H b=none->b∉ex->H' b=none
 there:∀b o,h.get? b=some o->b∉ex->∃o',h'.get? b=some o'
 tups:∀b xs,H b=some (.tup xs)->H' b=some (.tup xs)
 frzs:∀b o u,H b=some (.frz o u)->H' b=some (.frz o u)
 tbls:∀b ps,H b=some (.tbl ps)->∃more,H' b=some (.tbl (ps++more))
section
variable {fs fs' ex ex':List Addr} {H H1 H2:Hp} {h h1 h2 h':Heap} {a x e:Addr} {o:HO}
theorem Un.any(u:Un fs ex H H1 h h1){b:Addr}{ob:Obj}(q:h.get? b=some ob)(n:H b=none)(hx:b∉ex):∃sl,h1.get? b=some { ob with slots:=sl}:=by
 by_cases hb:b∈fs
 .exact u.slot b ob q n hb hx
 .exact⟨ob.slots,u.keep b ob q n hb hx⟩
theorem Un.kept(k:∀b u,h.get? b=some u->h'.get? b=some u):Un fs ex H H h h':=
 ⟨λb ob q _ _ _=>k b ob q,λb ob q _ _ _=>⟨ob.slots,k b ob q⟩,λ_ _ _ n _=>n,λb ob q _=>⟨ob,k b ob q⟩,λ_ _ q=>q,λ_ _ _ q=>q,λ_ ps q=>⟨#[],by rw[q];simp⟩⟩
theorem Un.refl:Un fs ex H H h h:=Un.kept λ_ _ q=>q
theorem Un.laid(k:∀b u,h.get? b=some u->h'.get? b=some u)(hp:h.objs.size<=a)(hn:H a=none):Un fs ex H (upd H a o) h h' where
 keep:=λb u q _ _ _=>k b u q
 slot:=λb u q _ _ _=>⟨u.slots,k b u q⟩
 free:=λb u q n _=>by rw[aU (Zk (Zc (Ze q) hp))];exact n
 there:=λb u q _=>⟨u,k b u q⟩
 tups:=λb xs q=>by rw[aU (cQ q hn)];exact q
 frzs:=λb u xs q=>by rw[aU (cQ q hn)];exact q
 tbls:=λb ps q=>⟨#[],by rw[aU (cQ q hn),q];simp⟩
theorem Un.write(mu:Mut (H x))(he:e=x∨H e=some (.own x))(k:∀b u,b≠e->h.get? b=some u->h'.get? b=some u)(heo:∃u,h'.get? e=some u):Un fs ex H (upd H x o) h h':=by
 have hx:∀b,H b=none->b≠x:=λb n z=>by subst z;rw[n]at mu;exact mu
 have hb:∀b,H b=none->b≠e:=λb n z=>by
  subst z
  rcases he with r|r
  .exact hx b n r
  .rw[n]at r;cases r
 have hm:∀b u,H b=some u->¬Mut (some u)->b≠x:=λb u q nm z=>by subst z;rw[q]at mu;exact nm mu
 refine⟨λb u q n _ _=>k b u (hb b n) q,λb u q n _ _=>⟨u.slots,k b u (hb b n) q⟩,λb u q n _=>by rw[aU (hx b n)];exact n,λb u q _=>?_,
  λb xs q=>by rw[aU (hm b _ q λz=>z)];exact q,λb u xs q=>by rw[aU (hm b _ q λz=>z)];exact q,λb ps q=>⟨#[],by rw[aU (hm b _ q λz=>z),q];simp⟩⟩
 by_cases hbe:b=e
 .subst hbe;exact heo
 .exact⟨u,k b u hbe q⟩
end
def trk(h:Heap)(H:Hp):List Addr:=(List.range h.objs.size).filter λa=>(H a).isSome
def xX(h:Heap)(H:Hp):Heap:=PySem.W.hideAll h (trk h H)
theorem FQ(h:Heap)(H:Hp):(xX h H).objs.size=h.objs.size:=PySem.W.hideAll_size _ _
theorem Iv{h:Heap}{H:Hp}{b:Addr}{o:Obj}(e:h.get? b=some o)(n:H b=none):(xX h H).get? b=some o:=
 PySem.W.hideAll_get _ e λhm=>by
  have q:(H b).isSome=true:=(List.mem_filter.mp hm).2
  rw[n]at q;simp at q
theorem Lw{h:Heap}{H:Hp}{b:Addr}{o:Obj}(e:(xX h H).get? b=some o):h.get? b=some o/\H b=none:=by
 have e':h.get? b=some o:=PySem.W.of_hideAll (trk h H) e
 refine⟨e',?_⟩
 cases q:H b with
 |none=>rfl
 |some x=>
  have hm:b∈trk h H:=List.mem_filter.mpr ⟨List.mem_range.mpr (Ze e'),by simp[q]⟩
  have z:(xX h H).get? b=none:=PySem.W.hideAll_none (trk h H) hm
  rw[z]at e;cases e
def Mx(g h:Heap)(L:Addr):List (Addr×Obj):=(List.range h.objs.size).filterMap λa=>if a=L∨(g.get? a).isSome=true then none else(h.get? a).map λo=>(a,o)
def rest(g h:Heap)(L d:Addr):List (Addr×Obj):=(Mx g h L).filter λp=>decide (p.1≠d)
structure Mod(K:PySem.W.Frag)(mg:Str->Option Value)(base:Heap):Prop where
 kin:K.In base
 glob:base.Ns mainGlobals mg
 blt:∃mb,base.Ns builtinsNs mb/\∀x:Str,x≠"__name__"->mb x=bootBuiltins x
 nolimit:base.NoLimit
 bmain:∃bm ob,mg "__builtins__"=some (.ref bm)/\bm≠builtinsNs/\base.get? bm=some ob/\ob.cls= .type "module"/\ob.dict=some builtinsNs/\ob.data= .plain
structure Cx where
 prog:Program
 w:World
 K:PySem.W.Frag
 mg:Str->Option Value
 base:Heap
 A:Around
 N:List Str
 s₀:Shared
 H₀:Hp
 env:Env
 outer:List Env
 stack:List Env
 ex:List Addr
 fn:Str->Bool
 calm:Bool
 pn:List (Addr×Obj)
 xe:Value->Shared->Prop
def frs(l:List Env):List Addr:=l.filterMap (·.frame)
abbrev Cx.fs(X:Cx):List Addr:=frs X.outer
def Vis(sc:Scope)(x:Str):Prop:=sc.names.lookup x=some .local∨sc.names.lookup x=some .cell∨sc.names.lookup x=some .free
def Loc(sc:Scope)(x:Str):Prop:=sc.names.lookup x=some .local∨sc.names.lookup x=some .cell
def Look(env:Env)(h:Heap)(m:Str->Option Value)(x:Str)(u:Value):Prop:=
 (env.kindOf x=some .local/\m x=some u)∨((env.kindOf x=some .cell∨env.kindOf x=some .free)/\∃c,env.cells.lookup x=some c/\h.IsCell c (some u))
structure Cx.Ok(X:Cx):Prop where
 mod:Mod X.K X.mg X.base
 kind:X.env.scope.kind= .function
 glob:X.env.globals=mainGlobals
 blt:X.env.builtins=builtinsNs
 above:X.s₀.heap.objs.size<=X.env.locals
 inj:∀x y c,X.env.cells.lookup x=some c->X.env.cells.lookup y=some c->x=y
 has:∀x,(X.env.kindOf x=some .cell∨X.env.kindOf x=some .free)->∃c,X.env.cells.lookup x=some c
 cab:∀x c,X.fn x=true->X.env.cells.lookup x=some c->X.s₀.heap.objs.size<=c
 hd:X.calm=true->X.A.handled=none
 frames:X.A.frames=some X.stack
 stk:X.stack=X.outer∨(X.stack=X.env::X.outer/\X.env.frame=some X.env.locals)
 exf:∀b∈X.ex,b≠X.env.locals/\∀x c,X.env.cells.lookup x=some c->c≠b
 bs:∀b o,X.base.get? b=some o->X.s₀.heap.get? b=some o/\X.H₀ b=none
 bsz:X.base.objs.size<=X.s₀.heap.objs.size
 noex:∀b o,X.base.get? b=some o->b∉X.ex
 exfs:∀b∈X.ex,b∉X.fs
 funs:X.s₀.heap.FunFrames X.base X.outer
 frf:∀b∈X.fs,X.H₀ b=none
structure GK(a b:Array GenState):Prop where
 bare:AllBare b
 kept:∀(k:Nat)(g:GenState),a[k]? =some g->b[k]? =some g
theorem GK.refl{a:Array GenState}(h:AllBare a):GK a a:=⟨h,λ_ _ e=>e⟩
theorem GK.trans{a b c:Array GenState}(x:GK a b)(y:GK b c):GK a c:=⟨y.bare,λk g e=>y.kept k g (x.kept k g e)⟩
theorem GK.again{a b:Array GenState}(x:GK a b):GK b b:=GK.refl x.bare
structure Inv(X:Cx)(pins:List (Addr×Obj))(σ:List (Option V))(H:Hp)(s:Shared):Prop where
 ok:X.Ok
 os:s.os=X.s₀.os
 bare:GK X.s₀.gens s.gens
 base:Un X.fs X.ex X.H₀ H X.s₀.heap s.heap
 loc:∃m,s.heap.Ns X.env.locals m/\∀(i:Nat)(x:Str)(v:V),X.N[i]? =some x->σ[i]? =some (some v)->Vis X.env.scope x->∃u,RelV v u/\Look X.env s.heap m x u
 cell:∀x c,X.env.cells.lookup x=some c->∃v,s.heap.IsCell c v
 free:H X.env.locals=none
 freeC:∀x c,X.env.cells.lookup x=some c->H c=none
 pin:∀p∈X.pn++pins,s.heap.get? p.1=some p.2/\H p.1=none/\p.1≠X.env.locals/\p.1∉X.fs/\∀v,p.2.data≠ .cell v
 hok:HOk X.prog X.w H s.heap
 len:σ.length=X.N.length
section
variable {X:Cx} {pins:List (Addr×Obj)} {σ:List (Option V)} {H H':Hp} {s:Shared} {h':Heap}
theorem Cx.Ok.nofr(ok:X.Ok){b:Addr}{o:Obj}(e:X.base.get? b=some o):b∉X.fs:=λhb=>by
 have:=(ok.funs.mem hb).1
 rw[e]at this;cases this
theorem Inv.bs(I:Inv X pins σ H s):∀b o,X.base.get? b=some o->s.heap.get? b=some o/\H b=none:=λb o e=>
 ⟨I.base.keep b o (I.ok.bs b o e).1 (I.ok.bs b o e).2 (I.ok.nofr e) (I.ok.noex b o e),I.base.free b o (I.ok.bs b o e).1 (I.ok.bs b o e).2 (I.ok.noex b o e)⟩
theorem Inv.bk(I:Inv X pins σ H s):∀b o,X.base.get? b=some o->s.heap.get? b=some o:=λb o e=>(I.bs b o e).1
theorem Inv.mod(I:Inv X pins σ H s):Mod X.K X.mg X.base:=I.ok.mod
theorem Inv.kIn(I:Inv X pins σ H s):X.K.In s.heap:=I.ok.mod.kin.keeps I.bk
theorem Inv.nolimit(I:Inv X pins σ H s):s.heap.NoLimit:=I.ok.mod.nolimit.keeps I.bk
theorem Inv.fr(I:Inv X pins σ H s):∃m,Fr X.base X.env.locals s.heap m:=
 let⟨m,hn,_⟩:=I.loc
 ⟨m,hn,I.bk,Zl I.ok.bsz I.ok.above⟩
theorem Inv.lt(I:Inv X pins σ H s):X.env.locals<s.heap.objs.size:=let⟨_,hn,_⟩:=I.loc;hn.lt
theorem Inv.sz(I:Inv X pins σ H s):X.s₀.heap.objs.size<=s.heap.objs.size:=Zl I.ok.above (Nat.le_of_lt I.lt)
theorem Inv.nofs(I:Inv X pins σ H s){a:Addr}(h:s.heap.objs.size<=a):a∉X.fs:=λhb=>by
 obtain⟨_,o,ho,_⟩:=I.ok.funs.mem hb
 exact absurd (Zc (Ze ho) (Zl I.sz h)) (Nat.lt_irrefl _)
theorem Inv.cne(I:Inv X pins σ H s):∀x c,X.env.cells.lookup x=some c->c≠X.env.locals:=λx c e z=>by
 obtain⟨v,o,ho,hd⟩:=I.cell x c e
 obtain⟨m,⟨o',es,ep,ho',hd',_⟩,_⟩:=I.loc
 rw[z,ho']at ho;cases ho;rw[hd']at hd;cases hd
theorem Inv.funs(I:Inv X pins σ H s):s.heap.FunFrames X.base X.outer:=by
 have all:∀(l:List Env),(∀b∈frs l,b∈X.fs)->X.s₀.heap.FunFrames X.base l->s.heap.FunFrames X.base l:=by
  intro l
  induction l with
  |nil=>intro _ _;trivial
  |cons env r ih=>
   intro hs hl
   obtain⟨hk,⟨L,o,hf,hn,ho,hd⟩,hr⟩:=hl
   have hL:L∈X.fs:=hs L (by unfold frs;rw[List.filterMap_cons,hf];exact List.mem_cons_self)
   obtain⟨sl,e⟩:=I.base.slot L o ho (I.ok.frf L hL) hL λz=>I.ok.exfs L z hL
   exact⟨hk,⟨L,_,hf,hn,e,hd⟩,ih (λb hb=>hs b (by unfold frs;rw[List.filterMap_cons,hf];exact List.mem_cons_of_mem _ hb)) hr⟩
 exact all X.outer (λ_ hb=>hb) I.ok.funs
theorem Inv.stack(I:Inv X pins σ H s):s.heap.FunFrames X.base X.stack:=by
 rcases I.ok.stk with e|⟨e,hf⟩
 .rw[e];exact I.funs
 .rw[e]
  obtain⟨m,hn,_⟩:=I.loc
  refine .cons (by rw[I.ok.kind];decide) hf hn ?_ I.funs
  exact Heap.get?_none_of_le (Zl I.ok.bsz I.ok.above)
theorem Inv.stkSub(I:Inv X pins σ H s):∀b∈frs X.stack,b∈X.env.locals::X.fs:=λb hb=>by
 rcases I.ok.stk with e|⟨e,hf⟩
 .rw[e]at hb;exact List.mem_cons_of_mem _ hb
 .rw[e]at hb
  unfold frs at hb
  rw[List.filterMap_cons,hf]at hb
  exact hb
theorem Inv.stkFree(I:Inv X pins σ H s):∀b∈frs X.stack,H b=none:=λb hb=>by
 rcases Zi.mp (I.stkSub b hb)with e|hb
 .rw[e];exact I.free
 .obtain⟨_,o,ho,_⟩:=I.ok.funs.mem hb
  exact I.base.free b o ho (I.ok.frf b hb) λz=>I.ok.exfs b z hb
theorem Inv.step{g':Array GenState}{t':Nat}{d':Drawn}{ch:List Addr}(I:Inv X pins σ H s)
  (hch:∀b∈ch,(b∈X.ex∨X.s₀.heap.objs.size<=b)/\b≠X.env.locals/\(∀x c,X.env.cells.lookup x=some c->c≠b)/\∀p∈X.pn++pins,p.1≠b)
  (keep:∀b o,b≠X.env.locals->b∉X.fs->b∉ch->s.heap.get? b=some o->H b=none->h'.get? b=some o)
  (slot:∀b o,b≠X.env.locals->b∈X.fs->b∉ch->s.heap.get? b=some o->H b=none->∃sl,h'.get? b=some { o with slots:=sl}) (free:∀b o,b∉ch->s.heap.get? b=some o->H b=none->H' b=none)
  (there:∀b o,b∉ch->s.heap.get? b=some o->∃o',h'.get? b=some o')
  (tups:∀b xs,H b=some (.tup xs)->H' b=some (.tup xs)) (frzs:∀b o u,H b=some (.frz o u)->H' b=some (.frz o u)) (tbls:∀b ps,H b=some (.tbl ps)->∃more,H' b=some (.tbl (ps++more)))
  (ns:∀m,s.heap.Ns X.env.locals m->h'.Ns X.env.locals m) (hok:HOk X.prog X.w H' h') (hg:GK s.gens g'):
  Inv X pins σ H' { s with heap:=h',gens:=g',drawn:=d',toks:=t'}:=by
 have neL:∀b o,X.s₀.heap.get? b=some o->b≠X.env.locals:=λb o e=>Zk (Zc (Ze e) I.ok.above)
 have neC:∀b o,X.s₀.heap.get? b=some o->b∉X.ex->b∉ch:=λb o e hx hb=>by
  rcases(hch b hb).1 with z|z
  .exact hx z
  .exact absurd (Zc (Ze e) z) (Nat.lt_irrefl _)
 have cellK:∀x c,X.env.cells.lookup x=some c->∀v,s.heap.IsCell c v->h'.IsCell c v:=λx c e v zq1=>by
  obtain⟨o,ho,hd⟩:=zq1
  have nch:c∉ch:=λz=>(hch c z).2.2.1 x c e rfl
  by_cases hc:c∈X.fs
  .obtain⟨sl,q⟩:=slot c o (I.cne x c e) hc nch ho (I.freeC x c e)
   exact⟨_,q,hd⟩
  .exact⟨o,keep c o (I.cne x c e) hc nch ho (I.freeC x c e),hd⟩
 refine⟨I.ok,I.os,I.bare.trans hg,⟨λb o e n hb hx=>?_,λb o e n hb hx=>?_,λb o e n hx=>?_,λb o e hx=>?_,λb xs e=>tups b xs (I.base.tups b xs e),λb o xs e=>frzs b o xs (I.base.frzs b o xs e),λb ps e=>?_⟩,?_,λx c e=>?_,?_,λx c e=>?_,λp hp=>?_,hok,I.len⟩
 .exact keep b o (neL b o e) hb (neC b o e hx) (I.base.keep b o e n hb hx) (I.base.free b o e n hx)
 .obtain⟨sl,e1⟩:=I.base.slot b o e n hb hx
  obtain⟨sl',e2⟩:=slot b _ (neL b o e) hb (neC b o e hx) e1 (I.base.free b o e n hx)
  exact⟨sl',e2⟩
 .obtain⟨o',e1⟩:=I.base.there b o e hx
  exact free b o' (neC b o e hx) e1 (I.base.free b o e n hx)
 .obtain⟨o',e1⟩:=I.base.there b o e hx
  exact there b o' (neC b o e hx) e1
 .obtain⟨m1,e1⟩:=I.base.tbls b ps e
  obtain⟨m2,e2⟩:=tbls b _ e1
  exact⟨m1++m2,by rw[e2,Array.append_assoc]⟩
 .obtain⟨m,hn,hl⟩:=I.loc
  refine⟨m,ns m hn,λi x v e1 e2 e3=>?_⟩
  obtain⟨u,r,l⟩:=hl i x v e1 e2 e3
  refine⟨u,r,?_⟩
  rcases l with l|⟨k,c,e,z⟩
  .exact .inl l
  .exact .inr ⟨k,c,e,cellK x c e _ z⟩
 .obtain⟨v,z⟩:=I.cell x c e
  exact⟨v,cellK x c e v z⟩
 .obtain⟨m,⟨o,_,_,ho,_⟩,_⟩:=I.loc
  exact free _ o (λz=>(hch _ z).2.1 rfl) ho I.free
 .obtain⟨v,o,ho,hd⟩:=I.cell x c e
  exact free c o (λz=>(hch c z).2.2.1 x c e rfl) ho (I.freeC x c e)
 .obtain⟨e,n,ne,nf,d⟩:=I.pin p hp
  have nch:p.1∉ch:=λz=>(hch p.1 z).2.2.2 p hp rfl
  exact⟨keep p.1 p.2 ne nf nch e n,free p.1 p.2 nch e n,ne,nf,d⟩
theorem Inv.un{t':Nat}(I:Inv X pins σ H s)(u:Un X.fs [] H H' s.heap h')(hok:HOk X.prog X.w H' h'):Inv X pins σ H' { s with heap:=h',toks:=t'}:=by
 obtain⟨m,⟨o,es,ep,ho,r⟩,_⟩:=id I.loc
 obtain⟨sl,hL⟩:=u.any ho I.free (by simp)
 exact I.step (g':=s.gens) (d':=s.drawn) (ch:=[]) (λ_ z=>nomatch z) (λb o _ hb _ e n=>u.keep b o e n hb (by simp)) (λb o _ hb _ e n=>u.slot b o e n hb (by simp)) (λb o _ e n=>u.free b o e n (by simp)) (λb o _ e=>u.there b o e (by simp)) u.tups u.frzs u.tbls (λm' hm=>by
  obtain⟨o',es',ep',ho',r'⟩:=hm
  rw[ho]at ho';cases ho'
  exact⟨_,es',ep',hL,r'⟩) hok I.bare.again
theorem Inv.call{g':Array GenState}{t':Nat}{d':Drawn}{ch:List Addr}(I:Inv X pins σ H s)(u:Un (frs X.stack) ch H H' s.heap h')(hok:HOk X.prog X.w H' h')(hg:GK s.gens g')
  (hch:∀b∈ch,(b∈X.ex∨X.s₀.heap.objs.size<=b)/\b≠X.env.locals/\(∀x c,X.env.cells.lookup x=some c->c≠b)/\∀p∈X.pn++pins,p.1≠b):
  Inv X pins σ H' { s with heap:=h',gens:=g',drawn:=d',toks:=t'}:=by
 obtain⟨m,⟨o,es,ep,ho,r⟩,_⟩:=id I.loc
 obtain⟨sl,hL⟩:=u.any ho I.free λz=>(hch _ z).2.1 rfl
 exact I.step (ch:=ch) hch (λb o hL hb hc e n=>u.keep b o e n (λz=>(Zi.mp (I.stkSub b z)).elim hL hb) hc) (λb o _ _ hc e n=>u.any e n hc) (λb o hc e n=>u.free b o e n hc) (λb o hc e=>u.there b o e hc) u.tups u.frzs u.tbls (λm' hm=>by
  obtain⟨o',es',ep',ho',r'⟩:=hm
  rw[ho]at ho';cases ho'
  exact⟨_,es',ep',hL,r'⟩) hok hg
theorem Inv.turned{t':Nat}{it:Addr}(I:Inv X pins σ H s)(k:∀b o,b≠it->s.heap.get? b=some o->h'.get? b=some o)(hn:H it=none)(hL:it≠X.env.locals)
  (h1:it∈X.ex∨X.s₀.heap.objs.size<=it) (h2:∀x c,X.env.cells.lookup x=some c->c≠it) (h3:∀p∈X.pn++pins,p.1≠it):Inv X pins σ H { s with heap:=h',toks:=t'}:=by
 have nit:∀b u,H b=some u->b≠it:=λb u e z=>by rw[z,hn]at e;cases e
 refine I.step (g':=s.gens) (d':=s.drawn) (ch:=[it]) (λb hb=>?_) (λb o _ _ hc e _=>k b o (λz=>hc (by simp[z])) e) (λb o _ _ hc e _=>⟨o.slots,k b o (λz=>hc (by simp[z])) e⟩) (λ_ _ _ _ n=>n)
  (λb o hc e=>⟨o,k b o (λz=>hc (by simp[z])) e⟩) (λ_ _ e=>e) (λ_ _ _ e=>e) (λb ps e=>⟨#[],by rw[e];simp⟩) (λm hm=>?_) (λb u e=>?_) I.bare.again
 .have e:b=it:=by simpa using hb
  subst e
  exact⟨h1,hL,h2,h3⟩
 .obtain⟨o,es,ep,ho,r⟩:=hm
  exact⟨o,es,ep,k _ o (Ne.symm hL) ho,r⟩
 .refine(I.hok b u e).stay (λc v hc q=>k c v ?_ q) (λ_ q=>q) λ_ _ q=>q
  rcases hc with z|z
  .rw[z];exact nit b u e
  .exact nit c _ z
theorem Inv.tok(I:Inv X pins σ H s)(t:Nat):Inv X pins σ H { s with toks:=t}:=I.un (h':=s.heap) (t':=t) Un.refl I.hok
theorem Inv.kept{t':Nat}(I:Inv X pins σ H s)(k:∀b u,s.heap.get? b=some u->h'.get? b=some u):Inv X pins σ H { s with heap:=h',toks:=t'}:=I.un (Un.kept k) (I.hok.kept k)
theorem Inv.laid{a:Addr}{o:HO}{t':Nat}(I:Inv X pins σ H s)(k:∀b u,s.heap.get? b=some u->h'.get? b=some u)(hp:s.heap.objs.size<=a)(new:iD X.prog X.w (upd H a o) h' a o):
  Inv X pins σ (upd H a o) { s with heap:=h',toks:=t'}:=I.un (Un.laid k hp (I.hok.fresh hp)) (I.hok.laid k hp new)
theorem Inv.write{x e:Addr}{o:HO}{t':Nat}(I:Inv X pins σ H s)(mu:Mut (H x))(he:e=x∨H e=some (.own x))(k:∀b u,b≠e->s.heap.get? b=some u->h'.get? b=some u)(heo:∃u,h'.get? e=some u)
  (new:iD X.prog X.w (upd H x o) h' x o):Inv X pins σ (upd H x o) { s with heap:=h',toks:=t'}:=I.un (Un.write mu he k heo) (I.hok.write mu he k heo new)
theorem Inv.weak{σ':List (Option V)}(I:Inv X pins σ H s)(hl:σ'.length=σ.length)(w:∀(i:Nat) v,σ'[i]? =some (some v)->σ[i]? =some (some v)):Inv X pins σ' H s:=
 ⟨I.ok,I.os,I.bare,I.base,let⟨m,hn,hl'⟩:=I.loc;⟨m,hn,λi x v e1 e2 e3=>hl' i x v e1 (w i v e2) e3⟩,I.cell,I.free,I.freeC,I.pin,I.hok,hl.trans I.len⟩
theorem Inv.pins_of{pins':List (Addr×Obj)}(I:Inv X pins σ H s)(h:∀p∈pins',s.heap.get? p.1=some p.2/\H p.1=none/\p.1≠X.env.locals/\p.1∉X.fs/\∀v,p.2.data≠ .cell v):Inv X pins' σ H s:=
 ⟨I.ok,I.os,I.bare,I.base,I.loc,I.cell,I.free,I.freeC,λp hp=>(Zm.mp hp).elim (λz=>I.pin p (List.mem_append_left _ z)) (h p),I.hok,I.len⟩
theorem zR{N:List Str}(hN:N.Nodup){i j:Nat}{x:Str}(a:N[i]? =some x)(b:N[j]? =some x):i=j:=by
 obtain⟨h1,e1⟩:=Zh.mp a
 obtain⟨h2,e2⟩:=Zh.mp b
 exact(List.getElem_inj hN).mp (e1.trans e2.symm)
theorem xr{M:Model}{A:Around}{E:Value->Shared->Prop}{i:Nat}{x:Str}{v:V}{u:Value}{Q:Unit->Shared->Prop}(I:Inv X pins σ H s)(hN:X.N.Nodup)(hi:X.N[i]? =some x)(hx:Loc X.env.scope x)(r:RelV v u)
  (h:∀s',Inv X pins (σ.set i (some v)) H s'->(∃a,Heap.SameBut a s.heap s'.heap/\(a=X.env.locals∨X.env.cells.lookup x=some a))->Q () s') (hf:X.fn x=true∨X.env.scope.names.lookup x=some .local:=by first|exact .inl rfl|exact .inr rfl|assumption):wpAny M A (storeName X.env x u) Q E s:=by
 obtain⟨m,hn,hl⟩:=id I.loc
 have hcls:(X.env.scope.kind== .class||(X.env.scope.kind== .module&&X.env.locals != X.env.globals))=false:=by rw[I.ok.kind];rfl
 have hiσ:i<σ.length:=by rw[I.len];exact(Zh.mp hi).1
 have cne:=I.cne
 have tracked:∀{a:Addr}{h':Heap},(∃o,s.heap.get? a=some o/\H a=none)->Heap.SameBut a s.heap h'->HOk X.prog X.w H h':=λ{a h'} ha hs b ob e=>by
  obtain⟨_,_,hfree⟩:=ha
  refine(I.hok b ob e).stay (λc w' hc q=>(hs.2 c ?_).trans q) (λ_ q=>q) λ_ _ q=>q
  rintro rfl
  rcases hc with rfl|hc
  .rw[hfree]at e;cases e
  .rw[hfree]at hc;cases hc
 rcases hx with hk|hk
 .refine wpAny_storeName_local hk hn (λh' hn' hs=>?_) hcls
  obtain⟨oL,_,_,hoL,_⟩:=id hn
  refine h _ ⟨I.ok,I.os,I.bare,⟨λb o e n hb hx=>?_,λb o e n hb hx=>?_,I.base.free,λb o e hx=>?_,I.base.tups,I.base.frzs,I.base.tbls⟩,⟨_,hn',λj y v' e1 e2 e3=>?_⟩,λy c e=>?_,I.free,I.freeC,λp hp=>?_,tracked ⟨oL,hoL,I.free⟩ hs,by simpa using I.len⟩ ⟨_,hs,.inl rfl⟩
  .exact(hs.2 b (Zk (Zc (Ze e) I.ok.above))).trans (I.base.keep b o e n hb hx)
  .obtain⟨sl,e1⟩:=I.base.slot b o e n hb hx
   exact⟨sl,(hs.2 b (Zk (Zc (Ze e) I.ok.above))).trans e1⟩
  .obtain⟨o',e1⟩:=I.base.there b o e hx
   exact⟨o',(hs.2 b (Zk (Zc (Ze e) I.ok.above))).trans e1⟩
  .by_cases hj:j=i
   .subst hj
    rw[hi]at e1;cases e1
    rw[List.getElem?_set_self hiσ]at e2
    cases e2
    exact⟨u,r,.inl ⟨hk,by simp⟩⟩
   .rw[List.getElem?_set_ne (Ne.symm hj)]at e2
    obtain⟨u',r',q⟩:=hl j y v' e1 e2 e3
    refine⟨u',r',?_⟩
    rcases q with⟨k,e⟩|⟨k,c,e,z⟩
    .refine .inl ⟨k,?_⟩
     have:y≠x:=λe=>hj (zR hN e1 (e▸hi))
     simp[this,e]
    .exact .inr ⟨k,c,e,z.sameBut hs (cne y c e)⟩
  .obtain⟨w',z⟩:=I.cell y c e
   exact⟨w',z.sameBut hs (cne y c e)⟩
  .obtain⟨e,n,ne,nf,d⟩:=I.pin p hp
   exact⟨(hs.2 p.1 ne).trans e,n,ne,nf,d⟩
 .have hfn:X.fn x=true:=by
   rcases hf with z|z
   .exact z
   .rw[z]at hk;cases hk
  obtain⟨c,hc⟩:=I.ok.has x (.inl hk)
  obtain⟨w',z⟩:=I.cell x c hc
  refine wpAny_storeName_cell I.ok.kind hk hc z (λh' hc' hs=>?_)
  obtain⟨oc,hoc,hocd⟩:=id z
  refine h { s with heap:=h'} ⟨I.ok,I.os,I.bare,⟨λb o e n hb hx=>?_,λb o e n hb hx=>?_,I.base.free,λb o e hx=>?_,I.base.tups,I.base.frzs,I.base.tbls⟩,⟨m,hn.sameBut hs (Ne.symm (cne x c hc)),λj y v' e1 e2 e3=>?_⟩,λy c' e=>?_,I.free,I.freeC,λp hp=>?_,tracked ⟨oc,hoc,I.freeC x c hc⟩ hs,by simpa using I.len⟩ ⟨c,hs,.inr hc⟩
  .exact(hs.2 b (Zk (Zc (Ze e) (I.ok.cab x c hfn hc)))).trans (I.base.keep b o e n hb hx)
  .obtain⟨sl,e1⟩:=I.base.slot b o e n hb hx
   exact⟨sl,(hs.2 b (Zk (Zc (Ze e) (I.ok.cab x c hfn hc)))).trans e1⟩
  .obtain⟨o',e1⟩:=I.base.there b o e hx
   exact⟨o',(hs.2 b (Zk (Zc (Ze e) (I.ok.cab x c hfn hc)))).trans e1⟩
  .by_cases hj:j=i
   .subst hj
    rw[hi]at e1;cases e1
    rw[List.getElem?_set_self hiσ]at e2
    cases e2
    exact⟨u,r,.inr ⟨.inl hk,c,hc,hc'⟩⟩
   .rw[List.getElem?_set_ne (Ne.symm hj)]at e2
    obtain⟨u',r',q⟩:=hl j y v' e1 e2 e3
    refine⟨u',r',?_⟩
    rcases q with q|⟨k,c',e,z'⟩
    .exact .inl q
    .refine .inr ⟨k,c',e,z'.sameBut hs ?_⟩
     rintro rfl
     exact hj (zR hN e1 (I.ok.inj _ _ _ e hc▸hi))
  .by_cases hcc:c'=c
   .subst hcc;exact⟨_,hc'⟩
   .obtain⟨w2,z2⟩:=I.cell y c' e
    exact⟨w2,z2.sameBut hs hcc⟩
  .obtain⟨e,n,ne,nf,d⟩:=I.pin p hp
   refine⟨(hs.2 p.1 ?_).trans e,n,ne,nf,d⟩
   intro q
   rw[q,hoc]at e
   have q':oc=p.2:=Option.some.inj e
   exact d w' (by rw[<-q'];exact hocd)
theorem nM{M:Model}{A:Around}{E:Value->Shared->Prop}{i:Nat}{x:Str}{v:V}{u:Value}{Q:Unit->Shared->Prop}(I:Inv X pins σ H s)(hN:X.N.Nodup)(hi:X.N[i]? =some x)(hx:Loc X.env.scope x)(r:RelV v u)
  (h:∀s',Inv X pins (σ.set i (some v)) H s'->Q () s') (hf:X.fn x=true∨X.env.scope.names.lookup x=some .local:=by first|exact .inl rfl|exact .inr rfl|assumption):wpAny M A (storeName X.env x u) Q E s:=
 xr I hN hi hx r (λs' I' _=>h s' I') hf
theorem Inv.call'{s':Shared}{ch:List Addr}(I:Inv X pins σ H s)(ho:s'.os=s.os)(u:Un (frs X.stack) ch H H' s.heap s'.heap)(hok:HOk X.prog X.w H' s'.heap)(hg:GK s.gens s'.gens)
  (hch:∀b∈ch,(b∈X.ex∨X.s₀.heap.objs.size<=b)/\b≠X.env.locals/\(∀x c,X.env.cells.lookup x=some c->c≠b)/\∀p∈X.pn++pins,p.1≠b):Inv X pins σ H' s':=by
 obtain⟨h',g',d',t',o'⟩:=s'
 have e:o'=s.os:=ho
 subst e
 exact I.call (g':=g') (t':=t') (d':=d') u hok hg hch
end
abbrev XK:=Value->Option Addr->Hp->Prop
abbrev St:=List (Option V)
abbrev VK:=V->Hp->Prop
abbrev TE:=St->Hp->VK->Prop
abbrev TT:=St->Hp->(Bool->Hp->Prop)->Prop
abbrev TA:=St->Hp->(List V->Hp->Prop)->Prop
structure Ends where
 nx:St->Hp->Prop
 rt:VK
 bk:St->Hp->Prop:=λ_ _=>False
 ct:St->Hp->Prop:=λ_ _=>False
abbrev TS:=Ends->St->Hp->Prop
def EP(X:Cx)(pins:List (Addr×Obj))(σ:St)(Q:VK)(u:Value)(s':Shared):Prop:=∃v H',Inv X pins σ H' s'/\RelV v u/\Q v H'
def TP(X:Cx)(pins:List (Addr×Obj))(σ:St)(Q:Bool->Hp->Prop)(b:Bool)(s':Shared):Prop:=∃H',Inv X pins σ H' s'/\Q b H'
def AP(X:Cx)(pins:List (Addr×Obj))(σ:St)(Q:List V->Hp->Prop)(us:List Value)(s':Shared):Prop:=∃vs H',Inv X pins σ H' s'/\Vals vs us/\Q vs H'
def SP(X:Cx)(pins:List (Addr×Obj))(D:Ends)(f:Flow)(s':Shared):Prop:=
 match f with
 | .next=>∃σ' H',Inv X pins σ' H' s'/\D.nx σ' H'
 | .brk=>∃σ' H',Inv X pins σ' H' s'/\D.bk σ' H'
 | .cont=>∃σ' H',Inv X pins σ' H' s'/\D.ct σ' H'
 | .ret u=>∃v σ' H',Inv X pins σ' H' s'/\RelV v u/\D.rt v H'
def PE(X:Cx)(e:Expr)(t:TE):Prop:=
 ∀(pins:List (Addr×Obj))(s:Shared)(σ:St)(H:Hp)(Q:VK),Inv X pins σ H s->t σ H Q->wpAny (model X.prog X.w) X.A (eval e X.env) (EP X pins σ Q) X.xe s
def PT(X:Cx)(e:Expr)(t:TT):Prop:=
 ∀(pins:List (Addr×Obj))(s:Shared)(σ:St)(H:Hp)(Q:Bool->Hp->Prop),Inv X pins σ H s->t σ H Q->wpAny (model X.prog X.w) X.A (isTrue e X.env (eval e X.env)) (TP X pins σ Q) X.xe s
def PW(X:Cx)(e:Expr)(t:TT):Prop:=
 ∀(whole:Sem Value)(pins:List (Addr×Obj))(s:Shared)(σ:St)(H:Hp)(Q:Bool->Hp->Prop),Inv X pins σ H s->t σ H Q->wpAny (model X.prog X.w) X.A (isTrue e X.env whole) (TP X pins σ Q) X.xe s
theorem PW.pt{X:Cx}{e:Expr}{t:TT}(h:PW X e t):PT X e t:=h _
def PA(X:Cx)(es:List Expr)(t:TA):Prop:=
 ∀(pos:Pos)(pins:List (Addr×Obj))(s:Shared)(σ:St)(H:Hp)(Q:List V->Hp->Prop),Inv X pins σ H s->t σ H Q->wpAny (model X.prog X.w) X.A (spliced (backTo pos (starEach es X.env))) (AP X pins σ Q) X.xe s
def PS(X:Cx)(st:Stmt)(t:TS):Prop:=
 ∀(pins:List (Addr×Obj))(s:Shared)(σ:St)(H:Hp)(D:Ends),Inv X pins σ H s->t D σ H->wpAny (model X.prog X.w) X.A (exec st X.env) (SP X pins D) X.xe s
def PSs(X:Cx)(st:List Stmt)(t:TS):Prop:=
 ∀(pins:List (Addr×Obj))(s:Shared)(σ:St)(H:Hp)(D:Ends),Inv X pins σ H s->t D σ H->wpAny (model X.prog X.w) X.A (execs st X.env) (SP X pins D) X.xe s
theorem thn{α:Type}{t:Sem α}{Q Q':α->Shared->Prop}{M:Model}{A:Around}{E:Value->Shared->Prop}{s:Shared}(h:wpAny M A t Q E s)(hQ:∀a s,Q a s->Q' a s):wpAny M A t Q' E s:=wpAny_mono h hQ λ_ _ x=>x
section
variable {X:Cx}
def tVar(i:Nat):TE:=λσ H Q=>∃v,σ[i]? =some (some v)/\Q v H
def tC(v:V):TE:=λ_ H Q=>Q v H
theorem PB{i:Nat}{x:Str}{pos:Pos}(hN:X.N[i]? =some x)(hv:Vis X.env.scope x)(hd:(x==("__debug__":Str))=false:=by decide)(hcd:(x==("__classdict__":Str))=false:=by decide):PE X (.Name x pos) (tVar i):=by
 intro pins s σ H Q I h
 obtain⟨v,e,h⟩:=h
 obtain⟨m,hn,hl⟩:=I.loc
 obtain⟨u,r,l⟩:=hl i x v hN e hv
 have fin:EP X pins σ Q u s:=⟨v,H,I,r,h⟩
 rcases l with⟨hk,hm⟩|⟨hk,c,hc,hcell⟩
 .exact wpAny_Name (wpAny_loadName_local I.ok.kind hk hn hm fin) hd
 .rcases hk with hk|hk
  .exact wpAny_Name (wpAny_loadName_cell I.ok.kind hk hc hcell fin) hd
  .exact wpAny_Name (wpAny_loadName_free I.ok.kind hk hc hcell fin hcd) hd
theorem Ii{i j pos}:PE X (.Constant (.int i) j pos) (tC (.int i)):=λ_ _ _ H _ I h=>wpAny_Constant_int ⟨.int i,H,I.tok _,⟨_,rfl⟩,h⟩
theorem Tu{b j pos}:PE X (.Constant (.bool b) j pos) (tC (.bl b)):=λ_ _ _ H _ I h=>Constant_bool ⟨.bl b,H,I,rfl,h⟩
def Gl(X:Cx)(x:Str):Prop:=X.env.kindOf x=some .globalImplicit
theorem Mr{E:Value->Shared->Prop}{pins:List (Addr×Obj)}{s:Shared}{σ:St}{H:Hp}{x:Str}{u:Value}{pos:Pos}{Q:Value->Shared->Prop}(I:Inv X pins σ H s)(hg:Gl X x)(hm:X.mg x=some u)(h:Q u s)
  (hd:(x==("__debug__":Str))=false:=by decide):wpAny (model X.prog X.w) X.A (eval (.Name x pos) X.env) Q E s:=
 Calls.Name_function_global I.ok.kind hg (Calls.loadGlobal_global (by rw[I.ok.glob];exact I.mod.glob.keeps I.bk) hm h) hd
theorem mK{E:Value->Shared->Prop}{pins:List (Addr×Obj)}{s:Shared}{σ:St}{H:Hp}{x:Str}{u:Value}{pos:Pos}{Q:Value->Shared->Prop}(I:Inv X pins σ H s)(hg:Gl X x)(hm:X.mg x=none)(hv:bootBuiltins x=some u)(h:Q u s)
  (hn:x≠"__name__":=by decide) (hd:(x==("__debug__":Str))=false:=by decide):wpAny (model X.prog X.w) X.A (eval (.Name x pos) X.env) Q E s:=by
 obtain⟨mb,h1,h2⟩:=I.mod.blt
 exact Calls.Name_function_global I.ok.kind hg (Calls.loadGlobal_builtin (by rw[I.ok.glob];exact I.mod.glob.keeps I.bk) hm (by rw[I.ok.blt];exact h1.keeps I.bk) ((h2 x hn).trans hv) h) hd
theorem Lb{x:Str}{v:V}{u:Value}{pos:Pos}(hg:Gl X x)(hm:X.mg x=none)(hv:bootBuiltins x=some u)(r:RelV v u)(hn:x≠"__name__":=by decide)(hd:(x==("__debug__":Str))=false:=by decide):PE X (.Name x pos) (tC v):=
 λ_ _ _ H _ I h=>mK I hg hm hv ⟨v,H,I,r,h⟩ hn hd
variable {a b:Expr} {ta tb:TE} {pos:Pos}
theorem Bo(b:Expr){op:CmpOp}(h:op≠ .In)(h2:op≠ .NotIn):behindInMarks op b=false:=by
 have e1:(op==CmpOp.In)=false:=by cases op<;>first|rfl|exact absurd rfl h
 have e2:(op==CmpOp.NotIn)=false:=by cases op<;>first|rfl|exact absurd rfl h2
 cases b<;>simp[behindInMarks,e1,e2]
variable {tA tB':TT} {rest:List Expr}
def tAnd(t u:TT):TT:=λσ H Q=>t σ H λc H1=>if c=true then u σ H1 Q else Q false H1
def tOr(t u:TT):TT:=λσ H Q=>t σ H λc H1=>if c=true then Q true H1 else u σ H1 Q
def tNot(t:TT):TT:=λσ H Q=>t σ H λc H1=>Q (!c) H1
theorem Kw(ha:PT X a tA):PW X (.BoolOp .And [a] pos) tA:=by
 intro wh pins s σ H Q I h
 refine isTrue_and (thn (ha pins s σ H Q I h) λc s1 e=>?_)
 cases c with
 |true=>exact isTrue_and_nil e
 |false=>exact e
theorem Ru(ha:PT X a tA):PW X (.BoolOp .Or [a] pos) tA:=by
 intro wh pins s σ H Q I h
 refine isTrue_or (thn (ha pins s σ H Q I h) λc s1 e=>?_)
 cases c with
 |false=>exact isTrue_or_nil e
 |true=>exact e
theorem RC(ha:PT X a tA)(hb:PW X (.BoolOp .And (b::rest) pos) tB'):PW X (.BoolOp .And (a::b::rest) pos) (tAnd tA tB'):=by
 intro wh pins s σ H Q I h
 refine isTrue_and (thn (ha pins s σ H _ I h) λc s1 zq7=>?_)
 obtain⟨H1,I1,q1⟩:=zq7
 cases c with
 |true=>exact hb wh pins s1 σ H1 Q I1 q1
 |false=>exact⟨H1,I1,q1⟩
theorem Tf(ha:PT X a tA)(hb:PW X (.BoolOp .Or (b::rest) pos) tB'):PW X (.BoolOp .Or (a::b::rest) pos) (tOr tA tB'):=by
 intro wh pins s σ H Q I h
 refine isTrue_or (thn (ha pins s σ H _ I h) λc s1 zq8=>?_)
 obtain⟨H1,I1,q1⟩:=zq8
 cases c with
 |true=>exact⟨H1,I1,q1⟩
 |false=>exact hb wh pins s1 σ H1 Q I1 q1
theorem QB(ha:PT X a tA):PT X (.UnaryOp .Not a pos) (tNot tA):=by
 intro pins s σ H Q I h
 exact isTrue_not (ha pins s σ H (λc H1=>Q (!c) H1) I h)
def Tq(ta tb:TE):TE:=λσ H Q=>ta σ H λx H1=>∃c,x= .bl c/\if c=true then tb σ H1 Q else Q (.bl false) H1
def Up(ta:TE):TE:=λσ H Q=>ta σ H λx H1=>∃c,x= .bl c/\Q (.bl (!c)) H1
theorem RT{op}{t:TE}(h:PE X a t):PE X (.BoolOp op [a] pos) t:=λpins s σ H Q I hw=>BoolOp_one (h pins s σ H Q I hw)
theorem Ro(ha:PE X a ta)(hb:PE X (.BoolOp .And (b::rest) pos) tb):PE X (.BoolOp .And (a::b::rest) pos) (Tq ta tb):=by
 intro pins s σ H Q I h
 refine BoolOp_and (thn (ha pins s σ H _ I h) λv s1 zq9=>?_)
 obtain⟨x,H1,I1,r1,q1⟩:=zq9
 obtain⟨c,rfl,q1⟩:=q1
 cases r1
 refine wpAny_truthy_bool ?_
 cases c with
 |true=>exact hb pins s1 σ H1 Q I1 q1
 |false=>exact⟨.bl false,H1,I1,rfl,q1⟩
theorem Qo(ha:PE X a ta):PE X (.UnaryOp .Not a pos) (Up ta):=by
 intro pins s σ H Q I h
 refine UnaryOp_ (thn (ha pins s σ H _ I h) λv s1 zq11=>?_)
 obtain⟨x,H1,I1,r1,q1⟩:=zq11
 obtain⟨c,rfl,q1⟩:=q1
 cases r1
 exact not_of (wpAny_truthy_bool ⟨.bl (!c),H1,I1,rfl,q1⟩)
end
def SqL(K:PySem.W.Frag)(H:Hp)(a:Addr)(xs:List V):Prop:=
 Rd H a (.lst xs)∨
  ∃(o:Obj)(its:Array Value)(n:Nat),K.lookup a=some o/\o.cls= .type "list"/\o.dict=none/\o.data= .seq its n/\its.size<=sizeLine/\Vals xs its.toList
def SqT(K:PySem.W.Frag)(H:Hp)(a:Addr)(xs:List V):Prop:=
 Rd H a (.tup xs)∨
  ∃(o:Obj)(its:Array Value)(n:Nat),K.lookup a=some o/\o.cls= .type "tuple"/\o.data= .seq its n/\its.size<=sizeLine/\Vals xs its.toList
def absV:Value->Option V
 | .none=>some .non
 | .bool b=>some (.bl b)
 | .int i _=>some (.int i)
 | .str x _=>some (.str x)
 | .bytes b _=>some (.byt b)
 | .float b _=>some (.flt b)
 | .ref a=>some (.ref a)
 | .type n=>some (.ty n)
 |_=>none
theorem RelV.abs{x:V}{u:Value}(r:RelV x u):absV u=some x:=by
 cases x with
 |non=>cases r;rfl
 |bl _=>cases r;rfl
 |int _=>obtain⟨t,rfl⟩:=r;rfl
 |str _=>obtain⟨t,rfl⟩:=r;rfl
 |byt _=>obtain⟨t,rfl⟩:=r;rfl
 |flt _=>obtain⟨t,rfl⟩:=r;rfl
 |ref _=>cases r;rfl
 |ty _=>cases r;rfl
theorem RelV.inj{x y:V}{u:Value}(r:RelV x u)(q:RelV y u):x=y:=Option.some.inj (r.abs.symm.trans q.abs)
theorem Vals.inj:∀{xs ys:List V}{us:List Value},Vals xs us->Vals ys us->xs=ys
 |_,_,_,.nil,.nil=>rfl
 |_,_,_,.cons r t,.cons r' t'=>by rw[r.inj r',Vals.inj t t']
section
variable {X:Cx} {pins:List (Addr×Obj)} {σ:St} {H:Hp} {s:Shared} {a:Addr} {xs ys:List V}
theorem SqL.of{K:PySem.W.Frag}(h:H a=some (.lst xs)):SqL K H a xs:=.inl (.inl h)
theorem Inv.list(I:Inv X pins σ H s)(h:SqL X.K H a xs):∃its:List Value,Vals xs its/\PlainL s.heap a its.toArray/\xs.length<=sizeLine:=by
 rcases h with h|⟨o,its,n,hk,hc,hd,hs,hz,r⟩
 .obtain⟨z,its,n,r,e⟩:=h.ok I.hok
  exact⟨its,r,⟨_,n,e,rfl,rfl,rfl⟩,z⟩
 .refine⟨its.toList,r,⟨o,n,I.kIn a o hk,hc,hd,by simpa using hs⟩,?_⟩
  have e:=r.length
  simp only[Array.length_toList]at e
  omega
theorem Inv.tuple(I:Inv X pins σ H s)(h:SqT X.K H a xs):∃its:List Value,Vals xs its/\IsTup s.heap a its.toArray/\xs.length<=sizeLine:=by
 rcases h with h|⟨o,its,n,hk,hc,hs,hz,r⟩
 .obtain⟨z,its,r,p⟩:=h.ok I.hok
  exact⟨its,r,p,z⟩
 .refine⟨its.toList,r,⟨o,I.kIn a o hk,hc,n,by simpa using hs⟩,?_⟩
  have e:=r.length
  simp only[Array.length_toList]at e
  omega
theorem Inv.list_inj(I:Inv X pins σ H s)(h:SqL X.K H a xs)(h':SqL X.K H a ys):xs=ys:=by
 obtain⟨its,r,⟨o,n,e,_,_,d⟩,_⟩:=I.list h
 obtain⟨its',r',⟨o',n',e',_,_,d'⟩,_⟩:=I.list h'
 rw[e]at e';cases e'
 rw[d]at d'
 injection d' with d1 _
 have:its=its':=by simpa using congrArg Array.toList d1
 subst this
 exact r.inj r'
theorem Inv.tuple_inj(I:Inv X pins σ H s)(h:SqT X.K H a xs)(h':SqT X.K H a ys):xs=ys:=by
 obtain⟨its,r,⟨o,e,_,n,d⟩,_⟩:=I.tuple h
 obtain⟨its',r',⟨o',e',_,n',d'⟩,_⟩:=I.tuple h'
 rw[e]at e';cases e'
 rw[d]at d'
 injection d' with d1 _
 have:its=its':=by simpa using congrArg Array.toList d1
 subst this
 exact r.inj r'
end
abbrev Cx.wish(X:Cx)(E:Value->Shared->Prop):Cx:={ X with xe:=E}
abbrev Cx.nox(X:Cx):Cx:=X.wish λ_ _=>False
theorem Cx.Ok.wish{X:Cx}(ok:X.Ok)(E:Value->Shared->Prop):(X.wish E).Ok:=
 ⟨ok.mod,ok.kind,ok.glob,ok.blt,ok.above,ok.inj,ok.has,ok.cab,ok.hd,ok.frames,ok.stk,ok.exf,ok.bs,ok.bsz,ok.noex,ok.exfs,ok.funs,ok.frf⟩
theorem Cx.Ok.unwish{X:Cx}{E:Value->Shared->Prop}(ok:(X.wish E).Ok):X.Ok:=
 ⟨ok.mod,ok.kind,ok.glob,ok.blt,ok.above,ok.inj,ok.has,ok.cab,ok.hd,ok.frames,ok.stk,ok.exf,ok.bs,ok.bsz,ok.noex,ok.exfs,ok.funs,ok.frf⟩
section
variable {X:Cx} {pins:List (Addr×Obj)} {σ:St} {H:Hp} {s:Shared} {E:Value->Shared->Prop}
theorem Inv.wish(I:Inv X pins σ H s)(E:Value->Shared->Prop):Inv (X.wish E) pins σ H s:=⟨I.ok.wish E,I.os,I.bare,I.base,I.loc,I.cell,I.free,I.freeC,I.pin,I.hok,I.len⟩
theorem Inv.unwish(I:Inv (X.wish E) pins σ H s):Inv X pins σ H s:=⟨I.ok.unwish,I.os,I.bare,I.base,I.loc,I.cell,I.free,I.freeC,I.pin,I.hok,I.len⟩
theorem SP.unwish{D:Ends}{f:Flow}{s':Shared}(h:SP (X.wish E) pins D f s'):SP X pins D f s':=by
 cases f with
 |next=>obtain⟨σ',H',I,q⟩:=h;exact⟨σ',H',I.unwish,q⟩
 |brk=>obtain⟨σ',H',I,q⟩:=h;exact⟨σ',H',I.unwish,q⟩
 |cont=>obtain⟨σ',H',I,q⟩:=h;exact⟨σ',H',I.unwish,q⟩
 |ret u=>obtain⟨v,σ',H',I,r,q⟩:=h;exact⟨v,σ',H',I.unwish,r,q⟩
theorem PSs.nox{st:List Stmt}{t:TS}(h:PSs X.nox st t):PSs X st t:=λpins s σ H D I hw=>
 wpAny_mono (h pins s σ H D (I.wish _) hw) (λ_ _ q=>q.unwish) λ_ _ z=>False.elim z
end
section
variable {X:Cx} {st:Stmt} {rest:List Stmt} {t u:TS} {e:Expr} {te:TE} {pos:Pos}
def UL:TS:=λD σ H=>D.nx σ H
def tSeq(t u:TS):TS:=λD σ H=>t { D with nx:=u D} σ H
theorem Mh:PSs X [] UL:=λ_ _ σ H _ I h=>wpAny_execs_nil ⟨σ,H,I,h⟩
theorem Jw(h1:PS X st t)(h2:PSs X rest u):PSs X (st::rest) (tSeq t u):=by
 intro pins s σ H D I h
 refine wpAny_execs_cons (thn (h1 pins s σ H { D with nx:=u D} I h) λf s1 q=>?_)
 cases f with
 |next=>
  obtain⟨σ',H',I',q⟩:=q
  exact h2 pins s1 σ' H' D I' q
 |ret v=>exact q
 |brk=>exact q
 |cont=>exact q
theorem Oh(h1:PS X st t):PSs X [st] t:=by
 intro pins s σ H D I h
 refine wpAny_execs_cons (thn (h1 pins s σ H D I h) λf s1 q=>?_)
 cases f with
 |next=>exact wpAny_execs_nil q
 |ret v=>exact q
 |brk=>exact q
 |cont=>exact q
def QM:TS:=λD σ H=>D.bk σ H
theorem HW:PS X (.Break pos) QM:=λ_ _ σ H _ I h=>wpAny_Break ⟨σ,H,I,h⟩
theorem Inv.quiet{pins:List (Addr×Obj)}{σ:St}{H:Hp}{s:Shared}(I:Inv X pins σ H s):interactive X.env=false:=by simp[interactive,I.ok.kind]
def SN(te:TE):TS:=λD σ H=>te σ H λ_ H1=>D.nx σ H1
theorem Lp(he:PE X e te)(hs:swapsWith e none pos.line X.env=pure false:=by rfl):PS X (.Expr e pos) (SN te):=by
 intro pins s σ H D I h
 exact wpAny_Expr_any (thn (he pins s σ H _ I h) λv s1 ⟨x,H1,I1,r1,q1⟩=>⟨σ,H1,I1,q1⟩) I.quiet hs
def tRet(te:TE):TS:=λD σ H=>te σ H D.rt
theorem Rm(he:PE X e te):PS X (.Return (some e) pos) (tRet te):=by
 intro pins s σ H D I h
 exact wpAny_Return_some (thn (he pins s σ H _ I h) λv s1 ⟨x,H1,I1,r1,q1⟩=>⟨x,σ,H1,I1,r1,q1⟩)
def tIfS(c:TT)(t u:TS):TS:=λD σ H=>c σ H λb H1=>if b=true then t D σ H1 else u D σ H1
theorem Vl{c:Expr}{a b:List Stmt}{tc:TT}(hc:PT X c tc)(ha:PSs X a t)(hb:PSs X b u):PS X (.If c a b pos) (tIfS tc t u):=by
 intro pins s σ H D I h
 refine wpAny_If (thn (hc pins s σ H _ I h) λd s1 zq13=>?_)
 obtain⟨H1,I1,q1⟩:=zq13
 cases d with
 |true=>exact ha pins s1 σ H1 D I1 q1
 |false=>exact hb pins s1 σ H1 D I1 q1
end
abbrev TG:=V->St->Hp->(St->Hp->Prop)->Prop
abbrev TGs:=List V->St->Hp->(St->Hp->Prop)->Prop
def PG(X:Cx)(target:Expr)(t:TG):Prop:=
 ∀(pins:List (Addr×Obj))(s:Shared)(σ:St)(H:Hp)(v:V)(u:Value)(Q:St->Hp->Prop),Inv X pins σ H s->RelV v u->t v σ H Q->
  wpAny (model X.prog X.w) X.A (assign target X.env u) (λ_ s'=>∃σ' H',Inv X pins σ' H' s'/\Q σ' H') X.xe s
def PGs(X:Cx)(ts:List Expr)(t:TGs):Prop:=
 ∀(pins:List (Addr×Obj))(s:Shared)(σ:St)(H:Hp)(vs:List V)(us:List Value)(Q:St->Hp->Prop),Inv X pins σ H s->Vals vs us->t vs σ H Q->
  wpAny (model X.prog X.w) X.A (assignInOrder ((assignEach ts X.env).map (·.2)) us) (λ_ s'=>∃σ' H',Inv X pins σ' H' s'/\Q σ' H') X.xe s
abbrev QH:=V->V->V->Hp->(Hp->Prop)->Prop
def Vi(X:Cx)(t:QH):Prop:=
 ∀(pins:List (Addr×Obj))(s:Shared)(σ:St)(H:Hp)(o i v:V)(ov iv u:Value)(Q:Hp->Prop),Inv X pins σ H s->RelV o ov->RelV i iv->RelV v u->t o i v H Q->
  wpAny (model X.prog X.w) X.A (setItem ov iv u) (λ_ s'=>∃H',Inv X pins σ H' s'/\Q H') X.xe s
abbrev TIp:=V->V->Hp->VK->Prop
def PIp(X:Cx)(op:Operator)(t:TIp):Prop:=
 ∀(pins:List (Addr×Obj))(s:Shared)(σ:St)(H:Hp)(x y:V)(v u:Value)(Q:VK),Inv X pins σ H s->RelV x v->RelV y u->t x y H Q->
  wpAny (model X.prog X.w) X.A (inplaceOp op v u) (EP X pins σ Q) X.xe s
section
variable {X:Cx} {pos:Pos}
def JB(i:Nat):TG:=λv σ H Q=>Q (σ.set i (some v)) H
theorem KD{i:Nat}{x:Str}(hN:X.N.Nodup)(hi:X.N[i]? =some x)(hx:Loc X.env.scope x)(hf:X.fn x=true∨X.env.scope.names.lookup x=some .local:=by first|exact .inl rfl|exact .inr rfl|assumption):PG X (.Name x pos) (JB i):=by
 intro pins s σ H v u Q I r h
 exact wpAny_assign_Name (nM I hN hi hx r (λs' I'=>⟨_,H,I',h⟩) hf)
def gNil:TGs:=λvs σ H Q=>vs=[]/\Q σ H
def UG(t:TG)(u:TGs):TGs:=λvs σ H Q=>∃v r,vs=v::r/\t v σ H λσ' H'=>u r σ' H' Q
theorem Lk:PGs X [] gNil:=by
 intro pins s σ H vs us Q I r h
 obtain⟨e,h⟩:=h
 subst e
 cases r
 exact assignInOrder_nil ⟨σ,H,I,h⟩
theorem Hl{e:Expr}{es:List Expr}{t:TG}{u:TGs}(h1:PG X e t)(h2:PGs X es u)
  (hs:(assignEach (e::es) X.env).map (·.2)=assign e X.env::(assignEach es X.env).map (·.2):=by rfl):PGs X (e::es) (UG t u):=by
 intro pins s σ H vs us Q I r h
 obtain⟨v,vr,e1,h⟩:=h
 subst e1
 cases r with
 |cons r rr=>
  rw[hs]
  refine assignInOrder_cons (thn (h1 pins s σ H _ _ _ I r h) λ_ s1 zq14=>?_)
  obtain⟨σ1,H1,I1,q1⟩:=zq14
  exact h2 pins s1 σ1 H1 _ _ Q I1 rr q1
def gTup(K:PySem.W.Frag)(n:Nat)(t:TGs):TG:=λv σ H Q=>∃a xs,v= .ref a/\SqT K H a xs/\xs.length=n/\t xs σ H Q
theorem RP{es:List Expr}{k:Nat}{t:TGs}{n:Nat}(hc:X.calm=true)(h:PGs X es t)
  (hn:(assignEach es X.env).length=n:=by rfl) (hst:(assignEach es X.env).findIdx? (·.1)=none:=by rfl):PG X (.Tuple es k pos) (gTup X.K n t):=by
 intro pins s σ H v u Q I r hw
 obtain⟨a,xs,e1,hq,hl,hw⟩:=hw
 subst e1
 cases r
 obtain⟨its,rv,ht,hz⟩:=I.tuple hq
 refine assign_Tuple_tuple (I.ok.hd hc) ht (by simp[hn,<-hl,rv.length]) hst λh' hx=>?_
 have I1:Inv X pins σ H { s with heap:=h'}:=I.kept (t':=s.toks) λb o e=>hx b o (Zk (Ze e)) e
 exact h pins _ σ H xs _ Q I1 (by simpa using rv) hw
def gSub(to ti:TE)(t:QH):TG:=λv σ H Q=>to σ H λo H1=>ti σ H1 λi H2=>t o i v H2 λH3=>Q σ H3
theorem Rp{o i:Expr}{to ti:TE}{t:QH}(ho:PE X o to)(hi:PE X i ti)(hs:Vi X t)
  (ha:∀v,assign (.Subscript o i pos) X.env v=(do
   let ov<-holding [v] (eval o X.env)
   let iv<-holding [v,ov] (eval i X.env)
   standAt pos
   holding [v,ov,iv] (setItem ov iv v)
   release [v,ov,iv] []):=by intro _;rfl):PG X (.Subscript o i pos) (gSub to ti t):=by
 intro pins s σ H v u Q I r h
 rw[ha]
 refine wpAny_bind (wpAny_holding (thn (ho pins s σ H _ I h) λov s1 zq15=>?_))
 obtain⟨x,H1,I1,r1,q1⟩:=zq15
 refine wpAny_bind (wpAny_holding (thn (hi pins s1 σ H1 _ I1 q1) λiv s2 zq16=>?_))
 obtain⟨y,H2,I2,r2,q2⟩:=zq16
 refine wpAny_bind (wpAny_standAt (wpAny_bind (wpAny_holding (thn (hs pins s2 σ H2 x y v ov iv u _ I2 r1 r2 r q2) λ_ s3 zq17=>?_))))
 obtain⟨H3,I3,q3⟩:=zq17
 exact wpAny_release ⟨σ,H3,I3,q3⟩
def Rk(te:TE)(g:TG):TS:=λD σ H=>te σ H λx H1=>g x σ H1 D.nx
theorem Jb{tg e:Expr}{te:TE}{g:TG}(he:PE X e te)(hg:PG X tg g)(hs:swapsWithSole [tg] e pos.line X.env=pure false:=by rfl)(hw:swappedStores [tg] e X.env=pure none:=by rfl)
  (h1:(assignEach [tg] X.env).map (·.2)=[assign tg X.env]:=by rfl):PS X (.Assign [tg] e pos) (Rk te g):=by
 intro pins s σ H D I h
 refine wpAny_Assign_stores (thn (he pins s σ H _ I h) λv s1 ⟨x,H1,I1,r1,q1⟩=>?_) hs hw
 rw[h1]
 exact thn (hg pins s1 σ H1 x v _ I1 r1 q1) λ_ s2 q=>q
theorem RX{i:Nat}{x:Str}{e:Expr}{te:TE}{pos':Pos}(hN:X.N.Nodup)(hi:X.N[i]? =some x)(hx:Loc X.env.scope x)(he:PE X e te)(hs:swapsWith e (some (.Name x pos')) pos.line X.env=pure false:=by rfl)(hf:X.fn x=true∨X.env.scope.names.lookup x=some .local:=by first|exact .inl rfl|exact .inr rfl|assumption):
  PS X (.Assign [.Name x pos'] e pos) (Rk te (JB i)):=by
 intro pins s σ H D I h
 refine wpAny_Assign_Name (thn (he pins s σ H _ I h) λv s1 zq18=>?_) hs
 obtain⟨y,H1,I1,r1,q1⟩:=zq18
 exact nM I1 hN hi hx r1 (λs2 I2=>⟨_,H1,I2,q1⟩) hf
def tPar(i j:Nat)(ta:TA):TS:=λD σ H=>ta σ H λvs H1=>∃v w,vs=[v,w]/\D.nx ((σ.set i (some v)).set j (some w)) H1
theorem Qu{i j:Nat}{x y:Str}{a b:Expr}{ta:TA}{px py pt:Pos}{kt k2 pt2}(hc:X.calm=true)(hN:X.N.Nodup)(hi:X.N[i]? =some x)(hj:X.N[j]? =some y)(hij:i≠j)
  (hx:X.env.scope.names.lookup x=some .local) (hy:X.env.scope.names.lookup y=some .local) (ha:PA X [a,b] ta)
  (hw:swappedStores [.Tuple [.Name x px,.Name y py] kt pt] (.Tuple [a,b] k2 pt2) X.env=pure (some [x,y]))
  (hs:swapsWithSole [.Tuple [.Name x px,.Name y py] kt pt] (.Tuple [a,b] k2 pt2) pos.line X.env=pure false:=by rfl):
  PS X (.Assign [.Tuple [.Name x px,.Name y py] kt pt] (.Tuple [a,b] k2 pt2) pos) (tPar i j ta):=by
 intro pins s σ H D I h
 rw[exec_Assign_arm]
 refine wpAny_bind (wpAny_standAt ?_)
 rw[hs]
 refine wpAny_bind (wpAny_pure ?_)
 rw[if_neg (by decide)]
 refine wpAny_bind (Tuple_ (thn (ha _ pins s σ H _ I h) λus s1 zq19=>?_))
 obtain⟨vs,H1,I1,r1,q1⟩:=zq19
 obtain⟨v,w,e1,q1⟩:=q1
 subst e1
 obtain⟨u1,u2,rfl,rv,rw'⟩:∃u1 u2,us=[u1,u2]/\RelV v u1/\RelV w u2:=by
  cases r1 with
  |cons p q=>
   cases q with
   |cons p' q'=>
    cases q'
    exact⟨_,_,rfl,p,p'⟩
 refine wpAny_newObj_type ?_ (by show 2<=sizeLine;decide)
 have I2:Inv X pins σ H1 { s1 with heap:=s1.heap.push { cls:=.type "tuple",data:=.seq [u1,u2].toArray} }:=I1.kept (t':=s1.toks) λb o e=>Zb _ e
 rw[hw]
 refine wpAny_bind (wpAny_pure ?_)
 show wpAny (model X.prog X.w) X.A (do rule "assign.swapped-stores";let items<-unpackItems (.ref s1.heap.objs.size) 2 none;assignInOrder [λv=>bindName X.env y v,λv=>bindName X.env x v] items.reverse;pure Flow.next) _ _ _
 refine wpAny_bind (wpAny_rule (wpAny_bind (unpackItems_tuple (items:= #[u1,u2]) (I.ok.hd hc) (IsTup.new s1.heap _) λh' hx'=>?_)))
 have I3:=I2.kept (h':=h') (t':=s1.toks) λb o e=>hx' b o (Zk (Ze e)) e
 show wpAny _ _ (assignInOrder [λv=>bindName X.env y v,λv=>bindName X.env x v] [u2,u1] >>= λ_=>pure Flow.next) _ _ _
 refine wpAny_bind (assignInOrder_cons (wpAny_bindName (nM I3 hN hj (.inl hy) rw' (λs2 I4=>?_) (.inr hy))))
 refine assignInOrder_cons (wpAny_bindName (nM I4 hN hi (.inl hx) rv (λs3 I5=>assignInOrder_nil (wpAny_pure ?_)) (.inr hx)))
 rw[List.set_comm _ _ (Ne.symm hij)]at I5
 exact⟨_,H1,I5,q1⟩
def tAug(i:Nat)(te:TE)(ti:TIp):TS:=λD σ H=>∃x,σ[i]? =some (some x)/\te σ H λy H1=>ti x y H1 λz H2=>D.nx (σ.set i (some z)) H2
theorem RG{i:Nat}{x:Str}{e:Expr}{te:TE}{op:Operator}{ti:TIp}{pos':Pos}(hN:X.N.Nodup)(hi:X.N[i]? =some x)(hx:Loc X.env.scope x)(he:PE X e te)(ho:PIp X op ti)(hf:X.fn x=true∨X.env.scope.names.lookup x=some .local:=by first|exact .inl rfl|exact .inr rfl|assumption):
  PS X (.AugAssign (.Name x pos') op e pos) (tAug i te ti):=by
 intro pins s σ H D I h
 obtain⟨v,e1,h⟩:=h
 obtain⟨m,hn,hl⟩:=I.loc
 have vis:Vis X.env.scope x:=by rcases hx with k|k;exact .inl k;exact .inr (.inl k)
 obtain⟨u,r,l⟩:=hl i x v hi e1 vis
 refine wpAny_AugAssign_Name ?_
 have go:wpAny (model X.prog X.w) X.A (eval e X.env) (λw s₂=>wpAny (model X.prog X.w) X.A (inplaceOp op u w) (λr s₃=>wpAny (model X.prog X.w) X.A (storeName X.env x r) (λ_=>SP X pins D .next) X.xe s₃) X.xe s₂) X.xe s:=by
  refine thn (he pins s σ H _ I h) λw s1 zq20=>?_
  obtain⟨y,H1,I1,r1,q1⟩:=zq20
  refine thn (ho pins s1 σ H1 v y u w _ I1 r r1 q1) λz s2 zq21=>?_
  obtain⟨zv,H2,I2,r2,q2⟩:=zq21
  exact nM I2 hN hi hx r2 (λs3 I3=>⟨_,H2,I3,q2⟩) hf
 rcases l with⟨hk,hm⟩|⟨hk,c,hc,hcell⟩
 .exact wpAny_loadName_local I.ok.kind hk hn hm go
 .rcases hk with hk|hk
  .exact wpAny_loadName_cell I.ok.kind hk hc hcell go
  .rcases hx with k|k
   .have:X.env.scope.names.lookup x=some .free:=hk
    rw[k]at this;cases this
   .have:X.env.scope.names.lookup x=some .free:=hk
    rw[k]at this;cases this
end
section
variable {X:Cx} {pos:Pos}
def Qg(c:TT)(tb:TS):TS:=λD σ H=>∃W:Nat->St->Hp->Prop,(∃m,W m σ H)/\∀m σ H,W m σ H->
 c σ H λb H1=>if b=true then∃N:St->Hp->Prop,(∀σ' H',N σ' H'->∃m',m'<m/\W m' σ' H')/\tb { D with nx:=N,ct:=N,bk:=D.nx} σ H1 else D.nx σ H1
theorem JH{c:Expr}{body:List Stmt}{tc:TT}{tb:TS}(hp:PassesOwn (model X.prog X.w) X.A X.env X.xe)(hc:PT X c tc)(hb:PSs X body tb):PS X (.While c body [] pos) (Qg tc tb):=by
 intro pins s σ H D I h
 obtain⟨W,⟨m0,w0⟩,turn⟩:=h
 refine wpAny_While (codeAny_whileLoop (λn s'=>∃σ' H',Inv X pins σ' H' s'/\W n σ' H') ?_ m0 ⟨σ,H,I,w0⟩)
 rintro n s1 ⟨σ1,H1,I1,w1⟩
 refine wpAny_passesOwn hp (thn (hc pins s1 σ1 H1 _ I1 (turn n σ1 H1 w1)) λb s2 zq27=>?_)
 obtain⟨H2,I2,q2⟩:=zq27
 cases b with
 |true=>
  obtain⟨N,hN,q2⟩:=q2
  rw[if_pos rfl]
  refine wpAny_passesOwn hp (thn (hb pins s2 σ1 H2 _ I2 q2) λf s3 q3=>?_)
  cases f with
  |next=>
   obtain⟨σ3,H3,I3,n3⟩:=q3
   obtain⟨m',hm,w3⟩:=hN σ3 H3 n3
   exact⟨m',hm,σ3,H3,I3,w3⟩
  |cont=>
   obtain⟨σ3,H3,I3,n3⟩:=q3
   obtain⟨m',hm,w3⟩:=hN σ3 H3 n3
   exact⟨m',hm,σ3,H3,I3,w3⟩
  |brk=>exact q3
  |ret v=>exact q3
 |false=>
  rw[if_neg Zr]
  exact wpAny_execs_nil ⟨σ1,H2,I2,q2⟩
end
structure It where
 go:Nat->Hp->Prop
 yld:Nat->Hp->V->Hp->Prop
 stop:Nat->Hp->Prop
def nY(X:Cx)(pins:List (Addr×Obj))(H:Hp)(b:Addr):Prop:=
 H b=none/\b≠X.env.locals/\b∉X.fs/\(b∈X.ex∨X.s₀.heap.objs.size<=b)/\(∀x c,X.env.cells.lookup x=some c->c≠b)/\∀p∈X.pn++pins,p.1≠b
theorem Inv.fpOk{X:Cx}{pins:List (Addr×Obj)}{σ:St}{H H':Hp}{s:Shared}{b:Addr}(I:Inv X pins σ H s)(hb:s.heap.objs.size<=b)(hn:H' b=none):nY X pins H' b:=by
 refine⟨hn,Nat.ne_of_gt (Zc I.lt hb),I.nofs hb,.inr (Zl I.sz hb),λx c e z=>?_,λp hp z=>?_⟩
 .obtain⟨v,q⟩:=I.cell x c e
  exact absurd (Zc q.lt (by rw[z];exact hb)) (Nat.lt_irrefl _)
 .exact absurd (Zc (Ze (I.pin p hp).1) (by rw[z];exact hb)) (Nat.lt_irrefl _)
structure Turn(P:Program)(w:World)(K:PySem.W.Frag)(tg:Expr)(J:It)(fp:List Addr)(it:Addr)(tn:Nat->Heap->Prop):Prop where
 mem:it∈fp
 obj:∀i h,tn i h->∀b∈fp,∃o,h.get? b=some o/\∀v,o.data≠ .cell v
 keep:∀i h h',tn i h->(∀b∈fp,∀o,h.get? b=some o->h'.get? b=some o)->tn i h'
 item:∀(X:Cx),X.prog=P->X.w=w->X.K=K->X.calm=true->∀(i:Nat)(pins:List (Addr×Obj))(s:Shared)(σ:St)(H:Hp)(E:Value->Shared->Prop),Inv X pins σ H s->(∀b∈fp,nY X pins H b)->tn i s.heap->J.go i H->
  wpAny (model P w) X.A (pyNext (.ref it)) (λr s1=>∃u,r=some u/\
   wpAny (model P w) X.A (letOwnedTupleGo tg (.ref it) u) (λ_ s2=>∃x H',Inv X pins σ H' s2/\RelV x u/\J.yld i H x H'/\tn (i+1) s2.heap/\∀b∈fp,H' b=none) E s1) E s
 done:∀(X:Cx),X.prog=P->X.w=w->X.K=K->X.calm=true->∀(i:Nat)(pins:List (Addr×Obj))(s:Shared)(σ:St)(H:Hp)(E:Value->Shared->Prop),Inv X pins σ H s->(∀b∈fp,nY X pins H b)->tn i s.heap->J.stop i H->
  wpAny (model P w) X.A (pyNext (.ref it)) (λr s1=>r=none/\Inv X pins σ H s1) E s
 self:∀(A:Around)(i:Nat)(s:Shared)(Q:Value->Shared->Prop)(E:Value->Shared->Prop),tn i s.heap->Q (.ref it) s->wpAny (model P w) A (pyIter (.ref it)) Q E s
abbrev TI:=St->Hp->(It->Hp->Prop)->Prop
def PIE(X:Cx)(pins:List (Addr×Obj))(σ:St)(tg:Expr)(R:It->Hp->Prop)(itv:Value)(s2:Shared):Prop:=
 ∃(it:Addr)(fp:List Addr)(tn:Nat->Heap->Prop)(J:It)(H':Hp),itv= .ref it/\Inv X pins σ H' s2/\Turn X.prog X.w X.K tg J fp it tn/\tn 0 s2.heap/\(∀b∈fp,nY X pins H' b)/\R J H'
def PI(X:Cx)(tg iter:Expr)(wi:TI):Prop:=
 ∀(pins:List (Addr×Obj))(s:Shared)(σ:St)(H:Hp)(R:It->Hp->Prop),Inv X pins σ H s->wi σ H R->
  wpAny (model X.prog X.w) X.A (eval iter X.env) (λv s1=>wpAny (model X.prog X.w) X.A (pyIter v) (PIE X pins σ tg R) X.xe s1) X.xe s
theorem Kl{M:Model}{A:Around}{E:Value->Shared->Prop}{s:Shared}{tg:Expr}{it:Addr}{u:Value}{o:Obj}{n:String}{vs:Array Value}{Q:Unit->Shared->Prop}(ho:s.heap.get? it=some o)(hc:o.cls= .type n)(hd:o.data= .fields vs)
  (hn:["enumerate","zip","dict_itemiterator","dict_reverseitemiterator","odict_iterator","itertools.zip_longest","itertools.pairwise"].contains n=false) (hQ:Q () s):wpAny M A (letOwnedTupleGo tg (.ref it) u) Q E s:=by
 unfold letOwnedTupleGo
 cases tg<;>first
  |exact wpAny_pure hQ
  |(cases u<;>first
   |exact wpAny_pure hQ
   |(refine wpAny_bind (wpAny_load ho ?_)
     rw[hc,hd]
     show wpAny M A (if(["enumerate","zip","dict_itemiterator","dict_reverseitemiterator","odict_iterator","itertools.zip_longest","itertools.pairwise"].contains n&&vs[0]? ==some (rawInt _))=true then _ else _) Q E s
     rw[if_neg (by intro h;rw[hn,Bool.false_and]at h;cases h)]
     exact wpAny_pure hQ))
def Itl(K:PySem.W.Frag)(a:Addr):It:=
 ⟨λi H=>∃xs x,SqL K H a xs/\xs[i]? =some x,λi H x H'=>H'=H/\∀xs,SqL K H a xs->xs[i]? =some x,λi H=>∃xs,SqL K H a xs/\xs.length<=i⟩
def Itt(K:PySem.W.Frag)(a:Addr):It:=
 ⟨λi H=>∃xs x,SqT K H a xs/\xs[i]? =some x,λi H x H'=>H'=H/\∀xs,SqT K H a xs->xs[i]? =some x,λi H=>∃xs,SqT K H a xs/\xs.length<=i⟩
def Itr(lo:Int)(n:Nat):It:=⟨λi _=>i<n,λi H x H'=>H'=H/\x= .int (lo+i),λi _=>n<=i⟩
theorem Gr{P:Program}{w:World}{K:PySem.W.Frag}{tg:Expr}(a it:Addr):Turn P w K tg (Itl K a) [it] it (λi h=>h.IsListIter it a i) where
 mem:=by simp
 obj:=λi h st b hb=>by
  have e:b=it:=by simpa using hb
  subst e
  obtain⟨o,e,c,d⟩:=st
  exact⟨o,e,λv z=>by rw[d]at z;cases z⟩
 keep:=λi h h' st k=>st.at λo e=>k it (by simp) o e
 item:=by
  intro X hP hw hK hc i pins s σ H E I hf st hg
  subst hP hw hK
  obtain⟨xs,x,hq,hx⟩:=hg
  obtain⟨its,rv,p,hz⟩:=I.list hq
  obtain⟨u,hu,ru⟩:=rv.get hx
  obtain⟨f0,f1,f2,f3,f4,f5⟩:=hf it (by simp)
  refine wpAny_pyNext_list_item st p.isList (x:=u) (by simpa using hu) λh' st' sb=>?_
  have I1:Inv X pins σ H { s with heap:=h'}:=I.turned (t':=s.toks) (λb o hb e=>(sb.2 b hb).trans e) f0 f1 f3 f4 f5
  obtain⟨o,e,c,d⟩:=id st'
  exact⟨u,rfl,Kl (s:={ s with heap:=h'}) e c d (by decide) ⟨x,H,I1,ru,⟨rfl,λys hy=>by rw[I.list_inj hy hq];exact hx⟩,st',λb hb=>(hf b hb).1⟩⟩
 done:=by
  intro X hP hw hK hc i pins s σ H E I hf st hg
  subst hP hw hK
  obtain⟨xs,hq,hx⟩:=hg
  obtain⟨its,rv,p,hz⟩:=I.list hq
  obtain⟨f0,f1,f2,f3,f4,f5⟩:=hf it (by simp)
  have hl:=rv.length
  exact wpAny_pyNext_list_end (I.ok.hd hc) st p.isList (by simp;omega) λh' eb=>⟨rfl,I.turned (t':=s.toks) (λb o hb e=>eb b o hb e) f0 f1 f3 f4 f5⟩
 self:=λ_ _ _ _ _ st h=>wpAny_pyIter_listiter st h
theorem Du{P:Program}{w:World}{K:PySem.W.Frag}{tg:Expr}(a it:Addr):Turn P w K tg (Itt K a) [it] it (λi h=>h.IsTupleIter it a i) where
 mem:=by simp
 obj:=λi h st b hb=>by
  have e:b=it:=by simpa using hb
  subst e
  obtain⟨o,e,c,d⟩:=st
  exact⟨o,e,λv z=>by rw[d]at z;cases z⟩
 keep:=λi h h' st k=>st.at λo e=>k it (by simp) o e
 item:=by
  intro X hP hw hK hc i pins s σ H E I hf st hg
  subst hP hw hK
  obtain⟨xs,x,hq,hx⟩:=hg
  obtain⟨its,rv,p,hz⟩:=I.tuple hq
  obtain⟨u,hu,ru⟩:=rv.get hx
  obtain⟨f0,f1,f2,f3,f4,f5⟩:=hf it (by simp)
  refine wpAny_pyNext_tuple_item st (show s.heap.IsTuple a its.toArray from p) (x:=u) (by simpa using hu) λh' st' sb=>?_
  have I1:Inv X pins σ H { s with heap:=h'}:=I.turned (t':=s.toks) (λb o hb e=>(sb.2 b hb).trans e) f0 f1 f3 f4 f5
  obtain⟨o,e,c,d⟩:=id st'
  exact⟨u,rfl,Kl (s:={ s with heap:=h'}) e c d (by decide) ⟨x,H,I1,ru,⟨rfl,λys hy=>by rw[I.tuple_inj hy hq];exact hx⟩,st',λb hb=>(hf b hb).1⟩⟩
 done:=by
  intro X hP hw hK hc i pins s σ H E I hf st hg
  subst hP hw hK
  obtain⟨xs,hq,hx⟩:=hg
  obtain⟨its,rv,p,hz⟩:=I.tuple hq
  obtain⟨f0,f1,f2,f3,f4,f5⟩:=hf it (by simp)
  have hl:=rv.length
  exact wpAny_pyNext_tuple_end (I.ok.hd hc) st (show s.heap.IsTuple a its.toArray from p) (by simp;omega) λh' eb=>⟨rfl,I.turned (t':=s.toks) (λb o hb e=>eb b o hb e) f0 f1 f3 f4 f5⟩
 self:=λ_ _ _ _ _ st h=>wpAny_pyIter_tupleiter st h
theorem Dk{P:Program}{w:World}{K:PySem.W.Frag}{tg:Expr}(it:Addr)(lo:Int)(n:Nat):Turn P w K tg (Itr lo n) [it] it (λi h=>IsRangeIter h it (lo+(i:Nat)*1) ((n:Int)-(i:Nat)) 1) where
 mem:=by simp
 obj:=λi h st b hb=>by
  have e:b=it:=by simpa using hb
  subst e
  exact⟨_,st,λv z=>by
   have z':Data.fields _=Data.cell v:=z
   cases z'⟩
 keep:=λi h h' st k=>k it (by simp) _ st
 item:=by
  intro X hP hw hK hc i pins s σ H E I hf st hg
  subst hP hw hK
  obtain⟨f0,f1,f2,f3,f4,f5⟩:=hf it (by simp)
  have W:=Walks.range (prog:=X.prog) (w:=X.w) (I.ok.hd hc) it lo 1 n
  refine W.item i s _ _ hg st λv h' tk hv st' kk=>?_
  obtain⟨t,rfl⟩:=hv
  have I1:Inv X pins σ H { s with heap:=h',toks:=tk}:=I.turned (λb o hb e=>kk b o (by simpa using hb) e) f0 f1 f3 f4 f5
  refine⟨_,rfl,Kl (s:={ s with heap:=h',toks:=tk}) (n:="range_iterator") st' rfl rfl (by decide) ⟨.int (lo+i),H,I1,⟨t,?_⟩,⟨rfl,rfl⟩,st',λb hb=>(hf b hb).1⟩⟩
  rw[Int.mul_one]
 done:=by
  intro X hP hw hK hc i pins s σ H E I hf st hg
  subst hP hw hK
  obtain⟨f0,f1,f2,f3,f4,f5⟩:=hf it (by simp)
  exact wpAny_pyNext_range_end (I.ok.hd hc) st (by have:n<=i:=hg;omega) λh' eb=>⟨rfl,I.turned (t':=s.toks) (λb o hb e=>eb b o hb e) f0 f1 f3 f4 f5⟩
 self:=λ_ _ _ _ _ st h=>wpAny_pyIter_rangeiter st h
section
variable {X:Cx} {tg:Expr}
theorem JL{pins:List (Addr×Obj)}{σ:St}{H:Hp}{s:Shared}{R:It->Hp->Prop}{E:Value->Shared->Prop}{lo hi:Int}{t u v:Tok}{tk:Nat}(I:Inv X pins σ H s)(h1: -(2 ^ 62)<=lo)(h2:lo<2 ^ 62)(h3: -(2 ^ 62)<=hi)(h4:hi<2 ^ 62)
  (q:R (Itr lo (hi-lo).toNat) H):wpAny (model X.prog X.w) X.A (pyIter (.ref s.heap.objs.size)) (PIE X pins σ tg R) E { s with heap:=s.heap.push { cls:=.type "range",data:=.fields #[.int lo t,.int hi u,.int 1 v] },toks:=tk}:=by
 refine wpAny_pyIter_range (IsRange.new ..) (small_one h1 h2 h3 h4) ?_
 have I1:Inv X pins σ H { s with heap:=s.heap.push { cls:=.type "range",data:=.fields #[.int lo t,.int hi u,.int 1 v] },toks:=tk}:=I.kept λb o e=>Zb _ e
 refine⟨(s.heap.push { cls:=.type "range",data:=.fields #[.int lo t,.int hi u,.int 1 v] }).objs.size,[(s.heap.push { cls:=.type "range",data:=.fields #[.int lo t,.int hi u,.int 1 v] }).objs.size],_,_,H,rfl,
  I1.kept (t':=tk) λb o e=>Zb _ e,Dk _ lo (hi-lo).toNat,?_,λb hb=>?_,q⟩
 .have e1:lo+((0:Nat):Int)*1=lo:=by simp
  have e2:(((hi-lo).toNat:Nat):Int)-((0:Nat):Int)=Builtin.Range.rangeSize lo hi 1:=by rw[rangeSize_one];split<;>omega
  show IsRangeIter _ _ (lo+((0:Nat):Int)*1) ((((hi-lo).toNat:Nat):Int)-((0:Nat):Int)) 1
  rw[e1,e2]
  exact Zf _ rfl
 .have e:b=(s.heap.push { cls:=.type "range",data:=.fields #[.int lo t,.int hi u,.int 1 v] }).objs.size:=by simpa using hb
  subst e
  exact I1.fpOk (Zg _) (I1.hok.fresh (Zg _))
def SQ(ta:TA):TI:=λσ H R=>ta σ H λvs H1=>∃j:Int,vs=[.int j]/\ -(2 ^ 62)<=j/\j<2 ^ 62/\R (Itr 0 j.toNat) H1
theorem Fo{a:Expr}{ta:TA}{p pos:Pos}(hg:Gl X "range")(hm:X.mg "range"=none)(ha:PA X [a] ta)(hs:starEach [a] X.env=[(false,eval a X.env)]:=by rfl):PI X tg (.Call (.Name "range" p) [a] [] pos) (SQ ta):=by
 intro pins s σ H R I h
 refine Call_ (mK I hg hm boot_range (PyProof.Rows.callWith_type1 (thn (ha pos pins s σ H _ I h) λus s1 ⟨vs,H1,I1,r1,q1⟩=>?_) hs rfl))
 obtain⟨j,e,q1,q2,q⟩:=q1
 subst e
 cases r1 with
 |cons r rr=>
  cases rr
  obtain⟨t,rfl⟩:=r
  exact call_range_1 (JL I1 (by omega) (by omega) q1 q2 (by simpa using q))
def tFor(wi:TI)(g:TG)(tb:TS):TS:=λD σ H=>wi σ H λJ H1=>∃W:Nat->Nat->St->Hp->Prop,(∃m,W 0 m σ H1)/\∀i m σ H,W i m σ H->
 (J.stop i H/\D.nx σ H)∨(J.go i H/\∃N:St->Hp->Prop,(∀σ' H',N σ' H'->∃m',m'<m/\W (i+1) m' σ' H')/\∀x H',J.yld i H x H'->g x σ H' λσ2 H2=>tb { D with nx:=N,ct:=N,bk:=D.nx} σ2 H2)
def rW(fp:List Addr)(h:Heap):List (Addr×Obj):=fp.filterMap λb=>(h.get? b).map λo=>(b,o)
theorem gB{fp:List Addr}{h:Heap}{b:Addr}{o:Obj}(hb:b∈fp)(e:h.get? b=some o):(b,o)∈rW fp h:=List.mem_filterMap.mpr ⟨b,hb,by rw[e];rfl⟩
theorem Fx{fp:List Addr}{h:Heap}{p:Addr×Obj}(hp:p∈rW fp h):p.1∈fp/\h.get? p.1=some p.2:=by
 obtain⟨b,hb,e⟩:=List.mem_filterMap.mp hp
 cases q:h.get? b with
 |none=>rw[q]at e;cases e
 |some o=>
  rw[q]at e
  have e':(b,o)=p:=Option.some.inj e
  subst e'
  exact⟨hb,q⟩
theorem Inv.pinned{pins:List (Addr×Obj)}{σ:St}{H:Hp}{s:Shared}{fp:List Addr}(I:Inv X pins σ H s)(hf:∀b∈fp,nY X pins H b)(ho:∀b∈fp,∃o,s.heap.get? b=some o/\∀v,o.data≠ .cell v):Inv X (pins++rW fp s.heap) σ H s:=
 I.pins_of λp hp=>(Zm.mp hp).elim (λz=>I.pin p (Zn _ z)) λz=>by
  obtain⟨hb,e⟩:=Fx z
  obtain⟨f0,f1,f2,_⟩:=hf p.1 hb
  obtain⟨o,e',d⟩:=ho p.1 hb
  rw[e]at e';cases e'
  exact⟨e,f0,f1,f2,d⟩
theorem Inv.unpinned{pins pl:List (Addr×Obj)}{σ:St}{H:Hp}{s:Shared}(I:Inv X (pins++pl) σ H s):Inv X pins σ H s:=I.pins_of λp hp=>I.pin p (Zn _ (List.mem_append_left _ hp))
theorem RK{iter:Expr}{body:List Stmt}{wi:TI}{g:TG}{tb:TS}{pos:Pos}(hp:PassesOwn (model X.prog X.w) X.A X.env X.xe)(hc:X.calm=true)(hi:PI X tg iter wi)(hg:PG X tg g)(hb:PSs X body tb)
  (hs:∀x,foldedSetIterable iter X.env x=pure x:=by intro _;rfl):PS X (.For tg iter body [] pos) (tFor wi g tb):=by
 intro pins s σ H D I h
 refine wpAny_For (thn (hi pins s σ H _ I h) λv s1 h1=>thn h1 λitv s2 h2=>?_) hs
 obtain⟨it,fp,tn,J,H2,e,I2,T,st2,f2,W,⟨m0,w0⟩,turn⟩:=h2
 subst e
 have stat:∀{H':Hp},(∀b∈fp,H' b=none)->∀b∈fp,nY X pins H' b:=λhn b hb=>⟨hn b hb,(f2 b hb).2⟩
 refine codeAny_forLoop_any (λn s'=>∃i σ' H',Inv X pins σ' H' s'/\tn i s'.heap/\(∀b∈fp,H' b=none)/\W i n σ' H') ?_ m0 ⟨0,σ,H2,I2,st2,λb hb=>(f2 b hb).1,w0⟩
 rintro n s3 ⟨i,σ3,H3,I3,st3,fr3,w3⟩
 rcases turn i n σ3 H3 w3 with⟨stop,qn⟩|⟨go,N,hN,step⟩
 .refine wpAny_passesOwn hp (thn (T.done X rfl rfl rfl hc i pins s3 σ3 H3 X.xe I3 (stat fr3) st3 stop) λr s4 zq30=>?_)
  obtain⟨hr,I4⟩:=zq30
  subst hr
  exact wpAny_execs_nil ⟨σ3,H3,I4,qn⟩
 .refine wpAny_passesOwn hp (thn (T.item X rfl rfl rfl hc i pins s3 σ3 H3 X.xe I3 (stat fr3) st3 go) λr s4 zq31=>?_)
  obtain⟨u,hr,h4⟩:=zq31
  subst hr
  refine wpAny_passesOwn hp (thn h4 λ_ s5 zq32=>?_)
  obtain⟨x,H5,I5,r5,y5,st5,fr5⟩:=zq32
  have I5':=I5.pinned (stat fr5) (T.obj _ _ st5)
  refine wpAny_passesOwn hp (thn (hg _ s5 σ3 H5 x u _ I5' r5 (step x H5 y5)) λ_ s6 zq33=>?_)
  obtain⟨σ6,H6,I6,q6⟩:=zq33
  refine wpAny_passesOwn hp (thn (hb _ s6 σ6 H6 _ I6 q6) λf s7 q7=>?_)
  have again:∀{σ7:St}{H7:Hp},Inv X (pins++rW fp s5.heap) σ7 H7 s7->N σ7 H7->∃m,m<n/\∃i σ' H',Inv X pins σ' H' s7/\tn i s7.heap/\(∀b∈fp,H' b=none)/\W i m σ' H':=λ{σ7 H7} I7 n7=>by
   obtain⟨m',hm,w7⟩:=hN σ7 H7 n7
   refine⟨m',hm,i+1,σ7,H7,I7.unpinned,T.keep _ _ _ st5 λb hb o e=>(I7.pin (b,o) (Zn _ (Zn _ (gB hb e)))).1,λb hb=>?_,w7⟩
   obtain⟨o,e,d⟩:=T.obj _ _ st5 b hb
   exact(I7.pin (b,o) (Zn _ (Zn _ (gB hb e)))).2.1
  cases f with
  |next=>obtain⟨σ7,H7,I7,n7⟩:=q7;exact again I7 n7
  |cont=>obtain⟨σ7,H7,I7,n7⟩:=q7;exact again I7 n7
  |brk=>obtain⟨σ7,H7,I7,q7⟩:=q7;exact⟨σ7,H7,I7.unpinned,q7⟩
  |ret v=>obtain⟨x7,σ7,H7,I7,r7,q7⟩:=q7;exact⟨x7,σ7,H7,I7.unpinned,r7,q7⟩
end
abbrev R2:=V->V->Hp->VK->Prop
def OpR(X:Cx)(f:Value->Value->Sem Value)(r:R2):Prop:=
 ∀(pins:List (Addr×Obj))(s:Shared)(σ:St)(H:Hp)(x y:V)(v u:Value)(Q:VK),Inv X pins σ H s->RelV x v->RelV y u->r x y H Q->
  wpAny (model X.prog X.w) X.A (f v u) (EP X pins σ Q) X.xe s
def UnR(X:Cx)(f:Value->Sem Value)(r:V->Hp->VK->Prop):Prop:=
 ∀(pins:List (Addr×Obj))(s:Shared)(σ:St)(H:Hp)(x:V)(v:Value)(Q:VK),Inv X pins σ H s->RelV x v->r x H Q->
  wpAny (model X.prog X.w) X.A (f v) (EP X pins σ Q) X.xe s
def je(X:Cx)(f:Value)(r:List V->Hp->VK->Prop):Prop:=
 ∀(pins:List (Addr×Obj))(s:Shared)(σ:St)(H:Hp)(xs:List V)(us:List Value)(Q:VK),Inv X pins σ H s->Vals xs us->r xs H Q->
  wpAny (model X.prog X.w) X.A (call f us) (EP X pins σ Q) X.xe s
def TruR(X:Cx)(r:V->Hp->(Bool->Hp->Prop)->Prop):Prop:=
 ∀(pins:List (Addr×Obj))(s:Shared)(σ:St)(H:Hp)(x:V)(v:Value)(Q:Bool->Hp->Prop),Inv X pins σ H s->RelV x v->r x H Q->
  wpAny (model X.prog X.w) X.A (truthy v) (TP X pins σ Q) X.xe s
def tOp(r:R2)(ta tb:TE):TE:=λσ H Q=>ta σ H λx H1=>tb σ H1 λy H2=>r x y H2 Q
def tUn(r:V->Hp->VK->Prop)(ta:TE):TE:=λσ H Q=>ta σ H λx H1=>r x H1 Q
def rI(C:Int->Int->Prop)(g:Int->Int->V):R2:=λx y H Q=>∃i j,x= .int i/\y= .int j/\C i j/\Q (g i j) H
def rI0(g:Int->Int->V):R2:=λx y H Q=>∃i j,x= .int i/\y= .int j/\Q (g i j) H
def rU(g:Int->V):V->Hp->VK->Prop:=λx H Q=>∃i,x= .int i/\Q (g i) H
section
variable {X:Cx} {a b c:Expr} {ta tb tc:TE} {pos:Pos}
theorem QV(ha:PE X a ta)(hb:PE X b tb){pins:List (Addr×Obj)}{s:Shared}{σ:St}{H:Hp}{R:V->V->Hp->Prop}(I:Inv X pins σ H s)
  (h:ta σ H λx H1=>tb σ H1 λy H2=>R x y H2) {Q:Value->Shared->Prop} {f:Value->Value->Sem Value}
  (hf:∀v u s2 x y H2,Inv X pins σ H2 s2->RelV x v->RelV y u->R x y H2->wpAny (model X.prog X.w) X.A (f v u) Q X.xe s2):
  wpAny (model X.prog X.w) X.A (eval a X.env) (λv s₁=>wpAny (model X.prog X.w) X.A (eval b X.env) (λu s₂=>wpAny (model X.prog X.w) X.A (f v u) Q X.xe s₂) X.xe s₁) X.xe s:=by
 refine thn (ha pins s σ H _ I h) λv s1 zq34=>?_
 obtain⟨x,H1,I1,r1,q1⟩:=zq34
 refine thn (hb pins s1 σ H1 _ I1 q1) λu s2 zq35=>?_
 obtain⟨y,H2,I2,r2,q2⟩:=zq35
 exact hf v u s2 x y H2 I2 r1 r2 q2
theorem Pb{op:Operator}{r:R2}(ho:OpR X (binaryOp op) r)(ha:PE X a ta)(hb:PE X b tb):PE X (.BinOp a op b pos) (tOp r ta tb):=by
 intro pins s σ H Q I h
 exact wpAny_BinOp (QV ha hb I h λv u s2 x y H2 I2 rx ry q=>ho pins s2 σ H2 x y v u Q I2 rx ry q)
theorem UV{op:UnaryOp}{r:V->Hp->VK->Prop}(ho:UnR X (unaryOp op) r)(ha:PE X a ta):PE X (.UnaryOp op a pos) (tUn r ta):=by
 intro pins s σ H Q I h
 exact UnaryOp_ (thn (ha pins s σ H _ I h) λv s1 ⟨x,H1,I1,r1,q1⟩=>ho pins s1 σ H1 x v Q I1 r1 q1)
theorem opI{f:Value->Value->Sem Value}{C:Int->Int->Prop}{g:Int->Int->Int}
  (rule:∀(i j:Int)(t u:Tok)(s:Shared)(Q:Value->Shared->Prop)(E:Value->Shared->Prop),C i j->Q (.int (g i j) s.toks) { s with toks:=s.toks+1}->wpAny (model X.prog X.w) X.A (f (.int i t) (.int j u)) Q E s):
  OpR X f (rI C λi j=>.int (g i j)):=by
 intro pins s σ H x y v u Q I rx ry h
 obtain⟨i,j,rfl,rfl,hc,q⟩:=h
 obtain⟨t,rfl⟩:=rx
 obtain⟨t',rfl⟩:=ry
 exact rule i j t t' s _ _ hc ⟨.int (g i j),H,I.tok _,⟨_,rfl⟩,q⟩
theorem Ue{f:Value->Value->Sem Value}{g:Int->Int->Int}
  (rule:∀(i j:Int)(t u:Tok)(s:Shared)(Q:Value->Shared->Prop)(E:Value->Shared->Prop),Q (.int (g i j) s.toks) { s with toks:=s.toks+1}->wpAny (model X.prog X.w) X.A (f (.int i t) (.int j u)) Q E s):
  OpR X f (rI0 λi j=>.int (g i j)):=by
 intro pins s σ H x y v u Q I rx ry h
 obtain⟨i,j,rfl,rfl,q⟩:=h
 obtain⟨t,rfl⟩:=rx
 obtain⟨t',rfl⟩:=ry
 exact rule i j t t' s _ _ ⟨.int (g i j),H,I.tok _,⟨_,rfl⟩,q⟩
theorem Ku{f:Value->Value->Sem Value}{g:Int->Int->Bool}
  (rule:∀(i j:Int)(t u:Tok)(s:Shared)(Q:Value->Shared->Prop)(E:Value->Shared->Prop),Q (.bool (g i j)) s->wpAny (model X.prog X.w) X.A (f (.int i t) (.int j u)) Q E s):
  OpR X f (rI0 λi j=>.bl (g i j)):=by
 intro pins s σ H x y v u Q I rx ry h
 obtain⟨i,j,rfl,rfl,q⟩:=h
 obtain⟨t,rfl⟩:=rx
 obtain⟨t',rfl⟩:=ry
 exact rule i j t t' s _ _ ⟨.bl (g i j),H,I,rfl,q⟩
theorem QW:OpR X (binaryOp .Add) (rI0 λi j=>.int (i+j)):=Ue λ_ _ _ _ _ _ _ q=>add_int q
theorem Qn:OpR X (binaryOp .Sub) (rI0 λi j=>.int (i-j)):=Ue λ_ _ _ _ _ _ _ q=>sub_int q
theorem Kp:OpR X (binaryOp .Mod) (rI (λ_ j=>j≠0) λi j=>.int (i.fmod j)):=opI λ_ _ _ _ _ _ _ hc q=>mod_int' hc q
theorem unI{f:Value->Sem Value}{g:Int->Int}
  (rule:∀(i:Int)(t:Tok)(s:Shared)(Q:Value->Shared->Prop)(E:Value->Shared->Prop),Q (.int (g i) s.toks) { s with toks:=s.toks+1}->wpAny (model X.prog X.w) X.A (f (.int i t)) Q E s):
  UnR X f (rU λi=>.int (g i)):=by
 intro pins s σ H x v Q I rx h
 obtain⟨i,rfl,q⟩:=h
 obtain⟨t,rfl⟩:=rx
 exact rule i t s _ _ ⟨.int (g i),H,I.tok _,⟨_,rfl⟩,q⟩
theorem Px:UnR X (unaryOp .USub) (rU λi=>.int (-i)):=unI λ_ _ _ _ _ q=>neg_int q
end
section
variable {X:Cx} {a b c:Expr} {ta tb tc:TE} {pos:Pos}
theorem Uh:OpR X (compareOp .Lt) (rI0 λi j=>.bl (decide (i<j))):=Ku λ_ _ _ _ _ _ _ q=>lt_int q
theorem Te:OpR X (compareOp .LtE) (rI0 λi j=>.bl (decide (i<=j))):=Ku λ_ _ _ _ _ _ _ q=>le_int q
theorem UT:OpR X (compareOp .Gt) (rI0 λi j=>.bl (decide (j<i))):=Ku λ_ _ _ _ _ _ _ q=>gt_int q
theorem Ub:OpR X (compareOp .GtE) (rI0 λi j=>.bl (decide (j<=i))):=Ku λ_ _ _ _ _ _ _ q=>ge_int q
theorem OpR.or{f:Value->Value->Sem Value}{r r':R2}(h:OpR X f r)(h':OpR X f r'):OpR X f (λx y H Q=>r x y H Q∨r' x y H Q):=by
 intro pins s σ H x y v u Q I rx ry q
 rcases q with q|q
 .exact h pins s σ H x y v u Q I rx ry q
 .exact h' pins s σ H x y v u Q I rx ry q
theorem Mg{op:CmpOp}{r:R2}(ho:OpR X (compareOp op) r)(ha:PE X a ta)(hb:PE X b tb)(hm:behindInMarks op b=false):PE X (.Compare a [op] [b] pos) (tOp r ta tb):=by
 intro pins s σ H Q I h
 exact wpAny_Compare1 (QV ha hb I h λv u s2 x y H2 I2 rx ry q=>ho pins s2 σ H2 x y v u Q I2 rx ry q) hm
def SX(t:TE):TT:=λσ H Q=>t σ H λx H'=>∃k,x= .bl k/\Q k H'
theorem Nh{op:CmpOp}{r:R2}(ho:OpR X (compareOp op) r)(ha:PE X a ta)(hb:PE X b tb)(hm:behindInMarks op b=false):PT X (.Compare a [op] [b] pos) (SX (tOp r ta tb)):=by
 intro pins s σ H Q I h
 refine wpAny_isTrue_Compare1 (thn (ha pins s σ H _ I h) λv s1 ⟨x,H1,I1,r1,q1⟩=>thn (hb pins s1 σ H1 _ I1 q1) λu s2 ⟨y,H2,I2,r2,q2⟩=>
  thn (ho pins s2 σ H2 x y v u _ I2 r1 r2 q2) λc s3 ⟨z,H3,I3,r3,k,e,q3⟩=>?_) hm
 subst e
 cases r3
 exact wpAny_truthy_bool ⟨H3,I3,q3⟩
def Ke(r r':R2)(ta tb tc:TE):TE:=λσ H Q=>ta σ H λx H1=>tb σ H1 λy H2=>r x y H2 λz H3=>∃k,z= .bl k/\
 (if k=true then tc σ H3 λw' H4=>r' y w' H4 Q else Q (.bl false) H3)
theorem Hz{op op':CmpOp}{r r':R2}(ho:OpR X (compareOp op) r)(ho':OpR X (compareOp op') r')(ha:PE X a ta)(hb:PE X b tb)(hc:PE X c tc)
  (hm:lastMarks [op,op'] [b,c]=false:=by with_unfolding_all rfl):PE X (.Compare a [op,op'] [b,c] pos) (Ke r r' ta tb tc):=by
 intro pins s σ H Q I h
 refine Compare_chain (thn (ha pins s σ H _ I h) λv s1 ⟨x,H1,I1,r1,q1⟩=>chain_link (thn (hb pins s1 σ H1 _ I1 q1) λu s2 ⟨y,H2,I2,r2,q2⟩=>
  thn (ho pins s2 σ H2 x y v u _ I2 r1 r2 q2) λd s3 ⟨z,H3,I3,r3,k,e,q3⟩=>?_)) hm
 subst e
 cases r3
 refine wpAny_truthy_bool ?_
 cases k with
 |false=>exact ite_ff ⟨.bl false,H3,I3,rfl,q3⟩
 |true=>exact ite_tt (chain_last (thn (hc pins s3 σ H3 _ I3 q3) λw' s4 ⟨z',H4,I4,r4,q4⟩=>ho' pins s4 σ H4 y z' u w' Q I4 r2 r4 q4))
def QZ(K:PySem.W.Frag)(x:V)(H:Hp)(k:Bool):Prop:=
 match x with
 | .non=>k=false
 | .bl b=>k=b
 | .int i=>k=(i != 0)
 | .str y=>y.length<=sizeLine/\k=((y.length:Int) != 0)
 | .byt y=>y.size<=sizeLine/\k=((y.size:Int) != 0)
 | .ref p=>(∃xs,SqL K H p xs/\k= !xs.isEmpty)∨(∃xs,SqT K H p xs/\k= !xs.isEmpty)∨∃kvs,H p=some (.dK kvs)/\k= !kvs.isEmpty
 |_=>False
theorem Dq{κ:Type}{kvs:List (κ×V)}{vs:List (κ×Value)}(r:KV kvs vs):(!vs.isEmpty)= !kvs.isEmpty:=by
 cases r<;>rfl
theorem uw{xs:List V}{its:List Value}(r:Vals xs its):(!its.toArray.isEmpty)= !xs.isEmpty:=by
 cases r<;>simp
theorem pO:(sizeLine:Nat)<2 ^ 63:=by rw[sizeLine_eq];decide
theorem RQ:TruR X (λx H Q=>∃k,QZ X.K x H k/\Q k H):=by
 intro pins s σ H x v Q I rx h
 obtain⟨k,e,q⟩:=h
 have hl:=pO
 have hs:sizeLine=16777216:=sizeLine_eq
 cases x with
 |non=>
  cases rx
  have e':k=false:=e
  subst e'
  exact truthy_none ⟨H,I,q⟩
 |bl b=>
  cases rx
  have e':k=b:=e
  subst e'
  exact wpAny_truthy_bool ⟨H,I,q⟩
 |int i=>
  obtain⟨t,rfl⟩:=rx
  have e':k=(i != 0):=e
  subst e'
  exact PySem.P.truthy_int ⟨H,I,q⟩
 |str y=>
  obtain⟨t,rfl⟩:=rx
  obtain⟨hy,e'⟩:y.length<=sizeLine/\k=((y.length:Int) != 0):=e
  subst e'
  exact PySem.P.truthy_str (by omega) ⟨H,I.tok _,q⟩
 |byt y=>
  obtain⟨t,rfl⟩:=rx
  obtain⟨hy,e'⟩:y.size<=sizeLine/\k=((y.size:Int) != 0):=e
  subst e'
  exact PySem.W.truthy_bytes (by omega) ⟨H,I.tok _,q⟩
 |ref p=>
  cases rx
  have e':(∃xs,SqL X.K H p xs/\k= !xs.isEmpty)∨(∃xs,SqT X.K H p xs/\k= !xs.isEmpty)∨∃kvs,H p=some (.dK kvs)/\k= !kvs.isEmpty:=e
  rcases e' with⟨xs,hx,e'⟩|⟨xs,hx,e'⟩|⟨kvs,hx,e'⟩
  .subst e'
   obtain⟨its,r,pl,hz⟩:=I.list hx
   have hlen:=r.length
   exact wpAny_truthy_list pl.isList (by simp only[Zd];omega) ⟨H,I.tok _,by rw[uw r];exact q⟩
  .subst e'
   obtain⟨its,r,pl,hz⟩:=I.tuple hx
   have hlen:=r.length
   exact truthy_tuple pl (by simp only[Zd];omega) ⟨H,I.tok _,by rw[uw r];exact q⟩
  .subst e'
   obtain⟨hz,hS,vs,r,m⟩:kvs.length<=sizeLine/\(p==sysModules)=false/\∃vs,KV kvs vs/\s.heap.DictOf (yg X.prog X.w) p vs:=I.hok p _ hx
   have hlen:kvs.length=vs.length:=Paired.length r
   exact wpAny_truthy_dict hS m (by omega) ⟨H,I.tok _,by rw[Dq r];exact q⟩
 |_=>exact(show False from e).elim
theorem Hh(ha:PE X a ta)(he:∀whole,isTrue a X.env whole=(do let v<-whole;standAt a.pos;holding [v] (truthy v))):
  PT X a (λσ H Q=>ta σ H λx H'=>∃k,QZ X.K x H' k/\Q k H'):=by
 intro pins s σ H Q I h
 exact isTrue_plain (thn (ha pins s σ H _ I h) λv s1 ⟨x,H1,I1,r1,q1⟩=>RQ pins s1 σ H1 x v Q I1 r1 q1) (he _)
theorem Cd:OpR X (binaryOp .Add) (λx y H Q=>∃i j,x= .str i/\y= .str j/\i.length+j.length<=sizeLine/\Q (.str (i++j)) H):=by
 intro pins s σ H x y v u Q I rx ry h
 obtain⟨i,j,rfl,rfl,hz,q⟩:=h
 obtain⟨t,rfl⟩:=rx
 obtain⟨t',rfl⟩:=ry
 exact add_str (λt' tk=>⟨.str (i++j),H,I.tok _,⟨_,rfl⟩,q⟩) hz
theorem vals1{x:V}{us:List Value}(r:Vals [x] us):∃u,us=[u]/\RelV x u:=by
 cases r with
 |cons r1 r2=>cases r2;exact⟨_,rfl,r1⟩
theorem vals2{x y:V}{us:List Value}(r:Vals [x,y] us):∃u w',us=[u,w']/\RelV x u/\RelV y w':=by
 cases r with
 |cons r1 r2=>
  cases r2 with
  |cons r3 r4=>cases r4;exact⟨_,_,rfl,r1,r3⟩
theorem Jm:je X (.builtin "abs") (λxs H Q=>∃i,xs=[.int i]/\Q (.int (if i<0 then -i else i)) H):=by
 intro pins s σ H xs us Q I r h
 obtain⟨i,rfl,q⟩:=h
 obtain⟨u,rfl,t,rfl⟩:=vals1 r
 exact call_abs_int λu tk=>⟨.int (if i<0 then -i else i),H,I.tok _,⟨_,rfl⟩,q⟩
theorem Ga(hc:X.calm=true):je X (.builtin "min") (λxs H Q=>∃i j,xs=[.int i,.int j]/\Q (.int (if j<i then j else i)) H):=by
 intro pins s σ H xs us Q I r h
 obtain⟨i,j,rfl,q⟩:=h
 obtain⟨u,w',rfl,⟨t,rfl⟩,⟨t',rfl⟩⟩:=vals2 r
 refine min_two_ints (I.ok.hd hc) λh' tk k=>⟨_,H,I.kept k,?_,q⟩
 by_cases hj:j<i
 .rw[if_pos hj,if_pos hj];exact⟨_,rfl⟩
 .rw[if_neg hj,if_neg hj];exact⟨_,rfl⟩
end
def Cm(f:Str)(v:V):List (Str×V)->List (Str×V)
 | []=>[(f,v)]
 |(g,x)::r=>if g=f then(g,v)::r else(g,x)::Cm f v r
structure fu(k:Nat)(A:Around):Prop where
 hd:A.handled=none
 dp:A.depth+3*k+5<recursionLimit
 un:A.units+16*k+200<cLine
theorem fu.mono{j k:Nat}{A:Around}(r:fu k A)(h:j<=k):fu j A:=⟨r.hd,by have:=r.dp;omega,by have:=r.un;omega⟩
theorem fu.deeper{k:Nat}{A:Around}(r:fu (k+1) A)(env:Env):fu k (A.deeper env):=
 ⟨r.hd,by have:=r.dp;show A.depth+1+3*k+5<_;omega,by have:=r.un;show A.units+3+16*k+200<_;omega⟩
theorem fu.depth{k:Nat}{A:Around}(r:fu k A):A.depth<recursionLimit:=by have:=r.dp;omega
def tNil:TA:=λ_ H Q=>Q [] H
def Vk(ta:TE)(tr:TA):TA:=λσ H Q=>ta σ H λx H1=>tr σ H1 λxs H2=>Q (x::xs) H2
section
variable {X:Cx} {e:Expr} {es:List Expr} {te:TE} {t:TA} {pos:Pos}
theorem rE:PA X [] tNil:=λ_ _ _ _ H Q I h=>Calls.spliced_nil ⟨[],H,I,.nil,h⟩
theorem mG(ha:PE X e te)(hr:PA X es t)(hs:starEach (e::es) X.env=(false,eval e X.env)::starEach es X.env:=by rfl):PA X (e::es) (Vk te t):=by
 intro pos pins s σ H Q I h
 rw[hs]
 show wpAny _ _ (spliced ((false,eval e X.env)::backTo pos (starEach es X.env))) _ _ s
 refine Calls.spliced_cons (thn (ha pins s σ H _ I h) λu s1 zq46=>?_)
 obtain⟨x,H1,I1,r1,q1⟩:=zq46
 exact thn (hr pos pins s1 σ H1 _ I1 q1) λus s2 ⟨xs,H2,I2,r2,q2⟩=>⟨x::xs,H2,I2,.cons r1 r2,q2⟩
def tTup(t:TA):TE:=λσ H Q=>t σ H λxs H1=>xs.length<=sizeLine/\∀p,H1 p=none->Q (.ref p) (upd H1 p (.tup xs))
def tLst(t:TA):TE:=λσ H Q=>t σ H λxs H1=>xs.length<=sizeLine/\∀p,H1 p=none->Q (.ref p) (upd H1 p (.lst xs))
theorem Pr{x1}(h:PA X es t):PE X (.Tuple es x1 pos) (tTup t):=by
 intro pins s σ H Q I hq
 refine wpAny_Tuple_spliced (thn (h pos pins s σ H _ I hq) λus s1 ⟨xs,H1,I1,r,z,q⟩=>⟨by rw[<-r.length];exact z,?_⟩)
 have hf:H1 s1.heap.objs.size=none:=I1.hok.fresh (Zg _)
 refine⟨.ref s1.heap.objs.size,upd H1 s1.heap.objs.size (.tup xs),I1.laid (t':=s1.toks) (λb u e=>Zb _ e) (Zg _) ?_,rfl,q _ hf⟩
 exact⟨z,us,r,⟨_,Zf _ rfl,rfl,_,rfl⟩⟩
theorem Kf(h:PA X es t):PE X (.List es pos) (tLst t):=by
 intro pins s σ H Q I hq
 refine wpAny_List_spliced (thn (h pos pins s σ H _ I hq) λus s1 ⟨xs,H1,I1,r,z,q⟩=>⟨by rw[<-r.length];exact z,?_⟩)
 have hf:H1 s1.heap.objs.size=none:=I1.hok.fresh (Zg _)
 refine⟨.ref s1.heap.objs.size,upd H1 s1.heap.objs.size (.lst xs),I1.laid (t':=s1.toks) (λb u e=>Zb _ e) (Zg _) ?_,rfl,q _ hf⟩
 exact⟨z,us,0,r,Zf _ rfl⟩
end
abbrev Sp:=List V->Hp->VK->XK->Prop
abbrev CXT:=List Env->Hp->Shared->XK->Value->Shared->Prop
structure KN(P:Program)(w:World)(K:PySem.W.Frag)(mg:Str->Option Value)(base:Heap)(A:Around)(outer:List Env)(s:Shared)(H:Hp):Prop where
 frames:A.frames=some outer
 mod:Mod K mg base
 bs:∀b o,base.get? b=some o->s.heap.get? b=some o/\H b=none
 bsz:base.objs.size<=s.heap.objs.size
 funs:s.heap.FunFrames base outer
 frf:∀b∈frs outer,H b=none
 hok:HOk P w H s.heap
 bare:AllBare s.gens
def CE(outer:List Env)(P:Program)(w:World)(H:Hp)(s:Shared)(Q:VK)(u:Value)(s':Shared):Prop:=
 ∃v H',s'.os=s.os/\GK s.gens s'.gens/\Un (frs outer) [] H H' s.heap s'.heap/\HOk P w H' s'.heap/\RelV v u/\Q v H'
def CR(CX:CXT)(outer:List Env)(P:Program)(w:World)(H:Hp)(s:Shared)(Q:VK)(E:XK)(r:Result)(s':Shared):Prop:=
 match r with
 | .ok (.ret u)=>CE outer P w H s Q u s'
 | .ok _=>False
 | .error e=>CX outer H s E e s'
structure tR(P:Program)(w:World)(K:PySem.W.Frag)(mg:Str->Option Value)(base:Heap)(CX:CXT)(k:Nat)(f:Addr)(fd:FuncData)(ps:List Str)(sp:Sp):Prop where
 len:∀vs H Q E,sp vs H Q E->vs.length=ps.length
 run:∀(A:Around)(outer:List Env)(s:Shared)(H:Hp)(args:Args)(us:List Value)(vs:List V)(Q:VK)(E:XK),fu k A->KN P w K mg base A outer s H->BindsTo s fd args (ps.zip us)->Vals vs us->sp vs H Q E->
  codeAny (model P w) A (.call (.ref f) args) (CR CX outer P w H s Q E) s
theorem tR.imp{P:Program}{w:World}{K:PySem.W.Frag}{mg:Str->Option Value}{base:Heap}{CX:CXT}{k:Nat}{f:Addr}{fd:FuncData}{ps:List Str}{sp sp':Sp}(F:tR P w K mg base CX k f fd ps sp)
  (h:∀vs H Q E,sp' vs H Q E->sp vs H Q E):tR P w K mg base CX k f fd ps sp':=
 ⟨λvs H Q E q=>F.len vs H Q E (h _ _ _ _ q),λA outer s H args us vs Q E hr he hb hv hs=>F.run A outer s H args us vs Q E hr he hb hv (h _ _ _ _ hs)⟩
section
variable {X:Cx} {pins:List (Addr×Obj)} {σ:St} {H:Hp} {s s':Shared}
theorem Inv.env0(I:Inv X pins σ H s):KN X.prog X.w X.K X.mg X.base X.A X.stack s H:=
 ⟨I.ok.frames,I.ok.mod,I.bs,Zl I.ok.bsz I.sz,I.stack,I.stkFree,I.hok,I.bare.bare⟩
theorem Inv.after{Q:VK}{u:Value}(I:Inv X pins σ H s)(h:CE X.stack X.prog X.w H s Q u s'):EP X pins σ Q u s':=by
 obtain⟨v,H',os,bare,un,hok,r,q⟩:=h
 obtain⟨hh,g,d,t,os'⟩:=s'
 obtain rfl:os'=s.os:=os
 exact⟨v,H',I.call (h':=hh) (g':=g) (d':=d) (t':=t) (ch:=[]) un hok bare (λb z=>absurd z (by simp)),r,q⟩
end
def Vg(sp:Sp)(dvs:List V)(E:XK)(t:TA):TE:=λσ H Q=>t σ H λvs H1=>sp (vs++dvs) H1 Q E
def Binds(K:PySem.W.Frag)(fd:FuncData)(ps:List Str)(ds:List Value):Prop:=
 ∀(s:Shared)(us:List Value),K.In s.heap->(us++ds).length=ps.length->BindsTo s fd ⟨us,[]⟩ (ps.zip (us++ds))
theorem Binds.all{K:PySem.W.Frag}{fd:FuncData}{ps:List Str}(h:∀us:List Value,us.length=ps.length->bindArgs fd ⟨us,[]⟩=pure (ps.zip us)):Binds K fd ps []:=λs us _ hl=>by
 rw[List.append_nil]at hl ⊢
 exact .of_eq (h us hl)
def BJ(CX:CXT)(X:Cx)(E:XK):Prop:=∀(pins:List (Addr×Obj))(σ:St)(H:Hp)(s:Shared)(e:Value)(s':Shared),Inv X pins σ H s->CX X.stack H s E e s'->X.xe e s'
section
variable {X:Cx} {CX:CXT} {k:Nat} {f C:Addr} {fd:FuncData} {ps:List Str} {sp:Sp} {dvs:List V} {ds:List Value} {E:XK} {x m:Str} {p pos apos:Pos} {e o:Expr} {es:List Expr} {ta:TE} {t:TA}
theorem PL{pins:List (Addr×Obj)}{σ:St}{H:Hp}{s:Shared}{Q:VK}{us:List Value}{vs:List V}(F:tR X.prog X.w X.K X.mg X.base CX k f fd ps sp)(hr:fu k X.A)(hb:Binds X.K fd ps ds)(hd:Vals dvs ds)(hx:BJ CX X E)
  (I:Inv X pins σ H s) (r:Vals vs us) (h:sp (vs++dvs) H Q E):wpAny (model X.prog X.w) X.A (call (.ref f) us) (EP X pins σ Q) X.xe s:=by
 have r2:Vals (vs++dvs) (us++ds):=r.append hd
 have hl:(us++ds).length=ps.length:=by rw[<-r2.length];exact F.len _ _ _ _ h
 refine wpAny_call (codeAny_mono (F.run X.A X.stack s H ⟨us,[]⟩ (us++ds) (vs++dvs) Q E hr I.env0 (hb s us I.kIn hl) r2 h) λr s' hq=>?_)
 cases r with
 |error e=>exact hx pins σ H s e s' I hq
 |ok fl=>
  cases fl with
  |ret u=>exact I.after hq
  |next=>exact False.elim hq
  |brk=>exact False.elim hq
  |cont=>exact False.elim hq
theorem Mw(F:tR X.prog X.w X.K X.mg X.base CX k f fd ps sp)(hr:fu k X.A)(hg:Gl X x)(hm:X.mg x=some (.ref f))(hk:PySem.W.keepIn X.K (.ref f)=true)(hb:Binds X.K fd ps ds)(hd:Vals dvs ds)(hx:BJ CX X E)
  (ha:PA X (e::es) t) (hdb:(x==("__debug__":Str))=false:=by decide) (he:starEach (e::es) X.env=(false,eval e X.env)::starEach es X.env:=by rfl) (hpl:(backTo pos (starEach es X.env)).any (·.1)=false:=by rfl):
  PE X (.Call (.Name x p) (e::es) [] pos) (Vg sp dvs E t):=by
 intro pins s σ H Q I h
 refine wpAny_Call_Name_kw (Mr I hg hm ?_ hdb)
 refine PySem.W.callWith_K (h₀:=X.base) I.ok.mod.kin hk (thn (ha pos pins s σ H _ I h) λus s1 ⟨vs,H1,I1,r,q⟩=>⟨I1.kIn,?_⟩) he hpl
 exact PL F hr hb hd hx I1 r q
end
structure bc(N P:List Str)(sc:Scope):Prop where
 kind:sc.kind= .function
 co:sc.isCoroutine=false
 gen:sc.isGenerator=false
 nd:N.Nodup
 pre:N.take P.length=P
 par:∀x∈P,sc.names.lookup x=some .local∨sc.names.lookup x=some .cell
 nofree:∀y∈sc.names,y.2≠ .free
theorem xR{kindOf:Str->Option NameKind}{x:Str}:∀{binds:List (Str×Value)}{m:Str->Option Value},(∀v,(x,v)∉binds)->bindL kindOf binds m x=m x
 | [],_,_=>rfl
 |(n,v)::r,m,h=>by
  unfold bindL
  rw[xR λw hw=>h w (List.mem_cons_of_mem _ hw)]
  split
  .have:x≠n:=by rintro rfl;exact h v List.mem_cons_self
   simp[this]
  .rfl
theorem wN{kindOf:Str->Option NameKind}{x:Str}:∀{binds:List (Str×Value)}{m:Str->Option Value},(∀v,(x,v)∉binds)->bindC kindOf binds m x=m x
 | [],_,_=>rfl
 |(n,v)::r,m,h=>by
  unfold bindC
  rw[wN λw hw=>h w (List.mem_cons_of_mem _ hw)]
  split
  .rfl
  .have:x≠n:=by rintro rfl;exact h v List.mem_cons_self
   simp[this]
theorem xP{kindOf:Str->Option NameKind}{x:Str}{v:Value}:∀{P:List Str}{vs:List Value}{i:Nat}{m:Str->Option Value},P.Nodup->P[i]? =some x->vs[i]? =some v->kindOf x=some .local->
  bindL kindOf (P.zip vs) m x=some v
 | [],_,_,_,_,h,_,_=>by simp at h
 |_::_,[],_,_,_,_,h,_=>by simp at h
 |p::P,w::vs,0,m,nd,h1,h2,hk=>by
  simp at h1 h2;subst h1;subst h2
  show bindL kindOf ((p,w)::P.zip vs) m p=_
  unfold bindL
  rw[xR λv hv=>(List.nodup_cons.mp nd).1 (List.of_mem_zip hv).1,if_pos hk]
  simp
 |p::P,w::vs,i+1,m,nd,h1,h2,hk=>by
  show bindL kindOf ((p,w)::P.zip vs) m x=_
  unfold bindL
  exact xP (i:=i) (List.nodup_cons.mp nd).2 (by simpa using h1) (by simpa using h2) hk
theorem xm{kindOf:Str->Option NameKind}{x:Str}{v:Value}:∀{P:List Str}{vs:List Value}{i:Nat}{m:Str->Option Value},P.Nodup->P[i]? =some x->vs[i]? =some v->kindOf x≠some .local->
  bindC kindOf (P.zip vs) m x=some v
 | [],_,_,_,_,h,_,_=>by simp at h
 |_::_,[],_,_,_,_,h,_=>by simp at h
 |p::P,w::vs,0,m,nd,h1,h2,hk=>by
  simp at h1 h2;subst h1;subst h2
  show bindC kindOf ((p,w)::P.zip vs) m p=_
  unfold bindC
  rw[wN λv hv=>(List.nodup_cons.mp nd).1 (List.of_mem_zip hv).1,if_neg hk]
  simp
 |p::P,w::vs,i+1,m,nd,h1,h2,hk=>by
  show bindC kindOf ((p,w)::P.zip vs) m x=_
  unfold bindC
  exact xm (i:=i) (List.nodup_cons.mp nd).2 (by simpa using h1) (by simpa using h2) hk
def start(N:List Str)(vs:List V):St:=vs.map some++List.replicate (N.length-vs.length) none
def Cj(CX:CXT)(P:Program)(w:World)(K:PySem.W.Frag)(mg:Str->Option Value)(base:Heap)(N:List Str)(qual:Str)(scope:Scope)(f:Addr)(cd:Value)(A:Around)(outer:List Env)(s:Shared)(H:Hp)(E:XK):Cx where
 prog:=P
 w:=w
 K:=K
 mg:=mg
 base:=base
 A:=A.deeper (envOfC qual scope s.heap.objs.size f cd)
 N:=N
 s₀:=s
 H₀:=H
 env:=envOfC qual scope s.heap.objs.size f cd
 outer:=outer
 stack:=envOfC qual scope s.heap.objs.size f cd::outer
 ex:=[]
 calm:=true
 fn:=λ_=>true
 pn:=[]
 xe:=λe s'=>wpAny (model P w) (A.deeper (envOfC qual scope s.heap.objs.size f cd)) (leaving (envOfC qual scope s.heap.objs.size f cd) e) (λ_ s''=>CX outer H s E e s'') (λe' s''=>CX outer H s E e' s'') s'
theorem zV{sc:Scope}{n:Nat}{x:Str}(h:sc.names.lookup x=some .cell):∃c,(cellsFrom n sc.names []).lookup x=some c:=by
 have q:=PySem.W.cellsFrom_some sc.names n [] (.inl h)
 exact Option.isSome_iff_exists.mp q
theorem Gh{CX:CXT}{P:Program}{w:World}{K:PySem.W.Frag}{mg:Str->Option Value}{base:Heap}{N ps:List Str}{qual:Str}{scope:Scope}{f:Addr}{cd:Value}{A:Around}{outer:List Env}{s s1:Shared}{H:Hp}{E:XK}{us:List Value}{vs:List V}
  (S:bc N ps scope) (hd:A.handled=none) (e0:KN P w K mg base A outer s H) (hl:vs.length=ps.length) (r:Vals vs us)
  (x:InCallC s s.heap.objs.size (bindL (envOfC qual scope s.heap.objs.size f cd).kindOf (ps.zip us) λ_=>none) (cellsFrom (s.heap.objs.size+1) scope.names []) (bindC (envOfC qual scope s.heap.objs.size f cd).kindOf (ps.zip us) λ_=>none) s1):
  Inv (Cj CX P w K mg base N qual scope f cd A outer s H E) [] (start N vs) H s1:=by
 have hpl:ps.length<=N.length:=by have:=congrArg List.length S.pre;rw[List.length_take]at this;omega
 obtain⟨h1,tk,rfl,hk⟩:=x.done
 have noA:∀b:Addr,b∉(Cj CX P w K mg base N qual scope f cd A outer s H E).ex:=λb z=>absurd (show b∈([]:List Addr)from z) (by simp)
 refine⟨⟨e0.mod,S.kind,rfl,rfl,Zg _,λy z c h1 h2=>?_,λy hy=>?_,λy c _ h=>?_,λ_=>hd,Around.frames_deeper e0.frames,.inr ⟨rfl,rfl⟩,λb z=>absurd z (noA b),e0.bs,e0.bsz,λb _ _=>noA b,λb z=>absurd z (noA b),e0.funs,e0.frf⟩,
  rfl,GK.refl e0.bare,Un.kept hk,⟨_,x.toInCall.ns,λi y v h1 h2 h3=>?_⟩,λy c h=>⟨_,x.cell y c h⟩,e0.hok.fresh (Zg _),λy c h=>?_,λp hp=>absurd (show p∈([]:List (Addr×Obj))from hp) (by simp),e0.hok.kept hk,?_⟩
 .exact name_of_addr x.apart (Zt h1) (Zt h2)
 .have hy:scope.names.lookup y=some .cell∨scope.names.lookup y=some .free:=hy
  rcases hy with hy|hy
  .exact zV hy
  .exact absurd rfl (S.nofree _ (Zt hy))
 .exact Nat.le_of_lt (x.above y c (Zt h))
 .have hi:i<vs.length:=by
   unfold start at h2
   by_cases hi:i<vs.length
   .exact hi
   .rw[List.getElem?_append_right (by simpa using hi)]at h2
    rw[List.getElem?_replicate]at h2
    split at h2<;>cases h2
  have ha:vs[i]? =some v:=by
   unfold start at h2
   rw[Zs (by simpa using hi),List.getElem?_map]at h2
   cases e:vs[i]? with
   |none=>rw[e]at h2;cases h2
   |some a=>rw[e]at h2;cases h2;rfl
  obtain⟨u,hu,rv⟩:=r.get ha
  have hp:ps[i]? =some y:=by
   rw[<-S.pre,List.getElem?_take_of_lt (by omega)];exact h1
  have ndP:ps.Nodup:=by rw[<-S.pre];exact S.nd.sublist (List.take_sublist _ _)
  refine⟨u,rv,?_⟩
  rcases S.par y (List.mem_of_getElem? hp)with k|k
  .exact .inl ⟨k,xP ndP hp hu k⟩
  .obtain⟨c,e⟩:=zV (n:=s.heap.objs.size+1) k
   refine .inr ⟨.inl k,c,e,?_⟩
   have q:=x.cell y c e
   rw[xm ndP hp hu (by show scope.names.lookup y≠_;rw[k];decide)]at q
   exact q
 .exact e0.hok.fresh (Nat.le_of_lt (x.above y c (Zt h)))
 .unfold start
  show _=N.length
  rw[List.length_append,Zu,List.length_replicate]
  omega
theorem Ot{CX:CXT}{P:Program}{w:World}{K:PySem.W.Frag}{mg:Str->Option Value}{base:Heap}{k:Nat}{f:Addr}{name qual:Str}{params:Arguments}{body:List Stmt}{scope:Scope}{dV kV doc pm cdv ct oc:Value}{an od:Option Addr}
  {osl:Array (Option Value)} {N ps:List Str} {sp:Sp} (lk:K.lookup f=some ⟨oc,od,.func (PySem.W.fnOf name qual params body scope dV kV doc pm an cdv ct),osl⟩) (hcd:PySem.W.codeIn K cdv qual=true) (S:bc N ps scope)
  (len:∀vs H Q E,sp vs H Q E->vs.length=ps.length)
  (hbody:∀(A:Around)(outer:List Env)(s:Shared)(H:Hp)(vs:List V)(Q:VK)(E:XK),fu k (A.deeper (envOfC qual scope s.heap.objs.size f cdv))->sp vs H Q E->
   ∃t,PSs (Cj CX P w K mg base N qual scope f cdv A outer s H E) body t/\t { nx:=λ_ H'=>Q .non H',rt:=Q} (start N vs) H):
  tR P w K mg base CX (k+1) f (PySem.W.fnOf name qual params body scope dV kV doc pm an cdv ct) ps sp:=by
 refine⟨len,λA outer s H args us vs Q E hr e0 hb r hsp=>?_⟩
 have hl:=len _ _ _ _ hsp
 have KX:K.In s.heap:=e0.mod.kin.keeps λb o e=>(e0.bs b o e).1
 have lim:s.heap.NoLimit:=e0.mod.nolimit.keeps λb o e=>(e0.bs b o e).1
 have hkind:∀y∈ps.zip us,scope.names.lookup y.1=some .local∨(scope.names.lookup y.1=some .cell/\((cellsFrom (s.heap.objs.size+1) scope.names []).lookup y.1).isSome=true):=λzq49 hy=>by
  obtain⟨n,v⟩:=zq49
  rcases S.par n (List.of_mem_zip hy).1 with q|q
  .exact .inl q
  .exact .inr ⟨q,PySem.W.cellsFrom_some _ _ _ (.inl q)⟩
 refine codeAny_call_function hr.depth (KX _ _ lk) rfl S.co S.gen rfl (PySem.W.codeRec_of KX hcd) (hb _ _ _ _ ?_)
 refine wpAny_newFunctionEnv_cells S.kind hkind λenv he s1 x=>?_
 subst he
 refine⟨lim.keeps x.toInCall.keep,codeAny_func ?_⟩
 obtain⟨t,ht,hq⟩:=hbody A outer s H vs Q E (hr.deeper _) hsp
 have I:Inv (Cj CX P w K mg base N qual scope f cdv A outer s H E) [] (start N vs) H s1:=Gh S hr.hd e0 hl r x
 refine wpAny_mono (ht [] s1 (start N vs) H _ I hq) (λfl s' hs=>?_) λe s' hs=>hs
 have fin:∀{σ':St}{H':Hp}{v:V}{u:Value},Inv (Cj CX P w K mg base N qual scope f cdv A outer s H E) [] σ' H' s'->RelV v u->Q v H'->CE outer P w H s Q u s':=
  λ{σ' H' v u} J rv q=>⟨v,H',J.os,J.bare,J.base,J.hok,rv,q⟩
 cases fl with
 |ret u=>
  obtain⟨v,σ',H',J,rv,q⟩:=hs
  exact fin J rv q
 |next=>
  obtain⟨σ',H',J,q⟩:=hs
  exact fin (v:=V.non) (u:=Value.none) J rfl q
 |brk=>
  obtain⟨_,_,_,q⟩:=hs
  exact False.elim q
 |cont=>
  obtain⟨_,_,_,q⟩:=hs
  exact False.elim q
section
variable {X:Cx} {x:Str} {p pos:Pos} {e:Expr} {es:List Expr} {t:TA} {id T:String} {r:List V->Hp->VK->Prop}
def tCB(r:List V->Hp->VK->Prop)(t:TA):TE:=λσ H Q=>t σ H λvs H1=>r vs H1 Q
theorem nU(hc:je X (.builtin id) r)(hg:Gl X x)(hm:X.mg x=none)(hv:bootBuiltins x=some (.builtin id))(ha:PA X (e::es) t)(hn:x≠"__name__":=by decide)(hdb:(x==("__debug__":Str))=false:=by decide)
  (he:starEach (e::es) X.env=(false,eval e X.env)::starEach es X.env:=by rfl) (hpl:(backTo pos (starEach es X.env)).any (·.1)=false:=by rfl):PE X (.Call (.Name x p) (e::es) [] pos) (tCB r t):=by
 intro pins s σ H Q I h
 refine wpAny_Call_Name_kw (mK I hg hm hv ?_ hn hdb)
 exact PyProof.Rows.callWith_builtin1 (thn (ha pos pins s σ H _ I h) λus s1 ⟨vs,H1,I1,r1,q1⟩=>hc pins s1 σ H1 vs us Q I1 r1 q1) he hpl
theorem iJ(hc:je X (.type T) r)(hg:Gl X x)(hm:X.mg x=none)(hv:bootBuiltins x=some (.type T))(ha:PA X (e::es) t)(hn:x≠"__name__":=by decide)(hdb:(x==("__debug__":Str))=false:=by decide)
  (he:starEach (e::es) X.env=(false,eval e X.env)::starEach es X.env:=by rfl) (hpl:(backTo pos (starEach es X.env)).any (·.1)=false:=by rfl):PE X (.Call (.Name x p) (e::es) [] pos) (tCB r t):=by
 intro pins s σ H Q I h
 refine wpAny_Call_Name_kw (mK I hg hm hv ?_ hn hdb)
 exact PyProof.Rows.callWith_type1 (thn (ha pos pins s σ H _ I h) λus s1 ⟨vs,H1,I1,r1,q1⟩=>hc pins s1 σ H1 vs us Q I1 r1 q1) he hpl
end
end L2
namespace HT
open PySem PyProof.Rows
def lexLt:List Int->List Int->Bool
 | [],[]=>false
 | [],_::_=>true
 |_::_,[]=>false
 |x::xs,y::ys=>if x=y then lexLt xs ys else decide (x<y)
theorem lexLt_cons(x y:Int)(xs ys:List Int):lexLt (x::xs) (y::ys)=if x=y then lexLt xs ys else decide (x<y):=rfl
section
variable {prog:Program} {w:World} {A:Around} {E:Value->Shared->Prop} {s:Shared}
theorem cat_tup{t b:Addr}{vs ws:List Value}{Q:Value->Shared->Prop}(ht:IsTup s.heap t vs.toArray)(hb:IsTup s.heap b ws.toArray)(hv:vs≠[])
  (h1:ws=[]->Q (.ref t) s) (h2:ws≠[]->Q (.ref s.heap.objs.size) { s with heap:=s.heap.push { cls:=.type "tuple",data:=.seq (vs++ws).toArray} })
  (hsz:vs.length+ws.length<=sizeLine):wpAny (model prog w) A (binaryOp .Add (.ref t) (.ref b)) Q E s:=by
 obtain⟨⟨cls,dd,data,sl⟩,ho,hc,n,hd⟩:=id ht
 obtain⟨⟨cls2,dd2,data2,sl2⟩,ho2,hc2,n2,hd2⟩:=id hb
 simp only at hc hd hc2 hd2
 subst hc hd hc2 hd2
 have e:vs.toArray++ws.toArray=(vs++ws).toArray:=by simp
 by_cases hw:ws=[]
 .exact concat_meets ⟨_,ho,rfl⟩ ⟨_,ho2,rfl⟩ noFill_tuple_add seq_tuple_add PySem.F.slot_tuple_add PySem.F.entry_tuple_add (PySem.F.args_tuple_add_2 _ _)
   (tuple_addW1 t b vs.toArray ws.toArray n n2 dd dd2 sl sl2 (by simpa using hv) (by simp[hw])) ⟨ho,ho2,h1 hw⟩
 .refine concat_meets ⟨_,ho,rfl⟩ ⟨_,ho2,rfl⟩ noFill_tuple_add seq_tuple_add PySem.F.slot_tuple_add PySem.F.entry_tuple_add (PySem.F.args_tuple_add_2 _ _)
   (tuple_addW2 t b vs.toArray ws.toArray n n2 dd dd2 sl sl2 (by simpa using hv) (by simpa using hw) (by rw[Zd,Zd];exact hsz)) ⟨ho,ho2,?_⟩
  rw[e]
  exact h2 hw
def sIx(n d:Nat):Option Int->Nat
 |none=>d
 |some v=>if v<0 then(v+(n:Int)).toNat else min v.toNat n
theorem Ri(n d:Nat)(hd:d<=n)(o:Option Int):sIx n d o<=n:=by
 cases o with
 |none=>exact hd
 |some v=>
  show(if v<0 then(v+(n:Int)).toNat else min v.toNat n)<=n
  by_cases hv:v<0
  .rw[if_pos hv];omega
  .rw[if_neg hv];exact Nat.min_le_right _ _
theorem Ea(v:Int)(n d:Nat):(if v<0 then max (v+(n:Int)) 0 else min v (n:Int))=((sIx n d (some v):Nat):Int):=by
 show(if v<0 then max (v+(n:Int)) 0 else min v (n:Int))=(((if v<0 then(v+(n:Int)).toNat else min v.toNat n):Nat):Int)
 by_cases hv:v<0
 .simp only[if_pos hv];omega
 .simp only[if_neg hv];omega
theorem Cg(lo hi:Option Int)(n:Nat):Builtin.Slice.sliceAdjust lo hi 1 (n:Int)=(((sIx n 0 lo:Nat):Int),((sIx n n hi:Nat):Int)):=by
 have h1:¬((1:Int)<0):=by omega
 unfold Builtin.Slice.sliceAdjust
 simp only[h1,if_false]
 refine Prod.ext ?_ ?_
 .cases lo with
  |none=>rfl
  |some v=>exact Ea v n 0
 .cases hi with
  |none=>rfl
  |some v=>exact Ea v n n
theorem Bw(i j:Nat):Builtin.Slice.slicePlaces (i:Int) (j:Int) 1=j-i:=by
 unfold Builtin.Slice.slicePlaces
 have h1:(1:Int)>0:=by omega
 simp only[h1,if_true,Int.ediv_one]
 split<;>omega
theorem uP{v:Value}{o:Option Int}{Q:Option Int->Shared->Prop}(p:IsPart v o)(h:Q o s):wpAny (model prog w) A (Builtin.Slice.slicePartIndex v) Q E s:=by
 cases p with
 |none=>exact slicePart_none h
 |int i t=>exact slicePart_int h
theorem lX{sl:Addr}{vl vu:Value}{lo hi:Option Int}{n:Nat}{Q:Int×Int×Nat->Shared->Prop}(hs:s.heap.IsSliceOf sl vl vu .none)(pl:IsPart vl lo)(pu:IsPart vu hi)
  (h:Q (((sIx n 0 lo:Nat):Int),1,sIx n n hi-sIx n 0 lo) s):wpAny (model prog w) A (Builtin.Slice.sliceApplied (.ref sl) (pure (n:Int))) Q E s:=by
 obtain⟨os,hos,hcs,hds⟩:=id hs
 unfold Builtin.Slice.sliceApplied Builtin.Slice.sliceFields
 refine wpAny_bind (wpAny_bind (wpAny_field hos hds (x:=vl) rfl (wpAny_bind (wpAny_field hos hds (x:=vu) rfl (wpAny_bind (wpAny_field hos hds (x:=.none) rfl (wpAny_pure ?_)))))))
 refine wpAny_bind (slicePart_none ?_)
 show wpAny _ _ (if((1:Int)==0)=true then _ else _) _ _ s
 rw[if_neg (by decide)]
 refine wpAny_bind (uP pl (wpAny_bind (uP pu (wpAny_bind (wpAny_pure ?_)))))
 show wpAny _ _ (match Builtin.Slice.sliceAdjust lo hi 1 (n:Int)with|(lo,hi)=>pure (lo,(1:Int),Builtin.Slice.slicePlaces lo hi 1)) _ _ s
 rw[Cg lo hi n]
 show wpAny _ _ (pure (((sIx n 0 lo:Nat):Int),(1:Int),Builtin.Slice.slicePlaces ((sIx n 0 lo:Nat):Int) ((sIx n n hi:Nat):Int) 1)) _ _ s
 rw[Bw]
 exact wpAny_pure h
theorem Jj(xs:Array Value)(i k:Nat):((List.range k).filterMap λ(m:Nat)=>xs[((i:Int)+(m:Int)*1).toNat]?).toArray=((xs.toList.drop i).take k).toArray:=by
 have e:(λ(m:Nat)=>xs[((i:Int)+(m:Int)*1).toNat]?)=λm=>xs[i+m]? :=by
  funext m
  have:((i:Int)+(m:Int)*1).toNat=i+m:=by omega
  rw[this]
 rw[e]
 have:=pick_run xs i k
 rw[List.filterMap_map]at this
 have e2:((λx=>xs[x]?)∘λx=>i+x)=λm=>xs[i+m]? :=rfl
 rw[e2]at this
 rw[this]
theorem getItem_tuple_cut{t sl:Addr}{items:Array Value}{vl vu:Value}{lo hi:Option Int}{Q:Value->Shared->Prop}(ht:IsTup s.heap t items)(hs:s.heap.IsSliceOf sl vl vu .none)(pl:IsPart vl lo)(pu:IsPart vu hi)
  (hw:¬(sIx items.size 0 lo=0/\sIx items.size items.size hi=items.size))
  (h:Q (.ref s.heap.objs.size) { s with heap:=s.heap.push { cls:=.type "tuple",data:=.seq ((items.toList.drop (sIx items.size 0 lo)).take (sIx items.size items.size hi-sIx items.size 0 lo)).toArray} })
  (hsz:items.size<=sizeLine):wpAny (model prog w) A (getItem (.ref t) (.ref sl)) Q E s:=by
 have htake:sizeOk (.seq ((items.toList.drop (sIx items.size 0 lo)).take (sIx items.size items.size hi-sIx items.size 0 lo)).toArray):=by
  show((items.toList.drop (sIx items.size 0 lo)).take (sIx items.size items.size hi-sIx items.size 0 lo)).toArray.size<=sizeLine
  rw[Zd,List.length_take,List.length_drop,Array.length_toList]
  omega
 have hj:sIx items.size items.size hi<=items.size:=Ri _ _ (Zg _) hi
 obtain⟨os,hos,hcs,hds⟩:=id hs
 have hTs:s.TypeIs (.ref sl) "slice":=⟨os,hos,hcs⟩
 unfold getItem
 try with_reducible refine wpAny_holding ?_
 first|refine wpAny_bind (wpAny_pure ?_)|skip
 refine wpAny_bind (wpAny_sequenceKey ht.typeIs (by decide) ?_)
 refine wpAny_bind (wpAny_callSpecial?_slot (name:=Str.ofString "__getitem__") ht.typeIs PyProof.Rows.slot_tuple_getitem
  (wpAny_call_entry PyProof.Rows.slot_tuple_getitem ht.typeIs entry_tuple_getitem ?_ (args_tuple_getitem _ _)))
 show wpAny _ _ (Builtin.Tuple.tupleItemsOf (.ref t) >>= _) _ _ s
 refine wpAny_bind (tupleItemsOf_ ht ?_)
 refine wpAny_bind (wpAny_typeOf hTs ?_)
 rw[if_pos (by decide)]
 refine wpAny_bind (lX hs pl pu ?_)
 have hno:¬((((sIx items.size 0 lo:Nat):Int)==0&&(1:Int)==1&&(sIx items.size items.size hi-sIx items.size 0 lo)==items.size)=true):=by
  intro q
  rw[Zo,Zo]at q
  have q1:((sIx items.size 0 lo:Nat):Int)=0:=eq_of_beq q.1.1
  have q2:sIx items.size items.size hi-sIx items.size 0 lo=items.size:=eq_of_beq q.2
  exact hw ⟨by omega,by omega⟩
 show wpAny _ _ (if(((sIx items.size 0 lo:Nat):Int)==0&&(1:Int)==1&&(sIx items.size items.size hi-sIx items.size 0 lo)==items.size)=true then _ else _) _ _ s
 rw[if_neg hno,Jj]
 first
  |exact wpAny_bind (m:=Builtin.Tuple.tupleExact _) (wpAny_newObj_type (wpAny_pure ⟨_,rfl,wpAny_pure h⟩) htake)
  |exact wpAny_bind (m:=Builtin.Tuple.tupleExact _) (wpAny_newObj_type (wpAny_bind (wpAny_pure (wpAny_pure ⟨_,rfl,wpAny_pure h⟩))) htake)
  |exact wpAny_bind (wpAny_bind (m:=Builtin.Tuple.tupleExact _) (wpAny_newObj_type (wpAny_pure (wpAny_pure ⟨_,rfl,wpAny_pure h⟩)) htake))
  |exact wpAny_bind (wpAny_bind (m:=Builtin.Tuple.tupleExact _) (wpAny_newObj_type (wpAny_pure ⟨_,rfl,wpAny_pure h⟩) htake))
end
end HT
namespace L2
open PySem PySem.Spec PyProof.Rows
abbrev TO:=St->Hp->(Option Int->Hp->Prop)->Prop
def PO(X:Cx)(e:Option Expr)(t:TO):Prop:=
 ∀(pins:List (Addr×Obj))(s:Shared)(σ:St)(H:Hp)(Q:Option Int->Hp->Prop),Inv X pins σ H s->t σ H Q->
  wpAny (model X.prog X.w) X.A (evalPart e X.env) (λu s'=>∃o H',Inv X pins σ H' s'/\IsPart u o/\Q o H') X.xe s
def Oj:TO:=λ_ H Q=>Q none H
def Vb(t:TE):TO:=λσ H Q=>t σ H λx H1=>∃i,x= .int i/\Q (some i) H1
section
variable {X:Cx} {e:Expr} {te:TE} {lo hi:Option Expr} {tl th:TO} {pos p2:Pos}
theorem Np:PO X none Oj:=by
 intro pins s σ H Q I h
 rw[evalPart_none]
 exact wpAny_pure ⟨none,H,I,.none,h⟩
theorem Ms(h:PE X e te):PO X (some e) (Vb te):=by
 intro pins s σ H Q I hw
 rw[evalPart_some]
 refine thn (h pins s σ H _ I hw) λu s1 zq50=>?_
 obtain⟨x,H1,I1,r1,q1⟩:=zq50
 obtain⟨i,rfl,q⟩:=q1
 obtain⟨t,rfl⟩:=r1
 exact⟨some i,H1,I1,.int i t,q⟩
def SlR(X:Cx)(r:V->Option Int->Option Int->Hp->VK->Prop):Prop:=
 ∀(pins:List (Addr×Obj))(s:Shared)(σ:St)(H:Hp)(x:V)(v vl vu:Value)(lo hi:Option Int)(sl:Addr)(Q:VK),Inv X pins σ H s->RelV x v->s.heap.IsSliceOf sl vl vu .none->IsPart vl lo->IsPart vu hi->r x lo hi H Q->
  ∃T id,typeLookup (.type T) "__getitem__"=pure (some (.builtin id))/\s.TypeIs v T/\wpAny (model X.prog X.w) X.A (getItem v (.ref sl)) (EP X pins σ Q) X.xe s
theorem SlR.or{r r':V->Option Int->Option Int->Hp->VK->Prop}(h:SlR X r)(h':SlR X r'):SlR X (λx lo hi H Q=>r x lo hi H Q∨r' x lo hi H Q):=by
 intro pins s σ H x v vl vu lo hi sl Q I rx hs pl pu q
 rcases q with q|q
 .exact h pins s σ H x v vl vu lo hi sl Q I rx hs pl pu q
 .exact h' pins s σ H x v vl vu lo hi sl Q I rx hs pl pu q
def tSl(r:V->Option Int->Option Int->Hp->VK->Prop)(te:TE)(tl th:TO):TE:=λσ H Q=>te σ H λx H1=>tl σ H1 λl H2=>th σ H2 λu H3=>r x l u H3 Q
theorem Aq{r:V->Option Int->Option Int->Hp->VK->Prop}(hr:SlR X r)(he:PE X e te)(hl:PO X lo tl)(hu:PO X hi th):PE X (.Subscript e (.Slice lo hi none p2) pos) (tSl r te tl th):=by
 intro pins s σ H Q I h
 refine Subscript_ (thn (he pins s σ H _ I h) λv s1 zq51=>?_)
 obtain⟨x,H1,I1,r1,q1⟩:=zq51
 refine wpAny_Slice (thn (hl pins s1 σ H1 _ I1 q1) λvl s2 ⟨l,H2,I2,pl,q2⟩=>thn (hu pins s2 σ H2 _ I2 q2) λvu s3 zq52=>?_)
 obtain⟨u,H3,I3,pu,q3⟩:=zq52
 rw[evalPart_none]
 refine wpAny_pure ?_
 have I4:Inv X pins σ H3 { s3 with heap:=s3.heap.push { cls:=.type "slice",data:=.fields #[vl,vu,.none] } }:=I3.kept (t':=s3.toks) λb ob q=>Zb _ q
 obtain⟨T,id,hT,ht,hg⟩:=hr pins { s3 with heap:=s3.heap.push { cls:=.type "slice",data:=.fields #[vl,vu,.none] } } σ H3 x v vl vu l u s3.heap.objs.size Q I4 r1 (Heap.IsSliceOf.new ..) pl pu q3
 show wpAny (model X.prog X.w) X.A (subscriptTail e (.Slice lo hi none p2) v (.ref s3.heap.objs.size)) (EP X pins σ Q) X.xe { s3 with heap:=s3.heap.push { cls:=.type "slice",data:=.fields #[vl,vu,.none] } }
 exact tail_any (ops:=[.ref s3.heap.objs.size,v]) ht hT hg (by with_unfolding_all rfl)
def zG(xs:List V)(lo hi:Option Int):List V:=(xs.drop (HT.sIx xs.length 0 lo)).take (HT.sIx xs.length xs.length hi-HT.sIx xs.length 0 lo)
theorem sU(xs:List V)(lo hi:Option Int):(zG xs lo hi).length<=xs.length:=by
 unfold zG
 rw[List.length_take,List.length_drop]
 omega
def rSlT(K:PySem.W.Frag):V->Option Int->Option Int->Hp->VK->Prop:=λx lo hi H Q=>∃a xs,x= .ref a/\SqT K H a xs/\
 ¬(HT.sIx xs.length 0 lo=0/\HT.sIx xs.length xs.length hi=xs.length)/\∀p,H p=none->Q (.ref p) (upd H p (.tup (zG xs lo hi)))
theorem PQ:SlR X (rSlT X.K):=by
 intro pins s σ H x v vl vu lo hi sl Q I rx hs pl pu h
 obtain⟨a,xs,rfl,hx,hw,q⟩:=h
 cases rx
 obtain⟨its,r,ht,hz⟩:=I.tuple hx
 have hlen:its.toArray.size=xs.length:=by rw[Zd];exact r.length.symm
 refine⟨"tuple",_,PyProof.Rows.slot_tuple_getitem.lookup,ht.typeIs,?_⟩
 refine HT.getItem_tuple_cut ht hs pl pu (by rw[hlen];exact hw) ?_ (by rw[hlen];exact hz)
 rw[hlen]
 refine⟨.ref s.heap.objs.size,_,I.laid (t':=s.toks) (o:=.tup (zG xs lo hi)) (λb ob q=>Zb _ q) (Zg _) ?_,rfl,q _ (I.hok.fresh (Zg _))⟩
 exact⟨Zl (sU xs lo hi) hz,_,(r.drop (HT.sIx xs.length 0 lo)).take (HT.sIx xs.length xs.length hi-HT.sIx xs.length 0 lo),IsTup.new _ _⟩
def Ui(K:PySem.W.Frag):R2:=λx y H Q=>∃a b xs ys,x= .ref a/\y= .ref b/\SqT K H a xs/\SqT K H b ys/\xs≠[]/\xs.length+ys.length<=sizeLine/\
 (ys=[]->Q (.ref a) H)/\(ys≠[]->∀p,H p=none->Q (.ref p) (upd H p (.tup (xs++ys))))
theorem Vals.mx{xs:List V}{us:List Value}(r:Vals xs us):us=[]↔xs=[]:=by
 cases r with
 |nil=>simp
 |cons _ _=>simp
theorem Nq:OpR X (binaryOp .Add) (Ui X.K):=by
 intro pins s σ H x y v u Q I rx ry h
 obtain⟨a,b,xs,ys,rfl,rfl,ha,hb,hx,hz,q1,q2⟩:=h
 cases rx
 cases ry
 obtain⟨its,r1,p1,_⟩:=I.tuple ha
 obtain⟨its2,r2,p2,_⟩:=I.tuple hb
 refine HT.cat_tup p1 p2 (λz=>hx (r1.mx.mp z)) (λz=>⟨.ref a,H,I,rfl,q1 (r2.mx.mp z)⟩) (λz=>?_) (by rw[<-r1.length,<-r2.length];exact hz)
 refine⟨.ref s.heap.objs.size,_,I.laid (t':=s.toks) (o:=.tup (xs++ys)) (λb ob q=>Zb _ q) (Zg _) ?_,rfl,q2 (λw=>z (r2.mx.mpr w)) _ (I.hok.fresh (Zg _))⟩
 exact⟨by rw[List.length_append];exact hz,_,r1.append r2,IsTup.new _ _⟩
end
def ixN(n:Nat)(i:Int):Option Nat:=if 0<=i then(if i<n then some i.toNat else none)else if -(n:Int)<=i then some (i+n).toNat else none
def atI{α:Type}(xs:List α)(i:Int):Option α:=(ixN xs.length i).bind λj=>xs[j]?
theorem Eb{n:Nat}{i:Int}{j:Nat}(h:ixN n i=some j):seqIndex? i n=some j/\j<n/\ -(n:Int)<=i/\i<n:=by
 unfold ixN at h
 by_cases h0:0<=i
 .rw[if_pos h0]at h
  by_cases h1:i<n
  .rw[if_pos h1]at h
   have e:i.toNat=j:=Option.some.inj h
   exact⟨by rw[seqIndex_of h0 h1,e],by omega,by omega,h1⟩
  .rw[if_neg h1]at h;cases h
 .rw[if_neg h0]at h
  by_cases h1: -(n:Int)<=i
  .rw[if_pos h1]at h
   have e:(i+n).toNat=j:=Option.some.inj h
   exact⟨by rw[seqIndex_neg (by omega) h1,e],by omega,h1,by omega⟩
  .rw[if_neg h1]at h;cases h
theorem yM{α:Type}{xs:List α}{i:Int}{v:α}(h:atI xs i=some v):∃j,seqIndex? i xs.length=some j/\xs[j]? =some v/\j<xs.length/\ -(xs.length:Int)<=i/\i<xs.length:=by
 unfold atI at h
 cases e:ixN xs.length i with
 |none=>rw[e]at h;cases h
 |some j=>
  rw[e]at h
  obtain⟨h1,h2,h3,h4⟩:=Eb e
  exact⟨j,h1,h,h2,h3,h4⟩
theorem Ls{α:Type}{xs:List α}{j:Nat}{v:α}(h:xs[j]? =some v):atI xs (j:Int)=some v:=by
 have hj:j<xs.length:=(Zh.mp h).1
 have e:ixN xs.length (j:Int)=some j:=by
  unfold ixN
  rw[if_pos (by omega),if_pos (by omega)];simp
 unfold atI;rw[e];exact h
theorem Aw{α:Type}(xs:List α)(v:α):atI (xs++[v]) (-1)=some v:=by
 have hl:(xs++[v]).length=xs.length+1:=by simp
 have e:ixN (xs++[v]).length (-1)=some xs.length:=by
  unfold ixN
  rw[hl,if_neg (by decide),if_pos (by omega)]
  congr 1
  omega
 unfold atI
 rw[e]
 show(xs++[v])[xs.length]? =some v
 simp
def Eg(b:Expr):Prop:=∀o i,subscripted b false o i=operate [o,i] (getItem o i)
def IxR(X:Cx)(r:R2):Prop:=
 ∀(value slice:Expr)(pins:List (Addr×Obj))(s:Shared)(σ:St)(H:Hp)(x y:V)(v u:Value)(Q:VK),Inv X pins σ H s->RelV x v->RelV y u->r x y H Q->
  subscripted slice false v u=operate [v,u] (getItem v u)->wpAny (model X.prog X.w) X.A (subscriptTail value slice v u) (EP X pins σ Q) X.xe s
def MtR(X:Cx)(id:String)(r:V->List V->Hp->VK->Prop):Prop:=
 ∀(pins:List (Addr×Obj))(s:Shared)(σ:St)(H:Hp)(x:V)(xs:List V)(v:Value)(us:List Value)(Q:VK),Inv X pins σ H s->RelV x v->Vals xs us->r x xs H Q->
  wpAny (model X.prog X.w) X.A (call (.builtin id) (v::us)) (EP X pins σ Q) X.xe s
section
variable {X:Cx} {a b:Expr} {ta tb:TE} {pos:Pos}
theorem IxR.or{r r':R2}(h:IxR X r)(h':IxR X r'):IxR X (λx y H Q=>r x y H Q∨r' x y H Q):=by
 intro value slice pins s σ H x y v u Q I rx ry q hs
 rcases q with q|q
 .exact h value slice pins s σ H x y v u Q I rx ry q hs
 .exact h' value slice pins s σ H x y v u Q I rx ry q hs
theorem Uk{r:R2}(hr:IxR X r)(ha:PE X a ta)(hb:PE X b tb)(hs:Eg b):PE X (.Subscript a b pos) (tOp r ta tb):=by
 intro pins s σ H Q I h
 exact Subscript_ (QV ha hb I h λv u s2 x y H2 I2 rx ry q=>hr a b pins s2 σ H2 x y v u Q I2 rx ry q (hs _ _))
def TX(K:PySem.W.Frag):R2:=λx y H Q=>∃p xs i v,x= .ref p/\y= .int i/\SqL K H p xs/\atI xs i=some v/\Q v H
def Td(K:PySem.W.Frag):R2:=λx y H Q=>∃p xs i v,x= .ref p/\y= .int i/\SqT K H p xs/\atI xs i=some v/\Q v H
def Uj:R2:=λx y H Q=>∃z i c,x= .str z/\y= .int i/\z.length<=sizeLine/\atI z.cps.toList i=some c/\Q (.str ⟨#[c]⟩) H
theorem Ny:IxR X (TX X.K):=by
 intro value slice pins s σ H x y v u Q I rx ry h hs
 obtain⟨p,xs,i,z,rfl,rfl,hq,he,q⟩:=h
 cases rx
 obtain⟨t,rfl⟩:=ry
 obtain⟨its,r,pl,hz⟩:=I.list hq
 obtain⟨j,h1,h2,h3,h4,h5⟩:=yM he
 obtain⟨w,ew,rw'⟩:=r.get h2
 have hl:=r.length
 have hn:=pO
 have fin:EP X pins σ Q w s:=⟨z,H,I,rw',q⟩
 by_cases h0:0<=i
 .have hj:i.toNat=j:=by
   rw[seqIndex_of h0 h5]at h1
   exact Option.some.inj h1
  exact item_listR pl.isList h0 (by omega) (by rw[hj];simpa using ew) fin hs
 .have hj:(i+(its.toArray.size:Int)).toNat=j:=by
   rw[seqIndex_neg (by omega) h4]at h1
   rw[Zd,<-hl]
   exact Option.some.inj h1
  exact subscriptTail_builtinR (x:=w) pl.isList.typeIs slot_list_getitem.lookup
   (wpAny_getItem_list_neg (Q:=λr s'=>r=w/\EP X pins σ Q r s') pl.isList (by omega) (by rw[Zd]<;>omega) (by omega) (by rw[hj];simpa using ew) ⟨rfl,fin⟩) hs
theorem Qv:IxR X (Td X.K):=by
 intro value slice pins s σ H x y v u Q I rx ry h hs
 obtain⟨p,xs,i,z,rfl,rfl,hq,he,q⟩:=h
 cases rx
 obtain⟨t,rfl⟩:=ry
 obtain⟨its,r,pl,hz⟩:=I.tuple hq
 obtain⟨j,h1,h2,h3,h4,h5⟩:=yM he
 obtain⟨w,ew,rw'⟩:=r.get h2
 have hl:=r.length
 have hn:=pO
 have fin:EP X pins σ Q w s:=⟨z,H,I,rw',q⟩
 exact subscriptTail_builtinR (x:=w) pl.typeIs slot_tuple_getitem.lookup
  (getItem_tuple (j:=j) (Q:=λr s'=>r=w/\EP X pins σ Q r s') pl (by omega) (by omega) (by rw[Zd,<-hl];exact h1) (by simpa using ew) ⟨rfl,fin⟩) hs
theorem PJ:IxR X Uj:=by
 intro value slice pins s σ H x y v u Q I rx ry h hs
 obtain⟨z,i,c,rfl,rfl,hz,he,q⟩:=h
 obtain⟨t,rfl⟩:=rx
 obtain⟨t',rfl⟩:=ry
 obtain⟨j,h1,h2,h3,h4,h5⟩:=yM he
 have hl:z.cps.toList.length=z.length:=by simp[Str.length]
 rw[hl]at h1 h4 h5
 have hn:=pO
 exact tail_any (typeIs_str s z t) slot_str_getitem.lookup (getItem_str (c:=c) (by
  have e1:decide (i< -(2 ^ 63:Int))=false:=decide_eq_false (by omega)
  have e2:decide (i>=2 ^ 63)=false:=decide_eq_false (by omega)
  rw[e1,e2,Bool.or_false]) (by rw[h1];simpa using h2) ⟨.str ⟨#[c]⟩,H,I.tok _,⟨_,rfl⟩,q⟩) hs
def rIx(K:PySem.W.Frag):R2:=λx y H Q=>TX K x y H Q∨Td K x y H Q∨Uj x y H Q
theorem Qf:IxR X (rIx X.K):=Ny.or (Qv.or PJ)
theorem Dy(its:List Value)(n j:Nat)(u:Value):Obj.mapSeq (·.setIfInBounds j u) { cls:=.type "list",data:=.seq its.toArray n}={ cls:=.type "list",data:=.seq (its.set j u).toArray n}:=by
 simp[Obj.mapSeq]
theorem Inv.lst{pins:List (Addr×Obj)}{σ:St}{H:Hp}{s:Shared}{p:Addr}{xs:List V}(I:Inv X pins σ H s)(h:H p=some (.lst xs)):
  ∃(its:List Value)(n:Nat),Vals xs its/\s.heap.get? p=some { cls:=.type "list",data:=.seq its.toArray n}/\xs.length<=sizeLine:=by
 obtain⟨z,its,n,r,e⟩:=I.hok p _ h
 exact⟨its,n,r,e,z⟩
theorem Inv.lstUpd{pins:List (Addr×Obj)}{σ:St}{H:Hp}{s:Shared}{p:Addr}{xs ys:List V}{its its':List Value}{n n':Nat}{f:Obj->Obj}(I:Inv X pins σ H s)(h:H p=some (.lst xs))
  (ho:s.heap.get? p=some { cls:=.type "list",data:=.seq its.toArray n}) (hf:f { cls:=.type "list",data:=.seq its.toArray n}={ cls:=.type "list",data:=.seq its'.toArray n'}) (r:Vals ys its') (hz:ys.length<=sizeLine) (t:Nat):
  Inv X pins σ (upd H p (.lst ys)) { s with heap:=s.heap.update p f,toks:=t}:=by
 have e:(s.heap.update p f).get? p=some { cls:=.type "list",data:=.seq its'.toArray n'}:=by
  rw[Heap.get?_update_self f ho (by rw[hf]<;>rfl),hf]
 refine I.write (x:=p) (e:=p) (by rw[h];trivial) (.inl rfl) (λb u hb q=>(Heap.get?_update_other _ _ (Ne.symm hb)).trans q) ⟨_,e⟩ ?_
 exact⟨hz,its',n',r,e⟩
def Us:V->V->V->Hp->(Hp->Prop)->Prop:=λo i v H Q=>∃p xs k j,o= .ref p/\i= .int k/\H p=some (.lst xs)/\ixN xs.length k=some j/\Q (upd H p (.lst (xs.set j v)))
theorem set_list:Vi X Us:=by
 intro pins s σ H o i v ov iv u Q I ro ri rv h
 obtain⟨p,xs,k,j,rfl,rfl,hp,hj,q⟩:=h
 cases ro
 obtain⟨t,rfl⟩:=ri
 obtain⟨its,n,r,ho,hz⟩:=I.lst hp
 obtain⟨h1,h2,h3,h4⟩:=Eb hj
 have hl:=r.length
 have hn:=pO
 have I':Inv X pins σ (upd H p (.lst (xs.set j v))) { s with heap:=s.heap.update p (Obj.mapSeq (·.setIfInBounds j u)) }:=
  I.lstUpd hp ho (Dy its n j u) (r.set rv j) (by rw[List.length_set];exact hz) s.toks
 by_cases h0:0<=k
 .have hk:k.toNat=j:=by
   rw[seqIndex_of h0 h4]at h1
   exact Option.some.inj h1
  exact PySem.W.ki_setAt ho h0 (by omega) (by rw[Zd,<-hl];exact h4) (by rw[hk];exact⟨_,I',q⟩)
 .have hk:(k+(its.toArray.size:Int)).toNat=j:=by
   rw[seqIndex_neg (by omega) h3]at h1
   rw[Zd,<-hl]
   exact Option.some.inj h1
  exact PySem.W.ki_setBack ho (by omega) (by rw[Zd,<-hl];exact h3) (by omega) (by rw[hk];exact⟨_,I',q⟩)
theorem yV(lo hi:Option Int)(n:Nat):(sliceBounds lo hi none n).1=((HT.sIx n 0 lo:Nat):Int)/\(sliceBounds lo hi none n).2.1=((HT.sIx n n hi:Nat):Int)/\(sliceBounds lo hi none n).2.2=1:=by
 refine⟨?_,?_,rfl⟩
 .cases lo with
  |none=>simp[sliceBounds,HT.sIx]
  |some i=>
   simp only[sliceBounds,HT.sIx,Option.getD_none,show(1:Int)>0 by decide,if_true]
   by_cases h:i<0
   .simp only[h,if_true]<;>omega
   .simp only[h,if_false]<;>omega
 .cases hi with
  |none=>simp[sliceBounds,HT.sIx]
  |some i=>
   simp only[sliceBounds,HT.sIx,Option.getD_none,show(1:Int)>0 by decide,if_true]
   by_cases h:i<0
   .simp only[h,if_true]<;>omega
   .simp only[h,if_false]<;>omega
theorem wC(its:List Value)(lo hi:Option Int):slicePick its.toArray lo hi none=((its.drop (HT.sIx its.length 0 lo)).take (HT.sIx its.length its.length hi-HT.sIx its.length 0 lo)).toArray:=by
 obtain⟨h1,h2,h3⟩:=yV lo hi its.toArray.size
 unfold slicePick
 rw[h1,h2,h3]
 simp only[sliceRange_one,pick_run,Zd]<;>rfl
def rSlL(K:PySem.W.Frag):V->Option Int->Option Int->Hp->VK->Prop:=λx lo hi H Q=>∃a xs,x= .ref a/\SqL K H a xs/\∀p,H p=none->Q (.ref p) (upd H p (.lst (zG xs lo hi)))
theorem Et:SlR X (rSlL X.K):=by
 intro pins s σ H x v vl vu lo hi sl Q I rx hs pl pu h
 obtain⟨a,xs,rfl,hx,q⟩:=h
 cases rx
 obtain⟨its,r,ht,hz⟩:=I.list hx
 have hlen:=r.length
 refine⟨"list",_,slot_list_getitem.lookup,ht.isList.typeIs,?_⟩
 refine wpAny_getItem_list_slice ht.isList hs pl pu .none (by simp) ?_ (by rw[Zd]<;>omega)
 rw[wC,<-hlen]
 refine⟨.ref s.heap.objs.size,_,I.laid (t':=s.toks) (o:=.lst (zG xs lo hi)) (λb ob q=>Zb _ q) (Zg _) ?_,rfl,q _ (I.hok.fresh (Zg _))⟩
 exact⟨Zl (sU xs lo hi) hz,_,0,(r.drop (HT.sIx xs.length 0 lo)).take (HT.sIx xs.length xs.length hi-HT.sIx xs.length 0 lo),Zf _ rfl⟩
def pG:V->Bool
 | .non=>true
 | .bl _=>true
 | .int _=>true
 | .str _=>true
 |_=>false
def eqV:V->V->Bool
 | .non,.non=>true
 | .bl a,.bl b=>a==b
 | .bl a,.int b=>(if a then 1 else 0)==b
 | .int a,.bl b=>a==(if b then 1 else 0)
 | .int a,.int b=>a==b
 | .str a,.str b=>a==b
 |_,_=>false
theorem Qx{A:Around}{s:Shared}{y x:V}{u v:Value}(ry:RelV y u)(rx:RelV x v)(fy:pG y=true)(fx:pG x=true):SeqAt.EqAt A s u v (eqV y x):=by
 cases y with
 |non=>
  cases ry
  cases x with
  |non=>cases rx;exact SeqAt.EqAt.same _
  |bl b=>cases rx;exact SeqAt.EqAt.none_bool b
  |int b=>obtain⟨t,rfl⟩:=rx;exact SeqAt.EqAt.none_int b t
  |str b=>obtain⟨t,rfl⟩:=rx;exact SeqAt.EqAt.none_str b t
  |_=>exact absurd (show false=true from fx) Zr
 |bl a=>
  cases ry
  cases x with
  |non=>cases rx;exact SeqAt.EqAt.bool_none a
  |bl b=>cases rx;exact SeqAt.EqAt.bool_bool a b
  |int b=>obtain⟨t,rfl⟩:=rx;exact SeqAt.EqAt.bool_int a b t
  |str b=>obtain⟨t,rfl⟩:=rx;exact SeqAt.EqAt.bool_str a b t
  |_=>exact absurd (show false=true from fx) Zr
 |int a=>
  obtain⟨t',rfl⟩:=ry
  cases x with
  |non=>cases rx;exact SeqAt.EqAt.int_none a t'
  |bl b=>cases rx;exact SeqAt.EqAt.int_bool a t' b
  |int b=>obtain⟨t,rfl⟩:=rx;exact SeqAt.EqAt.int_int a t' b t
  |str b=>obtain⟨t,rfl⟩:=rx;exact SeqAt.EqAt.int_str a t' b t
  |_=>exact absurd (show false=true from fx) Zr
 |str a=>
  obtain⟨t',rfl⟩:=ry
  cases x with
  |non=>cases rx;exact SeqAt.EqAt.str_none a t'
  |bl b=>cases rx;exact SeqAt.EqAt.str_bool a t' b
  |int b=>obtain⟨t,rfl⟩:=rx;exact SeqAt.EqAt.str_int a t' b t
  |str b=>obtain⟨t,rfl⟩:=rx;exact SeqAt.EqAt.str_str a t' b t
  |_=>exact absurd (show false=true from fx) Zr
 |_=>exact absurd (show false=true from fy) Zr
def eqU(x:V)(u:Value):Bool:=match u with
 | .none=>eqV .non x
 | .bool b=>eqV (.bl b) x
 | .int i _=>eqV (.int i) x
 | .str z _=>eqV (.str z) x
 |_=>false
theorem JF{x y:V}{u:Value}(r:RelV y u)(f:pG y=true):eqU x u=eqV y x:=by
 cases y with
 |non=>cases r;rfl
 |bl b=>cases r;rfl
 |int i=>obtain⟨t,rfl⟩:=r;rfl
 |str z=>obtain⟨t,rfl⟩:=r;rfl
 |_=>exact absurd (show false=true from f) Zr
theorem qI{x:V}:∀{xs:List V}{us:List Value},Vals xs us->xs.all pG=true->us.any (eqU x)=xs.any λy=>eqV y x
 |_,_,.nil,_=>rfl
 |y::xs,u::us,.cons r t,f=>by
  rw[List.all_cons,Zo]at f
  rw[List.any_cons,List.any_cons,JF r f.1,qI t f.2]
theorem oE{A:Around}{s:Shared}{x:V}{v:Value}(rx:RelV x v)(fx:pG x=true):∀{xs:List V}{us:List Value},Vals xs us->xs.all pG=true->∀u∈us,SeqAt.EqAt A s u v (eqU x u)
 |_,_,.nil,_=>λu hu=>by cases hu
 |y::xs,u::us,.cons r t,f=>λu' hu=>by
  rw[List.all_cons,Zo]at f
  rcases Zi.mp hu with rfl|hu
  .rw[JF r f.1];exact Qx r rx f.1 fx
  .exact oE rx fx t f.2 u' hu
def inV(x:V)(xs:List V):Bool:=xs.any λy=>eqV y x
def rIn(K:PySem.W.Frag)(neg:Bool):R2:=λx y H Q=>∃p xs,y= .ref p/\(SqL K H p xs∨SqT K H p xs)/\pG x=true/\xs.all pG=true/\Q (.bl (if neg then !inV x xs else inV x xs)) H
theorem Gv:OpR X (compareOp .In) (rIn X.K false):=by
 intro pins s σ H x y v u Q I rx ry h
 obtain⟨p,xs,rfl,hq,fx,fs,q⟩:=h
 cases ry
 rcases hq with hq|hq
 .obtain⟨its,r,pl,hz⟩:=I.list hq
  refine SeqAt.in_listAt (eqU x) pl.isList (λw hw=>oE rx fx r fs w (by simpa using hw)) ⟨.bl _,H,I,rfl,?_⟩
  rw[show its.toArray.any (eqU x)=its.any (eqU x) by simp,qI r fs]
  exact q
 .obtain⟨its,r,pl,hz⟩:=I.tuple hq
  refine SeqAt.in_tupleAt (eqU x) pl (λw hw=>oE rx fx r fs w (by simpa using hw)) ⟨.bl _,H,I,rfl,?_⟩
  rw[show its.toArray.any (eqU x)=its.any (eqU x) by simp,qI r fs]
  exact q
theorem yN:OpR X (compareOp .NotIn) (rIn X.K true):=by
 intro pins s σ H x y v u Q I rx ry h
 obtain⟨p,xs,rfl,hq,fx,fs,q⟩:=h
 cases ry
 rcases hq with hq|hq
 .obtain⟨its,r,pl,hz⟩:=I.list hq
  refine SeqAt.notIn_listAt (eqU x) pl.isList (λw hw=>oE rx fx r fs w (by simpa using hw)) ⟨.bl _,H,I,rfl,?_⟩
  rw[show its.toArray.any (eqU x)=its.any (eqU x) by simp,qI r fs]
  exact q
 .obtain⟨its,r,pl,hz⟩:=I.tuple hq
  refine SeqAt.notIn_tupleAt (eqU x) pl (λw hw=>oE rx fx r fs w (by simpa using hw)) ⟨.bl _,H,I,rfl,?_⟩
  rw[show its.toArray.any (eqU x)=its.any (eqU x) by simp,qI r fs]
  exact q
theorem yh:je X (.builtin "len") (λxs H Q=>∃p ys,xs=[.ref p]/\(SqL X.K H p ys∨SqT X.K H p ys)/\Q (.int ys.length) H):=by
 intro pins s σ H xs us Q I r h
 obtain⟨p,ys,rfl,hq,q⟩:=h
 obtain⟨u,rfl,rx⟩:=vals1 r
 cases rx
 have hn:=pO
 rcases hq with hq|hq
 .obtain⟨its,r',pl,hz⟩:=I.list hq
  have hlen:=r'.length
  exact Calls.call_len_list pl.isList (by simp only[Zd]<;>omega) ⟨.int ys.length,H,I.tok _,⟨s.toks+1,by rw[Zd,hlen]⟩,q⟩
 .obtain⟨its,r',pl,hz⟩:=I.tuple hq
  have hlen:=r'.length
  exact len_tuple pl (by simp only[Zd]<;>omega) ⟨.int ys.length,H,I.tok _,⟨s.toks+1,by rw[Zd,hlen]⟩,q⟩
theorem zj:je X (.builtin "len") (λxs H Q=>∃z,xs=[.str z]/\z.length<=sizeLine/\Q (.int z.length) H):=by
 intro pins s σ H xs us Q I r h
 obtain⟨z,rfl,hz,q⟩:=h
 obtain⟨u,rfl,t,rfl⟩:=vals1 r
 have hn:=pO
 exact len_str (by omega) ⟨.int z.length,H,I.tok _,⟨_,rfl⟩,q⟩
theorem je.or{f:Value}{r r':List V->Hp->VK->Prop}(h:je X f r)(h':je X f r'):je X f (λxs H Q=>r xs H Q∨r' xs H Q):=by
 intro pins s σ H xs us Q I rs q
 rcases q with q|q
 .exact h pins s σ H xs us Q I rs q
 .exact h' pins s σ H xs us Q I rs q
theorem zA:je X (.type "list") (λxs H Q=>∃p ys,xs=[.ref p]/\(SqL X.K H p ys∨SqT X.K H p ys)/\∀l,H l=none->Q (.ref l) (upd H l (.lst ys))):=by
 intro pins s σ H xs us Q I r h
 obtain⟨p,ys,rfl,hq,q⟩:=h
 obtain⟨u,rfl,rx⟩:=vals1 r
 cases rx
 have fin:∀(its:List Value),Vals ys its->ys.length<=sizeLine->∀(h':Heap)(c':Nat),(∀b o',s.heap.get? b=some o'->h'.get? b=some o')->
   h'.get? s.heap.objs.size=some { cls:=.type "list",dict:=none,data:=.seq its.toArray c',slots:= #[] }->EP X pins σ Q (.ref s.heap.objs.size) { s with heap:=h'}:=λits r' hz h' c' kp e=>
  ⟨.ref s.heap.objs.size,_,I.laid (t':=s.toks) kp (Zg _) (show iD X.prog X.w _ h' _ (.lst ys)from⟨hz,its,c',r',e⟩),rfl,q _ (I.hok.fresh (Zg _))⟩
 rcases hq with hq|hq
 .obtain⟨its,r',pl,hz⟩:=I.list hq
  have hlen:=r'.length
  obtain⟨o,ho,hc,n,hd⟩:=pl.isList
  exact call_list_seq p (.inl rfl) ho hc hd (λh' c' kp e=>fin its r' hz h' c' kp e) (by simp only[Zd]<;>omega)
 .obtain⟨its,r',pl,hz⟩:=I.tuple hq
  have hlen:=r'.length
  obtain⟨o,ho,hc,n,hd⟩:=pl
  exact call_list_seq p (.inr rfl) ho hc hd (λh' c' kp e=>fin its r' hz h' c' kp e) (by simp only[Zd]<;>omega)
theorem wB:je X (.type "tuple") (λxs H Q=>∃p ys,xs=[.ref p]/\((SqL X.K H p ys/\∀l,H l=none->Q (.ref l) (upd H l (.tup ys)))∨(SqT X.K H p ys/\Q (.ref p) H))):=by
 intro pins s σ H xs us Q I r h
 obtain⟨p,ys,rfl,h⟩:=h
 obtain⟨u,rfl,rx⟩:=vals1 r
 cases rx
 rcases h with⟨hq,q⟩|⟨hq,q⟩
 .obtain⟨its,r',pl,hz⟩:=I.list hq
  have hlen:=r'.length
  refine call_tuple_list pl.isList (λh' kp=>?_) (by simp only[Zd]<;>omega)
  have I1:Inv X pins σ H { s with heap:=h'}:=I.kept (t':=s.toks) kp
  have I2:Inv X pins σ (upd H h'.objs.size (.tup ys)) { s with heap:=h'.push { cls:=.type "tuple",data:=.seq its.toArray} }:=
   I1.laid (t':=s.toks) (λb o e=>Zb _ e) (Zg _) (show iD X.prog X.w _ _ _ (.tup ys)from⟨hz,its,r',IsTup.new _ _⟩)
  exact⟨.ref h'.objs.size,_,I2,rfl,q _ (I1.hok.fresh (Zg _))⟩
 .obtain⟨its,r',pl,hz⟩:=I.tuple hq
  exact call_tuple_same pl ⟨.ref p,H,I,rfl,q⟩
def tyV(K:PySem.W.Frag)(T:String)(x:V)(H:Hp):Prop:=match x with
 | .str _=>T="str"
 | .int _=>T="int"
 | .ref p=>(T="list"/\∃xs,SqL K H p xs)∨(T="tuple"/\∃o,K.lookup p=some o/\o.cls= .type "tuple"/\o.dict=none)∨
   (T="dict"/\((∃kvs,H p=some (.dK kvs))∨∃kvs,H p=some (.dT kvs)))∨(T="set"/\∃S n,H p=some (.set S n))
 |_=>False
theorem Rj{pins:List (Addr×Obj)}{σ:St}{H:Hp}{s:Shared}{T:String}{x:V}{v:Value}(I:Inv X pins σ H s)(r:RelV x v)(ty:tyV X.K T x H):
  s.TypeIs v T/\∀a,v= .ref a->∃ob,s.heap.get? a=some ob/\ob.dict=none:=by
 cases x with
 |str z=>
  obtain⟨t,rfl⟩:=r
  cases (show T="str" from ty)
  exact⟨typeIs_str s z t,λ_ e=>nomatch e⟩
 |int i=>
  obtain⟨t,rfl⟩:=r
  cases (show T="int" from ty)
  exact⟨typeIs_int s i t,λ_ e=>nomatch e⟩
 |ref p=>
  cases r
  rcases ty with⟨rfl,xs,hq⟩|⟨rfl,o,hk,hc,hd⟩|⟨rfl,hk⟩|⟨rfl,S,n,hk⟩
  .obtain⟨its,_,pl,_⟩:=I.list hq
   refine⟨pl.isList.typeIs,λa e=>?_⟩
   cases e
   obtain⟨o,n,e,c,hd,_⟩:=pl
   exact⟨o,e,hd⟩
  .refine⟨⟨o,I.kIn p o hk,hc⟩,λa e=>?_⟩
   cases e
   exact⟨o,I.kIn _ o hk,hd⟩
  .have z:∃o,s.heap.get? p=some o/\o.ExactDict:=by
    rcases hk with⟨kvs,hk⟩|⟨kvs,hk⟩
    .obtain⟨_,_,_,_,o,_,_,e,ex,_⟩:=I.hok p _ hk
     exact⟨o,e,ex⟩
    .obtain⟨_,_,_,_,o,_,_,e,ex,_⟩:=I.hok p _ hk
     exact⟨o,e,ex⟩
   obtain⟨o,e,ex⟩:=z
   refine⟨⟨o,e,ex.1⟩,λa e2=>?_⟩
   cases e2
   exact⟨o,e,ex.2.1⟩
  .obtain⟨o,_,_,_,e,ex,_⟩:=I.hok p _ hk
   refine⟨⟨o,e,ex.1⟩,λa e2=>?_⟩
   cases e2
   exact⟨o,e,ex.2.1⟩
 |_=>exact False.elim ty
def tBM(K:PySem.W.Frag)(T:String)(r:V->List V->Hp->VK->Prop)(to:TE)(t:TA):TE:=λσ H Q=>to σ H λx H1=>tyV K T x H1/\t σ H1 λxs H2=>r x xs H2 Q
variable {o e:Expr} {es:List Expr} {to:TE} {t:TA} {name:Str} {apos cpos:Pos} {T id:String} {r:V->List V->Hp->VK->Prop}
theorem Ou(pa:PlainAttrs T)(slot:Slot T name id)(hty:typeOf (.builtin id)=pure (.type "method_descriptor"))(hm:MtR X id r)(ho:PE X o to)(ha:PA X (e::es) t)
  (hbase:attributeBase o name X.env (eval o X.env)=eval o X.env:=by rfl)
  (hfew:((backTo cpos (starEach (e::es) X.env)).all (λx=>!x.1)&&(backToKw cpos (keywordEach [] X.env)).all (λx=>x.1.isSome)
   &&decide ((e::es).length+([]:List Keyword).length+(if([]:List Keyword).isEmpty then 0 else 1)<30))=true:=by rfl)
  (hline:(apos.endLine==cpos.line)=true:=by rfl) (hs:starEach (e::es) X.env=(false,eval e X.env)::starEach es X.env:=by rfl) (hplain:(backTo cpos (starEach es X.env)).any (·.1)=false:=by rfl):
  PE X (.Call (.Attribute o name apos) (e::es) [] cpos) (tBM X.K T r to t):=by
 intro pins s σ H Q I h
 refine wpAny_Call_method_late hbase hfew hline rfl (thn (ho pins s σ H _ I h) λv s1 zq54=>?_)
 obtain⟨x,H1,I1,r1,ty,q1⟩:=zq54
 obtain⟨h1,h2⟩:=Rj I1 r1 ty
 refine⟨T,id,pa,slot,hty,h1,h2,?_⟩
 have hA:=ha cpos pins s1 σ H1 _ I1 q1
 rw[hs]at hA ⊢
 refine Calls.callWith_builtin (by show(false||(backTo cpos (starEach es X.env)).any (·.1))=false;rw[hplain]<;>rfl) (Calls.evalArgs_plain ?_)
 exact thn hA λus s2 ⟨vs,H2,I2,r2,q2⟩=>hm pins s2 σ H2 x vs v us Q I2 r1 r2 q2
end
def MtM(X:Cx)(id:String)(r:V->List V->Hp->VK->Prop):Prop:=
 ∀(pins:List (Addr×Obj))(s:Shared)(σ:St)(H:Hp)(x:V)(xs:List V)(v:Value)(us:List Value)(Q:VK),Inv X pins σ H s->RelV x v->Vals xs us->r x xs H Q->
  wpAny (model X.prog X.w) X.A (call (.builtin id) (v::us)) (EP X pins σ Q) X.xe s
theorem Vals.one:∀{x:V}{us:List Value},Vals [x] us->∃u,us=[u]/\RelV x u
 |_,_,.cons r .nil=>⟨_,rfl,r⟩
theorem Vals.eraseIdx:∀{xs:List V}{us:List Value}(i:Nat),Vals xs us->Vals (xs.eraseIdx i) (us.eraseIdx i)
 |_,_,_,.nil=>.nil
 |_,_,0,.cons _ t=>t
 |_,_,i+1,.cons r t=>.cons r (Vals.eraseIdx i t)
theorem Vals.rep{xs:List V}{us:List Value}(h:Vals xs us):∀k:Nat,Vals (List.replicate k xs).flatten (List.replicate k us).flatten
 |0=>.nil
 |k+1=>by
  rw[List.replicate_succ,List.replicate_succ,List.flatten_cons,List.flatten_cons]
  exact Vals.append h (Vals.rep h k)
theorem xn{α:Type}:∀(l:List α)(i:Nat),(l.eraseIdx i).length<=l.length
 | [],_=>Zg _
 |_::_,0=>Nat.le_succ _
 |_::r,i+1=>Nat.succ_le_succ (xn r i)
theorem foldl_rep(its:List Value):∀(k:Nat)(acc:List Value),
  List.foldl (λx1 x2=>x1++x2) acc.toArray (List.replicate k its.toArray)=(acc++(List.replicate k its).flatten).toArray
 |0,acc=>by simp
 |k+1,acc=>by
  have e:acc.toArray++its.toArray=(acc++its).toArray:=by simp
  have e2:(acc++its)++(List.replicate k its).flatten=acc++(List.replicate (k+1) its).flatten:=by
   rw[List.replicate_succ,List.flatten_cons,List.append_assoc]
  rw[<-e2,<-foldl_rep its k (acc++its),<-e,List.replicate_succ,List.foldl_cons]
section
variable {X:Cx} {pins:List (Addr×Obj)} {σ:St} {H:Hp} {s:Shared} {l b:Addr} {xs ys zs:List V}
theorem Inv.lset{its its':List Value}{n:Nat}{f:Array Value->Array Value}{t':Nat}(I:Inv X pins σ H s)(hH:H l=some (.lst xs))
  (e:s.heap.get? l=some { cls:=.type "list",data:=.seq its.toArray n}) (hf:f its.toArray=its'.toArray) (hv:Vals ys its') (hz:ys.length<=sizeLine):
  Inv X pins σ (upd H l (.lst ys)) { s with heap:=s.heap.update l (Obj.mapSeq f),toks:=t'}:=by
 have q:=PySem.IsL.update e f
 rw[hf]at q
 refine I.write (x:=l) (e:=l) (by rw[hH];exact trivial) (.inl rfl) (λb' u hb hu=>(Heap.get?_update_other s.heap (Obj.mapSeq f) (Ne.symm hb)).trans hu) ⟨_,q⟩ ?_
 exact⟨hz,its',_,hv,q⟩
theorem Inv.lnew{its:List Value}{t':Nat}(I:Inv X pins σ H s)(hv:Vals ys its)(hz:ys.length<=sizeLine):
  Inv X pins σ (upd H s.heap.objs.size (.lst ys)) { s with heap:=s.heap.push { cls:=.type "list",data:=.seq its.toArray},toks:=t'}:=
 I.laid (λ_ _ q=>Zb _ q) (Zg _) ⟨hz,its,0,hv,Zf _ rfl⟩
theorem Inv.fresh(I:Inv X pins σ H s):H s.heap.objs.size=none:=I.hok.fresh (Zg _)
theorem Inv.lstM(I:Inv X pins σ H s)(hH:H l=some (.lst xs)):xs.length<=sizeLine/\∃(its:List Value)(n:Nat),Vals xs its/\xs.length=its.length/\s.heap.get? l=some { cls:=.type "list",data:=.seq its.toArray n}:=by
 obtain⟨z,its,n,r,e⟩:=I.hok l _ hH
 exact⟨z,its,n,r,r.length,e⟩
theorem zW{n:Nat}(h:n<=sizeLine):Builtin.List.listTooLong n=false:=by
 unfold Builtin.List.listTooLong
 exact decide_eq_false (by omega)
end
section
variable {X:Cx}
def MK:V->List V->Hp->VK->Prop:=λx vs H Q=>∃l xs y,x= .ref l/\vs=[y]/\H l=some (.lst xs)/\xs.length<sizeLine/\Q .non (upd H l (.lst (xs++[y])))
theorem Gi:MtM X "list.append" MK:=by
 intro pins s σ H x vs v us Q I rx rv h
 obtain⟨l,xs,y,rfl,rfl,hH,hz,q⟩:=h
 cases rx
 obtain⟨u,rfl,ru⟩:=rv.one
 obtain⟨z,its,n,r,hl,e⟩:=I.lstM hH
 refine call_meets F.slot_list_append ⟨_,e,rfl⟩ F.entry_list_append (F.args_list_append_2 _ _) (PySem.list_append l its.toArray n u (by rw[Zd];omega)) ⟨e,?_⟩
 refine⟨.non,_,I.lset (its':=its++[u]) hH e (by simp) (r.append (.cons ru .nil)) ?_,rfl,q⟩
 rw[List.length_append,List.length_singleton]
 omega
def Mj:V->List V->Hp->VK->Prop:=λx vs H Q=>∃l b xs zs,x= .ref l/\vs=[.ref b]/\H l=some (.lst xs)/\H b=some (.lst zs)/\xs.length+zs.length<=sizeLine/\Q .non (upd H l (.lst (xs++zs)))
theorem Sv:MtM X "list.extend" Mj:=by
 intro pins s σ H x vs v us Q I rx rv h
 obtain⟨l,b,xs,zs,rfl,rfl,hH,hB,hz,q⟩:=h
 cases rx
 obtain⟨u,rfl,ru⟩:=rv.one
 cases ru
 obtain⟨z,its,n,r,hl,e⟩:=I.lstM hH
 obtain⟨z2,its2,n2,r2,hl2,e2⟩:=I.lstM hB
 have hsz:its.toArray.size+its2.toArray.size<=sizeLine:=by rw[Zd,Zd];omega
 have hlong:¬(!its.toArray.isEmpty&&Builtin.List.listTooLong (its.toArray.size+its2.toArray.size))=true:=by
  rw[zW hsz,Bool.and_false]
  exact Zr
 refine call_meets F.slot_list_extend ⟨_,e,rfl⟩ F.entry_list_extend (F.args_list_extend_2 _ _)
  (AutoSeq1.list_extend_list_list_0 l its.toArray n b its2.toArray n2 hlong (by rw[Zd];omega) (by omega)) ⟨e,e2,?_⟩
 refine⟨.non,_,I.lset (its':=its++its2) hH e (by simp) (r.append r2) ?_,rfl,q⟩
 rw[List.length_append]
 omega
def Rv:V->List V->Hp->VK->Prop:=λx vs H Q=>∃l xs i k y,x= .ref l/\vs=[.int i]/\H l=some (.lst xs)/\ -(2 ^ 63)<=i/\i<2 ^ 63/\seqIndex? i xs.length=some k/\xs[k]? =some y/\Q y (upd H l (.lst (xs.eraseIdx k)))
theorem JM:MtM X "list.pop" Rv:=by
 intro pins s σ H x vs v us Q I rx rv h
 obtain⟨l,xs,i,k,y,rfl,rfl,hH,h1,h2,hk,hy,q⟩:=h
 cases rx
 obtain⟨u,rfl,ru⟩:=rv.one
 obtain⟨t,rfl⟩:=ru
 obtain⟨z,its,n,r,hl,e⟩:=I.lstM hH
 obtain⟨w,hw,rw'⟩:=r.get hy
 refine call_meets F.slot_list_pop ⟨_,e,rfl⟩ F.entry_list_pop (F.args_list_pop_2 _ _)
  (MeetsSeq.list_pop_at l its.toArray n i t k w (fitsIndex_both h1 h2) (by rw[Zd,<-hl];exact hk) (by rw[<-Array.getElem?_toList];exact hw) (by rw[Zd];omega)) ⟨e,?_⟩
 refine⟨y,_,I.lset (its':=its.eraseIdx k) hH e ?_ (r.eraseIdx k) ?_,rw',q⟩
 .show its.toArray.eraseIdxIfInBounds k=(its.eraseIdx k).toArray
  rw[List.eraseIdxIfInBounds_toArray]
 .have:=xn xs k
  omega
def rCat:R2:=λx y H Q=>∃l b xs zs,x= .ref l/\y= .ref b/\H l=some (.lst xs)/\H b=some (.lst zs)/\xs.length+zs.length<=sizeLine/\∀p,H p=none->Q (.ref p) (upd H p (.lst (xs++zs)))
theorem Rb:OpR X (binaryOp .Add) rCat:=by
 intro pins s σ H x y v u Q I rx ry h
 obtain⟨l,b,xs,zs,rfl,rfl,hH,hB,hz,q⟩:=h
 cases rx
 cases ry
 obtain⟨z,its,n,r,hl,e⟩:=I.lstM hH
 obtain⟨z2,its2,n2,r2,hl2,e2⟩:=I.lstM hB
 refine PySem.P.add_list e e2 ?_ (by rw[Zd,Zd];omega)
 have ea:its.toArray++its2.toArray=(its++its2).toArray:=by simp
 rw[ea]
 exact⟨.ref _,_,I.lnew (t':=s.toks) (r.append r2) (by rw[List.length_append];omega),rfl,q _ I.fresh⟩
def rRep:R2:=λx y H Q=>∃l k xs,x= .ref l/\y= .int k/\H l=some (.lst xs)/\ -(2 ^ 63)<=k/\k<2 ^ 63/\xs.length*k.toNat<=sizeLine/\
 ∀p,H p=none->Q (.ref p) (upd H p (.lst (List.replicate k.toNat xs).flatten))
theorem len_rep{α:Type}(xs:List α)(k:Nat):(List.replicate k xs).flatten.length=k*xs.length:=by
 induction k with
 |zero=>simp
 |succ k ih=>rw[List.replicate_succ,List.flatten_cons,List.length_append,ih,Nat.succ_mul,Nat.add_comm]
theorem Hs:OpR X (binaryOp .Mult) rRep:=by
 intro pins s σ H x y v u Q I rx ry h
 obtain⟨l,k,xs,rfl,rfl,hH,h1,h2,hz,q⟩:=h
 cases rx
 obtain⟨t,rfl⟩:=ry
 obtain⟨z,its,n,r,hl,e⟩:=I.lstM hH
 have hlen:its.toArray.size*k.toNat<=sizeLine:=by rw[Zd,<-hl];exact hz
 have hcap:¬its.toArray.size*k.toNat>(2 ^ 63-1) / 8:=by
  have:(sizeLine:Nat)<=(2 ^ 63-1) / 8:=by decide
  omega
 have hfit:¬(!Builtin.List.listFitsIndex k)=true:=by
  rw[fitsIndex_both h1 h2]
  exact Zr
 have hlong:¬Builtin.List.listTooLong (its.toArray.size*k.toNat)=true:=by
  rw[zW hlen]
  exact Zr
 have hnew:List.foldl (λx1 x2=>x1++x2) #[] (List.replicate (if its.toArray.isEmpty=true then 0 else k.toNat) its.toArray)=(List.replicate k.toNat its).flatten.toArray:=by
  have f0:∀m:Nat,List.foldl (λx1 x2=>x1++x2) #[] (List.replicate m its.toArray)=(List.replicate m its).flatten.toArray:=λm=>by
   have:=foldl_rep its m []
   rw[List.nil_append]at this
   exact this
  rw[f0]
  cases its with
  |nil=>simp
  |cons a r'=>rw[if_neg (by simp)]
 refine wpAny_binaryOp_repeat_ref (T:="list") (U:="int") (by decide) ⟨_,e,rfl⟩ (λs'=>typeIs_int s' k t) noFill_list_mul F.fills_int_mul F.slot_int_rmul repeat_list F.slot_int_index.lookup
  (call_meets F.slot_int_rmul (typeIs_int s k t) F.entry_int_rmul (F.args_int_rmul_2 _ _) (int___rmul___int_list k t l its.toArray n)
   ⟨e,rfl,⟨_,e,rfl⟩,call_meets F.slot_list_mul ⟨_,e,rfl⟩ F.entry_list_mul (F.args_list_mul_2 _ _) (AutoListH.list___mul___list_int_3 l its.toArray n k t hfit hcap hlong) ⟨e,?_⟩⟩)
 rw[hnew]
 exact⟨.ref _,_,I.lnew (t':=s.toks) (r.rep k.toNat) (by rw[len_rep,Nat.mul_comm];exact hz),rfl,q _ I.fresh⟩
end
end L2
namespace Att
open PySem PySem.W PySem.Calls PyProof.Rows
theorem tQ{P:Params}{h:Heap}:∀(ns:List Int)(vs:List Value),WellAll P h vs (ns.map WData.int)->IntsAre vs ns:=by
 intro ns
 induction ns with
 |nil=>
  intro vs w
  rw[List.map_nil]at w
  cases w
  exact .nil
 |cons n ns ih=>
  intro vs w
  rw[Zj]at w
  cases w with
  |cons a b=>
   cases a
   exact .cons _ _ (ih _ b)
theorem Fv{l:OpenLaw}{n:Nat}(hn:l.most=some n){P:Params}{h:Heap}{args:List WData}{vals:List Value}
  (hpre:l.row.toRowW.claim.pre args=true) (hwl:WellAll P h vals args):
  ∃a vs ns,vals=[Value.ref a]/\args=[WData.list (ns.map WData.int)]/\h.get? a=some { cls:=.type "list",data:=.seq vs.toArray}/\IntsAre vs ns/\ns.length<=n:=by
 have hsh:WShape.hasAll [] args [.list .int]=true:=(pre_splitW hpre).1
 have hc:l.pre.holds [] { args:=args}=true:=(pre_splitW hpre).2
 obtain⟨d,r,rfl,h1,h2⟩:=hasAllW_cons hsh
 obtain rfl:=hasAllW_nil h2
 obtain⟨xs,rfl,h3⟩:=hasW_list h1
 obtain⟨ns,rfl⟩:=items_int h3
 have hlen:ns.length<=n:=by
  unfold OpenLaw.pre at hc
  have h4:(WTm.not (.lt (.lit (.int (n:Int))) (.len (.arg 0)))).holds [] { args:=[.list (ns.map .int)] }=true:=by
   have h4:=(holds_andW hc).1
   rw[hn]at h4
   exact h4
  have h5:=condW_of h4 (w_not (w_lt w_lit (w_len_list (w_arg rfl))))
  rw[Zu]at h5
  refine Nat.le_of_not_lt λq=>?_
  have q':(n:Int)<((ns.length:Nat):Int):=by omega
  first
   |(rw[decide_eq_true q']at h5;exact absurd h5 (by decide))
   |(simp at h5;omega)
 cases hwl with
 |cons w1 w2=>
  cases w2
  cases w1 with
  |list ho hall=>exact⟨_,_,ns,rfl,rfl,ho,tQ ns _ hall,hlen⟩
theorem Fp(l:OpenLaw)(args:List WData):l.row.toRowW.claim.post args (.bool true) args=true:=
 postW_of (r:=l.row.toRowW) (X:=(true==true))
  (show WShape.has [] (.bool true) .bool=true by first|rfl|decide|simp[WShape.has,WShape.arms,WShape.armsAll])
  (show(WTm.eq .res (.lit (.bool true))).value [] { args:=args,res:=some (.bool true),after:=args}=some (.bool (true==true))from w_eq_bool (w_res rfl) w_lit) rfl
theorem attach_call{l:OpenLaw}{n:Nat}{q:Program}{loose:List Str}{XP:(Str->Option Value)->Heap->Prop}{YP:World->Heap->Prop}{d:DefRec}
  (hn:l.most=some n) (hdf:d.params.defaults=[])
  (call:∀(w:World)(s₀ s₁:Shared)(mg mb:Str->Option Value)(fa:Addr)(o:Obj)(pm cd doc:Value)(a:Addr)(vs:List Value)(ns:List Int),
   Ground q loose [] XP w s₀ mg mb s₁.heap->YP w s₁.heap->
   s₁.heap.get? fa=some o->o.data= .func (docDef d.name d.params d.body d.scope pm cd doc)->s₁.heap.CodeRec cd d.name->mg d.name=some (.ref fa)->
   s₁.heap.get? a=some { cls:=.type "list",data:=.seq vs.toArray}->IntsAre vs ns->ns.length<=n->s₁.gens= #[]->
   codeAny (model l.prog w) callerA (.call (.ref fa) ⟨[.ref a],[]⟩) (λr s'=>r= .ok (.ret (.bool true))/\OldK s₁.heap s'.heap/\s'.os=s₁.os/\AllBare s'.gens) s₁):
  WalkO q loose XP YP l.row.toRowW d [] (λf vs=>PySem.call f vs):=by
 intro w s₀ s₁ mg mb G Y fa o pm cd doc dV kV ho hd hcd hD hmg hg args vals as hpre hlay hrd hwl hlo
 obtain rfl:dV= .none:=Dflts.none hD hdf
 obtain rfl:kV= .none:=Dflts.noKw hD
 obtain⟨a,vs,ns,rfl,rfl,hobj,hints,hlen⟩:=Fv hn hpre hwl
 refine enter_call (codeAny_mono (call w s₀ s₁ mg mb fa o pm cd doc a vs ns G Y ho (fd_plain hd) hcd hmg hobj hints hlen hg) λr s' hq=>?_)
 obtain⟨rfl,h2,h3,h4⟩:=hq
 exact⟨.inl ⟨.bool true,.bool true,[],rfl,λ_=>rfl,.bool true,Fp l _,λ_=>⟨List.Pairwise.nil,λ_ hm=>(nomatch hm)⟩⟩,h2,h3,h4⟩
end Att
namespace L2
open PySem PySem.Spec PyProof.Rows
theorem sE:∀{vs:List Value}{ns:List Int},IntsAre vs ns->Vals (ns.map V.int) vs
 |_,_,.nil=>.nil
 |_,_,.cons n t h=>.cons ⟨t,rfl⟩ (sE h)
def mD(s:Stmt):Arguments:=match s with
 | .FunctionDef _ a _ _ _ _ _ _ _ _=>a
 |_=>{ posonlyargs:=[],args:=[],vararg:=none,kwonlyargs:=[],kw_defaults:=[],kwarg:=none,defaults:=[] }
def jO(s:Stmt):List Stmt:=match s with
 | .FunctionDef _ _ b _ _ _ _ _ _ _=>b
 |_=>[]
def aP(s:Stmt):Scope:=match s with
 | .FunctionDef _ _ _ _ _ _ sc _ _ _=>sc
 |_=>{ kind:=.function,names:=[],isGenerator:=false,isCoroutine:=false}
abbrev CX0:CXT:=λ_ _ _ _ _ _=>False
abbrev E0:XK:=λ_ _ _=>False
theorem Vf{X:Cx}:BJ CX0 X E0:=λ_ _ _ _ _ _ _ h=>h.elim
def mZ(H H':Hp):Prop:=∀b o,H b=some o->H' b=some o
theorem mZ.refl(H:Hp):mZ H H:=λ_ _ h=>h
theorem mZ.trans{H H1 H2:Hp}(a:mZ H H1)(b:mZ H1 H2):mZ H H2:=λc o h=>b c o (a c o h)
def Ai(X:Cx):List Nat->List Str->Prop
 | [],[]=>True
 |i::is,x::xs=>(X.N[i]? =some x/\(X.env.kindOf x=some .cell∨X.env.kindOf x=some .free))/\Ai X is xs
 |_,_=>False
theorem Ai.length{X:Cx}:∀{is:List Nat}{xs:List Str},Ai X is xs->is.length=xs.length
 | [],[],_=>rfl
 |_::_,_::_,h=>by rw[List.length_cons,List.length_cons,Ai.length h.2]
theorem Ai.get{X:Cx}:∀{is:List Nat}{xs:List Str}{j i:Nat},Ai X is xs->is[j]? =some i->∃x,xs[j]? =some x/\X.N[i]? =some x/\(X.env.kindOf x=some .cell∨X.env.kindOf x=some .free)
 | [],[],_,_,_,e=>by simp at e
 |i::is,x::xs,0,k,h,e=>by
  simp at e;subst e
  exact⟨x,rfl,h.1⟩
 |i::is,x::xs,j+1,k,h,e=>by
  obtain⟨y,e1,e2⟩:=Ai.get (j:=j) (i:=k) h.2 (by simpa using e)
  exact⟨y,by simpa using e1,e2⟩
def lW(σ:St)(is:List Nat):St:=is.map λi=>(σ[i]?).join
theorem rQ{σ:St}{is:List Nat}{j:Nat}{v:V}(e:(lW σ is)[j]? =some (some v)):∃i,is[j]? =some i/\σ[i]? =some (some v):=by
 unfold lW at e
 rw[List.getElem?_map]at e
 cases q:is[j]? with
 |none=>rw[q]at e;cases e
 |some i=>
  rw[q]at e
  have e1:(σ[i]?).join=some v:=by simpa using e
  cases q2:σ[i]? with
  |none=>rw[q2]at e1;cases e1
  |some o=>
   rw[q2]at e1
   have e2:o=some v:=e1
   subst e2
   exact⟨i,rfl,q2⟩
def cz(env:Env):List (Str×NameKind)->List (Str×Addr)->List (Str×Addr)
 | [],acc=>acc
 |(n,k)::r,acc=>cz env r (if k== .free then(match env.cells.lookup n with|some c=>(n,c)::acc|none=>acc)else acc)
theorem Bj{env:Env}:∀(names:List (Str×NameKind))(acc:List (Str×Addr)),(∀y∈names,y.2= .free->∃c,env.cells.lookup y.1=some c)->
  (forIn names acc λ(p:Str×NameKind)(r:List (Str×Addr))=>if p.2== .free then(do let c<-cellOf env p.1;pure (ForInStep.yield ((p.1,c)::r)))else pure (ForInStep.yield r):Sem (List (Str×Addr)))=pure (cz env names acc)
 | [],acc,_=>rfl
 |(n,k)::r,acc,h=>by
  have hr:=Bj (env:=env) r
  rw[List.forIn_cons]
  unfold cz
  by_cases hk:(k==NameKind.free)=true
  .obtain⟨c,hc⟩:=h (n,k) List.mem_cons_self (by simpa using hk)
   simp only[hk,if_true]
   unfold cellOf
   simp only at hc
   rw[hc]
   simp only[pure_bind]
   exact hr _ λy hy=>h y (List.mem_cons_of_mem _ hy)
  .simp only[hk]
   simp only[pure_bind,Bool.false_eq_true,if_false]
   exact hr _ λy hy=>h y (List.mem_cons_of_mem _ hy)
theorem jw{scope:Scope}{env:Env}(h:∀y∈scope.names,y.2= .free->∃c,env.cells.lookup y.1=some c):closureFor scope env=pure (cz env scope.names []):=by
 have e:=Bj (env:=env) scope.names [] h
 rw[<-e]
 unfold closureFor
 simp only[bind_pure]
theorem lV{env:Env}:∀{names:List (Str×NameKind)}{acc:List (Str×Addr)}{p:Str×Addr},p∈cz env names acc->p∈acc∨env.cells.lookup p.1=some p.2
 | [],acc,p,h=>.inl h
 |(n,k)::r,acc,p,h=>by
  unfold cz at h
  rcases lV h with h|h
  .split at h
   .split at h
    .rename_i c hc
     rcases Zi.mp h with e|h
     .subst e;exact .inr hc
     .exact .inl h
    .exact .inl h
   .exact .inl h
  .exact .inr h
theorem oY{env:Env}{x:Str}:∀{names:List (Str×NameKind)}{acc:List (Str×Addr)},(∀k,(x,k)∈names->k≠ .free)->(cz env names acc).lookup x=acc.lookup x
 | [],acc,_=>rfl
 |(n,k)::r,acc,h=>by
  unfold cz
  rw[oY λk hk=>h k (List.mem_cons_of_mem _ hk)]
  by_cases hk:(k==NameKind.free)=true
  .rw[if_pos hk]
   have hne:x≠n:=by
    rintro rfl
    exact h k List.mem_cons_self (by simpa using hk)
   split
   .rw[List.lookup_cons]
    have:(x==n)=false:=by simpa using hne
    rw[this]
   .rfl
  .rw[if_neg hk]
theorem kZ{env:Env}{x:Str}{c:Addr}(hc:env.cells.lookup x=some c):∀{names:List (Str×NameKind)}{acc:List (Str×Addr)},(x,NameKind.free)∈names∨acc.lookup x=some c->(cz env names acc).lookup x=some c
 | [],acc,h=>by
  rcases h with h|h
  .simp at h
  .exact h
 |(n,k)::r,acc,h=>by
  unfold cz
  apply kZ hc
  by_cases hr:(x,NameKind.free)∈r
  .exact .inl hr
  .right
   by_cases hx:x=n
   .subst hx
    by_cases hk:(k==NameKind.free)=true
    .rw[if_pos hk,hc]
     simp
    .rw[if_neg hk]
     rcases h with h|h
     .rcases Zi.mp h with e|h
      .exfalso;apply hk
       cases e;rfl
      .exact absurd h hr
     .exact h
   .have h':acc.lookup x=some c:=by
     rcases h with h|h
     .rcases Zi.mp h with e|h
      .cases e;exact absurd rfl hx
      .exact absurd h hr
     .exact h
    have hxn:(x==n)=false:=by simpa using hx
    split
    .split
     .rw[List.lookup_cons,hxn];exact h'
     .exact h'
    .exact h'
structure CO(lo:Nat)(h:Heap)(acc:List (Str×Addr)):Prop where
 lt:∀p∈acc,p.2<h.objs.size
 em:∀p∈acc,lo<=p.2->h.IsCell p.2 none
 ap:∀p∈acc,∀q∈acc,p.2=q.2->lo<=p.2->p.1=q.1
theorem CO.go{lo:Nat}:∀(names:List (Str×NameKind))(h:Heap)(acc:List (Str×Addr)),CO lo h acc->lo<=h.objs.size->CO lo (pushCells h names) (cellsFrom h.objs.size names acc)
 | [],h,acc,x,_=>x
 |(n,k)::r,h,acc,x,hl=>by
  unfold pushCells cellsFrom
  by_cases hk:(k==NameKind.cell)=true
  .rw[if_pos hk,if_pos hk]
   have:=CO.go (lo:=lo) r (h.push { cls:=.type "cell",data:=.cell none}) ((n,h.objs.size)::acc) ⟨λp hp=>?_,λp hp hlo=>?_,λp hp q hq e hlo=>?_⟩ (by rw[Heap.size_push];omega)
   .rwa[Heap.size_push]at this
   .rw[Heap.size_push]
    rcases Zi.mp hp with e|hp
    .subst e;exact Nat.lt_succ_self _
    .exact Nat.lt_succ_of_lt (x.lt p hp)
   .rcases Zi.mp hp with e|hp
    .subst e;exact⟨_,Zf _ rfl,rfl⟩
    .exact(x.em p hp hlo).keeps λb o e=>Zb _ e
   .rcases Zi.mp hp with e1|hp<;>rcases Zi.mp hq with e2|hq
    .subst e1;subst e2;rfl
    .subst e1
     have e':h.objs.size=q.2:=e
     exact absurd (x.lt q hq) (by rw[<-e'];exact Nat.lt_irrefl _)
    .subst e2
     have e':p.2=h.objs.size:=e
     exact absurd (x.lt p hp) (by rw[e'];exact Nat.lt_irrefl _)
    .exact x.ap p hp q hq e hlo
  .rw[if_neg hk,if_neg hk]
   exact CO.go r h acc x hl
theorem yO:∀{names:List (Str×NameKind)}{m:Nat}{acc:List (Str×Addr)}{p:Str×Addr},p∈cellsFrom m names acc->p∈acc∨m<=p.2
 | [],m,acc,p,h=>.inl h
 |(n,k)::r,m,acc,p,h=>by
  unfold cellsFrom at h
  by_cases hk:(k==NameKind.cell)=true
  .rw[if_pos hk]at h
   rcases yO h with h|h
   .rcases Zi.mp h with e|h
    .subst e;exact .inr (Zg _)
    .exact .inl h
   .exact .inr (by omega)
  .rw[if_neg hk]at h
   exact yO h
theorem BX{x:Str}:∀{names:List (Str×NameKind)}{m:Nat}{acc:List (Str×Addr)},(∀k,(x,k)∈names->k≠ .cell)->(cellsFrom m names acc).lookup x=acc.lookup x
 | [],m,acc,_=>rfl
 |(n,k)::r,m,acc,h=>by
  unfold cellsFrom
  by_cases hk:(k==NameKind.cell)=true
  .rw[if_pos hk,BX λk hk=>h k (List.mem_cons_of_mem _ hk),List.lookup_cons]
   have hne:x≠n:=by
    rintro rfl
    exact h k List.mem_cons_self (by simpa using hk)
   have:(x==n)=false:=by simpa using hne
   rw[this]
  .rw[if_neg hk]
   exact BX λk hk=>h k (List.mem_cons_of_mem _ hk)
section
variable {M:Model} {A:Around} {E:Value->Shared->Prop} {s:Shared}
theorem pI{scope:Scope}{globals:Addr}{closure:List (Str×Addr)}{qual:Str}{func:Option Addr}{code:Value}{around:Option Env}{builtins:Addr}{Q:Env->Shared->Prop}
  (h:Q (newEnv scope s.heap.objs.size globals (cellsFrom (s.heap.objs.size+1) scope.names closure) qual func code around builtins)
   { s with heap:=pushCells (s.heap.push { cls:=.type (if around.isSome then "dict" else "frame"),data:=.dict #[] }) scope.names}):
  wpAny M A (newFunctionEnv scope globals closure [] qual func code around builtins) Q E s:=by
 simp only[newFunctionEnv]
 refine wpAny_bind (wpAny_alloc ?_)
 refine wpAny_bind (wpAny_layCells _ (λname kind cells=>by cases hkc:kind==NameKind.cell<;>simp[hkc]) _ _ _ _ ?_)
 rw[List.forIn_nil]
 refine wpAny_bind (wpAny_pure (wpAny_pure ?_))
 have e:(s.heap.push ({ cls:=.type (if around.isSome then "dict" else "frame"),data:=.dict #[] }:Obj)).objs.size=s.heap.objs.size+1:=Heap.size_push ..
 rw[<-e]at h
 cases around<;>exact h
end
structure fY(X:Cx)(own cap:List Str)(capI:List Nat)(scope:Scope):Prop where
 kind:scope.kind= .function
 nd:(scope.names.map (·.1)).Nodup
 caps:Ai X capI cap
 fre:∀y∈scope.names,y.2= .free->y.1∈cap
 cfr:∀x∈cap,(x,NameKind.free)∈scope.names
theorem vo{x:Str}{k k':NameKind}:∀{names:List (Str×NameKind)},(names.map (·.1)).Nodup->(x,k)∈names->(x,k')∈names->k=k'
 | [],_,h,_=>by simp at h
 |p::r,nd,h1,h2=>by
  rw[Zj,List.nodup_cons]at nd
  rcases Zi.mp h1 with e1|h1<;>rcases Zi.mp h2 with e2|h2
  .rw[<-e2]at e1;exact(Prod.mk.inj e1).2
  .exact absurd (by rw[<-e1];exact Zq.mpr ⟨_,h2,rfl⟩) nd.1
  .exact absurd (by rw[<-e2];exact Zq.mpr ⟨_,h1,rfl⟩) nd.1
  .exact vo nd.2 h1 h2
theorem dj{α:Type}{x:Str}{k:α}:∀{names:List (Str×α)},(names.map (·.1)).Nodup->(x,k)∈names->names.lookup x=some k
 | [],_,h=>by simp at h
 |(n,k')::r,nd,h=>by
  rw[Zj,List.nodup_cons]at nd
  rw[List.lookup_cons]
  rcases Zi.mp h with e|hr
  .cases e;simp
  .have hne:x≠n:=by
    intro e
    subst e
    exact nd.1 (Zq.mpr ⟨_,hr,rfl⟩)
   have:(x==n)=false:=by simpa using hne
   rw[this]
   exact dj nd.2 hr
theorem sS{scope:Scope}{env:Env}{x:Str}{k:NameKind}(h:(x,k)∈(relabel scope env).names):(x,k)∈scope.names∨(k= .cell/\(x,NameKind.free)∈scope.names):=by
 unfold relabel at h
 obtain⟨⟨n,k'⟩,hm,e⟩:=Zq.mp h
 dsimp only at e
 split at e
 .rename_i hc
  cases e
  have hk:k'=NameKind.free:=by
   simp only[Zo,beq_iff_eq]at hc
   exact hc.1.1
  subst hk
  exact .inr ⟨rfl,hm⟩
 .cases e;exact .inl hm
theorem zz{scope:Scope}{env:Env}:(relabel scope env).names.map (·.1)=scope.names.map (·.1):=by
 unfold relabel
 rw[List.map_map]
 apply List.map_congr_left
 rintro⟨n,k⟩ _
 show(if _ then(n,NameKind.cell)else(n,k)).1=n
 split<;>rfl
theorem yP{scope:Scope}{env:Env}{x:Str}(nd:(scope.names.map (·.1)).Nodup)(h:(x,NameKind.free)∈scope.names):(relabel scope env).names.lookup x=some .cell∨(relabel scope env).names.lookup x=some .free:=by
 have nd':((relabel scope env).names.map (·.1)).Nodup:=by rw[zz];exact nd
 by_cases hc:(NameKind.free==NameKind.free&&env.scope.kind== .function&&env.kindOf x==some .cell)=true
 .left
  refine dj nd' ?_
  unfold relabel
  refine Zq.mpr ⟨(x,NameKind.free),h,?_⟩
  dsimp only
  rw[if_pos hc]
 .right
  refine dj nd' ?_
  unfold relabel
  refine Zq.mpr ⟨(x,NameKind.free),h,?_⟩
  dsimp only
  rw[if_neg hc]
def dW(X:Cx)(own cap:List Str)(scope:Scope)(cs:List (Str×Addr))(C:Addr)(fp:List Addr)(s2:Shared)(H2:Hp):Cx where
 prog:=X.prog
 w:=X.w
 K:=X.K
 mg:=X.mg
 base:=X.base
 A:=X.A
 N:=own++cap
 s₀:=s2
 H₀:=H2
 env:=compEnvC scope cs C X.env
 outer:=X.stack
 stack:=X.stack
 ex:=fp
 fn:=λx=>own.contains x
 calm:=X.calm
 pn:=[]
 xe:=λ_ _=>False
def cR(own:List Str)(σ:St)(capI:List Nat):St:=List.replicate own.length none++lW σ capI
section
variable {X:Cx} {pins:List (Addr×Obj)} {σ:St} {H:Hp} {s:Shared} {own cap:List Str} {capI:List Nat} {scope:Scope}
theorem fY.cells(B:fY X own cap capI scope)(I:Inv X pins σ H s):∀y∈scope.names,y.2= .free->∃c,X.env.cells.lookup y.1=some c:=λy hy e=>by
 have hm:=B.fre y hy e
 obtain⟨j,hj⟩:=List.getElem?_of_mem hm
 have hlt:j<capI.length:=by rw[B.caps.length];exact(Zh.mp hj).1
 obtain⟨x,e1,_,k⟩:=B.caps.get (j:=j) (i:=capI[j]) (by simp[hlt])
 rw[hj]at e1
 cases e1
 exact I.ok.has _ k
theorem Inv.comp{fp:List Addr}{h0 h1:Heap}{C:Addr}{tk:Nat}(I:Inv X pins σ H s)(B:fY X own cap capI scope)(hown:∀x∈own,(x,NameKind.free)∉scope.names)(hf:∀b∈fp,nY X pins H b)(ho:∀b∈fp,∃o,s.heap.get? b=some o)
  (hk0:∀b o,s.heap.get? b=some o->h0.get? b=some o) (hsz:s.heap.objs.size<=h0.objs.size) (hC:C=h0.objs.size) (h1e:h1=pushCells (h0.push { cls:=.type "dict",data:=.dict #[] }) scope.names):
  Inv (dW X own cap scope (cellsFrom (C+1) scope.names (cz X.env scope.names [])) C fp s H) [] (cR own σ capI) H { s with heap:=h1,toks:=tk}:=by
 have hCs:s.heap.objs.size<=C:=by rw[hC];exact hsz
 have hpush:(h0.push ({ cls:=.type "dict",data:=.dict #[] }:Obj)).objs.size=C+1:=by rw[hC];exact Heap.size_push ..
 have keep1:∀b o,h0.get? b=some o->h1.get? b=some o:=λb o e=>by rw[h1e];exact pushCells_keeps _ _ _ _ (Zb _ e)
 have keep:∀b o,s.heap.get? b=some o->h1.get? b=some o:=λb o e=>keep1 b o (hk0 b o e)
 have hCo:h1.get? C=some { cls:=.type "dict",data:=.dict #[] }:=by
  rw[h1e]
  refine pushCells_keeps _ _ _ _ ?_
  rw[hC];exact Zf _ rfl
 have clo_old:∀p∈cz X.env scope.names [],X.env.cells.lookup p.1=some p.2:=λp hp=>(lV hp).elim (λz=>by simp at z) id
 have old_lt:∀x c,X.env.cells.lookup x=some c->c<s.heap.objs.size:=λx c e=>let⟨v,q⟩:=I.cell x c e;q.lt
 have co0:CO (C+1) (h0.push { cls:=.type "dict",data:=.dict #[] }) (cz X.env scope.names []):=by
  refine⟨λp hp=>?_,λp hp hlo=>?_,λp hp q hq e hlo=>?_⟩
  .rw[hpush];exact Nat.lt_succ_of_lt (Zc (old_lt _ _ (clo_old p hp)) hCs)
  .exact absurd (Zc (old_lt _ _ (clo_old p hp)) (Zl hCs (Zl (Nat.le_succ _) hlo))) (Nat.lt_irrefl _)
  .exact absurd (Zc (old_lt _ _ (clo_old p hp)) (Zl hCs (Zl (Nat.le_succ _) hlo))) (Nat.lt_irrefl _)
 have co:=CO.go scope.names _ _ co0 (by rw[hpush];exact Zg _)
 rw[hpush,<-h1e]at co
 have csm:∀x c,(cellsFrom (C+1) scope.names (cz X.env scope.names [])).lookup x=some c->(X.env.cells.lookup x=some c/\c<s.heap.objs.size)∨(C+1<=c/\h1.IsCell c none):=λx c e=>by
  have hm:=Zt e
  rcases yO hm with z|z
  .have q:=clo_old _ z
   exact .inl ⟨q,old_lt _ _ q⟩
  .exact .inr ⟨z,co.em _ hm z⟩
 have fresh:∀b,s.heap.objs.size<=b->H b=none:=λb hb=>I.hok.fresh hb
 have eout:(dW X own cap scope (cellsFrom (C+1) scope.names (cz X.env scope.names [])) C fp s H).fs=frs X.stack:=rfl
 refine⟨⟨I.ok.mod,?_,I.ok.glob,I.ok.blt,hCs,?_,?_,?_,I.ok.hd,I.ok.frames,.inl rfl,?_,I.bs,Zl I.ok.bsz I.sz,?_,?_,I.stack,I.stkFree⟩,rfl,I.bare.again,Un.kept keep,?_,?_,fresh C hCs,?_,?_,I.hok.kept keep,?_⟩
 .exact B.kind
 .
  intro x y c e1 e2
  have e1':(cellsFrom (C+1) scope.names (cz X.env scope.names [])).lookup x=some c:=e1
  have e2':(cellsFrom (C+1) scope.names (cz X.env scope.names [])).lookup y=some c:=e2
  rcases csm x c e1' with⟨z1,l1⟩|⟨z1,_⟩
  .rcases csm y c e2' with⟨z2,_⟩|⟨z2,_⟩
   .exact I.ok.inj x y c z1 z2
   .exact absurd (Zc l1 (Zl hCs (Zl (Nat.le_succ _) z2))) (Nat.lt_irrefl _)
  .exact co.ap _ (Zt e1') _ (Zt e2') rfl z1
 .
  intro x hx
  have hx':(relabel scope X.env).names.lookup x=some .cell∨(relabel scope X.env).names.lookup x=some .free:=hx
  have hm:(x,NameKind.cell)∈scope.names∨(x,NameKind.free)∈scope.names:=by
   rcases hx' with e|e
   .rcases sS (Zt e)with q|q
    .exact .inl q
    .exact .inr q.2
   .rcases sS (Zt e)with q|q
    .exact .inr q
    .cases q.1
  rcases hm with q|q
  .exact Option.isSome_iff_exists.mp (PySem.W.cellsFrom_some scope.names (C+1) _ (.inl (dj B.nd q)))
  .obtain⟨c,hc⟩:=B.cells I _ q rfl
   exact Option.isSome_iff_exists.mp (PySem.W.cellsFrom_some scope.names (C+1) _ (.inr (by rw[kZ hc (.inl q)];rfl)))
 .
  intro x c hx e
  have e':(cellsFrom (C+1) scope.names (cz X.env scope.names [])).lookup x=some c:=e
  have hxo:x∈own:=by simpa[dW]using hx
  rcases yO (Zt e')with z|z
  .exfalso
   have nf:=hown x hxo
   have:(cz X.env scope.names []).lookup x=none:=by
    rw[oY λk hk=>by rintro rfl;exact nf hk];rfl
   have hl:(cellsFrom (C+1) scope.names (cz X.env scope.names [])).lookup x=some c:=e'
   have q:∀(l:List (Str×Addr)),(x,c)∈l->l.lookup x≠none:=by
    intro l
    induction l with
    |nil=>intro h;simp at h
    |cons p r ih=>
     intro h
     obtain⟨n,d⟩:=p
     rw[List.lookup_cons]
     by_cases hn:(x==n)=true
     .rw[hn];simp
     .have hn':(x==n)=false:=by simpa using hn
      rw[hn']
      rcases Zi.mp h with e|h
      .cases e;simp at hn'
      .exact ih h
   exact q _ z this
  .exact Zl hCs (Zl (Nat.le_succ _) z)
 .
  intro b hb
  obtain⟨o,hbo⟩:=ho b hb
  have hlt:=Ze hbo
  refine⟨Zk (Zc hlt hCs),λx c e=>?_⟩
  rcases csm x c e with⟨z,_⟩|⟨z,_⟩
  .exact(hf b hb).2.2.2.2.1 x c z
  .exact Nat.ne_of_gt (Zc hlt (Zl hCs (Zl (Nat.le_succ _) z)))
 .
  intro b o e hb
  rcases(hf b hb).2.2.2.1 with z|z
  .exact I.ok.noex b o e z
  .exact absurd (Zc (Ze e) (Zl I.ok.bsz z)) (Nat.lt_irrefl _)
 .
  intro b hb hz
  rcases Zi.mp (I.stkSub b hz)with z|z
  .exact(hf b hb).2.1 z
  .exact(hf b hb).2.2.1 z
 .
  obtain⟨m,hn,hl⟩:=I.loc
  refine⟨λ_=>none,⟨_,#[],0,hCo,rfl,by intro e he;simp at he,λ_=>rfl⟩,λi x v e1 e2 hv=>?_⟩
  have e2':(cR own σ capI)[i]? =some (some v):=e2
  have e1':(own++cap)[i]? =some x:=e1
  unfold cR at e2'
  by_cases hi:i<own.length
  .rw[Zs (by simpa using hi),List.getElem?_replicate]at e2'
   split at e2'<;>cases e2'
  .rw[List.getElem?_append_right (by simpa using hi)]at e2'
   rw[List.getElem?_append_right (by simpa using hi)]at e1'
   rw[List.length_replicate]at e2'
   obtain⟨i0,q1,q2⟩:=rQ e2'
   obtain⟨y,q3,q4,q5⟩:=B.caps.get q1
   rw[e1']at q3
   cases q3
   have hxf:(x,NameKind.free)∈scope.names:=B.cfr x (List.mem_of_getElem? e1')
   have vis:Vis X.env.scope x:=by
    rcases q5 with q5|q5
    .exact .inr (.inl q5)
    .exact .inr (.inr q5)
   obtain⟨u,ru,lk⟩:=hl i0 x v q4 q2 vis
   refine⟨u,ru,.inr ⟨yP B.nd hxf,?_⟩⟩
   rcases lk with⟨k,_⟩|⟨_,c,ec,hc⟩
   .rcases q5 with q5|q5<;>rw[k]at q5<;>cases q5
   .refine⟨c,?_,hc.keeps keep⟩
    show(cellsFrom (C+1) scope.names (cz X.env scope.names [])).lookup x=some c
    rw[BX λk hk=>?_]
    .exact kZ ec (.inl hxf)
    .rintro rfl
     cases vo B.nd hk hxf
 .
  intro x c e
  rcases csm x c e with⟨z,_⟩|⟨_,z⟩
  .obtain⟨v,q⟩:=I.cell x c z
   exact⟨v,q.keeps keep⟩
  .exact⟨none,z⟩
 .
  intro x c e
  rcases csm x c e with⟨z,_⟩|⟨z,_⟩
  .exact I.freeC x c z
  .exact fresh c (Zl hCs (Zl (Nat.le_succ _) z))
 .intro p hp
  exact absurd (show p∈([]:List (Addr×Obj))from hp) (by simp)
 .show(cR own σ capI).length=(own++cap).length
  unfold cR lW
  rw[List.length_append,List.length_append,List.length_replicate,Zu,B.caps.length]
end
section
variable {prog:Program} {w:World} {A:Around} {R:Result->Shared->Prop} {s:Shared}
theorem xV{elt target iter:Expr}{ifs:List Expr}{scope:Scope}{pos:Pos}{it acc:Value}{env:Env}{E':Value->Shared->Prop}(I:Nat->Shared->Prop)
  (hE:∀e s',E' e s'->notedBy (model prog w) A env (λe s'=>R (.error e) s') e s')
  (turn:∀n s,I n s->wpAny (model prog w) A (pyNext it) (λr s₁=>match r with
   |none=>R (.ok .next) s₁
   |some v=>wpAny (model prog w) A (letOwnedTupleGo target it v) (λ_ s₂=>wpAny (model prog w) A (assign target env v) (λ_ s₃=>
    wpAny (model prog w) A (forIn ifs true λc r=>if r=true then do let ok<-isTrue c env (eval c env);pure (ForInStep.yield ok)else pure (ForInStep.yield r)) (λok s₄=>
     if ok=true then wpAny (model prog w) A (eval elt env) (λx s₅=>
      wpAny (model prog w) A (call (.builtin "list.append") [acc,x]) (λ_ s₆=>∃m,m<n/\I m s₆) E' s₅) E' s₄
     else∃m,m<n/\I m s₄) E' s₃) E' s₂) E' s₁) E' s)
  (n:Nat) (h:I n s):
  codeAny (model prog w) A (.compLoop (.ListComp elt [⟨target,iter,ifs,0⟩] scope pos) 0 it acc env) R s:=by
 refine codeAny_loop rfl I (λn s hI=>?_) n h
 show wpAny _ A ((compTurn (.ListComp elt [⟨target,iter,ifs,0⟩] scope pos) 0 it acc env).onRaise (λx=>do noteFrame x env;theTreesLotGoes x)) _ _ s
 refine wpAny_noted ?_
 rw[compTurn_list]
 refine wpAny_bind (wpAny_standAt (wpAny_bind (wpAny_mono (turn n s hI) (λr s₁ h₁=>?_) hE)))
 cases r with
 |none=>exact wpAny_pure h₁
 |some v=>
  refine wpAny_bind (wpAny_mono h₁ (λ_ s₂ h₂=>?_) hE)
  refine wpAny_bind (wpAny_mono h₂ (λ_ s₂ h₂=>wpAny_bind (wpAny_mono h₂ (λok s₃ h₃=>?_) hE)) hE)
  cases ok with
  |false=>exact wpAny_pure ⟨rfl,h₃⟩
  |true=>
   exact wpAny_bind (wpAny_bind (wpAny_mono h₃ (λx s₄ h₄=>wpAny_bind (wpAny_mono h₄ (λ_ s₅ h₅=>wpAny_pure (wpAny_pure ⟨rfl,h₅⟩)) hE)) hE))
end
def PIf(X:Cx)(ifs:List Expr)(t:TT):Prop:=
 ∀(pins:List (Addr×Obj))(s:Shared)(σ:St)(H:Hp)(Q:Bool->Hp->Prop),Inv X pins σ H s->t σ H Q->
  wpAny (model X.prog X.w) X.A (forIn ifs true λc r=>if r=true then do let ok<-isTrue c X.env (eval c X.env);pure (ForInStep.yield ok)else pure (ForInStep.yield r)) (TP X pins σ Q) X.xe s
def tYes:TT:=λ_ H Q=>Q true H
section
variable {X:Cx} {c:Expr} {t:TT}
theorem Mf:PIf X [] tYes:=λ_ _ _ H _ I h=>wpAny_tests_nil ⟨H,I,h⟩
theorem KQ(h:PT X c t):PIf X [c] t:=λpins s σ H Q I hq=>wpAny_tests_one (h pins s σ H Q I hq)
end
def Fits(a b:St):Prop:=b.length=a.length/\∀(i:Nat) v,a[i]? =some (some v)->b[i]? =some (some v)
def tLC(own:List Str)(capI:List Nat)(wi:TI)(g:TG)(tt:TT)(te:TE):TE:=λσ H Q=>wi σ H λJ H1=>∃W:Nat->Nat->List V->Hp->Prop,(∃m,W 0 m [] H1)/\∀i m ys H,W i m ys H->
 (J.stop i H/\∀l,H l=none->Q (.ref l) (upd H l (.lst ys)))∨
 (J.go i H/\ys.length<sizeLine/\∀x H',J.yld i H x H'->g x (cR own σ capI) H' λσ2 H2=>Fits (cR own σ capI) σ2/\tt σ2 H2 λb H3=>
  if b=true then te σ2 H3 (λy H4=>∃m',m'<m/\W (i+1) m' (ys++[y]) H4)else∃m',m'<m/\W (i+1) m' ys H3)
abbrev bR(us:List Value)(k:Nat):Obj:={ cls:=.type "list",data:=.seq us.toArray k}
section
variable {X:Cx} {tg iter elt:Expr} {ifs:List Expr} {wi:TI} {g:TG} {tt:TT} {te:TE} {own cap:List Str} {capI:List Nat} {scope:Scope} {pos:Pos}
theorem Inv.compEnd{X':Cx}{pins pins':List (Addr×Obj)}{σ σ':St}{H H2:Hp}{s2 s1:Shared}{fp:List Addr}{l C:Addr}{ys:List V}{us:List Value}{k:Nat}{h':Heap}
  (I2:Inv X pins σ H2 s2) (f2:∀b∈fp,nY X pins H2 b) (hP:X'.prog=X.prog) (hw:X'.w=X.w) (hfs:X'.fs=frs X.stack) (hex:X'.ex=fp) (hs:X'.s₀=s2) (hH:X'.H₀=H2) (hC:X'.env.locals=C)
  (I:Inv X' pins' σ' H s1) (hl:s2.heap.objs.size<=l) (hlC:l≠C) (hCs:s2.heap.objs.size<=C) (ho:s1.heap.get? l=some (bR us k)) (hn:H l=none) (hv:Vals ys us) (hz:ys.length<=sizeLine)
  (sb:Heap.SameBut C s1.heap h'):Inv X pins σ (upd H l (.lst ys)) { s1 with heap:=h'}:=by
 subst hs hH hC
 have ne2:∀b o,X'.s₀.heap.get? b=some o->b≠X'.env.locals/\b≠l:=λb o e=>⟨Zk (Zc (Ze e) hCs),Zk (Zc (Ze e) hl)⟩
 have ub:=I.base
 rw[hfs,hex]at ub
 have nl:∀b u,H b=some u->b≠l:=λb u e z=>by rw[z,hn]at e;cases e
 have nC:∀b u,H b=some u->b≠X'.env.locals:=λb u e z=>by rw[z,I.free]at e;cases e
 refine I2.call' (ch:=fp) (s':={ s1 with heap:=h'}) I.os ⟨λb o e n hb hx=>?_,λb o e n hb hx=>?_,λb o e n hx=>?_,λb o e hx=>?_,λb xs e=>?_,λb o u e=>?_,λb ps e=>?_⟩ ?_ I.bare λb hb=>?_
 .exact(sb.2 b (ne2 b o e).1).trans (ub.keep b o e n hb hx)
 .obtain⟨sl,q⟩:=ub.slot b o e n hb hx
  exact⟨sl,(sb.2 b (ne2 b o e).1).trans q⟩
 .rw[aU (ne2 b o e).2]
  exact ub.free b o e n hx
 .obtain⟨o',q⟩:=ub.there b o e hx
  exact⟨o',(sb.2 b (ne2 b o e).1).trans q⟩
 .have q:=ub.tups b xs e
  rw[aU (nl b _ q)];exact q
 .have q:=ub.frzs b o u e
  rw[aU (nl b _ q)];exact q
 .obtain⟨more,q⟩:=ub.tbls b ps e
  exact⟨more,by rw[aU (nl b _ q)];exact q⟩
 .intro a o e
  have hok:=I.hok
  rw[hP,hw]at hok
  by_cases ha:a=l
  .subst ha
   rw[cX]at e
   cases e
   exact⟨hz,us,k,hv,(sb.2 a hlC).trans ho⟩
  .rw[aU ha]at e
   refine(hok a o e).stay (λb u hb q=>(sb.2 b ?_).trans q) (λb q=>by rw[aU (nl b _ q)];exact q) λb xs q=>by rw[aU (nl b _ q)];exact q
   rcases hb with z|z
   .rw[z];exact nC a o e
   .exact nC b _ z
 .obtain⟨q0,q1,q2,q3,q4,q5⟩:=f2 b hb
  exact⟨q3.imp id λz=>z,q1,q4,q5⟩
theorem Uc(hc:X.calm=true)(B:fY X own cap capI scope)(hown:∀x∈own,(x,NameKind.free)∉scope.names)(hi:PI X tg iter wi)
  (hg:∀cs C fp s2 H2,PG (dW X own cap scope cs C fp s2 H2) tg g) (ht:∀cs C fp s2 H2,PIf (dW X own cap scope cs C fp s2 H2) ifs tt) (he:∀cs C fp s2 H2,PE (dW X own cap scope cs C fp s2 H2) elt te)
  (hs:∀x,foldedSetIterable iter X.env x=pure x:=by intro _;rfl):PE X (.ListComp elt [⟨tg,iter,ifs,0⟩] scope pos) (tLC own capI wi g tt te):=by
 intro pins s σ H Q I h
 rw[eval_ListComp]
 refine wpAny_comprehension_free (use:=none) (cl:=cz X.env scope.names []) rfl hs (jw (B.cells I)) B.kind (λy hy e=>dj B.nd (by rw[<-e];exact hy)) ?_
 refine thn (hi pins s σ H _ I h) λv s1 h1=>thn h1 λitv s2 h2=>?_
 obtain⟨it,fp,tn,J,H2,e,I2,T,st2,f2,W,⟨m0,w0⟩,turn⟩:=h2
 subst e
 refine wpAny_newObj_type (pI ?_)
 dsimp only
 generalize hl:s2.heap.objs.size=l
 generalize hh0:s2.heap.push { cls:=.type "list",dict:=none,data:=.seq ([]:List Value).toArray}=h0
 have hsz0:h0.objs.size=l+1:=by rw[<-hh0,Heap.size_push,hl]
 generalize hC:h0.objs.size=C
 generalize hh1:pushCells (h0.push { cls:=.type (if(some X.env).isSome=true then "dict" else "frame"),data:=.dict #[] }) scope.names=h1
 have hl0:h0.get? l=some (bR [] 0):=by rw[<-hh0,<-hl];exact Zf _ rfl
 have hk0:∀b o,s2.heap.get? b=some o->h0.get? b=some o:=λb o e=>by rw[<-hh0];exact Zb _ e
 have hlC:l≠C:=by rw[<-hC,hsz0];exact Zk (Nat.lt_succ_self _)
 have hls:s2.heap.objs.size<=l:=Nat.le_of_eq hl
 have hCs:s2.heap.objs.size<=C:=by rw[<-hC,hsz0,hl];exact Nat.le_succ _
 have ho2:∀b∈fp,∃o,s2.heap.get? b=some o:=λb hb=>let⟨o,e,_⟩:=T.obj 0 _ st2 b hb;⟨o,e⟩
 have hfl:∀b∈fp,b≠l/\b≠C:=λb hb=>let⟨o,e⟩:=ho2 b hb;⟨Zk (Zc (Ze e) hls),Zk (Zc (Ze e) hCs)⟩
 have hl1:h1.get? l=some (bR [] 0):=by rw[<-hh1];exact pushCells_keeps _ _ _ _ (Zb _ hl0)
 have keep1:∀b o,s2.heap.get? b=some o->h1.get? b=some o:=λb o e=>by rw[<-hh1];exact pushCells_keeps _ _ _ _ (Zb _ (hk0 b o e))
 generalize hcs:cellsFrom (C+1) scope.names (cz X.env scope.names [])=cs
 have I0:Inv (dW X own cap scope cs C fp s2 H2) [] (cR own σ capI) H2 { s2 with heap:=h1}:=by
  have q:=I2.comp (tk:=s2.toks) B hown f2 ho2 hk0 (by rw[hsz0,hl];exact Nat.le_succ _) hC.symm hh1.symm
  rw[hcs]at q
  exact q
 have henv:(newEnv scope C X.env.globals cs X.env.qual none .none (some X.env) builtinsNs)={ compEnvC scope cs C X.env with scope:=scope}:=rfl
 have henv2:({ newEnv scope C X.env.globals cs X.env.qual none .none (some X.env) builtinsNs with scope:=relabel scope X.env}:Env)=(dW X own cap scope cs C fp s2 H2).env:=rfl
 generalize hX':dW X own cap scope cs C fp s2 H2=X' at I0 henv2
 have eP:X'.prog=X.prog:=by rw[<-hX'];rfl
 have eW:X'.w=X.w:=by rw[<-hX'];rfl
 have eK:X'.K=X.K:=by rw[<-hX'];rfl
 have eA:X'.A=X.A:=by rw[<-hX'];rfl
 have eFs:X'.fs=frs X.stack:=by rw[<-hX'];rfl
 have eEx:X'.ex=fp:=by rw[<-hX'];rfl
 have eS:X'.s₀=s2:=by rw[<-hX'];rfl
 have eH:X'.H₀=H2:=by rw[<-hX'];rfl
 have eL:X'.env.locals=C:=by rw[<-hX'];rfl
 have eC:X'.calm=true:=by rw[<-hX'];exact hc
 have eX:X'.xe=λ_ _=>False:=by rw[<-hX'];rfl
 have ePn:X'.pn=[]:=by rw[<-hX'];rfl
 have hg':PG X' tg g:=by rw[<-hX'];exact hg cs C fp s2 H2
 have ht':PIf X' ifs tt:=by rw[<-hX'];exact ht cs C fp s2 H2
 have he':PE X' elt te:=by rw[<-hX'];exact he cs C fp s2 H2
 have stat:∀{H':Hp}{P:List (Addr×Obj)},X'.Ok->(∀b∈fp,H' b=none)->(∀p∈P,p.1=l)->∀b∈fp,nY X' P H' b:=λ{H' P} ok hn hP b hb=>by
  refine⟨hn b hb,?_,?_,.inl (by rw[eEx];exact hb),?_,λp hp=>?_⟩
  .exact(ok.exf b (by rw[eEx];exact hb)).1
  .exact ok.exfs b (by rw[eEx];exact hb)
  .exact(ok.exf b (by rw[eEx];exact hb)).2
  .rw[ePn,List.nil_append]at hp
   rw[hP p hp]
   exact Ne.symm (hfl b hb).1
 have lfs:X'.Ok->l∉X'.fs:=λok hz=>by
  rw[eFs]at hz
  exact(Inv.nofs (X:=X) I2 hls) ((Zi.mp (I2.stkSub l hz)).elim (λz=>absurd I2.lt (by rw[<-z,hl];exact Nat.lt_irrefl _)) id)
 have pinL:∀{σ':St}{H':Hp}{s':Shared}{us:List Value}{k:Nat},Inv X' [] σ' H' s'->s'.heap.get? l=some (bR us k)->H' l=none->Inv X' [(l,bR us k)] σ' H' s':=λ{σ' H' s' us k} I' e n=>
  I'.pins_of λp hp=>by
   obtain rfl:p=(l,bR us k):=by simpa using hp
   exact⟨e,n,by rw[eL];exact hlC,lfs I'.ok,λv z=>by cases z⟩
 have loop:∀s3:Shared,s3={ s2 with heap:=h1}->codeAny (model X.prog X.w) X.A (.compLoop (.ListComp elt [⟨tg,iter,ifs,0⟩] scope pos) 0 (.ref it) (.ref l) X'.env) (compPost (model X.prog X.w) X.A X.xe none (EP X pins σ Q) (.ref l) C) s3:=by
  rintro s3 rfl
  refine xV (E':=λ_ _=>False) (λn s'=>∃i ys us k H',Inv X' [] (cR own σ capI) H' s'/\tn i s'.heap/\(∀b∈fp,H' b=none)/\W i n ys H'/\Vals ys us/\s'.heap.get? l=some (bR us k)/\H' l=none/\ys.length<=sizeLine) (λ_ _ z=>z.elim) ?_ m0
   ⟨0,[],[],0,H2,I0,T.keep _ _ _ st2 λb _ o e=>keep1 b o e,λb hb=>(f2 b hb).1,w0,.nil,hl1,I2.hok.fresh hls,Nat.zero_le _⟩
  rintro n s3 ⟨i,ys,us,k,H3,I3,st3,fr3,w3,v3,o3,n3,z3⟩
  have I3p:=pinL I3 o3 n3
  have P1:∀p∈[(l,bR us k)],p.1=l:=λp hp=>by
   obtain rfl:p=(l,bR us k):=by simpa using hp
   rfl
  rcases turn i n ys H3 w3 with⟨stop,qn⟩|⟨go,hlt,step⟩
  .have q:=T.done X' eP eW eK eC i _ s3 _ H3 (λ_ _=>False) I3p (stat I3.ok fr3 P1) st3 stop
   rw[eA]at q
   refine wpAny_mono q (λr s4 ⟨hr,I4⟩=>?_) λ_ _ z=>z
   subst hr
   have pl:=I4.pin (l,bR us k) (by simp)
   obtain⟨m4,hn4,_⟩:=I4.loc
   rw[eL]at hn4
   refine⟨m4,hn4,λh' sb=>⟨.ref l,upd H3 l (.lst ys),?_,rfl,qn l n3⟩⟩
   exact I2.compEnd f2 eP eW eFs eEx eS eH eL I4 hls hlC hCs pl.1 n3 v3 z3 sb
  .have q:=T.item X' eP eW eK eC i _ s3 _ H3 (λ_ _=>False) I3p (stat I3.ok fr3 P1) st3 go
   rw[eA]at q
   refine wpAny_mono q (λr s4 ⟨u,hr,h4⟩=>?_) λ_ _ z=>z
   subst hr
   refine wpAny_mono h4 (λ_ s5 ⟨x,H5,I5,r5,y5,st5,fr5⟩=>?_) λ_ _ z=>z
   have I5':=I5.pinned (stat I5.ok fr5 P1) (T.obj _ _ st5)
   have a1:=hg' _ s5 _ H5 x u _ I5' r5 (step x H5 y5)
   rw[eP,eW,eA,eX]at a1
   refine wpAny_mono a1 (λ_ s6 ⟨σ6,H6,I6,ft6,q6⟩=>?_) λ_ _ z=>z
   have a2:=ht' _ s6 σ6 H6 _ I6 q6
   rw[eP,eW,eA,eX]at a2
   refine wpAny_mono a2 (λok s7 ⟨H7,I7,q7⟩=>?_) λ_ _ z=>z
   have back:∀{H8:Hp}{s8:Shared},Inv X' ([(l,bR us k)]++rW fp s5.heap) σ6 H8 s8->Inv X' [] (cR own σ capI) H8 s8/\tn (i+1) s8.heap/\(∀b∈fp,H8 b=none)/\s8.heap.get? l=some (bR us k)/\H8 l=none:=λ{H8 s8} I8=>by
    have pl:=I8.pin (l,bR us k) (by simp)
    refine⟨(I8.weak ft6.1.symm ft6.2).pins_of λp hp=>absurd hp (by simp),T.keep _ _ _ st5 λb hb o e=>?_,λb hb=>?_,pl.1,pl.2.1⟩
    .exact(I8.pin (b,o) (Zn _ (Zn _ (gB hb e)))).1
    .obtain⟨o,e,d⟩:=T.obj _ _ st5 b hb
     exact(I8.pin (b,o) (Zn _ (Zn _ (gB hb e)))).2.1
   cases ok with
   |false=>
    rw[if_neg Zr]
    rw[if_neg Zr]at q7
    obtain⟨m',hm,w7⟩:=q7
    obtain⟨I8,st8,fr8,o8,n8⟩:=back I7
    exact⟨m',hm,i+1,ys,us,k,H7,I8,st8,fr8,w7,v3,o8,n8,z3⟩
   |true=>
    rw[if_pos rfl]
    rw[if_pos rfl]at q7
    have a3:=he' _ s7 σ6 H7 _ I7 q7
    rw[eP,eW,eA,eX]at a3
    refine wpAny_mono a3 (λyv s8 ⟨y,H8,I8',r8,m',hm,w8⟩=>?_) λ_ _ z=>z
    obtain⟨I8,st8,fr8,o8,n8⟩:=back I8'
    refine append_at (hsz:=by show us.toArray.size<=sizeLine;rw[Zd,<-v3.length];exact z3) o8 λh9 sb9 o9=>?_
    have I9:Inv X' [] (cR own σ capI) H8 { s8 with heap:=h9}:=I8.turned (t':=s8.toks) (λb o hb e=>(sb9.2 b hb).trans e) n8 (by rw[eL];exact hlC) (.inr (by rw[eS];exact hls)) (λx c e=>by
     rintro rfl
     obtain⟨v',ho',hd',hd''⟩:=I8.cell x c e
     rw[o8]at hd'
     cases hd'
     cases hd'') (λp hp=>by rw[ePn]at hp;exact absurd hp (by simp))
    refine⟨m',hm,i+1,ys++[y],us++[yv],k+1,H8,I9,T.keep _ _ _ st8 λb hb o e=>(sb9.2 b (hfl b hb).1).trans e,fr8,w8,v3.append (.cons r8 .nil),?_,n8,?_⟩
    .rw[o9]
     simp[bR]
    .rw[List.length_append]
     exact hlt
 have T0:=T.keep 0 s2.heap h1 st2 λb _ o e=>keep1 b o e
 rw[henv2]
 exact codeAny_compStart_list (loop _ rfl) (T.self X.A 0 _ _ _ T0 (loop _ rfl))
end
def cM(M:Model)(A:Around)(c:Code)(t:Sem Fin)(fs:List Frame)(s:Shared)(Φ:End->Shared->Prop):Prop:=
 ∀Γ p,Γ.code=c->Γ.Woken A->∃e s',Runs M Γ p t fs s e s'/\Φ e s'
section
variable {M:Model} {A:Around} {c:Code} {fs:List Frame} {s:Shared} {Φ:End->Shared->Prop}
theorem cM.wrap{α:Type}{m:Sem α}{K:α->Sem Fin}{H:Value->Sem Fin}{gd:Bool->Bool}{lv:List Value->List Value}
  (h:wpAny M (A.over c fs) m (λa s'=>cM M A c (K a) fs s' Φ) (λx s'=>cM M A c (H x) fs s' Φ) s):cM M A c (m.wrap K H gd lv) fs s Φ:=by
 rintro Γ p rfl hΓ
 exact runs_wrap_of_wp K H gd lv m (h (Γ.over fs) p (hΓ.over fs)) (λa p' s' h'=>h' Γ p' rfl hΓ) (λx p' s' h'=>h' Γ p' rfl hΓ)
theorem cM.bindWrap{α β:Type}{m:Sem α}{K:α->Sem β}{K':β->Sem Fin}{H':Value->Sem Fin}{gd:Bool->Bool}{lv:List Value->List Value}
  (h:wpAny M (A.over c fs) m (λa s'=>cM M A c ((K a).wrap K' H' gd lv) fs s' Φ) (λx s'=>cM M A c (H' x) fs s' Φ) s):cM M A c ((m >>= K).wrap K' H' gd lv) fs s Φ:=by
 rw[Sem.bind_eq_wrap',Sem.wrap_wrap];exact cM.wrap h
theorem cM.at{p':Pos}{k:Unit->Sem Fin}(h:cM M A c (k ()) fs s Φ):cM M A c (.at p' k) fs s Φ:=
 cM.wrap (m:=standAt p') (K:=k) (H:=.raise) (gd:=id) (lv:=id) (wpAny_standAt h)
theorem cM.again{c':Code}(hq:c'.quiet=true)(hc:cM M A c' (M.den c') fs s Φ):cM M A c (.pure (.again c')) fs s Φ:=by
 rintro Γ p rfl hΓ
 obtain⟨e,s',hr,he⟩:=hc (Γ.goto c') p rfl (hΓ.goto c')
 exact⟨e,s',Runs.head (c₁:=c') (λ_ _ x=>.again hq x) hr,he⟩
theorem cM.end(r:Result)(h:Φ (.ret r) s):cM M A c (leafOf r) [] s Φ:=by
 rintro Γ p rfl _
 exact⟨.ret r,s,Runs.leaf r,h⟩
theorem cM.yield{v:Value}{g:Bool}{l:List Value}{k:Resume->Sem Fin}(hfs:splitAtGen fs=none)(h:∀p,Φ (.susp v g l k c p fs) s):cM M A c (.yield v g l k) fs s Φ:=by
 rintro Γ p rfl _
 exact⟨_,s,Runs.yield' fs hfs,h p⟩
def Om(M:Model)(A:Around)(gs:GenState)(s:Shared)(Φ:End->Shared->Prop):Prop:=
 match gs with
 | .fresh c=>cM M A c (M.den c) [] s Φ
 | .suspended k _ c _ fs _=>cM M A c (k (.send .none)) fs s Φ
 |_=>False
theorem Nf{E:Value->Shared->Prop}{g:Nat}{gs:GenState}{l:List Value}{α:Type}{k:GenResult->Sem α}{Q:α->Shared->Prop}(hg:s.gens[g]? =some gs)
  (hgo:Om M A gs (s.setGen g .running) Φ) (hq:∀e s₁,Φ e s₁->e.quiet=true) (hΦ:∀e s₁,Φ e s₁->wpAny M A (k e.result) Q E (s₁.setGen g e.genState)):
  wpAny M A (.resume g (.send .none) l k) Q E s:=by
 intro Γ p hΓ
 rw[Sem.wp_resume]
 have hB:∀c,(Γ.wake c p).Woken A:=λc=>hΓ.wake c p
 cases gs with
 |fresh c=>
  obtain⟨e₁,s₁,hr,he⟩:=hgo (Γ.wake c p) p rfl (hB c)
  exact⟨_,_,by unfold Wakes;rw[hg];exact⟨e₁,s₁,hr,hq e₁ s₁ he,rfl,rfl⟩,hΦ e₁ s₁ he Γ p hΓ⟩
 |suspended k₀ l₀ c₀ p₀ fs₀ cl=>
  obtain⟨e₁,s₁,hr,he⟩:=hgo (Γ.wake c₀ p) p₀ rfl (hB c₀)
  exact⟨_,_,by unfold Wakes;rw[hg];exact⟨e₁,s₁,hr,hq e₁ s₁ he,rfl,rfl⟩,hΦ e₁ s₁ he Γ p hΓ⟩
 |running=>exact hgo.elim
 |finished=>exact hgo.elim
end
section
variable {prog:Program} {w:World} {A:Around} {E:Value->Shared->Prop} {s:Shared} {Φ:End->Shared->Prop}
theorem sH{a:Addr}{g:Nat}{gs:GenState}{Q:Option Value->Shared->Prop}(hh:A.handled=none)(hl:s.heap.NoLimit)(hroom:A.depth<recursionLimit)
  (hg:s.heap.IsGen a g) (hgs:s.gens[g]? =some gs) (hgo:Om (model prog w) A.in1 gs (s.setGen g .running) Φ) (hq:∀e s₁,Φ e s₁->e.quiet=true)
  (hΦ:∀e s₁,Φ e s₁->(∃v gd l k c p fs,e= .susp v gd l k c p fs/\Q (some v) (s₁.setGen g e.genState))∨
   (e= .ret (.ok .next)/\∀h',(∀b o,s₁.heap.get? b=some o->h'.get? b=some o)->Q none { s₁.setGen g .finished with heap:=h'})):
  wpAny (model prog w) A (pyNext (.ref a)) Q E s:=by
 unfold pyNext
 refine wpAny_bind (wpAny_attempt (wpAny_callSpecial?_slot (name:=Str.ofString "__next__") hg.typeIs slot_gen_next
  (wpAny_call_entry slot_gen_next hg.typeIs entry_gen_next ?_ (args_gen_next _))))
 show wpAny _ A.in1 (Builtin.Generator.genWake (.ref a) (.send .none)) _ _ s
 unfold Builtin.Generator.genWake
 refine wpAny_bind (wpAny_holding (wpAny_genNumber hg (wpAny_bind (wpAny_genState hgs ?_))))
 cases gs with
 |running=>exact hgo.elim
 |finished=>exact hgo.elim
 |_=>
  refine wpAny_bind (wpAny_roomToWake hl hroom ?_)
  show wpAny _ A.in1 (.resume g (.send .none) [] _) _ _ s
  refine Nf hgs hgo hq λe s₁ he=>?_
  rcases hΦ e s₁ he with⟨v,gd,l,k,c,p,fs,rfl,hQ⟩|⟨rfl,hP⟩
  .exact wpAny_pure ⟨v,rfl,wpAny_pure hQ⟩
  .show wpAny _ A.in1 (newExc (.type "StopIteration") [] >>= _) _ _ _
   refine wpAny_bind ?_
   simp only[newExc,newTuple]
   refine wpAny_bind (wpAny_newObj_type ?_ (by size_fits))
   refine wpAny_bind (m:=firstArgMember _ _) (wpAny_of_eq (a:=Value.none) (by first|rfl|(simp only[firstArgMember];rfl)) ?_)
   refine wpAny_newObj_type ?_ (by size_fits)
   simp only[raiseNew]
   refine wpAny_bind (wpAny_bind (wpAny_handled ?_))
   first|rw[show A.in1.handled=none from hh]|rw[hh]
   refine wpAny_throw ?_
   refine wpAny_bind (wpAny_isInstance (T:="StopIteration") (b:=true) ⟨_,Zf _ rfl,rfl⟩ isSubtype_stop ?_)
   exact wpAny_pure (hP _ λb o hb=>Zb _ (Zb _ hb))
end
def vz(X:Cx)(AG:Around)(own cap:List Str)(scope:Scope)(cs:List (Str×Addr))(C:Addr)(code:Value)(fp:List Addr)(s2:Shared)(H2:Hp):Cx where
 prog:=X.prog
 w:=X.w
 K:=X.K
 mg:=X.mg
 base:=X.base
 A:=AG
 N:=own++cap
 s₀:={ s2 with gens:=s2.gens.push .running}
 H₀:=H2
 env:=genEnv scope cs C code builtinsNs X.env
 outer:=X.stack
 stack:=genEnv scope cs C code builtinsNs X.env::X.stack
 ex:=fp
 fn:=λx=>own.contains x
 calm:=true
 pn:=[]
 xe:=λ_ _=>False
section
variable {X:Cx} {pins:List (Addr×Obj)} {σ:St} {H:Hp} {s:Shared} {own cap:List Str} {capI:List Nat} {scope:Scope}
theorem Inv.gen{AG:Around}{fp:List Addr}{h1:Heap}{C:Addr}{tk:Nat}{code:Value}{m:Str->Option Value}(I:Inv X pins σ H s)(B:fY X own cap capI scope)(hown:∀x∈own,(x,NameKind.free)∉scope.names)(hnc:∀y∈scope.names,y.2≠ .cell)
  (hf:∀b∈fp,nY X pins H b) (ho:∀b∈fp,∃o,s.heap.get? b=some o)
  (keep:∀b o,s.heap.get? b=some o->h1.get? b=some o) (hCs:s.heap.objs.size<=C) (hm:h1.Ns C m) (hAf:AG.frames=some (genEnv scope (cz X.env scope.names []) C code builtinsNs X.env::X.stack)) (hAh:AG.handled=none):
  Inv (vz X AG own cap scope (cz X.env scope.names []) C code fp s H) [] (cR own σ capI) H { s with heap:=h1,toks:=tk,gens:=s.gens.push .running}:=by
 have clo_old:∀p∈cz X.env scope.names [],X.env.cells.lookup p.1=some p.2:=λp hp=>(lV hp).elim (λz=>by simp at z) id
 have old_lt:∀x c,X.env.cells.lookup x=some c->c<s.heap.objs.size:=λx c e=>let⟨v,q⟩:=I.cell x c e;q.lt
 have csm:∀x c,(cz X.env scope.names []).lookup x=some c->X.env.cells.lookup x=some c/\c<s.heap.objs.size:=λx c e=>by
  have q:=clo_old _ (Zt e)
  exact⟨q,old_lt _ _ q⟩
 have fresh:∀b,s.heap.objs.size<=b->H b=none:=λb hb=>I.hok.fresh hb
 have brun:AllBare (s.gens.push .running):=AllBare.push I.bare.bare rfl
 refine⟨⟨I.ok.mod,?_,I.ok.glob,rfl,hCs,?_,?_,?_,λ_=>hAh,hAf,.inr ⟨rfl,rfl⟩,?_,I.bs,Zl I.ok.bsz I.sz,?_,?_,I.stack,I.stkFree⟩,rfl,GK.refl brun,Un.kept keep,?_,?_,fresh C hCs,?_,?_,I.hok.kept keep,?_⟩
 .exact B.kind
 .intro x y c e1 e2
  exact I.ok.inj x y c (csm x c e1).1 (csm y c e2).1
 .intro x hx
  have hx':scope.names.lookup x=some .cell∨scope.names.lookup x=some .free:=hx
  rcases hx' with e|e
  .exact absurd rfl (hnc _ (Zt e))
  .have q:=Zt e
   obtain⟨c,hc⟩:=B.cells I _ q rfl
   exact⟨c,kZ hc (.inl q)⟩
 .intro x c hx e
  exfalso
  have hxo:x∈own:=by simpa[vz]using hx
  have nf:=hown x hxo
  have q:(cz X.env scope.names []).lookup x=none:=by
   rw[oY λk hk=>by rintro rfl;exact nf hk];rfl
  have e':(cz X.env scope.names []).lookup x=some c:=e
  rw[q]at e';cases e'
 .intro b hb
  obtain⟨o,hbo⟩:=ho b hb
  have hlt:=Ze hbo
  exact⟨Zk (Zc hlt hCs),λx c e=>(hf b hb).2.2.2.2.1 x c (csm x c e).1⟩
 .intro b o e hb
  rcases(hf b hb).2.2.2.1 with z|z
  .exact I.ok.noex b o e z
  .exact absurd (Zc (Ze e) (Zl I.ok.bsz z)) (Nat.lt_irrefl _)
 .intro b hb hz
  rcases Zi.mp (I.stkSub b hz)with z|z
  .exact(hf b hb).2.1 z
  .exact(hf b hb).2.2.1 z
 .obtain⟨m',hn,hl⟩:=I.loc
  refine⟨m,hm,λi x v e1 e2 hv=>?_⟩
  have e2':(cR own σ capI)[i]? =some (some v):=e2
  have e1':(own++cap)[i]? =some x:=e1
  unfold cR at e2'
  by_cases hi:i<own.length
  .rw[Zs (by simpa using hi),List.getElem?_replicate]at e2'
   split at e2'<;>cases e2'
  .rw[List.getElem?_append_right (by simpa using hi)]at e2'
   rw[List.getElem?_append_right (by simpa using hi)]at e1'
   rw[List.length_replicate]at e2'
   obtain⟨i0,q1,q2⟩:=rQ e2'
   obtain⟨y,q3,q4,q5⟩:=B.caps.get q1
   rw[e1']at q3
   cases q3
   have hxf:(x,NameKind.free)∈scope.names:=B.cfr x (List.mem_of_getElem? e1')
   have vis:Vis X.env.scope x:=by
    rcases q5 with q5|q5
    .exact .inr (.inl q5)
    .exact .inr (.inr q5)
   obtain⟨u,ru,lk⟩:=hl i0 x v q4 q2 vis
   refine⟨u,ru,.inr ⟨.inr (dj B.nd hxf),?_⟩⟩
   rcases lk with⟨k,_⟩|⟨_,c,ec,hc⟩
   .rcases q5 with q5|q5<;>rw[k]at q5<;>cases q5
   .exact⟨c,kZ ec (.inl hxf),hc.keeps keep⟩
 .intro x c e
  obtain⟨v,q⟩:=I.cell x c (csm x c e).1
  exact⟨v,q.keeps keep⟩
 .intro x c e
  exact I.freeC x c (csm x c e).1
 .intro p hp
  exact absurd (show p∈([]:List (Addr×Obj))from hp) (by simp)
 .show(cR own σ capI).length=(own++cap).length
  unfold cR lW
  rw[List.length_append,List.length_append,List.length_replicate,Zu,B.caps.length]
end
abbrev FN(elt tg iter:Expr)(scope:Scope)(pos:Pos):Expr:=.GeneratorExp elt [⟨tg,iter,[],0⟩] scope pos
abbrev lg(elt tg iter:Expr)(scope:Scope)(pos:Pos)(it:Addr)(cenv:Env):Code:=.compLoop (FN elt tg iter scope pos) 0 (.ref it) .none cenv
abbrev genS(elt tg iter:Expr)(scope:Scope)(pos:Pos)(it:Addr)(cenv:Env):Code:=.compStart (FN elt tg iter scope pos) 0 (.ref it) .none cenv
section
variable {X':Cx} {A1:Around} {elt tg iter:Expr} {scope:Scope} {pos:Pos} {it:Addr} {fp:List Addr} {tn:Nat->Heap->Prop} {J:It} {σb:St} {g:TG} {te:TE}
theorem JR(T:Turn X'.prog X'.w X'.K tg J fp it tn)(hA:X'.A=A1.over (lg elt tg iter scope pos it X'.env) [])(hc:X'.calm=true)(hex:X'.ex=fp)(hpn:X'.pn=[])(hco:X'.env.scope.isCoroutine=false)
  (hxe:X'.xe=λ_ _=>False) (hg:PG X' tg g) (he:PE X' elt te) {i:Nat} {H:Hp} {s:Shared} {Q:VK} {P:List (Addr×Obj)} (hP:∀p∈P,p.1∉fp) (I:Inv X' P σb H s) (st:tn i s.heap) (fr:∀b∈fp,H b=none)
  (go:J.go i H) (step:∀x H',J.yld i H x H'->g x σb H' λσ2 H2=>Fits σb σ2/\te σ2 H2 Q):
  cM (model X'.prog X'.w) A1 (lg elt tg iter scope pos it X'.env) ((model X'.prog X'.w).den (lg elt tg iter scope pos it X'.env)) [] s λe s'=>
   ∃v k p y H',e= .susp v false [] k (lg elt tg iter scope pos it X'.env) p []/\k (.send .none)= .pure (.again (lg elt tg iter scope pos it X'.env))/\RelV y v/\Q y H'/\Inv X' P σb H' s'/\tn (i+1) s'.heap/\∀b∈fp,H' b=none:=by
 have stat:∀{H':Hp},X'.Ok->(∀b∈fp,H' b=none)->∀b∈fp,nY X' P H' b:=λ{H'} ok hn b hb=>
  ⟨hn b hb,(ok.exf b (by rw[hex];exact hb)).1,ok.exfs b (by rw[hex];exact hb),.inl (by rw[hex];exact hb),(ok.exf b (by rw[hex];exact hb)).2,λp hp e=>by rw[hpn]at hp;exact hP p hp (e▸hb)⟩
 show cM _ A1 _ ((compTurn (FN elt tg iter scope pos) 0 (.ref it) .none X'.env).onRaise (leaving X'.env)) [] s _
 rw[compTurn_gen,Sem.onRaise_eq_wrap]
 refine cM.bindWrap (wpAny_standAt ?_)
 have q:=T.item X' rfl rfl rfl hc i P s σb H (λ_ _=>False) I (stat I.ok fr) st go
 rw[hA]at q
 refine cM.bindWrap (wpAny_mono q (λr s1 ⟨u,hr,h1⟩=>?_) λ_ _ z=>z.elim)
 subst hr
 refine cM.bindWrap (wpAny_mono h1 (λ_ s2 ⟨x,H2,I2,r2,y2,st2,fr2⟩=>?_) λ_ _ z=>z.elim)
 have I2':=I2.pinned (stat I2.ok fr2) (T.obj _ _ st2)
 have a1:=hg _ s2 σb H2 x u _ I2' r2 (step x H2 y2)
 rw[hA,hxe]at a1
 refine cM.bindWrap (wpAny_mono a1 (λ_ s3 ⟨σ3,H3,I3,ft3,q3⟩=>?_) λ_ _ z=>z.elim)
 refine cM.bindWrap (wpAny_tests_nil ?_)
 simp only[if_true]
 have hy:∀v,yieldOut X'.env v=yieldValue v:=λv=>by simp only[yieldOut,hco,Bool.false_eq_true,if_false]
 simp only[hy]
 rw[Sem.bind_eq_wrap',Sem.bind_eq_wrap',Sem.wrap_wrap,Sem.wrap_wrap]
 have a2:=he _ s3 σ3 H3 _ I3 q3
 rw[hA,hxe]at a2
 refine cM.wrap (wpAny_mono a2 (λv s4 ⟨y,H4,I4,r4,q4⟩=>?_) λ_ _ z=>z.elim)
 refine cM.at (cM.yield rfl λp=>⟨v,_,p,y,H4,rfl,rfl,r4,q4,(I4.weak ft3.1.symm ft3.2).unpinned,T.keep _ _ _ st2 λb hb o e=>?_,λb hb=>?_⟩)
 .exact(I4.pin (b,o) (Zn _ (Zn _ (gB hb e)))).1
 .obtain⟨o,e,d⟩:=T.obj _ _ st2 b hb
  exact(I4.pin (b,o) (Zn _ (Zn _ (gB hb e)))).2.1
theorem Hj(T:Turn X'.prog X'.w X'.K tg J fp it tn)(hA:X'.A=A1.over (lg elt tg iter scope pos it X'.env) [])(hc:X'.calm=true)(hex:X'.ex=fp)(hpn:X'.pn=[])
  {i:Nat} {H:Hp} {s:Shared} {P:List (Addr×Obj)} (hP:∀p∈P,p.1∉fp) (I:Inv X' P σb H s) (st:tn i s.heap) (fr:∀b∈fp,H b=none) (stop:J.stop i H):
  cM (model X'.prog X'.w) A1 (lg elt tg iter scope pos it X'.env) ((model X'.prog X'.w).den (lg elt tg iter scope pos it X'.env)) [] s λe s'=>e= .ret (.ok .next)/\Inv X' P σb H s':=by
 have stat:∀b∈fp,nY X' P H b:=λb hb=>
  ⟨fr b hb,(I.ok.exf b (by rw[hex];exact hb)).1,I.ok.exfs b (by rw[hex];exact hb),.inl (by rw[hex];exact hb),(I.ok.exf b (by rw[hex];exact hb)).2,λp hp e=>by rw[hpn]at hp;exact hP p hp (e▸hb)⟩
 show cM _ A1 _ ((compTurn (FN elt tg iter scope pos) 0 (.ref it) .none X'.env).onRaise (leaving X'.env)) [] s _
 rw[compTurn_gen,Sem.onRaise_eq_wrap]
 refine cM.bindWrap (wpAny_standAt ?_)
 have q:=T.done X' rfl rfl rfl hc i P s σb H (λ_ _=>False) I stat st stop
 rw[hA]at q
 refine cM.bindWrap (wpAny_mono q (λr s1 ⟨hr,I1⟩=>?_) λ_ _ z=>z.elim)
 subst hr
 exact cM.end (.ok .next) ⟨rfl,I1⟩
theorem xJ{A0:Around}{P:Program}{w:World}{K:PySem.W.Frag}{cenv:Env}{Φ:End->Shared->Prop}{s:Shared}{i:Nat}(T:Turn P w K tg J fp it tn)(st:tn i s.heap)
  (h:cM (model P w) A0 (lg elt tg iter scope pos it cenv) ((model P w).den (lg elt tg iter scope pos it cenv)) [] s Φ):
  cM (model P w) A0 (genS elt tg iter scope pos it cenv) ((model P w).den (genS elt tg iter scope pos it cenv)) [] s Φ:=by
 show cM _ A0 _ ((compStart (FN elt tg iter scope pos) 0 (.ref it) .none cenv).onRaise (leaving cenv)) [] s _
 unfold compStart
 rw[Sem.onRaise_eq_wrap]
 show cM _ A0 _ ((ask >>= _).wrap _ _ _ _) [] s _
 refine cM.bindWrap (wpAny_askSetting ?_)
 split
 .exact cM.again rfl h
 .first
   |exact cM.bindWrap (wpAny_rule (cM.bindWrap (wpAny_standAt (cM.bindWrap (T.self _ i s _ _ st (cM.again rfl h))))))
   |(refine cM.bindWrap (wpAny_rule ?_);show cM _ A0 _ ((standAt iter.pos >>= _).wrap _ _ _ _) [] s _;exact cM.bindWrap (wpAny_standAt (cM.bindWrap (T.self _ i s _ _ st (cM.again rfl h)))))
end
structure qu where
 nxt:Nat->Hp->(V->Hp->Prop)->Prop
 fin:Nat->Hp->Prop
structure Ds(X:Cx)(pins:List (Addr×Obj))(σ:St)(A':Around)(it:Addr)(lo:Nat)(S:qu)(SS:List (Addr×Obj)->Nat->Hp->Shared->Prop):Prop where
 inv:∀{P i H s},SS P i H s->Inv X (pins++P) σ H s
 next:∀{P i H s Q}(E:Value->Shared->Prop),SS P i H s->S.nxt i H Q->wpAny (model X.prog X.w) A' (pyNext (.ref it)) (λr s1=>∃u y H',r=some u/\RelV y u/\Q y H'/\SS P (i+1) H' s1) E s
 stop:∀{P i H s}(E:Value->Shared->Prop),SS P i H s->S.fin i H->wpAny (model X.prog X.w) A' (pyNext (.ref it)) (λr s1=>r=none/\Inv X (pins++P) σ H s1) E s
 keep:∀{P i H s h' tk},SS P i H s->(∀b o,s.heap.get? b=some o->h'.get? b=some o)->SS P i H { s with heap:=h',toks:=tk}
 pin:∀{P i H s D o},SS P i H s->lo<=D->s.heap.get? D=some o->H D=none->(∀v,o.data≠ .cell v)->SS ((D,o)::P) i H s
 unpin:∀{p P i H s},SS (p::P) i H s->SS P i H s
 acc:∀{P i H s h' tk D},SS P i H s->lo<=D->H D=none->(∀p∈P,p.1≠D)->(∀b o,b≠D->s.heap.get? b=some o->h'.get? b=some o)->SS P i H { s with heap:=h',toks:=tk}
def Ready(X:Cx)(pins:List (Addr×Obj))(σ:St)(S:qu)(v:Value)(H:Hp)(s:Shared):Prop:=
 ∀(A':Around)(E:Value->Shared->Prop),A'.handled=none->A'.frames=some X.stack->A'.depth<=X.A.depth+1->A'.units<=X.A.units+8->
  wpAny (model X.prog X.w) A' (pyIter v) (λitv s2=>∃it lo SS,itv= .ref it/\Ds X pins σ A' it lo S SS/\SS [] 0 H s2/\lo<=s2.heap.objs.size) E s
abbrev uU:=St->Hp->(qu->Hp->Prop)->Prop
def NZ(X:Cx)(e:Expr)(ts:uU):Prop:=
 ∀(pins:List (Addr×Obj))(s:Shared)(σ:St)(H:Hp)(R:qu->Hp->Prop),Inv X pins σ H s->ts σ H R->
  wpAny (model X.prog X.w) X.A (eval e X.env) (λv s1=>∃S H1,Inv X pins σ H1 s1/\Ready X pins σ S v H1 s1/\R S H1) X.xe s
def QQ(X:Cx)(pins:List (Addr×Obj))(σ:St)(S:qu)(a:Addr)(H:Hp)(s:Shared):Prop:=
 ∀(A':Around),A'.handled=none->A'.frames=some X.stack->A'.depth<=X.A.depth+1->A'.units<=X.A.units+8->
  ∃lo SS,Ds X pins σ A' a lo S SS/\SS [] 0 H s/\a<lo/\lo<=s.heap.objs.size/\∀P i H s,SS P i H s->∃g,s.heap.IsGen a g
def wU(X:Cx)(e:Expr)(ts:uU):Prop:=
 ∀(pins:List (Addr×Obj))(s:Shared)(σ:St)(H:Hp)(R:qu->Hp->Prop),Inv X pins σ H s->ts σ H R->
  wpAny (model X.prog X.w) X.A (eval e X.env) (λv s1=>∃a S H1,v= .ref a/\Inv X pins σ H1 s1/\QQ X pins σ S a H1 s1/\R S H1) X.xe s
theorem Bb{X:Cx}{e:Expr}{ts:uU}(h:wU X e ts):NZ X e ts:=by
 intro pins s σ H R I hq
 refine thn (h pins s σ H R I hq) λv s1 ⟨a,S,H1,e,I1,rdy,r⟩=>⟨S,H1,I1,?_,r⟩
 subst e
 intro A' E h1 h2 h3 h4
 obtain⟨lo,SS,sm,s0,_,hl,hg⟩:=rdy A' h1 h2 h3 h4
 obtain⟨g,ig⟩:=hg _ _ _ _ s0
 exact wpAny_pyIter_gen ig ⟨a,lo,SS,rfl,sm,s0,hl⟩
section
variable {X:Cx} {pins:List (Addr×Obj)} {σ:St} {H:Hp} {s:Shared}
theorem Inv.grown{h':Heap}{g':Array GenState}{tk:Nat}(I:Inv X pins σ H s)(k:∀b o,s.heap.get? b=some o->h'.get? b=some o)(hg:GK s.gens g'):Inv X pins σ H { s with heap:=h',gens:=g',toks:=tk}:=
 I.call (ch:=[]) (g':=g') (t':=tk) (d':=s.drawn) (Un.kept k) (I.hok.kept k) hg λb hb=>absurd hb (by simp)
theorem Inv.more{Q:List (Addr×Obj)}(I:Inv X pins σ H s)(h:∀p∈Q,s.heap.get? p.1=some p.2/\H p.1=none/\p.1≠X.env.locals/\p.1∉X.fs/\∀v,p.2.data≠ .cell v):Inv X (pins++Q) σ H s:=
 I.pins_of λp hp=>(Zm.mp hp).elim (λz=>I.pin p (Zn _ z)) (h p)
theorem Inv.tbl{P:Addr}{ps ps':Array Value}{h':Heap}{tk:Nat}(I:Inv X pins σ H s)(hP:H P=some (.tbl ps))(hm:∃more,ps'=ps++more)(k:∀b o,b≠P->s.heap.get? b=some o->h'.get? b=some o)
  (ho:h'.get? P=some { cls:=.none,data:=.fields ps'}):Inv X pins σ (upd H P (.tbl ps')) { s with heap:=h',toks:=tk}:=by
 have nP:∀b,H b=none->b≠P:=λb e z=>by rw[z,hP]at e;cases e
 refine I.un ⟨λb o e n _ _=>k b o (nP b n) e,λb o e n _ _=>⟨o.slots,k b o (nP b n) e⟩,λb o e n _=>by rw[aU (nP b n)];exact n,λb o e _=>?_,λb xs e=>?_,λb o u e=>?_,λb qs e=>?_⟩ λa o e=>?_
 .by_cases z:b=P
  .subst z;exact⟨_,ho⟩
  .exact⟨o,k b o z e⟩
 .have z:b≠P:=λz=>by rw[z,hP]at e;cases e
  rw[aU z];exact e
 .have z:b≠P:=λz=>by rw[z,hP]at e;cases e
  rw[aU z];exact e
 .by_cases z:b=P
  .subst z
   rw[hP]at e;cases e
   obtain⟨more,e⟩:=hm
   exact⟨more,by rw[cX,e]⟩
  .exact⟨#[],by rw[aU z,e];simp⟩
 .by_cases z:a=P
  .subst z
   rw[cX]at e;cases e
   exact ho
  .rw[aU z]at e
   refine(I.hok a o e).stay (λb u hb q=>k b u ?_ q) (λb q=>?_) λb xs q=>?_
   .rcases hb with r|r
    .rw[r];exact z
    .exactλy=>by rw[y,hP]at r;cases r
   .have y:b≠P:=λy=>by rw[y,hP]at q;cases q
    rw[aU y];exact q
   .have y:b≠P:=λy=>by rw[y,hP]at q;cases q
    rw[aU y];exact q
def yK(H:Hp)(v:Value):Prop:=∃c o vs u,v= .ref c/\H c=some (.frz o (.own 0))/\o.data= .fields vs/\vs[1]? =some u
def TOk(H:Hp)(ps:Array Value):Prop:=TriplesOk ps.toList/\∀pos v,codeAmong pos ps.toList=some v->yK H v
theorem TOk.mono{H H':Hp}{ps:Array Value}(h:TOk H ps)(k:∀c o,H c=some (.frz o (.own 0))->H' c=some (.frz o (.own 0))):TOk H' ps:=
 ⟨h.1,λpos v e=>let⟨c,o,vs,u,e1,e2,e3⟩:=h.2 pos v e;⟨c,o,vs,u,e1,k c o e2,e3⟩⟩
theorem TOk.nil{H:Hp}:TOk H #[]:=⟨by unfold TriplesOk;trivial,λpos v e=>by simp[codeAmong]at e⟩
theorem CW{pos:Pos}{a b:Int}{c v:Value}:∀(l:List Value),TriplesOk l->codeAmong pos (l++[rawInt a,rawInt b,c])=some v->codeAmong pos l=some v∨v=c:=λl h=>by
 fun_induction TriplesOk l with
 |case1=>
  intro e
  right
  simp only[List.nil_append,rawInt,codeAmong]at e
  split at e
  .cases e;rfl
  .cases e
 |case2 line t col u x rest ih=>
  intro e
  simp only[List.cons_append,codeAmong]at e ⊢
  split at e
  .rename_i hc
   left;rw[if_pos hc];exact e
  .rename_i hc
   rw[if_neg hc]
   exact ih h e
 |case3=>exact h.elim
structure Dm(lo:Nat)(P:Addr)(ps ps':Array Value)(H H':Hp):Prop where
 tab:H' P=some (.tbl ps')
 more:∃more,ps'=ps++more
 ok:TOk H' ps'
 keep:∀b o,b≠P->H b=some o->H' b=some o
 none:∀b,b<lo->H b=none->H' b=none
theorem Inv.reg{c:Addr}{o:Obj}(I:Inv X pins σ H s)(ho:s.heap.get? c=some o)(hn:H c=none)(hnew:X.s₀.heap.objs.size<=c)(hL:c≠X.env.locals)(hc:∀x d,X.env.cells.lookup x=some d->d≠c)(hp:∀p∈X.pn++pins,p.1≠c):
  Inv X pins σ (upd H c (.frz o (.own 0))) s:=by
 have ne:∀b u,H b=some u->b≠c:=λb u e z=>by rw[z,hn]at e;cases e
 refine⟨I.ok,I.os,I.bare,⟨I.base.keep,I.base.slot,λb ob e n hx=>?_,I.base.there,λb xs e=>?_,λb ob u e=>?_,λb ps e=>?_⟩,I.loc,I.cell,?_,λx d e=>?_,λp hp'=>?_,λa u e=>?_,I.len⟩
 .rw[aU (Zk (Zc (Ze e) hnew))];exact I.base.free b ob e n hx
 .have q:=I.base.tups b xs e
  rw[aU (ne _ _ q)];exact q
 .have q:=I.base.frzs b ob u e
  rw[aU (ne _ _ q)];exact q
 .obtain⟨more,q⟩:=I.base.tbls b ps e
  exact⟨more,by rw[aU (ne _ _ q)];exact q⟩
 .rw[aU (Ne.symm hL)];exact I.free
 .rw[aU (hc x d e)];exact I.freeC x d e
 .obtain⟨a,b,r⟩:=I.pin p hp'
  exact⟨a,by rw[aU (hp p hp')];exact b,r⟩
 .by_cases z:a=c
  .subst z
   rw[cX]at e;cases e
   exact⟨ho,o,ho⟩
  .rw[aU z]at e
   exact(I.hok a u e).stay (λb v _ q=>q) (λb q=>by rw[aU (ne _ _ q)];exact q) λb xs q=>by rw[aU (ne _ _ q)];exact q
theorem xx{P c':Addr}{ps vs:Array Value}{u:Value}{oc:Obj}{h':Heap}{tk:Nat}{pos:Pos}{G:Prop}(I:Inv X pins σ H s)(hP:H P=some (.tbl ps))(ht:TOk H ps)(hge:s.heap.objs.size<=c')(hoc:h'.get? c'=some oc)(hdd:oc.data= .fields vs)(hv:vs[1]? =some u)
  (k:∀b o,b≠P->s.heap.get? b=some o->h'.get? b=some o) (ho:h'.get? P=some { cls:=.none,data:=.fields (ps++ #[rawInt pos.line,rawInt pos.col,.ref c']) })
  (h:Dm s.heap.objs.size P ps (ps++ #[rawInt pos.line,rawInt pos.col,.ref c']) H (upd (upd H P (.tbl (ps++ #[rawInt pos.line,rawInt pos.col,.ref c']))) c' (.frz oc (.own 0)))->Inv X pins σ (upd (upd H P (.tbl (ps++ #[rawInt pos.line,rawInt pos.col,.ref c']))) c' (.frz oc (.own 0))) { s with heap:=h',toks:=tk}->G):G:=by
 have lt:=λ{b:Addr}{o:Obj}(e:s.heap.get? b=some o)=>Zc (Ze e) hge
 have cP:P≠c':=Zk (lt (I.hok P _ hP))
 have hn:H c'=none:=I.hok.fresh hge
 generalize hps:ps++ #[rawInt pos.line,rawInt pos.col,.ref c']=ps' at *
 have I1:Inv X pins σ (upd H P (.tbl ps')) { s with heap:=h',toks:=tk}:=I.tbl hP ⟨_,hps.symm⟩ k ho
 have I2:Inv X pins σ (upd (upd H P (.tbl ps')) c' (.frz oc (.own 0))) { s with heap:=h',toks:=tk}:=I1.reg hoc (by rw[aU (Ne.symm cP)];exact hn) (Zl I.sz hge) (Nat.ne_of_gt (Zc I.lt hge))
  (λx d e=>by
   obtain⟨v,o,e2,_⟩:=I.cell x d e
   exact Zk (lt e2)) λp hp=>Zk (lt (I.pin p hp).1)
 have kp:∀b o,b≠P->H b=some o->upd (upd H P (.tbl ps')) c' (.frz oc (.own 0)) b=some o:=λb o hb e=>by
  have hbc:b≠c':=λz=>by rw[z,hn]at e;cases e
  rw[aU hbc,aU hb];exact e
 refine h ⟨by rw[aU cP,cX],⟨_,hps.symm⟩,⟨?_,λp v e=>?_⟩,kp,λb hb e=>?_⟩ I2
 .rw[<-hps]
  have hl:(ps++ #[rawInt pos.line,rawInt pos.col,Value.ref c']).toList=ps.toList++[rawInt pos.line,rawInt pos.col,.ref c']:=by simp
  rw[hl];exact TriplesOk_snoc _ _ _ _ ht.1
 .rw[<-hps]at e
  have hl:(ps++ #[rawInt pos.line,rawInt pos.col,Value.ref c']).toList=ps.toList++[rawInt pos.line,rawInt pos.col,.ref c']:=by simp
  rw[hl]at e
  rcases CW _ ht.1 e with e|e
  .obtain⟨c,o,ws,w,q1,q2,q3⟩:=ht.2 p v e
   exact⟨c,o,ws,w,q1,kp c _ (λz=>by rw[z,hP]at q2;cases q2) q2,q3⟩
  .exact⟨c',oc,vs,u,e,cX,hdd,hv⟩
 .have hbc:b≠c':=Zk (Zc hb hge)
  have hbP:b≠P:=λz=>by rw[z,hP]at e;cases e
  rw[aU hbc,aU hbP];exact e
theorem Ug{c P:Addr}{ps:Array Value}{pos:Pos}{q:Str}{scope:Scope}{Q:Value->Shared->Prop}{A:Around}{E:Value->Shared->Prop}(I:Inv X pins σ H s)(hc:X.env.code= .ref c)(hd:PySem.W.CodeHd X.base c P)(hP:H P=some (.tbl ps))(ht:TOk H ps)
  (h:∀code s' H' ps',Dm s.heap.objs.size P ps ps' H H'->Inv X pins σ H' s'->s'.gens=s.gens->(∀b o,b≠P->s.heap.get? b=some o->s'.heap.get? b=some o)->Q code s'):
  wpAny (model X.prog X.w) A (genexprCode X.env pos q scope) Q E s:=by
 have hd':PySem.W.CodeHd s.heap c P:=hd.keeps I.bk
 have oP:s.heap.get? P=some (PySem.W.tabObj ps):=I.hok P _ hP
 have hok:s.heap.IsCode c P ps:=hd'.code oP ht.1
 have htab:s.heap.TableAt c P ps:=hd'.tab oP
 cases hnf:codeAmong pos ps.toList with
 |some cv=>
  obtain⟨o,vs,file,tf,flags,tg,inF,text,tt,op,ho,hdd,h11,h2,h7,h9,h10,hop,hpd,htr,hne⟩:=id hok
  unfold genexprCode codeAt
  rw[hc,if_neg (show¬((Value.ref c==Value.none)=true)from Zr)]
  refine wpAny_bind (wpAny_fieldsOf ho hdd ?_)
  rw[h11]
  refine wpAny_bind (wpAny_fieldsOf hop hpd ?_)
  rw[hnf]
  exact wpAny_pure (h cv s H ps ⟨hP,⟨#[],by simp⟩,ht,λ_ _ _ e=>e,λ_ _ e=>e⟩ I rfl λb o _ e=>e)
 |none=>
  refine wpAny_genexprCodeX hc hok htab hnf λc' h' tk hx hge hlt hcode hrec htab' _=>?_
  obtain⟨c2,oc,vs,t,e2,hoc,hdd,hv⟩:=hrec
  cases e2
  exact xx I hP ht hge hoc hdd hv (λb o hb e=>hx b o hb e) htab'.2 λhG I'=>h (.ref c') _ _ _ hG I' rfl λb o hb e=>hx b o hb e
end
def Jf(J:It)(g:TG)(te:TE)(σb:St):qu where
 nxt:=λi H Q=>J.go i H/\∀x H',J.yld i H x H'->g x σb H' λσ2 H2=>Fits σb σ2/\te σ2 H2 Q
 fin:=λi H=>J.stop i H
def tGen(own:List Str)(capI:List Nat)(P:Addr)(wi:TI)(g:TG)(te:TE):uU:=λσ H R=>wi σ H λJ H1=>∃ps,H1 P=some (.tbl ps)/\TOk H1 ps/\
 ∀lo H2 ps',Dm lo P ps ps' H1 H2->R (Jf J g te (cR own σ capI)) H2
theorem zX{A:Around}{elt tg iter:Expr}{scope:Scope}{pos:Pos}{it:Addr}{cenv:Env}{l:List Env}(h:A.frames=some l):(A.over (lg elt tg iter scope pos it cenv) []).frames=some (cenv::l):=by
 unfold Around.over
 show pushEnvs (Code.envs (lg elt tg iter scope pos it cenv)) (pushEnvs (envsOf []) A.frames)=_
 rw[h];rfl
theorem Gk{X:Cx}{A':Around}{elt tg iter:Expr}{scope:Scope}{pos:Pos}{it:Addr}{cenv:Env}(hh:A'.handled=none)(hd:A'.depth<=X.A.depth+1)(hu:A'.units<=X.A.units+8):
  ∀k,fu (k+1) X.A->fu k (A'.in1.over (lg elt tg iter scope pos it cenv) []):=λk r=>by
 have e1:(A'.in1.over (lg elt tg iter scope pos it cenv) []).depth=A'.depth+1:=rfl
 have e2:(A'.in1.over (lg elt tg iter scope pos it cenv) []).units=A'.units+1+3:=rfl
 have e3:(A'.in1.over (lg elt tg iter scope pos it cenv) []).handled=A'.handled:=rfl
 have:=r.dp
 have:=r.un
 exact⟨e3.trans hh,by rw[e1];omega,by rw[e2];omega⟩
section
variable {X:Cx} {tg iter elt:Expr} {wi:TI} {g:TG} {te:TE} {own cap:List Str} {capI:List Nat} {scope:Scope} {pos:Pos} {P:Addr} {kr:Nat}
theorem Jq(hc:X.calm=true)(hr:fu kr X.A)(B:fY X own cap capI scope)(hown:∀x∈own,(x,NameKind.free)∉scope.names)(hnc:∀y∈scope.names,y.2≠ .cell)(h0:scope.names.lookup (".0":Str)=some NameKind.local)
  (hco:scope.isCoroutine=false) (htb:∃c,X.env.code= .ref c/\PySem.W.CodeHd X.base c P) (hi:PI X tg iter wi) (hg:∀AG cs C code fp s2 H2,PG (vz X AG own cap scope cs C code fp s2 H2) tg g)
  (he:∀AG cs C code fp s2 H2,(∀k,fu (k+1) X.A->fu k AG)->PE (vz X AG own cap scope cs C code fp s2 H2) elt te) (hs:∀x,genFold iter X.env x=pure x:=by intro _;rfl):
  wU X (FN elt tg iter scope pos) (tGen own capI P wi g te):=by
 intro pins s σ H R I h
 obtain⟨c,hcode,hhd⟩:=htb
 refine wpAny_GeneratorExp_make hco (jw (B.cells I)) hnc h0 B.kind hr.depth ?_ hs
 refine thn (hi pins s σ H _ I h) λv s1 h1=>thn h1 λitv s2 h2=>?_
 obtain⟨it,fp,tn,J,H2,e,I2,T,st2,f2,ps,hP,htr,hR⟩:=h2
 subst e
 refine⟨I2.nolimit,Ug I2 hcode hhd hP htr λcode s4 H4 ps' hG I4 hgens hk4=>?_⟩
 obtain⟨bm,ob,b1,b2,b3,b4,b5,b6⟩:=I4.mod.bmain
 refine wpAny_builtinsFor (bm:=bm) (by rw[I4.ok.glob];exact I4.mod.glob.keeps I4.bk) b1 b2 (I4.bk _ _ b3) b4 b5 b6 ?_
 intro h5 hn5 hs5
 generalize hC:s4.heap.objs.size=C at hn5 hs5 ⊢
 have hCs:s4.heap.objs.size<=C:=Nat.le_of_eq hC
 have hR':=hR _ H4 ps' hG
 have k5:∀b o,s4.heap.get? b=some o->h5.get? b=some o:=λb o e=>hs5.extBut b o (Zk (Zc (Ze e) hCs)) (Zb _ e)
 have sz5:h5.objs.size=C+1:=by rw[hs5.1,Heap.size_push,hC]
 generalize ha:h5.objs.size=a
 have hCa:C<a:=by rw[<-ha,sz5];exact Nat.lt_succ_self _
 generalize hgi:s4.gens.size=gi
 generalize hgo:({ cls:=.type "generator",data:=.fields #[.int (gi:Int) 0,.str "<genexpr>" (s4.toks+1),.str (X.env.qual++"<genexpr>") (s4.toks+1+1)] }:Obj)=gob
 generalize hh6:h5.push gob=h6
 have k6:∀b o,h5.get? b=some o->h6.get? b=some o:=λb o e=>by rw[<-hh6];exact Zb _ e
 have k46:∀b o,s4.heap.get? b=some o->h6.get? b=some o:=λb o e=>k6 b o (k5 b o e)
 have oa6:h6.get? a=some gob:=by rw[<-hh6,<-ha];refine Zf _ ?_;rw[<-hgo];rfl
 have isg:∀{h:Heap},h.get? a=some gob->h.IsGen a gi:=λ{h} e=>⟨gob,.str "<genexpr>" (s4.toks+1),.str (X.env.qual++"<genexpr>") (s4.toks+1+1),e,by rw[<-hgo],by rw[<-hgo],by rw[<-hgo]⟩
 have hfr4:∀b∈fp,H4 b=none:=λb hb=>let⟨o,e,_⟩:=T.obj 0 _ st2 b hb;hG.none b (Ze e) (f2 b hb).1
 have f4:∀b∈fp,nY X pins H4 b:=λb hb=>⟨hfr4 b hb,(f2 b hb).2⟩
 have hbP:∀b∈fp,b≠P:=λb hb z=>by have n2:=(f2 b hb).1;rw[z,hP]at n2;cases n2
 have o4:∀b∈fp,∃o,s4.heap.get? b=some o:=λb hb=>let⟨o,e,_⟩:=T.obj 0 _ st2 b hb;⟨o,hk4 b o (hbP b hb) e⟩
 have st4:tn 0 s4.heap:=T.keep _ _ _ st2 λb hb o e=>hk4 b o (hbP b hb) e
 have hfa:∀b∈fp,b≠a/\b≠C:=λb hb=>let⟨o,e⟩:=o4 b hb
  have l:=Zc (Ze e) hCs
  ⟨Zk (Nat.lt_trans l hCa),Zk l⟩
 generalize hcenv:genEnv scope (cz X.env scope.names []) C code builtinsNs X.env=cenv
 have gk6:GK s4.gens (s4.gens.push (.fresh (genS elt tg iter scope pos it cenv))):=by
  refine⟨AllBare.push I4.bare.bare rfl,λk x e=>?_⟩
  have hlt:k<s4.gens.size:=by
   rcases Nat.lt_or_ge k s4.gens.size with z|z
   .exact z
   .rw[Array.getElem?_eq_none z]at e;cases e
  rw[Array.getElem?_push_lt hlt,<-Array.getElem?_eq_getElem hlt];exact e
 refine⟨a,Jf J g te (cR own σ capI),H4,rfl,I4.grown k46 gk6,?_,hR'⟩
 intro A' hAh hAf hAd hAu
 have gi6:(s4.gens.push (.fresh (genS elt tg iter scope pos it cenv)))[gi]? =some (.fresh (genS elt tg iter scope pos it cenv)):=by rw[<-hgi];simp
 generalize hX':vz X (A'.in1.over (lg elt tg iter scope pos it cenv) []) own cap scope (cz X.env scope.names []) C code fp s4 H4=X'
 have eP:X'.prog=X.prog:=by rw[<-hX'];rfl
 have eW:X'.w=X.w:=by rw[<-hX'];rfl
 have eK:X'.K=X.K:=by rw[<-hX'];rfl
 have eFs:X'.fs=frs X.stack:=by rw[<-hX'];rfl
 have eEx:X'.ex=fp:=by rw[<-hX'];rfl
 have eS:X'.s₀={ s4 with gens:=s4.gens.push .running}:=by rw[<-hX'];rfl
 have eH:X'.H₀=H4:=by rw[<-hX'];rfl
 have eL:X'.env.locals=C:=by rw[<-hX'];rfl
 have eC:X'.calm=true:=by rw[<-hX'];rfl
 have eX:X'.xe=λ_ _=>False:=by rw[<-hX'];rfl
 have ePn:X'.pn=[]:=by rw[<-hX'];rfl
 have eE:X'.env=cenv:=by rw[<-hX',<-hcenv];rfl
 have eA:X'.A=A'.in1.over (lg elt tg iter scope pos it X'.env) []:=by rw[eE,<-hX'];rfl
 have eCo:X'.env.scope.isCoroutine=false:=by rw[<-hX'];exact hco
 have hg':PG X' tg g:=by rw[<-hX'];exact hg _ _ _ _ _ _ _
 have he':PE X' elt te:=by rw[<-hX'];exact he _ _ _ _ _ _ _ (Gk hAh hAd hAu)
 have T':Turn X'.prog X'.w X'.K tg J fp it tn:=by rw[eP,eW,eK];exact T
 have pfp:∀{Q:List (Addr×Obj)},(∀p∈Q,a<p.1)->∀p∈(a,gob)::Q,p.1∉fp:=λ{Q} hQ p hp hb=>by
  obtain⟨o,e⟩:=o4 _ hb
  have l:=Zc (Ze e) hCs
  rcases Zi.mp hp with z|z
  .subst z;exact absurd (Nat.lt_trans l hCa) (Nat.lt_irrefl _)
  .exact absurd (Nat.lt_trans (Nat.lt_trans l hCa) (hQ p z)) (Nat.lt_irrefl _)
 have afs:a∉X'.fs:=λhz=>by
  rw[eFs]at hz
  have l4:s4.heap.objs.size<=a:=Zl hCs (Nat.le_of_lt hCa)
  rcases Zi.mp (I4.stkSub a hz)with z|z
  .exact absurd I4.lt (by rw[<-z];exact Nat.not_lt.mpr l4)
  .exact I4.nofs l4 z
 have setg:∀(s:Shared)(x:GenState),(s.setGen gi x).gens=s.gens.setIfInBounds gi x:=λs x=>rfl
 have hSS:∀{Q:List (Addr×Obj)}{i:Nat}{H:Hp}{s:Shared},(∀p∈Q,a<p.1)->Inv X' ((a,gob)::Q) (cR own σ capI) H s->s.heap.get? a=some gob/\s.gens[gi]? =some .running/\
   ∀(x:GenState)(h':Heap)(tk:Nat),x.bare=true->(∀b o,s.heap.get? b=some o->h'.get? b=some o)->Inv X (pins++Q) σ H { s.setGen gi x with heap:=h',toks:=tk}:=λ{Q i H s} hQ I'=>by
  have pa:=(I'.pin (a,gob) (by simp)).1
  have gr:s.gens[gi]? =some .running:=I'.bare.kept gi .running (by rw[eS,<-hgi];simp)
  refine⟨pa,gr,λx h' tk hx hk=>?_⟩
  have ub:=I'.base
  rw[eFs,eEx,eS,eH]at ub
  have hok:=I'.hok
  rw[eP,eW]at hok
  refine Inv.more ?_ λp hp=>by
   have q:=I'.pin p (by simp[hp])
   have l4:s4.heap.objs.size<=p.1:=Zl hCs (Nat.le_of_lt (Nat.lt_trans hCa (hQ p hp)))
   exact⟨hk _ _ q.1,q.2.1,λz=>absurd I4.lt (by rw[<-z];exact Nat.not_lt.mpr l4),I4.nofs l4,q.2.2.2.2⟩
  refine I4.call' (ch:=fp) (s':={ s.setGen gi x with heap:=h',toks:=tk}) (by have:=I'.os;rw[eS]at this;exact this)
   ⟨λb o e n hb hx'=>hk b o (ub.keep b o e n hb hx'),λb o e n hb hx'=>let⟨sl,q⟩:=ub.slot b o e n hb hx';⟨sl,hk b _ q⟩,ub.free,λb o e hx'=>let⟨o',q⟩:=ub.there b o e hx';⟨o',hk b o' q⟩,ub.tups,ub.frzs,ub.tbls⟩
   (hok.kept hk) ⟨λy hy=>?_,λk y e=>?_⟩ λb hb=>?_
  .have hy':y∈s.gens.setIfInBounds gi x:=hy
   rcases Array.mem_or_eq_of_mem_setIfInBounds hy' with z|z
   .exact I'.bare.bare y z
   .rw[z];exact hx
  .have hlt:k<gi:=by
    rw[<-hgi]
    rcases Nat.lt_or_ge k s4.gens.size with z|z
    .exact z
    .rw[Array.getElem?_eq_none z]at e;cases e
   have q:=I'.bare.kept k y (by rw[eS];show(s4.gens.push .running)[k]? =some y;rw[Array.getElem?_push_lt (by rw[hgi];exact hlt),<-Array.getElem?_eq_getElem (by rw[hgi];exact hlt)];exact e)
   show(s.gens.setIfInBounds gi x)[k]? =some y
   rw[Array.getElem?_setIfInBounds_ne (Nat.ne_of_gt hlt)]
   exact q
  .obtain⟨q0,q1,q2,q3,q4,q5⟩:=f4 b hb
   exact⟨q3,q1,q4,q5⟩
 refine⟨a+1,λQ i H s=>(∀p∈Q,a<p.1)/\Inv X (pins++Q) σ H s/\(∃gs,s.gens[gi]? =some gs/\gs.bare=true/\(gs= .fresh (genS elt tg iter scope pos it X'.env)∨∃k l p cl,gs= .suspended k l (lg elt tg iter scope pos it X'.env) p [] cl/\k (.send .none)= .pure (.again (lg elt tg iter scope pos it X'.env))))/\
   Inv X' ((a,gob)::Q) (cR own σ capI) H (s.setGen gi .running)/\tn i s.heap/\∀b∈fp,H b=none,⟨λst=>st.2.1,?_,?_,?_,?_,?_,?_⟩,?_,Nat.lt_succ_self _,?_,λQ i H s st=>⟨gi,isg (hSS (i:=i) st.1 st.2.2.2.1).1⟩⟩
 .
  rintro PP i H s Q E ⟨hQ,I1,⟨gs,hgs,hb,hgs'⟩,Ib,st,fr⟩ ⟨go,step⟩
  have tr:=JR (A1:=A'.in1) (elt:=elt) (tg:=tg) (iter:=iter) (scope:=scope) (pos:=pos) T' eA eC eEx ePn eCo eX hg' he' (pfp hQ) Ib st fr go step
  have oa:=(hSS (i:=i) hQ Ib).1
  rw[eP,eW]at tr
  refine sH hAh I1.nolimit (by have:=hr.dp;omega) (isg oa) hgs (Φ:=λe s'=>∃v k p y H',e= .susp v false [] k (lg elt tg iter scope pos it X'.env) p []/\k (.send .none)= .pure (.again (lg elt tg iter scope pos it X'.env))/\RelV y v/\Q y H'/\Inv X' ((a,gob)::PP) (cR own σ capI) H' s'/\tn (i+1) s'.heap/\∀b∈fp,H' b=none) ?_ ?_ ?_
  .rcases hgs' with e|⟨k,l,p,cl,e,ek⟩
   .subst e
    exact xJ (i:=i) T st tr
   .subst e
    show cM _ _ _ (k (.send .none)) [] _ _
    rw[ek]
    exact cM.again rfl tr
  .rintro e s' ⟨v,k,p,y,H',rfl,_⟩
   rfl
  .rintro e s' ⟨v,k,p,y,H',rfl,ek,ry,qy,I',st',fr'⟩
   left
   refine⟨v,false,[],k,_,p,[],rfl,v,y,H',rfl,ry,qy,?_⟩
   obtain⟨oa',gr',mk⟩:=hSS (i:=i) hQ I'
   have e1:((s'.setGen gi (End.susp v false [] k (lg elt tg iter scope pos it X'.env) p []).genState).setGen gi .running)=s':=by
    have hl:gi<s'.gens.size:=by
     rcases Nat.lt_or_ge gi s'.gens.size with z|z
     .exact z
     .rw[Array.getElem?_eq_none z]at gr';cases gr'
    obtain⟨hh,gg,dd,tt,oo⟩:=s'
    show(Shared.mk hh ((gg.setIfInBounds gi _).setIfInBounds gi .running) dd tt oo)=_
    congr 1
    apply Array.ext_getElem?
    intro j
    by_cases hj:gi=j
    .subst hj
     have gr'':gg[gi]? =some .running:=gr'
     have hl':gi<gg.size:=hl
     rw[gr'']
     simp[hl']
    .simp[hj]
   refine⟨hQ,mk _ s'.heap s'.toks rfl λb o e=>e,⟨_,setGen_self gr',rfl,.inr ⟨k,[],p,_,rfl,ek⟩⟩,by rw[e1];exact I',st',fr'⟩
 .
  rintro PP i H s E ⟨hQ,I1,⟨gs,hgs,hb,hgs'⟩,Ib,st,fr⟩ hfin
  have tr:=Hj (A1:=A'.in1) (elt:=elt) (tg:=tg) (iter:=iter) (scope:=scope) (pos:=pos) T' eA eC eEx ePn (pfp hQ) Ib st fr hfin
  have oa:=(hSS (i:=i) hQ Ib).1
  rw[eP,eW]at tr
  refine sH hAh I1.nolimit (by have:=hr.dp;omega) (isg oa) hgs (Φ:=λe s'=>e= .ret (.ok .next)/\Inv X' ((a,gob)::PP) (cR own σ capI) H s') ?_ ?_ ?_
  .rcases hgs' with e|⟨k,l,p,cl,e,ek⟩
   .subst e
    exact xJ (i:=i) T st tr
   .subst e
    show cM _ _ _ (k (.send .none)) [] _ _
    rw[ek]
    exact cM.again rfl tr
  .rintro e s' ⟨rfl,_⟩
   rfl
  .rintro e s' ⟨rfl,I'⟩
   right
   obtain⟨oa',gr',mk⟩:=hSS (i:=i) hQ I'
   exact⟨rfl,λh' hk=>⟨rfl,mk .finished h' s'.toks rfl hk⟩⟩
 .
  rintro PP i H s h' tk ⟨hQ,I1,hgs,Ib,st,fr⟩ hk
  exact⟨hQ,I1.kept hk,hgs,Ib.kept (s:=s.setGen gi .running) hk,T.keep _ _ _ st λb _ o e=>hk b o e,fr⟩
 .
  rintro PP i H s D o ⟨hQ,I1,hgs,Ib,st,fr⟩ hD ho hn hcell
  have hDa:a<D:=hD
  have hD4:s4.heap.objs.size<=D:=Nat.le_of_lt (Nat.lt_of_le_of_lt hCs (Nat.lt_trans hCa hDa))
  refine⟨λp hp=>?_,?_,hgs,?_,st,fr⟩
  .rcases Zi.mp hp with z|z
   .subst z;exact hDa
   .exact hQ p z
  .refine I1.pins_of λp hp=>?_
   rcases Zm.mp hp with z|z
   .exact I1.pin p (by simp[z])
   .rcases Zi.mp z with z|z
    .subst z
     exact⟨ho,hn,λz=>absurd I4.lt (by rw[<-z];exact Nat.not_lt.mpr hD4),I4.nofs hD4,hcell⟩
    .exact I1.pin p (by simp[z])
  .refine Ib.pins_of λp hp=>?_
   rcases Zi.mp hp with z|z
   .exact Ib.pin p (by simp[z])
   .rcases Zi.mp z with z|z
    .subst z
     refine⟨ho,hn,by rw[eL];exact Nat.ne_of_gt (Nat.lt_trans hCa hDa),λhz=>?_,hcell⟩
     rw[eFs]at hz
     rcases Zi.mp (I4.stkSub D hz)with z|z
     .exact absurd I4.lt (by rw[<-z];exact Nat.not_lt.mpr hD4)
     .exact I4.nofs hD4 z
    .exact Ib.pin p (by simp[z])
 .
  rintro p PP i H s ⟨hQ,I1,hgs,Ib,st,fr⟩
  exact⟨λq hq=>hQ q (List.mem_cons_of_mem _ hq),I1.pins_of λq hq=>I1.pin q (by rcases Zm.mp hq with z|z<;>simp[z]),hgs,Ib.pins_of λq hq=>Ib.pin q (by rcases Zi.mp hq with z|z<;>simp[z]),st,fr⟩
 .
  rintro PP i H s h' tk D ⟨hQ,I1,hgs,Ib,st,fr⟩ hD hn hPD hk
  have hDa:a<D:=hD
  have hDC:C<D:=Nat.lt_trans hCa hDa
  have hD4:s4.heap.objs.size<=D:=Nat.le_of_lt (Nat.lt_of_le_of_lt hCs hDC)
  have l4:∀b,b<s4.heap.objs.size->b≠D:=λb hb=>Zk (Zc hb hD4)
  have cl4:∀x c,X.env.cells.lookup x=some c->c≠D:=λx c e=>let⟨v,q⟩:=I4.cell x c e;l4 c q.lt
  refine⟨hQ,I1.turned hk hn (Ne.symm (l4 _ I4.lt)) (.inr (Zl I4.sz hD4)) cl4 (λp hp=>?_),hgs,Ib.turned (s:=s.setGen gi .running) hk hn (by rw[eL];exact Nat.ne_of_gt hDC) (.inr (by rw[eS];exact hD4)) (λx c e=>?_) (λp hp=>?_),T.keep _ _ _ st λb hb o e=>hk b o ?_ e,fr⟩
  .rcases Zm.mp hp with z|z
   .exact l4 _ (Ze (I4.pin p (by simp[z])).1)
   .rcases Zm.mp z with z|z
    .exact l4 _ (Ze (I4.pin p (by simp[z])).1)
    .exact hPD p z
  .obtain⟨v,q⟩:=Ib.cell x c e
   have e':(cz X.env scope.names []).lookup x=some c:=by rw[<-hX']at e;exact e
   exact cl4 x c ((lV (Zt e')).elim (λz=>by simp at z) id)
  .rw[ePn,List.nil_append]at hp
   rcases Zi.mp hp with z|z
   .subst z;exact Zk hDa
   .exact hPD p z
  .obtain⟨o',e'⟩:=o4 b hb
   exact l4 b (Ze e')
 .
  have Ib0:Inv X' [] (cR own σ capI) H4 { s4 with heap:=h6,toks:=s4.toks+1+1+1,gens:=s4.gens.push .running}:=by
   rw[<-hX']
   refine I4.gen B hown hnc f4 o4 k46 hCs (hn5.at' λo e=>k6 _ o e) ?_ hAh
   rw[hcenv]
   exact zX hAf
  refine⟨λp hp=>absurd hp (by simp),by rw[List.append_nil];exact(I4.grown k46 gk6:Inv X pins σ H4 _),⟨_,gi6,rfl,.inl (by rw[eE])⟩,?_,T.keep _ _ _ st4 λb _ o e=>k46 b o e,hfr4⟩
  have e1:(Shared.setGen { s4 with gens:=s4.gens.push (.fresh (genS elt tg iter scope pos it cenv)),toks:=s4.toks+1+1+1,heap:=h6} gi .running)={ s4 with heap:=h6,toks:=s4.toks+1+1+1,gens:=s4.gens.push .running}:=by
   show Shared.mk _ ((s4.gens.push _).setIfInBounds gi .running) _ _ _=_
   congr 1
   rw[<-hgi]
   apply Array.ext_getElem?
   intro j
   by_cases hj:s4.gens.size=j
   .subst hj;simp
   .simp[hj,Array.getElem?_push,Ne.symm hj]
  rw[e1]
  exact Ib0.pins_of λp hp=>by
   obtain rfl:p=(a,gob):=by simpa using hp
   refine⟨oa6,?_,by rw[eL];exact Nat.ne_of_gt hCa,afs,λv z=>?_⟩
   .exact I4.hok.fresh (Zl hCs (Nat.le_of_lt hCa))
   .rw[<-hgo]at z;cases z
 .show a+1<=h6.objs.size
  rw[<-hh6,Heap.size_push,ha]
  exact Zg _
end
end L2
namespace L3
open PySem PySem.Spec PyProof.Rows L2
inductive D where
 |non|bl (b:Bool)|int (i:Int)|str (x:Str)|tup (ds:List D)|lst (ds:List D)|ro (ds:List D)|dic (kvs:List (Key×D))|cell (n:Nat)
abbrev Mu:=List (Option (List D))
abbrev En:=List (Option D)
mutual
def bA(K:PySem.W.Frag)(F:Hp)(ad:List Addr):D->V->Prop
 | .non,v=>v= .non
 | .bl b,v=>v= .bl b
 | .int i,v=>v= .int i
 | .str x,v=>v= .str x
 | .tup ds,v=>∃a xs,v= .ref a/\SqT K F a xs/\aD K F ad ds xs
 | .lst ds,v=>∃a xs,v= .ref a/\F a=some (.lst xs)/\aD K F ad ds xs
 | .ro ds,v=>∃a xs,v= .ref a/\SqL K F a xs/\aD K F ad ds xs
 | .dic kvs,v=>∃a ps,v= .ref a/\F a=some (.dK ps)/\jB K F ad kvs ps
 | .cell n,v=>∃a,v= .ref a/\ad[n]? =some a
def aD(K:PySem.W.Frag)(F:Hp)(ad:List Addr):List D->List V->Prop
 | [],vs=>vs=[]
 |d::ds,vs=>∃u us,vs=u::us/\bA K F ad d u/\aD K F ad ds us
def jB(K:PySem.W.Frag)(F:Hp)(ad:List Addr):List (Key×D)->List (Key×V)->Prop
 | [],vs=>vs=[]
 |p::ds,vs=>∃u us,vs=u::us/\(u.1=p.1/\bA K F ad p.2 u.2)/\jB K F ad ds us
end
def pq(a b:List Addr):Prop:=∀(i:Nat) x,a[i]? =some x->b[i]? =some x
theorem pq.refl(a:List Addr):pq a a:=λ_ _ e=>e
theorem pq.trans{a b c:List Addr}(x:pq a b)(y:pq b c):pq a c:=λi z e=>y i z (x i z e)
theorem SqT.mono{K:PySem.W.Frag}{F F':Hp}{a:Addr}{xs:List V}(s:mZ F F')(h:SqT K F a xs):SqT K F' a xs:=by
 rcases h with(h|⟨o,h⟩)|h
 .exact .inl (.inl (s _ _ h))
 .exact .inl (.inr ⟨o,s _ _ h⟩)
 .exact .inr h
theorem SqL.mono{K:PySem.W.Frag}{F F':Hp}{a:Addr}{xs:List V}(s:mZ F F')(h:SqL K F a xs):SqL K F' a xs:=by
 rcases h with(h|⟨o,h⟩)|h
 .exact .inl (.inl (s _ _ h))
 .exact .inl (.inr ⟨o,s _ _ h⟩)
 .exact .inr h
section
variable {K:PySem.W.Frag} {F F':Hp} {ad ad':List Addr}
mutual
theorem bA.mono(s:mZ F F')(l:pq ad ad'):∀(d:D)(v:V),bA K F ad d v->bA K F' ad' d v
 | .non,v,h=>by unfold bA at h ⊢;exact h
 | .bl _,v,h=>by unfold bA at h ⊢;exact h
 | .int _,v,h=>by unfold bA at h ⊢;exact h
 | .str _,v,h=>by unfold bA at h ⊢;exact h
 | .tup ds,v,h=>by
  unfold bA at h ⊢
  obtain⟨a,xs,e,q,r⟩:=h
  exact⟨a,xs,e,SqT.mono s q,aD.mono s l ds xs r⟩
 | .lst ds,v,h=>by
  unfold bA at h ⊢
  obtain⟨a,xs,e,q,r⟩:=h
  exact⟨a,xs,e,s _ _ q,aD.mono s l ds xs r⟩
 | .ro ds,v,h=>by
  unfold bA at h ⊢
  obtain⟨a,xs,e,q,r⟩:=h
  exact⟨a,xs,e,SqL.mono s q,aD.mono s l ds xs r⟩
 | .dic kvs,v,h=>by
  unfold bA at h ⊢
  obtain⟨a,ps,e,q,r⟩:=h
  exact⟨a,ps,e,s _ _ q,jB.mono s l kvs ps r⟩
 | .cell n,v,h=>by
  unfold bA at h ⊢
  obtain⟨a,e,q⟩:=h
  exact⟨a,e,l _ _ q⟩
theorem aD.mono(s:mZ F F')(l:pq ad ad'):∀(ds:List D)(vs:List V),aD K F ad ds vs->aD K F' ad' ds vs
 | [],vs,h=>by unfold aD at h ⊢;exact h
 |d::ds,vs,h=>by
  unfold aD at h ⊢
  obtain⟨u,us,e,p,r⟩:=h
  exact⟨u,us,e,bA.mono s l d u p,aD.mono s l ds us r⟩
theorem jB.mono(s:mZ F F')(l:pq ad ad'):∀(ds:List (Key×D))(vs:List (Key×V)),jB K F ad ds vs->jB K F' ad' ds vs
 | [],vs,h=>by unfold jB at h ⊢;exact h
 |p::ds,vs,h=>by
  unfold jB at h ⊢
  obtain⟨u,us,e,⟨p1,p2⟩,r⟩:=h
  exact⟨u,us,e,⟨p1,bA.mono s l p.2 u.2 p2⟩,jB.mono s l ds us r⟩
end
theorem aD.nil:aD K F ad [] []:=by unfold aD;rfl
theorem aD.cons{d:D}{v:V}{ds:List D}{vs:List V}(h:bA K F ad d v)(r:aD K F ad ds vs):aD K F ad (d::ds) (v::vs):=by unfold aD;exact⟨v,vs,rfl,h,r⟩
theorem aD.length:∀{ds:List D}{vs:List V},aD K F ad ds vs->ds.length=vs.length
 | [],vs,h=>by unfold aD at h;subst h;rfl
 |d::ds,vs,h=>by
  unfold aD at h
  obtain⟨u,us,rfl,_,r⟩:=h
  rw[List.length_cons,List.length_cons,aD.length r]
theorem aD.get:∀{ds:List D}{vs:List V}{i:Nat}{d:D},aD K F ad ds vs->ds[i]? =some d->∃v,vs[i]? =some v/\bA K F ad d v
 | [],_,_,_,_,e=>by simp at e
 |d::ds,vs,0,x,h,e=>by
  unfold aD at h
  obtain⟨u,us,rfl,p,r⟩:=h
  simp at e;subst e
  exact⟨u,rfl,p⟩
 |d::ds,vs,i+1,x,h,e=>by
  unfold aD at h
  obtain⟨u,us,rfl,p,r⟩:=h
  obtain⟨v,e1,e2⟩:=aD.get (i:=i) r (by simpa using e)
  exact⟨v,by simpa using e1,e2⟩
theorem aD.get':∀{ds:List D}{vs:List V}{i:Nat}{v:V},aD K F ad ds vs->vs[i]? =some v->∃d,ds[i]? =some d/\bA K F ad d v
 | [],vs,i,v,h,e=>by unfold aD at h;subst h;simp at e
 |d::ds,vs,0,x,h,e=>by
  unfold aD at h
  obtain⟨u,us,rfl,p,r⟩:=h
  simp at e;subst e
  exact⟨d,rfl,p⟩
 |d::ds,vs,i+1,x,h,e=>by
  unfold aD at h
  obtain⟨u,us,rfl,p,r⟩:=h
  obtain⟨y,e1,e2⟩:=aD.get' (i:=i) r (by simpa using e)
  exact⟨y,by simpa using e1,e2⟩
theorem aD.append:∀{ds es:List D}{vs us:List V},aD K F ad ds vs->aD K F ad es us->aD K F ad (ds++es) (vs++us)
 | [],es,vs,us,h,r=>by unfold aD at h;subst h;exact r
 |d::ds,es,vs,us,h,r=>by
  unfold aD at h
  obtain⟨u,ws,rfl,p,q⟩:=h
  exact aD.cons p (aD.append q r)
theorem aD.drop:∀{ds:List D}{vs:List V}(n:Nat),aD K F ad ds vs->aD K F ad (ds.drop n) (vs.drop n)
 |ds,vs,0,h=>h
 | [],vs,n+1,h=>by unfold aD at h;subst h;exact aD.nil
 |d::ds,vs,n+1,h=>by
  unfold aD at h
  obtain⟨u,ws,rfl,p,q⟩:=h
  exact aD.drop n q
theorem aD.take:∀{ds:List D}{vs:List V}(n:Nat),aD K F ad ds vs->aD K F ad (ds.take n) (vs.take n)
 |ds,vs,0,h=>aD.nil
 | [],vs,n+1,h=>by unfold aD at h;subst h;exact aD.nil
 |d::ds,vs,n+1,h=>by
  unfold aD at h
  obtain⟨u,ws,rfl,p,q⟩:=h
  exact aD.cons p (aD.take n q)
theorem aD.two{d e:D}{vs:List V}(h:aD K F ad [d,e] vs):∃u v,vs=[u,v]/\bA K F ad d u/\bA K F ad e v:=by
 unfold aD at h
 obtain⟨u,us,rfl,p,h⟩:=h
 unfold aD at h
 obtain⟨v,ws,rfl,q,h⟩:=h
 unfold aD at h
 subst h
 exact⟨u,v,rfl,p,q⟩
theorem aD.one{d:D}{vs:List V}(h:aD K F ad [d] vs):∃u,vs=[u]/\bA K F ad d u:=by
 unfold aD at h
 obtain⟨u,us,rfl,p,h⟩:=h
 unfold aD at h
 subst h
 exact⟨u,rfl,p⟩
theorem aD.zero{vs:List V}(h:aD K F ad [] vs):vs=[]:=by unfold aD at h;exact h
end
structure Wd where
 H:Hp
 ad:List Addr
 mu:Mu
def nu(ad:List Addr)(mu:Mu)(b:Addr):Prop:=∃(i:Nat)(ds:List D),ad[i]? =some b/\mu[i]? =some (some ds)
open Classical in
noncomputable def Wd.fz(tb:List Addr)(W:Wd):Hp:=λb=>if nu W.ad W.mu b∨b∈tb then none else W.H b
abbrev Den(K:PySem.W.Frag)(tb:List Addr)(W:Wd):D->V->Prop:=bA K (W.fz tb) W.ad
abbrev cJ(K:PySem.W.Frag)(tb:List Addr)(W:Wd):List D->List V->Prop:=aD K (W.fz tb) W.ad
structure WOk(K:PySem.W.Frag)(tb:List Addr)(W:Wd):Prop where
 len:W.ad.length=W.mu.length
 cont:∀(i:Nat) a ds,W.ad[i]? =some a->W.mu[i]? =some (some ds)->∃xs,W.H a=some (.lst xs)/\cJ K tb W ds xs
 inj:∀(i j:Nat) a ds es,W.ad[i]? =some a->W.ad[j]? =some a->W.mu[i]? =some (some ds)->W.mu[j]? =some (some es)->i=j
 tab:∀P∈tb,∃ps,W.H P=some (.tbl ps)/\TOk W.H ps
structure Le(tb:List Addr)(W W':Wd):Prop where
 same:mZ (W.fz tb) (W'.fz tb)
 ad:pq W.ad W'.ad
theorem Le.refl{tb:List Addr}(W:Wd):Le tb W W:=⟨mZ.refl _,pq.refl _⟩
theorem Le.trans{tb:List Addr}{W W1 W2:Wd}(a:Le tb W W1)(b:Le tb W1 W2):Le tb W W2:=⟨a.same.trans b.same,a.ad.trans b.ad⟩
section
variable {K:PySem.W.Frag} {tb:List Addr} {W W':Wd} {d:D} {v:V} {ds:List D} {vs:List V}
theorem Den.mono'(h:Den K tb W d v)(l:Le tb W W'):Den K tb W' d v:=bA.mono l.same l.ad d v h
theorem cJ.mono'(h:cJ K tb W ds vs)(l:Le tb W W'):cJ K tb W' ds vs:=aD.mono l.same l.ad ds vs h
theorem dB{b:Addr}{o:HO}(h:W.fz tb b=some o):W.H b=some o/\¬nu W.ad W.mu b/\b∉tb:=by
 unfold Wd.fz at h
 split at h
 .cases h
 .rename_i q
  exact⟨h,λz=>q (.inl z),λz=>q (.inr z)⟩
theorem pH{b:Addr}(h1:¬nu W.ad W.mu b)(h2:b∉tb):W.fz tb b=W.H b:=by
 unfold Wd.fz
 rw[if_neg]
 rintro(z|z)
 .exact h1 z
 .exact h2 z
theorem SqT.fz{a:Addr}{xs:List V}(h:SqT K (W.fz tb) a xs):SqT K W.H a xs:=by
 rcases h with(h|⟨o,h⟩)|h
 .exact .inl (.inl (dB h).1)
 .exact .inl (.inr ⟨o,(dB h).1⟩)
 .exact .inr h
theorem SqL.fz{a:Addr}{xs:List V}(h:SqL K (W.fz tb) a xs):SqL K W.H a xs:=by
 rcases h with(h|⟨o,h⟩)|h
 .exact .inl (.inl (dB h).1)
 .exact .inl (.inr ⟨o,(dB h).1⟩)
 .exact .inr h
theorem WOk.live(ok:WOk K tb W){b:Addr}(h:nu W.ad W.mu b):∃xs,W.H b=some (.lst xs):=by
 obtain⟨i,ds,e1,e2⟩:=h
 obtain⟨xs,e,_⟩:=ok.cont i b ds e1 e2
 exact⟨xs,e⟩
theorem WOk.alloc(ok:WOk K tb W){p:Addr}{o:HO}(hp:W.H p=none):WOk K tb ⟨upd W.H p o,W.ad,W.mu⟩/\Le tb W ⟨upd W.H p o,W.ad,W.mu⟩/\(Wd.fz tb ⟨upd W.H p o,W.ad,W.mu⟩) p=some o:=by
 have nl:¬nu W.ad W.mu p:=λz=>by obtain⟨xs,e⟩:=ok.live z;rw[hp]at e;cases e
 have nt:p∉tb:=λz=>by obtain⟨ps,e,_⟩:=ok.tab p z;rw[hp]at e;cases e
 have le:Le tb W ⟨upd W.H p o,W.ad,W.mu⟩:=⟨λb u e=>by
  obtain⟨e1,e2,e3⟩:=dB e
  have hb:b≠p:=cQ e1 hp
  have q:=pH (tb:=tb) (W:=⟨upd W.H p o,W.ad,W.mu⟩) e2 e3
  rw[q]
  show upd W.H p o b=some u
  rw[aU hb];exact e1,pq.refl _⟩
 refine⟨⟨ok.len,λi a ds e1 e2=>?_,ok.inj,λP hP=>?_⟩,le,?_⟩
 .obtain⟨xs,e,r⟩:=ok.cont i a ds e1 e2
  refine⟨xs,?_,cJ.mono' r le⟩
  show upd W.H p o a=_
  rw[aU (cQ e hp)];exact e
 .obtain⟨ps,e,r⟩:=ok.tab P hP
  refine⟨ps,?_,r.mono λc u q=>(aU (cQ q hp)).trans q⟩
  show upd W.H p o P=_
  rw[aU (cQ e hp)];exact e
 .have q:=pH (tb:=tb) (W:=⟨upd W.H p o,W.ad,W.mu⟩) nl nt
  rw[q];exact cX
theorem WOk.new(ok:WOk K tb W){p:Addr}(hp:W.H p=none)(r:cJ K tb W ds vs):
  WOk K tb ⟨upd W.H p (.lst vs),W.ad++[p],W.mu++[some ds]⟩/\Le tb W ⟨upd W.H p (.lst vs),W.ad++[p],W.mu++[some ds]⟩/\Den K tb ⟨upd W.H p (.lst vs),W.ad++[p],W.mu++[some ds]⟩ (.cell W.mu.length) (.ref p):=by
 have adl:pq W.ad (W.ad++[p]):=λi x e=>by
  rw[Zs (Zh.mp e).1];exact e
 have lv:∀b,nu (W.ad++[p]) (W.mu++[some ds]) b->nu W.ad W.mu b∨b=p:=λb zq1=>by
  obtain⟨i,es,e1,e2⟩:=zq1
  by_cases hi:i<W.ad.length
  .rw[Zs hi]at e1
   rw[Zs (by rw[<-ok.len];exact hi)]at e2
   exact .inl ⟨i,es,e1,e2⟩
  .rw[List.getElem?_append_right (Nat.le_of_not_lt hi)]at e1
   right
   have:(i-W.ad.length)=0:=by
    have:=(Zh.mp e1).1
    simp at this
    omega
   rw[this]at e1
   simpa using e1.symm
 have le:Le tb W ⟨upd W.H p (.lst vs),W.ad++[p],W.mu++[some ds]⟩:=⟨λb u e=>by
  obtain⟨e1,e2,e3⟩:=dB e
  have hb:b≠p:=cQ e1 hp
  have q:=pH (tb:=tb) (W:=⟨upd W.H p (.lst vs),W.ad++[p],W.mu++[some ds]⟩) (b:=b) (λz=>(lv b z).elim e2 hb) e3
  rw[q]
  show upd W.H p (.lst vs) b=some u
  rw[aU hb];exact e1,adl⟩
 refine⟨⟨by simp[ok.len],λi a es e1 e2=>?_,λi j a es fs e1 e2 e3 e4=>?_,λP hP=>?_⟩,le,?_⟩
 .by_cases hi:i<W.ad.length
  .have e1':W.ad[i]? =some a:=by rw[<-Zs (l₂:=[p]) hi];exact e1
   have e2':W.mu[i]? =some (some es):=by rw[<-Zs (l₂:=[some ds]) (by rw[<-ok.len];exact hi)];exact e2
   obtain⟨xs,e,q⟩:=ok.cont i a es e1' e2'
   refine⟨xs,?_,cJ.mono' q le⟩
   show upd W.H p (.lst vs) a=_
   rw[aU (cQ e hp)];exact e
  .have h0:i=W.ad.length:=by
    have h1:i<(W.ad++[p]).length:=(Zh.mp e1).1
    simp at h1
    omega
   have e1':(W.ad++[p])[i]? =some a:=e1
   have e2':(W.mu++[some ds])[i]? =some (some es):=e2
   rw[h0]at e1' e2'
   rw[ok.len]at e2'
   simp at e1' e2'
   subst e1' e2'
   exact⟨vs,cX,cJ.mono' r le⟩
 .have old:∀(k:Nat) es,(W.ad++[p])[k]? =some a->(W.mu++[some ds])[k]? =some (some es)->(k<W.ad.length/\W.ad[k]? =some a/\W.mu[k]? =some (some es))∨(k=W.ad.length/\a=p):=λk es q1 q2=>by
   by_cases hk:k<W.ad.length
   .left
    refine⟨hk,?_,?_⟩
    .rw[<-Zs (l₂:=[p]) hk];exact q1
    .rw[<-Zs (l₂:=[some ds]) (by rw[<-ok.len];exact hk)];exact q2
   .right
    have h1:k<(W.ad++[p]).length:=(Zh.mp q1).1
    simp at h1
    have h0:k=W.ad.length:=by omega
    subst h0
    simp at q1
    exact⟨rfl,q1.symm⟩
  rcases old i es e1 e3 with⟨_,a1,a2⟩|⟨a1,a2⟩<;>rcases old j fs e2 e4 with⟨_,b1,b2⟩|⟨b1,b2⟩
  .exact ok.inj i j a es fs a1 b1 a2 b2
  .obtain⟨xs,e,_⟩:=ok.cont i a es a1 a2
   rw[b2,hp]at e;cases e
  .obtain⟨xs,e,_⟩:=ok.cont j a fs b1 b2
   rw[a2,hp]at e;cases e
  .rw[a1,b1]
 .obtain⟨ps,e,q⟩:=ok.tab P hP
  refine⟨ps,?_,q.mono λc u q=>(aU (cQ q hp)).trans q⟩
  show upd W.H p (.lst vs) P=_
  rw[aU (cQ e hp)];exact e
 .show bA K _ _ (.cell W.mu.length) (.ref p)
  unfold bA
  refine⟨p,rfl,?_⟩
  rw[<-ok.len]
  simp
theorem WOk.write(ok:WOk K tb W){i:Nat}{a:Addr}{es:List D}(e1:W.ad[i]? =some a)(e2:W.mu[i]? =some (some es))(r:cJ K tb W ds vs):
  WOk K tb ⟨upd W.H a (.lst vs),W.ad,W.mu.set i (some ds)⟩/\Le tb W ⟨upd W.H a (.lst vs),W.ad,W.mu.set i (some ds)⟩:=by
 have hi:i<W.mu.length:=(Zh.mp e2).1
 have lv:∀b,nu W.ad (W.mu.set i (some ds)) b->nu W.ad W.mu b:=λb zq2=>by
  obtain⟨j,fs,q1,q2⟩:=zq2
  by_cases hj:i=j
  .subst hj;exact⟨i,es,q1,e2⟩
  .rw[List.getElem?_set_ne hj]at q2;exact⟨j,fs,q1,q2⟩
 have la:nu W.ad W.mu a:=⟨i,es,e1,e2⟩
 have le:Le tb W ⟨upd W.H a (.lst vs),W.ad,W.mu.set i (some ds)⟩:=⟨λb u e=>by
  obtain⟨p1,p2,p3⟩:=dB e
  have hb:b≠a:=λz=>p2 (z▸la)
  have q:=pH (tb:=tb) (W:=⟨upd W.H a (.lst vs),W.ad,W.mu.set i (some ds)⟩) (b:=b) (λz=>p2 (lv b z)) p3
  rw[q]
  show upd W.H a (.lst vs) b=some u
  rw[aU hb];exact p1,pq.refl _⟩
 refine⟨⟨by show W.ad.length=(W.mu.set i (some ds)).length;rw[List.length_set];exact ok.len,λj b fs q1 q2=>?_,λj k b fs gs q1 q2 q3 q4=>?_,λP hP=>?_⟩,le⟩
 .have q2':(W.mu.set i (some ds))[j]? =some (some fs):=q2
  by_cases hj:i=j
  .subst hj
   have q1':W.ad[i]? =some b:=q1
   rw[e1]at q1';cases q1'
   rw[List.getElem?_set_self hi]at q2'
   cases q2'
   exact⟨vs,cX,cJ.mono' r le⟩
  .rw[List.getElem?_set_ne hj]at q2'
   obtain⟨xs,e,q⟩:=ok.cont j b fs q1 q2'
   refine⟨xs,?_,cJ.mono' q le⟩
   show upd W.H a (.lst vs) b=_
   have hba:b≠a:=by
    intro z
    subst z
    exact hj (ok.inj i j b es fs e1 q1 e2 q2')
   rw[aU hba];exact e
 .have up:∀(j:Nat) fs,(W.mu.set i (some ds))[j]? =some (some fs)->∃gs,W.mu[j]? =some (some gs):=λj fs q=>by
   by_cases hj:i=j
   .subst hj;exact⟨es,e2⟩
   .rw[List.getElem?_set_ne hj]at q;exact⟨fs,q⟩
  obtain⟨fs',q3'⟩:=up j fs q3
  obtain⟨gs',q4'⟩:=up k gs q4
  exact ok.inj j k b fs' gs' q1 q2 q3' q4'
 .obtain⟨ps,e,q⟩:=ok.tab P hP
  obtain⟨xs,ea,_⟩:=ok.cont i a es e1 e2
  refine⟨ps,?_,q.mono λc u q=>(aU (zP q ea (by intro z;cases z))).trans q⟩
  show upd W.H a (.lst vs) P=_
  rw[aU (zP e ea (by intro z;cases z))];exact e
theorem WOk.freeze(ok:WOk K tb W){i:Nat}{a:Addr}{es:List D}(e1:W.ad[i]? =some a)(e2:W.mu[i]? =some (some es)):
  WOk K tb ⟨W.H,W.ad,W.mu.set i none⟩/\Le tb W ⟨W.H,W.ad,W.mu.set i none⟩/\Den K tb ⟨W.H,W.ad,W.mu.set i none⟩ (.lst es) (.ref a):=by
 have hi:i<W.mu.length:=(Zh.mp e2).1
 have up:∀(j:Nat) fs,(W.mu.set i none)[j]? =some (some fs)->i≠j/\W.mu[j]? =some (some fs):=λj fs q=>by
  by_cases hj:i=j
  .subst hj;rw[List.getElem?_set_self hi]at q;cases q
  .rw[List.getElem?_set_ne hj]at q;exact⟨hj,q⟩
 have lv:∀b,nu W.ad (W.mu.set i none) b->nu W.ad W.mu b:=λb ⟨j,fs,q1,q2⟩=>⟨j,fs,q1,(up j fs q2).2⟩
 have le:Le tb W ⟨W.H,W.ad,W.mu.set i none⟩:=⟨λb u e=>by
  obtain⟨p1,p2,p3⟩:=dB e
  have q:=pH (tb:=tb) (W:=⟨W.H,W.ad,W.mu.set i none⟩) (b:=b) (λz=>p2 (lv b z)) p3
  rw[q];exact p1,pq.refl _⟩
 obtain⟨xs,ea,ra⟩:=ok.cont i a es e1 e2
 refine⟨⟨by show W.ad.length=(W.mu.set i none).length;rw[List.length_set];exact ok.len,λj b fs q1 q2=>?_,λj k b fs gs q1 q2 q3 q4=>?_,ok.tab⟩,le,?_⟩
 .obtain⟨xs,e,q⟩:=ok.cont j b fs q1 (up j fs q2).2
  exact⟨xs,e,cJ.mono' q le⟩
 .exact ok.inj j k b fs gs q1 q2 (up j fs q3).2 (up k gs q4).2
 .show bA K _ _ (.lst es) (.ref a)
  unfold bA
  refine⟨a,xs,rfl,?_,cJ.mono' ra le⟩
  have nl:¬nu W.ad (W.mu.set i none) a:=λzq3=>by
   obtain⟨j,fs,q1,q2⟩:=zq3
   obtain⟨hj,q⟩:=up j fs q2
   exact hj (ok.inj i j a es fs e1 q1 e2 q)
  have nt:a∉tb:=λz=>by
   obtain⟨ps,e,_⟩:=ok.tab a z
   rw[ea]at e;cases e
  have q:=pH (tb:=tb) (W:=⟨W.H,W.ad,W.mu.set i none⟩) nl nt
  rw[q];exact ea
theorem WOk.tbl(ok:WOk K tb W){P:Addr}{lo:Nat}{ps ps':Array Value}{H':Hp}(hP:P∈tb)(e:W.H P=some (.tbl ps))(hG:Dm lo P ps ps' W.H H'):
  WOk K tb ⟨H',W.ad,W.mu⟩/\Le tb W ⟨H',W.ad,W.mu⟩:=by
 have le:Le tb W ⟨H',W.ad,W.mu⟩:=⟨λb u q=>by
  obtain⟨p1,p2,p3⟩:=dB q
  have q:=pH (tb:=tb) (W:=⟨H',W.ad,W.mu⟩) (b:=b) p2 p3
  rw[q]
  exact hG.keep b u (λz=>p3 (z▸hP)) p1,pq.refl _⟩
 refine⟨⟨ok.len,λi a ds e1 e2=>?_,ok.inj,λQ hQ=>?_⟩,le⟩
 .obtain⟨xs,ea,r⟩:=ok.cont i a ds e1 e2
  exact⟨xs,hG.keep a _ (zP ea e (by intro z;cases z)) ea,cJ.mono' r le⟩
 .by_cases hq:Q=P
  .subst hq;exact⟨ps',hG.tab,hG.ok⟩
  .obtain⟨qs,e',r⟩:=ok.tab Q hQ
   exact⟨qs,hG.keep Q _ hq e',r.mono λc u q=>hG.keep c _ (zP q e (by intro z;cases z)) q⟩
end
abbrev SV:=L2.St
abbrev EF:=En->Mu->Option (D×Mu)
abbrev AF:=En->Mu->Option (List D×Mu)
abbrev TF:=En->Mu->Option (Bool×Mu)
inductive Fl where
 |nx|bk|ct|rt (d:D)
abbrev SF:=En->Mu->Option (Fl×En×Mu)
def jH(K:PySem.W.Frag)(tb:List Addr)(W:Wd)(δ:En)(σ:SV):Prop:=δ.length=σ.length/\∀(i:Nat) d,δ[i]? =some (some d)->∃v,σ[i]? =some (some v)/\Den K tb W d v
section
variable {K:PySem.W.Frag} {tb:List Addr} {W W':Wd} {δ:En} {σ:SV}
theorem jH.mono'(h:jH K tb W δ σ)(l:Le tb W W'):jH K tb W' δ σ:=⟨h.1,λi d e=>let⟨v,e1,e2⟩:=h.2 i d e;⟨v,e1,Den.mono' e2 l⟩⟩
theorem jH.set(h:jH K tb W δ σ){i:Nat}{d:D}{v:V}(r:Den K tb W d v):jH K tb W (δ.set i (some d)) (σ.set i (some v)):=by
 refine⟨by rw[List.length_set,List.length_set];exact h.1,λj e q=>?_⟩
 by_cases hj:i=j
 .subst hj
  have hi:i<δ.length:=by
   have:=(Zh.mp q).1
   rwa[List.length_set]at this
  rw[List.getElem?_set_self hi]at q
  cases q
  exact⟨v,by rw[List.getElem?_set_self (by rw[<-h.1];exact hi)],r⟩
 .rw[List.getElem?_set_ne hj]at q ⊢
  exact h.2 j e q
end
def tD(K:PySem.W.Frag)(tb:List Addr)(f:EF):TE:=λσ H Q=>∃W δ d μ',W.H=H/\WOk K tb W/\jH K tb W δ σ/\f δ W.mu=some (d,μ')/\
 ∀v W',WOk K tb W'->Le tb W W'->W'.mu=μ'->Den K tb W' d v->Q v W'.H
def tDA(K:PySem.W.Frag)(tb:List Addr)(f:AF):TA:=λσ H Q=>∃W δ ds μ',W.H=H/\WOk K tb W/\jH K tb W δ σ/\f δ W.mu=some (ds,μ')/\
 ∀vs W',WOk K tb W'->Le tb W W'->W'.mu=μ'->cJ K tb W' ds vs->Q vs W'.H
def tDT(K:PySem.W.Frag)(tb:List Addr)(f:TF):TT:=λσ H Q=>∃W δ b μ',W.H=H/\WOk K tb W/\jH K tb W δ σ/\f δ W.mu=some (b,μ')/\
 ∀W',WOk K tb W'->Le tb W W'->W'.mu=μ'->Q b W'.H
def EndD(K:PySem.W.Frag)(tb:List Addr)(E:Ends)(fl:Fl)(σ:SV)(W:Wd):Prop:=match fl with
 | .nx=>E.nx σ W.H
 | .bk=>E.bk σ W.H
 | .ct=>E.ct σ W.H
 | .rt d=>∀v,Den K tb W d v->E.rt v W.H
def tDS(K:PySem.W.Frag)(tb:List Addr)(g:SF):TS:=λE σ H=>∃W δ fl δ' μ',W.H=H/\WOk K tb W/\jH K tb W δ σ/\g δ W.mu=some (fl,δ',μ')/\
 ∀σ' W',WOk K tb W'->Le tb W W'->W'.mu=μ'->jH K tb W' δ' σ'->EndD K tb E fl σ' W'
def PD(X:Cx)(tb:List Addr)(e:Expr)(f:EF):Prop:=PE X e (tD X.K tb f)
def PAD(X:Cx)(tb:List Addr)(es:List Expr)(f:AF):Prop:=PA X es (tDA X.K tb f)
def PTD(X:Cx)(tb:List Addr)(e:Expr)(f:TF):Prop:=PT X e (tDT X.K tb f)
def PWD(X:Cx)(tb:List Addr)(e:Expr)(f:TF):Prop:=PW X e (tDT X.K tb f)
def PSD(X:Cx)(tb:List Addr)(st:Stmt)(g:SF):Prop:=PS X st (tDS X.K tb g)
def ww(X:Cx)(tb:List Addr)(st:List Stmt)(g:SF):Prop:=PSs X st (tDS X.K tb g)
theorem dO{X:Cx}{e:Expr}{t t':TE}(h:PE X e t)(k:∀σ H Q,t' σ H Q->t σ H Q):PE X e t':=λpins s σ H Q I hq=>h pins s σ H Q I (k σ H Q hq)
theorem Pa{X:Cx}{e:List Expr}{t t':TA}(h:PA X e t)(k:∀σ H Q,t' σ H Q->t σ H Q):PA X e t':=λpos pins s σ H Q I hq=>h pos pins s σ H Q I (k σ H Q hq)
theorem Jv{X:Cx}{e:Expr}{t t':TT}(h:PT X e t)(k:∀σ H Q,t' σ H Q->t σ H Q):PT X e t':=λpins s σ H Q I hq=>h pins s σ H Q I (k σ H Q hq)
theorem Ow{X:Cx}{e:Expr}{t t':TT}(h:PW X e t)(k:∀σ H Q,t' σ H Q->t σ H Q):PW X e t':=λwh pins s σ H Q I hq=>h wh pins s σ H Q I (k σ H Q hq)
theorem mR{X:Cx}{e:Stmt}{t t':TS}(h:PS X e t)(k:∀E σ H,t' E σ H->t E σ H):PS X e t':=λpins s σ H E I hq=>h pins s σ H E I (k E σ H hq)
theorem Hw{X:Cx}{e:List Stmt}{t t':TS}(h:PSs X e t)(k:∀E σ H,t' E σ H->t E σ H):PSs X e t':=λpins s σ H E I hq=>h pins s σ H E I (k E σ H hq)
def aq(i:Nat):EF:=λδ μ=>match δ[i]? with
 |some (some d)=>some (d,μ)
 |_=>none
def mC(d:D):EF:=λ_ μ=>some (d,μ)
def M1(fa:EF)(op:D->Mu->Option (D×Mu)):EF:=λδ μ=>(fa δ μ).bind λr=>op r.1 r.2
def M2(fa fb:EF)(op:D->D->Mu->Option (D×Mu)):EF:=λδ μ=>(fa δ μ).bind λr=>(fb δ r.2).bind λq=>op r.1 q.1 q.2
def aC:AF:=λ_ μ=>some ([],μ)
def ao(f:EF)(fs:AF):AF:=λδ μ=>(f δ μ).bind λr=>(fs δ r.2).bind λq=>some (r.1::q.1,q.2)
def MC(fs:AF)(op:List D->Mu->Option (D×Mu)):EF:=λδ μ=>(fs δ μ).bind λr=>op r.1 r.2
def RD1(K:PySem.W.Frag)(tb:List Addr)(r:V->Hp->VK->Prop)(op:D->Mu->Option (D×Mu)):Prop:=∀(W:Wd)(x:D)(v:V)(d:D)(μ':Mu)(Q:VK),WOk K tb W->Den K tb W x v->op x W.mu=some (d,μ')->
 (∀v W',WOk K tb W'->Le tb W W'->W'.mu=μ'->Den K tb W' d v->Q v W'.H)->r v W.H Q
def RD2(K:PySem.W.Frag)(tb:List Addr)(r:R2)(op:D->D->Mu->Option (D×Mu)):Prop:=∀(W:Wd)(x y:D)(v u:V)(d:D)(μ':Mu)(Q:VK),WOk K tb W->Den K tb W x v->Den K tb W y u->op x y W.mu=some (d,μ')->
 (∀v W',WOk K tb W'->Le tb W W'->W'.mu=μ'->Den K tb W' d v->Q v W'.H)->r v u W.H Q
def RDN(K:PySem.W.Frag)(tb:List Addr)(r:List V->Hp->VK->Prop)(op:List D->Mu->Option (D×Mu)):Prop:=∀(W:Wd)(xs:List D)(vs:List V)(d:D)(μ':Mu)(Q:VK),WOk K tb W->cJ K tb W xs vs->op xs W.mu=some (d,μ')->
 (∀v W',WOk K tb W'->Le tb W W'->W'.mu=μ'->Den K tb W' d v->Q v W'.H)->r vs W.H Q
section
variable {K:PySem.W.Frag} {tb:List Addr}
theorem put{W:Wd}{Q:VK}{d:D}{v:V}(ok:WOk K tb W)(h:∀v W',WOk K tb W'->Le tb W W'->W'.mu=W.mu->Den K tb W' d v->Q v W'.H)(r:Den K tb W d v):Q v W.H:=h v W ok (Le.refl _) rfl r
theorem eN{W:Wd}{i:Int}:Den K tb W (.int i) (.int i):=by show bA _ _ _ _ _;unfold bA;rfl
theorem gn{W:Wd}{b:Bool}:Den K tb W (.bl b) (.bl b):=by show bA _ _ _ _ _;unfold bA;rfl
theorem tZ{W:Wd}:Den K tb W .non .non:=by show bA _ _ _ _ _;unfold bA;rfl
theorem KC{W:Wd}{x:Str}:Den K tb W (.str x) (.str x):=by show bA _ _ _ _ _;unfold bA;rfl
theorem bx{W:Wd}{i:Int}{v:V}(h:Den K tb W (.int i) v):v= .int i:=by have h:bA _ _ _ _ _:=h;unfold bA at h;exact h
theorem kJ{W:Wd}{b:Bool}{v:V}(h:Den K tb W (.bl b) v):v= .bl b:=by have h:bA _ _ _ _ _:=h;unfold bA at h;exact h
theorem pR{W:Wd}{v:V}(h:Den K tb W .non v):v= .non:=by have h:bA _ _ _ _ _:=h;unfold bA at h;exact h
theorem lZ{W:Wd}{x:Str}{v:V}(h:Den K tb W (.str x) v):v= .str x:=by have h:bA _ _ _ _ _:=h;unfold bA at h;exact h
theorem jK{W:Wd}{ds:List D}{v:V}(h:Den K tb W (.tup ds) v):∃a xs,v= .ref a/\SqT K (W.fz tb) a xs/\cJ K tb W ds xs:=by have h:bA _ _ _ _ _:=h;unfold bA at h;exact h
theorem oW{W:Wd}{ds:List D}{v:V}(h:Den K tb W (.lst ds) v):∃a xs,v= .ref a/\W.fz tb a=some (.lst xs)/\cJ K tb W ds xs:=by have h:bA _ _ _ _ _:=h;unfold bA at h;exact h
theorem mL{W:Wd}{ds:List D}{v:V}(h:Den K tb W (.lst ds) v):∃a xs,v= .ref a/\SqL K (W.fz tb) a xs/\cJ K tb W ds xs:=let⟨a,xs,e,q,r⟩:=oW h;⟨a,xs,e,SqL.of q,r⟩
theorem xF{W:Wd}{ds:List D}{v:V}(h:Den K tb W (.ro ds) v):∃a xs,v= .ref a/\SqL K (W.fz tb) a xs/\cJ K tb W ds xs:=by have h:bA _ _ _ _ _:=h;unfold bA at h;exact h
theorem Qw{W:Wd}{kvs:List (Key×D)}{v:V}(h:Den K tb W (.dic kvs) v):∃a ps,v= .ref a/\W.fz tb a=some (.dK ps)/\jB K (W.fz tb) W.ad kvs ps:=by have h:bA _ _ _ _ _:=h;unfold bA at h;exact h
theorem iV{W:Wd}{n:Nat}{v:V}(h:Den K tb W (.cell n) v):∃a,v= .ref a/\W.ad[n]? =some a:=by have h:bA _ _ _ _ _:=h;unfold bA at h;exact h
theorem lD{W:Wd}{Q:VK}{ds:List D}{vs:List V}{p:Addr}(ok:WOk K tb W)(h:∀v W',WOk K tb W'->Le tb W W'->W'.mu=W.mu->Den K tb W' (.tup ds) v->Q v W'.H)(r:cJ K tb W ds vs)(hp:W.H p=none):Q (.ref p) (upd W.H p (.tup vs)):=by
 obtain⟨ok',le,e⟩:=ok.alloc (o:=.tup vs) hp
 refine h (.ref p) _ ok' le rfl ?_
 show bA _ _ _ _ _
 unfold bA
 exact⟨p,vs,rfl,.inl (.inl e),cJ.mono' r le⟩
theorem lH{W:Wd}{Q:VK}{ds:List D}{vs:List V}{p:Addr}(ok:WOk K tb W)(h:∀v W',WOk K tb W'->Le tb W W'->W'.mu=W.mu->Den K tb W' (.lst ds) v->Q v W'.H)(r:cJ K tb W ds vs)(hp:W.H p=none):Q (.ref p) (upd W.H p (.lst vs)):=by
 obtain⟨ok',le,e⟩:=ok.alloc (o:=.lst vs) hp
 refine h (.ref p) _ ok' le rfl ?_
 show bA _ _ _ _ _
 unfold bA
 exact⟨p,vs,rfl,e,cJ.mono' r le⟩
end
section
variable {X:Cx} {tb:List Addr} {a b c e:Expr} {fa fb fc f:EF} {pos:Pos}
theorem Pz{i:Nat}{x:Str}(hN:X.N[i]? =some x)(hv:Vis X.env.scope x)(hd:(x==("__debug__":Str))=false:=by decide)(hcd:(x==("__classdict__":Str))=false:=by decide):PD X tb (.Name x pos) (aq i):=
 dO (PB hN hv hd hcd) λσ H Q zq1=>by
  obtain⟨W,δ,d,μ',e,ok,hd,hf,h⟩:=zq1
  subst e
  unfold aq at hf
  split at hf
  .rename_i d' e
   cases hf
   obtain⟨v,ev,r⟩:=hd.2 i _ e
   exact⟨v,ev,put ok h r⟩
  .cases hf
theorem Al{d:D}{v:V}(hp:PE X e (tC v))(hd:∀W,Den X.K tb W d v):PD X tb e (mC d):=
 dO hp λσ H Q zq2=>by
  obtain⟨W,δ,d',μ',e,ok,_,hf,h⟩:=zq2
  subst e
  cases hf
  exact put ok h (hd W)
theorem aA{i j}:PD X tb (.Constant (.int i) j pos) (mC (.int i)):=Al Ii λ_=>eN
theorem lK{i j}:PD X tb (.Constant (.bool i) j pos) (mC (.bl i)):=Al Tu λ_=>gn
structure GD(K:PySem.W.Frag)(mg:Str->Option Value)(x:Str)(d:D):Prop where
 is:∃u v,mg x=some u/\RelV v u/\∀F ad,bA K F ad d v
theorem Pu{r:V->Hp->VK->Prop}{op:D->Mu->Option (D×Mu)}(hp:∀ta,PE X a ta->PE X e (tUn r ta))(ho:RD1 X.K tb r op)(ha:PD X tb a fa):PD X tb e (M1 fa op):=
 dO (hp _ ha) λσ H Q zq3=>by
  obtain⟨W,δ,d,μ',e,ok,hd,hf,h⟩:=zq3
  unfold M1 at hf
  obtain⟨⟨x,μ1⟩,e1,e2⟩:=Za.mp hf
  exact⟨W,δ,x,μ1,e,ok,hd,e1,λv W1 ok1 l1 m1 d1=>ho W1 x v d μ' Q ok1 d1 (by rw[m1];exact e2) λv' W' ok' l' m' d'=>h v' W' ok' (l1.trans l') m' d'⟩
theorem Dv{r:R2}{op:D->D->Mu->Option (D×Mu)}(hp:∀ta tb,PE X a ta->PE X b tb->PE X e (tOp r ta tb))(ho:RD2 X.K tb r op)(ha:PD X tb a fa)(hb:PD X tb b fb):PD X tb e (M2 fa fb op):=
 dO (hp _ _ ha hb) λσ H Q zq4=>by
  obtain⟨W,δ,d,μ',e,ok,hd,hf,h⟩:=zq4
  unfold M2 at hf
  obtain⟨⟨x,μ1⟩,e1,hf⟩:=Za.mp hf
  obtain⟨⟨y,μ2⟩,e2,e3⟩:=Za.mp hf
  refine⟨W,δ,x,μ1,e,ok,hd,e1,λv W1 ok1 l1 m1 d1=>⟨W1,δ,y,μ2,rfl,ok1,hd.mono' l1,(by rw[m1];exact e2),λu W2 ok2 l2 m2 d2=>?_⟩⟩
  exact ho W2 x y v u d μ' Q ok2 (Den.mono' d1 l2) d2 (by rw[m2];exact e3) λv' W' ok' l' m' d'=>h v' W' ok' ((l1.trans l2).trans l') m' d'
theorem au:PAD X tb [] aC:=Pa rE λσ H Q zq5=>by
 obtain⟨W,δ,d,μ',e,ok,hd,hf,h⟩:=zq5
 subst e;cases hf
 exact h [] W ok (Le.refl _) rfl aD.nil
theorem aa{es:List Expr}{fs:AF}(ha:PD X tb e f)(hr:PAD X tb es fs)(hs:starEach (e::es) X.env=(false,eval e X.env)::starEach es X.env:=by rfl):PAD X tb (e::es) (ao f fs):=
 Pa (mG ha hr hs) λσ H Q zq6=>by
  obtain⟨W,δ,ds,μ',e,ok,hd,hf,h⟩:=zq6
  unfold ao at hf
  obtain⟨⟨x,μ1⟩,e1,hf⟩:=Za.mp hf
  obtain⟨⟨xs,μ2⟩,e2,e3⟩:=Za.mp hf
  cases e3
  refine⟨W,δ,x,μ1,e,ok,hd,e1,λv W1 ok1 l1 m1 d1=>⟨W1,δ,xs,_,rfl,ok1,hd.mono' l1,(by rw[m1];exact e2),λvs W2 ok2 l2 m2 d2=>?_⟩⟩
  exact h (v::vs) W2 ok2 (l1.trans l2) m2 (aD.cons (Den.mono' d1 l2) d2)
theorem Fw{es:List Expr}{fs:AF}{r:List V->Hp->VK->Prop}{op:List D->Mu->Option (D×Mu)}(hp:∀ta,PA X es ta->PE X e (tCB r ta))(ho:RDN X.K tb r op)(ha:PAD X tb es fs):PD X tb e (MC fs op):=
 dO (hp _ ha) λσ H Q zq7=>by
  obtain⟨W,δ,d,μ',e,ok,hd,hf,h⟩:=zq7
  unfold MC at hf
  obtain⟨⟨x,μ1⟩,e1,e2⟩:=Za.mp hf
  exact⟨W,δ,x,μ1,e,ok,hd,e1,λv W1 ok1 l1 m1 d1=>ho W1 x v d μ' Q ok1 d1 (by rw[m1];exact e2) λv' W' ok' l' m' d'=>h v' W' ok' (l1.trans l') m' d'⟩
def oTup(ds:List D)(μ:Mu):Option (D×Mu):=if ds.length<=sizeLine then some (.tup ds,μ)else none
def oLst(ds:List D)(μ:Mu):Option (D×Mu):=if ds.length<=sizeLine then some (.lst ds,μ)else none
theorem eQ{es:List Expr}{fs:AF}{x1}(h:PAD X tb es fs):PD X tb (.Tuple es x1 pos) (MC fs oTup):=
 Fw (r:=λxs H Q=>xs.length<=sizeLine/\∀p,H p=none->Q (.ref p) (upd H p (.tup xs))) (λta h=>Pr h) (λW xs vs d μ' Q ok r ho h=>by
  unfold oTup at ho
  split at ho
  .rename_i hl
   cases ho
   exact⟨by rw[<-aD.length r];exact hl,λp hp=>lD ok h r hp⟩
  .cases ho) h
theorem jJ{es:List Expr}{fs:AF}(h:PAD X tb es fs):PD X tb (.List es pos) (MC fs oLst):=
 Fw (r:=λxs H Q=>xs.length<=sizeLine/\∀p,H p=none->Q (.ref p) (upd H p (.lst xs))) (λta h=>Kf h) (λW xs vs d μ' Q ok r ho h=>by
  unfold oLst at ho
  split at ho
  .rename_i hl
   cases ho
   exact⟨by rw[<-aD.length r];exact hl,λp hp=>lH ok h r hp⟩
  .cases ho) h
def Ab:D->Mu->Option Bool
 | .bl b,_=>some b
 | .int i,_=>some (i != 0)
 | .non,_=>some false
 | .tup ds,_=>some !ds.isEmpty
 | .lst ds,_=>some !ds.isEmpty
 | .cell n,μ=>match μ[n]? with
  |some (some ds)=>some !ds.isEmpty
  |_=>none
 |_,_=>none
end
section
variable {K:PySem.W.Frag} {tb:List Addr}
theorem KJ{W:Wd}{x:D}{v:V}{k:Bool}(ok:WOk K tb W)(h:Den K tb W x v)(e:Ab x W.mu=some k):QZ K v W.H k:=by
 cases x with
 |non=>rw[pR h];cases e;rfl
 |bl b=>rw[kJ h];cases e;rfl
 |int i=>rw[bx h];cases e;rfl
 |str y=>cases e
 |dic y=>cases e
 |ro y=>cases e
 |tup ds=>
  obtain⟨a,xs,rfl,q,r⟩:=jK h
  cases e
  refine .inr (.inl ⟨xs,SqT.fz q,?_⟩)
  have:=aD.length r
  cases ds<;>cases xs<;>simp_all
 |lst ds=>
  obtain⟨a,xs,rfl,q,r⟩:=mL h
  cases e
  refine .inl ⟨xs,SqL.fz q,?_⟩
  have:=aD.length r
  cases ds<;>cases xs<;>simp_all
 |cell n=>
  obtain⟨a,rfl,q⟩:=iV h
  have e':(match W.mu[n]? with|some (some ds)=>some !ds.isEmpty|_=>none)=some k:=e
  cases e2:W.mu[n]? with
  |none=>rw[e2]at e';cases e'
  |some o=>
   cases o with
   |none=>rw[e2]at e';cases e'
   |some ds=>
    rw[e2]at e'
    have e'':some (!ds.isEmpty)=some k:=e'
    cases e''
    obtain⟨xs,e3,r⟩:=ok.cont n a ds q e2
    refine .inl ⟨xs,SqL.of e3,?_⟩
    have:=aD.length r
    cases ds<;>cases xs<;>simp_all
end
section
variable {X:Cx} {tb:List Addr} {a b c e:Expr} {fa fb fc f:EF} {ta tc:TF} {pos:Pos}
def ni(f:EF):TF:=λδ μ=>(f δ μ).bind λr=>(Ab r.1 r.2).map λk=>(k,r.2)
theorem gk(h:PD X tb e f)(he:∀whole,isTrue e X.env whole=(do let v<-whole;standAt e.pos;holding [v] (truthy v)):=by intro _;rfl):PTD X tb e (ni f):=
 Jv (Hh h he) λσ H Q zq1=>by
  obtain⟨W,δ,k,μ',e,ok,hd,hf,h⟩:=zq1
  unfold ni at hf
  obtain⟨⟨x,μ1⟩,e1,e2⟩:=Za.mp hf
  obtain⟨k',e3,e4⟩:=Zp.mp e2
  cases e4
  exact⟨W,δ,x,_,e,ok,hd,e1,λv W1 ok1 l1 m1 d1=>⟨k,KJ ok1 d1 (by rw[m1];exact e3),h W1 ok1 l1 m1⟩⟩
structure OpD(X:Cx)(tb:List Addr)(sem:Value->Value->Sem Value)(op:D->D->Mu->Option (D×Mu)):Prop where
 ex:∃r,OpR X sem r/\RD2 X.K tb r op
theorem aG{o:Operator}{op:D->D->Mu->Option (D×Mu)}(ho:OpD X tb (binaryOp o) op)(ha:PD X tb a fa)(hb:PD X tb b fb):PD X tb (.BinOp a o b pos) (M2 fa fb op):=by
 obtain⟨r,h1,h2⟩:=ho.ex
 exact Dv (λta tb ha hb=>Pb h1 ha hb) h2 ha hb
theorem mz{o:CmpOp}{op:D->D->Mu->Option (D×Mu)}(ho:OpD X tb (compareOp o) op)(ha:PD X tb a fa)(hb:PD X tb b fb)(hm:behindInMarks o b=false:=by first|exact Bo _ (by decide) (by decide)|rfl):PD X tb (.Compare a [o] [b] pos) (M2 fa fb op):=by
 obtain⟨r,h1,h2⟩:=ho.ex
 exact Dv (λta tb ha hb=>Mg h1 ha hb hm) h2 ha hb
def toB(f:EF):TF:=λδ μ=>(f δ μ).bind λr=>match r.1 with
 | .bl k=>some (k,r.2)
 |_=>none
theorem bB{o:CmpOp}{op:D->D->Mu->Option (D×Mu)}(ho:OpD X tb (compareOp o) op)(ha:PD X tb a fa)(hb:PD X tb b fb)(hm:behindInMarks o b=false:=by first|exact Bo _ (by decide) (by decide)|rfl):PTD X tb (.Compare a [o] [b] pos) (toB (M2 fa fb op)):=by
 obtain⟨r,h1,h2⟩:=ho.ex
 refine Jv (Nh h1 ha hb hm) λσ H Q zq2=>?_
 obtain⟨W,δ,k,μ',e,ok,hd,hf,h⟩:=zq2
 unfold toB at hf
 obtain⟨⟨z,μz⟩,hf,ez⟩:=Za.mp hf
 unfold M2 at hf
 obtain⟨⟨x,μ1⟩,e1,hf⟩:=Za.mp hf
 obtain⟨⟨y,μ2⟩,e2,e3⟩:=Za.mp hf
 cases z with
 |bl k'=>
  cases ez
  refine⟨W,δ,x,μ1,e,ok,hd,e1,λv W1 ok1 l1 m1 d1=>⟨W1,δ,y,μ2,rfl,ok1,hd.mono' l1,(by rw[m1];exact e2),λu W2 ok2 l2 m2 d2=>?_⟩⟩
  refine h2 W2 x y v u _ _ _ ok2 (Den.mono' d1 l2) d2 (by rw[m2];exact e3) λv' W' ok' l' m' d'=>?_
  exact⟨k,kJ d',h W' ok' ((l1.trans l2).trans l') m'⟩
 |_=>cases ez
def MCh(fa fb fc:EF)(op op':D->D->Mu->Option (D×Mu)):EF:=λδ μ=>(fa δ μ).bind λr=>(fb δ r.2).bind λq=>(op r.1 q.1 q.2).bind λz=>match z.1 with
 | .bl true=>(fc δ z.2).bind λt=>op' q.1 t.1 t.2
 | .bl false=>some (.bl false,z.2)
 |_=>none
theorem Iw{r r':R2}{op op':D->D->Mu->Option (D×Mu)}(h1:RD2 X.K tb r op)(h2:RD2 X.K tb r' op'){σ:SV}{H:Hp}{Q:VK}(h:tD X.K tb (MCh fa fb fc op op') σ H Q):Ke r r' (tD X.K tb fa) (tD X.K tb fb) (tD X.K tb fc) σ H Q:=by
 obtain⟨W,δ,d,μ',e,ok,hd,hf,h⟩:=h
 unfold MCh at hf
 obtain⟨⟨x,μ1⟩,e1,hf⟩:=Za.mp hf
 obtain⟨⟨y,μ2⟩,e2,hf⟩:=Za.mp hf
 obtain⟨⟨z,μ3⟩,e3,hf⟩:=Za.mp hf
 refine⟨W,δ,x,μ1,e,ok,hd,e1,λv W1 ok1 l1 m1 d1=>⟨W1,δ,y,μ2,rfl,ok1,hd.mono' l1,(by rw[m1];exact e2),λu W2 ok2 l2 m2 d2=>?_⟩⟩
 refine h1 W2 x y v u _ _ _ ok2 (Den.mono' d1 l2) d2 (by rw[m2];exact e3) λv' W3 ok3 l3 m3 d3=>?_
 cases z with
 |bl k=>
  cases k with
  |true=>
  refine⟨true,kJ d3,?_⟩
  rw[if_pos rfl]
  obtain⟨⟨t,μ4⟩,e4,e5⟩:=Za.mp hf
  refine⟨W3,δ,t,μ4,rfl,ok3,hd.mono' ((l1.trans l2).trans l3),(by rw[m3];exact e4),λw' W4 ok4 l4 m4 d4=>?_⟩
  exact h2 W4 y t u w' _ _ _ ok4 (Den.mono' d2 (l3.trans l4)) d4 (by rw[m4];exact e5) λv'' W' ok' l' m' d'=>h v'' W' ok' ((((l1.trans l2).trans l3).trans l4).trans l') m' d'
  |false=>
  cases hf
  refine⟨false,kJ d3,?_⟩
  rw[if_neg Zr]
  exact h _ W3 ok3 ((l1.trans l2).trans l3) m3 gn
 |_=>cases hf
theorem Il{o o':CmpOp}{op op':D->D->Mu->Option (D×Mu)}(ho:OpD X tb (compareOp o) op)(ho':OpD X tb (compareOp o') op')(ha:PD X tb a fa)(hb:PD X tb b fb)(hc:PD X tb c fc)
  (hm:lastMarks [o,o'] [b,c]=false:=by with_unfolding_all rfl):PD X tb (.Compare a [o,o'] [b,c] pos) (MCh fa fb fc op op'):=by
 obtain⟨r,h1,h2⟩:=ho.ex
 obtain⟨r',h1',h2'⟩:=ho'.ex
 exact dO (Hz h1 h1' ha hb hc hm) λσ H Q h=>Iw h2 h2' h
def mU(ta tc:TF):TF:=λδ μ=>(ta δ μ).bind λr=>if r.1=true then tc δ r.2 else some (false,r.2)
def qP(ta tc:TF):TF:=λδ μ=>(ta δ μ).bind λr=>if r.1=true then some (true,r.2)else tc δ r.2
def ji(ta:TF):TF:=λδ μ=>(ta δ μ).bind λr=>some (!r.1,r.2)
theorem uo(ha:PTD X tb a ta):PWD X tb (.BoolOp .And [a] pos) ta:=Kw ha
theorem jQ(ha:PTD X tb a ta):PWD X tb (.BoolOp .Or [a] pos) ta:=Ru ha
theorem ul{rest:List Expr}(ha:PTD X tb a ta)(hb:PWD X tb (.BoolOp .And (b::rest) pos) tc):PWD X tb (.BoolOp .And (a::b::rest) pos) (mU ta tc):=
 Ow (RC ha hb) λσ H Q zq4=>by
  obtain⟨W,δ,k,μ',e,ok,hd,hf,h⟩:=zq4
  unfold mU at hf
  obtain⟨⟨z,μz⟩,e1,e2⟩:=Za.mp hf
  refine⟨W,δ,z,μz,e,ok,hd,e1,λW1 ok1 l1 m1=>?_⟩
  cases z with
  |true=>exact⟨W1,δ,k,μ',rfl,ok1,hd.mono' l1,(by rw[m1];exact e2),λW' ok' l' m'=>h W' ok' (l1.trans l') m'⟩
  |false=>cases e2;exact h W1 ok1 l1 m1
theorem lL{rest:List Expr}(ha:PTD X tb a ta)(hb:PWD X tb (.BoolOp .Or (b::rest) pos) tc):PWD X tb (.BoolOp .Or (a::b::rest) pos) (qP ta tc):=
 Ow (Tf ha hb) λσ H Q zq5=>by
  obtain⟨W,δ,k,μ',e,ok,hd,hf,h⟩:=zq5
  unfold qP at hf
  obtain⟨⟨z,μz⟩,e1,e2⟩:=Za.mp hf
  refine⟨W,δ,z,μz,e,ok,hd,e1,λW1 ok1 l1 m1=>?_⟩
  cases z with
  |false=>exact⟨W1,δ,k,μ',rfl,ok1,hd.mono' l1,(by rw[m1];exact e2),λW' ok' l' m'=>h W' ok' (l1.trans l') m'⟩
  |true=>cases e2;exact h W1 ok1 l1 m1
theorem jG(h:PWD X tb a ta):PTD X tb a ta:=PW.pt h
theorem gj(ha:PTD X tb a ta):PTD X tb (.UnaryOp .Not a pos) (ji ta):=
 Jv (QB ha) λσ H Q zq6=>by
  obtain⟨W,δ,k,μ',e,ok,hd,hf,h⟩:=zq6
  unfold ji at hf
  obtain⟨⟨z,μz⟩,e1,e2⟩:=Za.mp hf
  cases e2
  exact⟨W,δ,z,_,e,ok,hd,e1,λW1 ok1 l1 m1=>h W1 ok1 l1 m1⟩
def mX(fa fb:EF):EF:=λδ μ=>(fa δ μ).bind λr=>match r.1 with
 | .bl true=>fb δ r.2
 | .bl false=>some (.bl false,r.2)
 |_=>none
def wK(fa:EF):EF:=λδ μ=>(fa δ μ).bind λr=>match r.1 with
 | .bl k=>some (.bl !k,r.2)
 |_=>none
theorem lE{o}(ha:PD X tb a fa):PD X tb (.BoolOp o [a] pos) fa:=RT ha
theorem nj{rest:List Expr}(ha:PD X tb a fa)(hb:PD X tb (.BoolOp .And (b::rest) pos) fb):PD X tb (.BoolOp .And (a::b::rest) pos) (mX fa fb):=
 dO (Ro ha hb) λσ H Q zq7=>by
  obtain⟨W,δ,d,μ',e,ok,hd,hf,h⟩:=zq7
  unfold mX at hf
  obtain⟨⟨z,μz⟩,e1,e2⟩:=Za.mp hf
  refine⟨W,δ,z,μz,e,ok,hd,e1,λv W1 ok1 l1 m1 d1=>?_⟩
  cases z with
  |bl k=>
   cases k with
   |true=>
   refine⟨true,kJ d1,?_⟩
   rw[if_pos rfl]
   exact⟨W1,δ,d,μ',rfl,ok1,hd.mono' l1,(by rw[m1];exact e2),λv W' ok' l' m' d'=>h v W' ok' (l1.trans l') m' d'⟩
   |false=>
   cases e2
   refine⟨false,kJ d1,?_⟩
   rw[if_neg Zr]
   exact h _ W1 ok1 l1 m1 gn
  |_=>cases e2
theorem Jx(ha:PD X tb a fa):PD X tb (.UnaryOp .Not a pos) (wK fa):=
 dO (Qo ha) λσ H Q zq9=>by
  obtain⟨W,δ,d,μ',e,ok,hd,hf,h⟩:=zq9
  unfold wK at hf
  obtain⟨⟨z,μz⟩,e1,e2⟩:=Za.mp hf
  refine⟨W,δ,z,μz,e,ok,hd,e1,λv W1 ok1 l1 m1 d1=>?_⟩
  cases z with
  |bl k=>
   cases e2
   exact⟨k,kJ d1,h _ W1 ok1 l1 m1 gn⟩
  |_=>cases e2
end
def bO:SF:=λδ μ=>some (.nx,δ,μ)
def uy:SF:=λδ μ=>some (.bk,δ,μ)
def aO(g h:SF):SF:=λδ μ=>(g δ μ).bind λr=>match r.1 with
 | .nx=>h r.2.1 r.2.2
 |_=>some r
def eG(f:EF):SF:=λδ μ=>(f δ μ).bind λr=>some (.nx,δ,r.2)
def bG(f:EF):SF:=λδ μ=>(f δ μ).bind λr=>some (.rt r.1,δ,r.2)
def sIf(c:TF)(g h:SF):SF:=λδ μ=>(c δ μ).bind λr=>if r.1=true then g δ r.2 else h δ r.2
def aV(i:Nat)(f:EF):SF:=λδ μ=>(f δ μ).bind λr=>some (.nx,δ.set i (some r.1),r.2)
section
variable {X:Cx} {tb:List Addr} {e:Expr} {f:EF} {g h:SF} {st:Stmt} {rest:List Stmt} {pos:Pos}
theorem bC:ww X tb [] bO:=Hw Mh λE σ H zq11=>by
 obtain⟨W,δ,fl,δ',μ',e,ok,hd,hf,h⟩:=zq11
 subst e;cases hf
 exact h σ W ok (Le.refl _) rfl hd
theorem aF(h1:PSD X tb st g):ww X tb [st] g:=Oh h1
theorem aB(h1:PSD X tb st g)(h2:ww X tb rest h):ww X tb (st::rest) (aO g h):=
 Hw (Jw h1 h2) λE σ H zq12=>by
  obtain⟨W,δ,fl,δ',μ',e,ok,hd,hf,k⟩:=zq12
  unfold aO at hf
  obtain⟨⟨fl1,δ1,μ1⟩,e1,e2⟩:=Za.mp hf
  refine⟨W,δ,fl1,δ1,μ1,e,ok,hd,e1,λσ1 W1 ok1 l1 m1 d1=>?_⟩
  cases fl1 with
  |nx=>exact⟨W1,δ1,fl,δ',μ',rfl,ok1,d1,(by rw[m1];exact e2),λσ' W' ok' l' m' d'=>k σ' W' ok' (l1.trans l') m' d'⟩
  |bk=>cases e2;exact k σ1 W1 ok1 l1 m1 d1
  |ct=>cases e2;exact k σ1 W1 ok1 l1 m1 d1
  |rt d=>cases e2;exact k σ1 W1 ok1 l1 m1 d1
theorem Gn:PSD X tb (.Break pos) uy:=mR HW λE σ H zq14=>by
 obtain⟨W,δ,fl,δ',μ',e,ok,hd,hf,h⟩:=zq14
 subst e;cases hf
 exact h σ W ok (Le.refl _) rfl hd
theorem fW(he:PD X tb e f)(hs:swapsWith e none pos.line X.env=pure false:=by rfl):PSD X tb (.Expr e pos) (eG f):=
 mR (Lp he hs) λE σ H zq16=>by
  obtain⟨W,δ,fl,δ',μ',e,ok,hd,hf,h⟩:=zq16
  unfold eG at hf
  obtain⟨⟨x,μ1⟩,e1,e2⟩:=Za.mp hf
  cases e2
  exact⟨W,δ,x,_,e,ok,hd,e1,λv W1 ok1 l1 m1 d1=>h σ W1 ok1 l1 m1 (hd.mono' l1)⟩
theorem aQ(he:PD X tb e f):PSD X tb (.Return (some e) pos) (bG f):=
 mR (Rm he) λE σ H zq17=>by
  obtain⟨W,δ,fl,δ',μ',e,ok,hd,hf,h⟩:=zq17
  unfold bG at hf
  obtain⟨⟨x,μ1⟩,e1,e2⟩:=Za.mp hf
  cases e2
  exact⟨W,δ,x,_,e,ok,hd,e1,λv W1 ok1 l1 m1 d1=>h σ W1 ok1 l1 m1 (hd.mono' l1) v d1⟩
theorem cg{c:Expr}{tc:TF}{as bs:List Stmt}(hc:PTD X tb c tc)(ha:ww X tb as g)(hb:ww X tb bs h):PSD X tb (.If c as bs pos) (sIf tc g h):=
 mR (Vl hc ha hb) λE σ H zq18=>by
  obtain⟨W,δ,fl,δ',μ',e,ok,hd,hf,k⟩:=zq18
  unfold sIf at hf
  obtain⟨⟨z,μ1⟩,e1,e2⟩:=Za.mp hf
  refine⟨W,δ,z,μ1,e,ok,hd,e1,λW1 ok1 l1 m1=>?_⟩
  cases z with
  |true=>exact⟨W1,δ,fl,δ',μ',rfl,ok1,hd.mono' l1,(by rw[m1];exact e2),λσ' W' ok' l' m' d'=>k σ' W' ok' (l1.trans l') m' d'⟩
  |false=>exact⟨W1,δ,fl,δ',μ',rfl,ok1,hd.mono' l1,(by rw[m1];exact e2),λσ' W' ok' l' m' d'=>k σ' W' ok' (l1.trans l') m' d'⟩
theorem aR{i:Nat}{x:Str}{pos':Pos}(hN:X.N.Nodup)(he:PD X tb e f)(hi:X.N[i]? =some x:=by rfl)(hx:Loc X.env.scope x:=by first|exact Or.inl rfl|exact Or.inr rfl)(hs:swapsWith e (some (.Name x pos')) pos.line X.env=pure false:=by rfl)
  (hf:X.fn x=true∨X.env.scope.names.lookup x=some .local:=by first|exact .inl rfl|exact .inr rfl|assumption):PSD X tb (.Assign [.Name x pos'] e pos) (aV i f):=
 mR (RX hN hi hx he hs hf) λE σ H zq19=>by
  obtain⟨W,δ,fl,δ',μ',e,ok,hd,hf,h⟩:=zq19
  unfold aV at hf
  obtain⟨⟨x,μ1⟩,e1,e2⟩:=Za.mp hf
  cases e2
  exact⟨W,δ,x,_,e,ok,hd,e1,λv W1 ok1 l1 m1 d1=>h _ W1 ok1 l1 m1 ((hd.mono' l1).set d1)⟩
def tL(i j:Nat)(fs:AF):SF:=λδ μ=>(fs δ μ).bind λr=>match r.1 with
 | [x,y]=>some (.nx,(δ.set i (some x)).set j (some y),r.2)
 |_=>none
theorem oR{i j:Nat}{x y:Str}{a b:Expr}{fs:AF}{px py pt:Pos}{kt k2 pt2}(hc:X.calm=true)(hN:X.N.Nodup)(ha:PAD X tb [a,b] fs)(hij:i≠j:=by decide)(hi:X.N[i]? =some x:=by rfl)(hj:X.N[j]? =some y:=by rfl)
  (hx:X.env.scope.names.lookup x=some .local:=by rfl) (hy:X.env.scope.names.lookup y=some .local:=by rfl)
  (hw:swappedStores [.Tuple [.Name x px,.Name y py] kt pt] (.Tuple [a,b] k2 pt2) X.env=pure (some [x,y]):=by rfl)
  (hs:swapsWithSole [.Tuple [.Name x px,.Name y py] kt pt] (.Tuple [a,b] k2 pt2) pos.line X.env=pure false:=by rfl):
  PSD X tb (.Assign [.Tuple [.Name x px,.Name y py] kt pt] (.Tuple [a,b] k2 pt2) pos) (tL i j fs):=
 mR (Qu hc hN hi hj hij hx hy ha hw hs) λE σ H zq20=>by
  obtain⟨W,δ,fl,δ',μ',e,ok,hd,hf,h⟩:=zq20
  unfold tL at hf
  obtain⟨⟨xs,μ1⟩,e1,e2⟩:=Za.mp hf
  match xs,e1,e2 with
  | [x,y],e1,e2=>
   cases e2
   refine⟨W,δ,_,_,e,ok,hd,e1,λvs W1 ok1 l1 m1 d1=>?_⟩
   obtain⟨u,v,rfl,du,dv⟩:=aD.two d1
   exact⟨u,v,rfl,h _ W1 ok1 l1 m1 (((hd.mono' l1).set du).set dv)⟩
def gb(c:TF)(b:SF):Nat->SF
 |0=>λ_ _=>none
 |n+1=>λδ μ=>(c δ μ).bind λr=>if r.1=true then(b δ r.2).bind λq=>match q.1 with
  | .nx=>gb c b n q.2.1 q.2.2
  | .ct=>gb c b n q.2.1 q.2.2
  | .bk=>some (.nx,q.2)
  | .rt d=>some (.rt d,q.2)
  else some (.nx,δ,r.2)
theorem lB{c:TF}{b:SF}:∀{n m:Nat}{δ:En}{μ:Mu}{r:Fl×En×Mu},n<=m->gb c b n δ μ=some r->gb c b m δ μ=some r
 |0,_,_,_,_,_,h=>by cases h
 |n+1,0,_,_,_,hl,_=>by omega
 |n+1,m+1,δ,μ,r,hl,h=>by
  unfold gb at h ⊢
  obtain⟨q,e1,e2⟩:=Za.mp h
  rw[e1]
  show(if q.1=true then _ else _)=_
  by_cases hq:q.1=true
  .rw[if_pos hq]at e2 ⊢
   obtain⟨t,e3,e4⟩:=Za.mp e2
   rw[e3]
   show(match t.1 with| .nx=>_| .ct=>_| .bk=>_| .rt d=>_)=_
   cases ht:t.1 with
   |nx=>rw[ht]at e4;exact lB (by omega) e4
   |ct=>rw[ht]at e4;exact lB (by omega) e4
   |bk=>rw[ht]at e4;exact e4
   |rt d=>rw[ht]at e4;exact e4
  .rw[if_neg hq]at e2 ⊢;exact e2
open Classical in
noncomputable def mj(c:TF)(b:SF):SF:=λδ μ=>if h:∃n r,gb c b n δ μ=some r then some (choose (choose_spec h))else none
theorem rO{c:TF}{b:SF}{n:Nat}{δ:En}{μ:Mu}{r:Fl×En×Mu}(h:gb c b n δ μ=some r):mj c b δ μ=some r:=by
 have hx:∃n r,gb c b n δ μ=some r:=⟨n,r,h⟩
 unfold mj
 rw[dif_pos hx]
 have q:=Classical.choose_spec (Classical.choose_spec hx)
 have a:=lB (Nat.le_max_left n (Classical.choose hx)) h
 have b:=lB (Nat.le_max_right n (Classical.choose hx)) q
 rw[a]at b
 exact b.symm
theorem Gy{c:TF}{b:SF}{δ:En}{μ:Mu}{r:Fl×En×Mu}(h:mj c b δ μ=some r):∃n,gb c b n δ μ=some r:=by
 unfold mj at h
 split at h
 .rename_i hx
  cases h
  exact⟨_,Classical.choose_spec (Classical.choose_spec hx)⟩
 .cases h
theorem sr{c:Expr}{tc:TF}{body:List Stmt}(hp:PassesOwn (model X.prog X.w) X.A X.env X.xe)(hc:PTD X tb c tc)(hb:ww X tb body g):PSD X tb (.While c body [] pos) (mj tc g):=
 mR (JH hp hc hb) λE σ H zq21=>by
  obtain⟨W,δ,fl,δ',μ',e,ok,hd,hf,h⟩:=zq21
  obtain⟨n0,hn0⟩:=Gy hf
  refine⟨λm σ1 H1=>∃W1 δ1,W1.H=H1/\WOk X.K tb W1/\Le tb W W1/\jH X.K tb W1 δ1 σ1/\gb tc g m δ1 W1.mu=some (fl,δ',μ'),⟨n0,W,δ,e,ok,Le.refl _,hd,hn0⟩,?_⟩
  rintro m σ1 H1 ⟨W1,δ1,rfl,ok1,l1,d1,hn⟩
  cases m with
  |zero=>cases hn
  |succ m=>
   unfold gb at hn
   obtain⟨⟨k,μ2⟩,e1,e2⟩:=Za.mp hn
   refine⟨W1,δ1,k,μ2,rfl,ok1,d1,e1,λW2 ok2 l2 m2=>?_⟩
   cases k with
   |false=>
    cases e2
    rw[if_neg Zr]
    exact h σ1 W2 ok2 (l1.trans l2) m2 (d1.mono' l2)
   |true=>
    rw[if_pos rfl]
    obtain⟨⟨fl3,δ3,μ3⟩,e3,e4⟩:=Za.mp e2
    refine⟨λσ3 H3=>∃W3,W3.H=H3/\WOk X.K tb W3/\Le tb W W3/\jH X.K tb W3 δ3 σ3/\gb tc g m δ3 W3.mu=some (fl,δ',μ'),λσ3 H3 ⟨W3,q1,q2,q3,q4,q5⟩=>⟨m,Nat.lt_succ_self _,W3,δ3,q1,q2,q3,q4,q5⟩,?_⟩
    refine⟨W2,δ1,fl3,δ3,μ3,rfl,ok2,d1.mono' l2,(by rw[m2];exact e3),λσ3 W3 ok3 l3 m3 d3=>?_⟩
    cases fl3 with
    |nx=>exact⟨W3,rfl,ok3,(l1.trans l2).trans l3,d3,by rw[m3];exact e4⟩
    |ct=>exact⟨W3,rfl,ok3,(l1.trans l2).trans l3,d3,by rw[m3];exact e4⟩
    |bk=>cases e4;exact h σ3 W3 ok3 ((l1.trans l2).trans l3) m3 d3
    |rt d=>cases e4;exact h σ3 W3 ok3 ((l1.trans l2).trans l3) m3 d3
end
abbrev GF:=D->En->Mu->Option En
abbrev GsF:=List D->En->Mu->Option En
def tDG(K:PySem.W.Frag)(tb:List Addr)(ts:List Nat)(h:GF):TG:=λv σ H Q=>∃W δ d δ',W.H=H/\WOk K tb W/\jH K tb W δ σ/\Den K tb W d v/\h d δ W.mu=some δ'/\
 ∀σ',jH K tb W δ' σ'->σ'.length=σ.length->(∀i,i∉ts->σ'[i]? =σ[i]?)->Q σ' H
def tDGs(K:PySem.W.Frag)(tb:List Addr)(ts:List Nat)(h:GsF):TGs:=λvs σ H Q=>∃W δ ds δ',W.H=H/\WOk K tb W/\jH K tb W δ σ/\cJ K tb W ds vs/\h ds δ W.mu=some δ'/\
 ∀σ',jH K tb W δ' σ'->σ'.length=σ.length->(∀i,i∉ts->σ'[i]? =σ[i]?)->Q σ' H
def PGD(X:Cx)(tb:List Addr)(tg:Expr)(ts:List Nat)(h:GF):Prop:=PG X tg (tDG X.K tb ts h)
def KR(X:Cx)(tb:List Addr)(tg:List Expr)(ts:List Nat)(h:GsF):Prop:=PGs X tg (tDGs X.K tb ts h)
theorem Pg{X:Cx}{e:Expr}{t t':TG}(h:PG X e t)(k:∀v σ H Q,t' v σ H Q->t v σ H Q):PG X e t':=λpins s σ H v u Q I r hq=>h pins s σ H v u Q I r (k v σ H Q hq)
theorem Hy{X:Cx}{e:List Expr}{t t':TGs}(h:PGs X e t)(k:∀v σ H Q,t' v σ H Q->t v σ H Q):PGs X e t':=λpins s σ H v u Q I r hq=>h pins s σ H v u Q I r (k v σ H Q hq)
def hName(i:Nat):GF:=λd δ _=>some (δ.set i (some d))
def ir:GsF:=λds δ _=>match ds with
 | []=>some δ
 |_=>none
def bz(h:GF)(hs:GsF):GsF:=λds δ μ=>match ds with
 | []=>none
 |d::r=>(h d δ μ).bind λδ1=>hs r δ1 μ
def iu(n:Nat)(hs:GsF):GF:=λd δ μ=>match d with
 | .tup ds=>if ds.length=n then hs ds δ μ else none
 |_=>none
section
variable {X:Cx} {tb:List Addr} {e tg iter elt:Expr} {f:EF} {pos:Pos}
theorem aM{i:Nat}{x:Str}(hN:X.N.Nodup)(hi:X.N[i]? =some x:=by rfl)(hx:Loc X.env.scope x:=by first|exact Or.inl rfl|exact Or.inr rfl)
  (hf:X.fn x=true∨X.env.scope.names.lookup x=some .local:=by first|exact .inl rfl|exact .inr rfl|assumption):PGD X tb (.Name x pos) [i] (hName i):=
 Pg (KD hN hi hx hf) λv σ H Q zq1=>by
  obtain⟨W,δ,d,δ',e,ok,hd,dv,hh,h⟩:=zq1
  cases hh
  refine h _ (hd.set dv) (by rw[List.length_set]) λj hj=>?_
  rw[List.getElem?_set_ne (λz=>hj (by simp[z]))]
theorem dq:KR X tb [] [] ir:=
 Hy Lk λvs σ H Q zq2=>by
  obtain⟨W,δ,ds,δ',e,ok,hd,dv,hh,h⟩:=zq2
  match ds,dv,hh with
  | [],dv,hh=>
   cases hh
   exact⟨aD.zero dv,h σ hd rfl λ_ _=>rfl⟩
theorem bh{es:List Expr}{ts us:List Nat}{h:GF}{hs:GsF}(h1:PGD X tb e ts h)(h2:KR X tb es us hs)
  (ha:(assignEach (e::es) X.env).map (·.2)=assign e X.env::(assignEach es X.env).map (·.2):=by rfl):KR X tb (e::es) (ts++us) (bz h hs):=
 Hy (Hl h1 h2 ha) λvs σ H Q zq3=>by
  obtain⟨W,δ,ds,δ',e,ok,hd,dv,hh,k⟩:=zq3
  match ds,dv,hh with
  |d::r,dv,hh=>
   obtain⟨δ1,e1,e2⟩:=Za.mp hh
   have dv':aD _ _ _ _ _:=dv
   unfold aD at dv'
   obtain⟨u,us',rfl,p,q⟩:=dv'
   refine⟨u,us',rfl,W,δ,d,δ1,e,ok,hd,p,e1,λσ1 d1 l1 s1=>⟨W,δ1,r,δ',e,ok,d1,q,e2,λσ2 d2 l2 s2=>?_⟩⟩
   exact k σ2 d2 (l2.trans l1) λi hi=>(s2 i λz=>hi (Zn _ z)).trans (s1 i λz=>hi (List.mem_append_left _ z))
theorem fL{es:List Expr}{k:Nat}{ts:List Nat}{hs:GsF}{n:Nat}(hc:X.calm=true)(h:KR X tb es ts hs)(hn:(assignEach es X.env).length=n:=by rfl)(hst:(assignEach es X.env).findIdx? (·.1)=none:=by rfl):
  PGD X tb (.Tuple es k pos) ts (iu n hs):=
 Pg (RP hc h hn hst) λv σ H Q zq4=>by
  obtain⟨W,δ,d,δ',e,ok,hd,dv,hh,k⟩:=zq4
  cases d with
  |tup ds=>
   obtain⟨a,xs,rfl,q,r⟩:=jK dv
   have hh':(if ds.length=n then hs ds δ W.mu else none)=some δ':=hh
   by_cases hl:ds.length=n
   .rw[if_pos hl]at hh'
    have q':SqT X.K H a xs:=by rw[<-e];exact SqT.fz q
    have hl':xs.length=n:=by rw[<-aD.length r];exact hl
    exact⟨a,xs,rfl,q',hl',⟨W,δ,ds,δ',e,ok,hd,r,hh',k⟩⟩
   .rw[if_neg hl]at hh';cases hh'
  |_=>cases hh
def yZ(f:EF)(h:GF):SF:=λδ μ=>(f δ μ).bind λr=>(h r.1 δ r.2).bind λδ'=>some (.nx,δ',r.2)
theorem qU{ts:List Nat}{h:GF}(he:PD X tb e f)(hg:PGD X tb tg ts h)(hs:swapsWithSole [tg] e pos.line X.env=pure false:=by rfl)(hw:swappedStores [tg] e X.env=pure none:=by rfl)
  (h1:(assignEach [tg] X.env).map (·.2)=[assign tg X.env]:=by rfl):PSD X tb (.Assign [tg] e pos) (yZ f h):=
 mR (Jb he hg hs hw h1) λE σ H zq5=>by
  obtain⟨W,δ,fl,δ',μ',e,ok,hd,hf,k⟩:=zq5
  unfold yZ at hf
  obtain⟨⟨x,μ1⟩,e1,hf⟩:=Za.mp hf
  obtain⟨δ1,e2,e3⟩:=Za.mp hf
  cases e3
  refine⟨W,δ,x,_,e,ok,hd,e1,λv W1 ok1 l1 m1 d1=>⟨W1,δ,x,_,rfl,ok1,hd.mono' l1,d1,(by rw[m1];exact e2),λσ1 d2 _ _=>?_⟩⟩
  exact k σ1 W1 ok1 l1 m1 d2
structure Src where
 items:List D
 cel:Option Nat
def Src.ok(S:Src)(μ:Mu):Prop:=∀n,S.cel=some n->μ[n]? =some (some S.items)
theorem Src.cB{S:Src}{μ:Mu}(h:S.cel=none):S.ok μ:=λn e=>by rw[h]at e;cases e
abbrev IF:=En->Mu->Option (Src×Mu)
structure Hx(K:PySem.W.Frag)(tb:List Addr)(J:It)(S:Src)(W0:Wd):Prop where
 go:∀(i:Nat) W d,Le tb W0 W->WOk K tb W->S.ok W.mu->S.items[i]? =some d->J.go i W.H/\∀x H',J.yld i W.H x H'->∃W',W'.H=H'/\WOk K tb W'/\Le tb W W'/\W'.mu=W.mu/\Den K tb W' d x
 stop:∀(i:Nat) W,Le tb W0 W->WOk K tb W->S.ok W.mu->S.items.length<=i->J.stop i W.H
def tDI(K:PySem.W.Frag)(tb:List Addr)(f:IF):TI:=λσ H R=>∃W δ S μ',W.H=H/\WOk K tb W/\jH K tb W δ σ/\f δ W.mu=some (S,μ')/\
 ∀J W',WOk K tb W'->Le tb W W'->W'.mu=μ'->Hx K tb J S W'->R J W'.H
def PID(X:Cx)(tb:List Addr)(tg iter:Expr)(f:IF):Prop:=PI X tg iter (tDI X.K tb f)
theorem Ir{w w':TI}(h:PI X tg iter w)(k:∀σ H R,w' σ H R->w σ H R):PI X tg iter w':=λpins s σ H R I hq=>h pins s σ H R I (k σ H R hq)
theorem Ql{l:Expr}{tl:TE}(hl:PE X l tl):PI X tg l (λσ H R=>tl σ H λx H1=>∃a,x= .ref a/\((∃xs,SqL X.K H1 a xs)/\R (Itl X.K a) H1∨(∃xs,SqT X.K H1 a xs)/\R (Itt X.K a) H1)):=by
 intro pins s σ H R I h
 refine thn (hl pins s σ H _ I h) λv s1 zq6=>?_
 obtain⟨x,H1,I1,r1,q1⟩:=zq6
 obtain⟨a,e,q⟩:=q1
 subst e
 cases r1
 rcases q with⟨⟨xs,hq⟩,q⟩|⟨⟨xs,hq⟩,q⟩
 .obtain⟨its,rv,p,hz⟩:=I1.list hq
  refine wpAny_pyIter_list p.isList ?_
  refine⟨s1.heap.objs.size,[s1.heap.objs.size],_,_,H1,rfl,I1.kept (t':=s1.toks) λb o e=>Zb _ e,Gr a _,⟨_,Zf _ rfl,rfl,rfl⟩,λb hb=>?_,q⟩
  have e:b=s1.heap.objs.size:=by simpa using hb
  subst e
  exact I1.fpOk (Zg _) (I1.hok.fresh (Zg _))
 .obtain⟨its,rv,p,hz⟩:=I1.tuple hq
  refine wpAny_pyIter_tuple (show s1.heap.IsTuple a its.toArray from p) ?_
  refine⟨s1.heap.objs.size,[s1.heap.objs.size],_,_,H1,rfl,I1.kept (t':=s1.toks) λb o e=>Zb _ e,Du a _,⟨_,Zf _ rfl,rfl,rfl⟩,λb hb=>?_,q⟩
  have e:b=s1.heap.objs.size:=by simpa using hb
  subst e
  exact I1.fpOk (Zg _) (I1.hok.fresh (Zg _))
def srcOf(d:D)(μ:Mu):Option Src:=match d with
 | .tup ds=>some ⟨ds,none⟩
 | .lst ds=>some ⟨ds,none⟩
 | .cell n=>match μ[n]? with
  |some (some ds)=>some ⟨ds,some n⟩
  |_=>none
 |_=>none
theorem RD{K:PySem.W.Frag}{W0:Wd}{a:Addr}{xs:List V}{ds:List D}(q:SqL K (W0.fz tb) a xs)(r:cJ K tb W0 ds xs):Hx K tb (Itl K a) ⟨ds,none⟩ W0 where
 go:=λi W d l ok _ e=>by
  have q':SqL K W.H a xs:=SqL.fz (SqL.mono l.same q)
  obtain⟨v,ev,dv⟩:=aD.get (cJ.mono' r l) e
  exact⟨⟨xs,v,q',ev⟩,λx H' ⟨e1,e2⟩=>⟨W,e1.symm,ok,Le.refl _,rfl,by have:=e2 xs q';rw[ev]at this;cases this;exact dv⟩⟩
 stop:=λi W l ok _ hi=>⟨xs,SqL.fz (SqL.mono l.same q),by rw[<-aD.length r];exact hi⟩
theorem Rn{K:PySem.W.Frag}{W0:Wd}{a:Addr}{xs:List V}{ds:List D}(q:SqT K (W0.fz tb) a xs)(r:cJ K tb W0 ds xs):Hx K tb (Itt K a) ⟨ds,none⟩ W0 where
 go:=λi W d l ok _ e=>by
  have q':SqT K W.H a xs:=SqT.fz (SqT.mono l.same q)
  obtain⟨v,ev,dv⟩:=aD.get (cJ.mono' r l) e
  exact⟨⟨xs,v,q',ev⟩,λx H' ⟨e1,e2⟩=>⟨W,e1.symm,ok,Le.refl _,rfl,by have:=e2 xs q';rw[ev]at this;cases this;exact dv⟩⟩
 stop:=λi W l ok _ hi=>⟨xs,SqT.fz (SqT.mono l.same q),by rw[<-aD.length r];exact hi⟩
theorem Pn{K:PySem.W.Frag}{W0:Wd}{a:Addr}{n:Nat}{ds:List D}(q:W0.ad[n]? =some a):Hx K tb (Itl K a) ⟨ds,some n⟩ W0 where
 go:=λi W d l ok hs e=>by
  obtain⟨xs,ex,r⟩:=ok.cont n a ds (l.ad _ _ q) (hs n rfl)
  obtain⟨v,ev,dv⟩:=aD.get r e
  exact⟨⟨xs,v,SqL.of ex,ev⟩,λx H' ⟨e1,e2⟩=>⟨W,e1.symm,ok,Le.refl _,rfl,by have:=e2 xs (SqL.of ex);rw[ev]at this;cases this;exact dv⟩⟩
 stop:=λi W l ok hs hi=>by
  obtain⟨xs,ex,r⟩:=ok.cont n a ds (l.ad _ _ q) (hs n rfl)
  exact⟨xs,SqL.of ex,by rw[<-aD.length r];exact hi⟩
def dC(f:EF):IF:=λδ μ=>(f δ μ).bind λr=>(srcOf r.1 r.2).map λS=>(S,r.2)
theorem bZ(he:PD X tb e f):PID X tb tg e (dC f):=
 Ir (Ql he) λσ H R zq7=>by
  obtain⟨W,δ,S,μ',e,ok,hd,hf,h⟩:=zq7
  unfold dC at hf
  obtain⟨⟨x,μ1⟩,e1,hf⟩:=Za.mp hf
  obtain⟨S',e2,e3⟩:=Zp.mp hf
  cases e3
  refine⟨W,δ,x,_,e,ok,hd,e1,λv W1 ok1 l1 m1 d1=>?_⟩
  cases x with
  |tup ds=>
   cases e2
   obtain⟨a,xs,rfl,q,r⟩:=jK d1
   exact⟨a,rfl,.inr ⟨⟨xs,SqT.fz q⟩,h _ W1 ok1 l1 m1 (Rn q r)⟩⟩
  |lst ds=>
   cases e2
   obtain⟨a,xs,rfl,q,r⟩:=mL d1
   exact⟨a,rfl,.inl ⟨⟨xs,SqL.fz q⟩,h _ W1 ok1 l1 m1 (RD q r)⟩⟩
  |cell n=>
   obtain⟨a,rfl,q⟩:=iV d1
   have e2':(match μ1[n]? with|some (some ds)=>some (⟨ds,some n⟩:Src)|_=>none)=some S:=e2
   cases e4:μ1[n]? with
   |none=>rw[e4]at e2';cases e2'
   |some o=>
    cases o with
    |none=>rw[e4]at e2';cases e2'
    |some ds=>
     rw[e4]at e2'
     cases e2'
     obtain⟨xs,ex,_⟩:=ok1.cont n a ds q (by rw[m1];exact e4)
     exact⟨a,rfl,.inl ⟨⟨xs,SqL.of ex⟩,h _ W1 ok1 l1 m1 (Pn q)⟩⟩
  |_=>cases e2
def cL(lo:Int)(n:Nat):List D:=(List.range n).map λ(k:Nat)=>D.int (lo+(k:Int))
theorem PK{K:PySem.W.Frag}{W0:Wd}{lo:Int}{n:Nat}:Hx K tb (Itr lo n) ⟨cL lo n,none⟩ W0 where
 go:=λi W d l ok _ e=>by
  unfold cL at e
  rw[List.getElem?_map]at e
  by_cases hi:i<n
  .rw[List.getElem?_range hi]at e
   cases e
   exact⟨hi,λx H' ⟨e1,e2⟩=>⟨W,e1.symm,ok,Le.refl _,rfl,by rw[e2];exact eN⟩⟩
  .rw[List.getElem?_eq_none (by simpa using hi)]at e;cases e
 stop:=λi W l ok _ hi=>by
  unfold cL at hi
  have hi':n<=i:=by simpa using hi
  exact hi'
def bK(fs:AF):IF:=λδ μ=>(fs δ μ).bind λr=>match r.1 with
 | [.int j]=>if -(2 ^ 62)<=j/\j<2 ^ 62 then some (⟨cL 0 j.toNat,none⟩,r.2)else none
 |_=>none
theorem cA{a:Expr}{fs:AF}{p:Pos}(hm:X.mg "range"=none)(ha:PAD X tb [a] fs)(hg:Gl X "range":=by rfl)(hs:starEach [a] X.env=[(false,eval a X.env)]:=by rfl):PID X tb tg (.Call (.Name "range" p) [a] [] pos) (bK fs):=
 Ir (Fo hg hm ha hs) λσ H R zq8=>by
  obtain⟨W,δ,S,μ',e,ok,hd,hf,h⟩:=zq8
  unfold bK at hf
  obtain⟨⟨xs,μ1⟩,e1,e2⟩:=Za.mp hf
  match xs,e1,e2 with
  | [.int j],e1,e2=>
   have e2':(if -(2 ^ 62)<=j/\j<2 ^ 62 then some ((⟨cL 0 j.toNat,none⟩:Src),μ1)else none)=some (S,μ'):=e2
   split at e2'
   .rename_i hj
    cases e2'
    refine⟨W,δ,_,_,e,ok,hd,e1,λvs W1 ok1 l1 m1 d1=>?_⟩
    obtain⟨u,rfl,du⟩:=aD.one d1
    rw[bx du]
    exact⟨j,rfl,hj.1,hj.2,h _ W1 ok1 l1 m1 PK⟩
   .cases e2'
open Classical in
noncomputable def forL(S:Src)(h:GF)(b:SF):List D->SF
 | [],δ,μ=>if S.ok μ then some (.nx,δ,μ)else none
 |d::r,δ,μ=>if S.ok μ then(h d δ μ).bind λδ1=>(b δ1 μ).bind λq=>match q.1 with
  | .nx=>forL S h b r q.2.1 q.2.2
  | .ct=>forL S h b r q.2.1 q.2.2
  | .bk=>some (.nx,q.2)
  | .rt d=>some (.rt d,q.2)
  else none
noncomputable def fV(f:IF)(h:GF)(b:SF):SF:=λδ μ=>(f δ μ).bind λr=>forL r.1 h b r.1.items δ r.2
theorem cY{body:List Stmt}{fi:IF}{ts:List Nat}{h:GF}{b:SF}(hp:PassesOwn (model X.prog X.w) X.A X.env X.xe)(hc:X.calm=true)(hi:PID X tb tg iter fi)(hg:PGD X tb tg ts h)(hb:ww X tb body b)
  (hs:∀x,foldedSetIterable iter X.env x=pure x:=by intro _;rfl):PSD X tb (.For tg iter body [] pos) (fV fi h b):=
 mR (RK hp hc hi hg hb hs) λE σ H zq10=>by
  obtain⟨W,δ,fl,δ',μ',e,ok,hd,hf,k⟩:=zq10
  unfold fV at hf
  obtain⟨⟨S,μ1⟩,e1,e2⟩:=Za.mp hf
  refine⟨W,δ,S,μ1,e,ok,hd,e1,λJ W1 ok1 l1 m1 io=>?_⟩
  refine⟨λi m σ2 H2=>m=S.items.length-i/\i<=S.items.length/\∃W2 δ2,W2.H=H2/\WOk X.K tb W2/\Le tb W1 W2/\jH X.K tb W2 δ2 σ2/\forL S h b (S.items.drop i) δ2 W2.mu=some (fl,δ',μ'),
   ⟨S.items.length,rfl,Nat.zero_le _,W1,δ,rfl,ok1,Le.refl _,hd.mono' l1,by rw[m1];exact e2⟩,?_⟩
  rintro i m σ2 H2 ⟨hm,hi',W2,δ2,rfl,ok2,l2,d2,hn⟩
  by_cases hlt:i<S.items.length
  .right
   have hdr:S.items.drop i=S.items[i]::S.items.drop (i+1):=List.drop_eq_getElem_cons hlt
   rw[hdr]at hn
   unfold forL at hn
   split at hn
   .rename_i hok
    obtain⟨δ3,e3,hn⟩:=Za.mp hn
    obtain⟨⟨fl4,δ4,μ4⟩,e4,e5⟩:=Za.mp hn
    obtain⟨go,yl⟩:=io.go i W2 S.items[i] l2 ok2 hok (by simp[hlt])
    refine⟨go,λσ5 H5=>∃W5,W5.H=H5/\WOk X.K tb W5/\Le tb W1 W5/\jH X.K tb W5 δ4 σ5/\forL S h b (S.items.drop (i+1)) δ4 W5.mu=some (fl,δ',μ'),λσ5 H5 ⟨W5,q1,q2,q3,q4,q5⟩=>⟨S.items.length-(i+1),by omega,rfl,hlt,W5,δ4,q1,q2,q3,q4,q5⟩,λx H' y=>?_⟩
    obtain⟨W3,rfl,ok3,l3,m3,d3⟩:=yl x H' y
    refine⟨W3,δ2,S.items[i],δ3,rfl,ok3,d2.mono' l3,d3,(by rw[m3];exact e3),λσ3 d3' _ _=>?_⟩
    refine⟨W3,δ3,fl4,δ4,μ4,rfl,ok3,d3',(by rw[m3];exact e4),λσ4 W4 ok4 l4 m4 d4=>?_⟩
    cases fl4 with
    |nx=>exact⟨W4,rfl,ok4,(l2.trans l3).trans l4,d4,by rw[m4];exact e5⟩
    |ct=>exact⟨W4,rfl,ok4,(l2.trans l3).trans l4,d4,by rw[m4];exact e5⟩
    |bk=>cases e5;exact k σ4 W4 ok4 (((l1.trans l2).trans l3).trans l4) m4 d4
    |rt d=>cases e5;exact k σ4 W4 ok4 (((l1.trans l2).trans l3).trans l4) m4 d4
   .cases hn
  .left
   have hdr:S.items.drop i=[]:=List.drop_of_length_le (by omega)
   rw[hdr]at hn
   unfold forL at hn
   split at hn
   .rename_i hok
    have hn':some (Fl.nx,δ2,W2.mu)=some (fl,δ',μ'):=hn
    cases hn'
    exact⟨io.stop i W2 l2 ok2 hok (by omega),k σ2 W2 ok2 (l1.trans l2) rfl d2⟩
   .cases hn
abbrev LF:=En->Mu->Option (List D×Mu)
def tDN(K:PySem.W.Frag)(tb:List Addr)(f:LF):TE:=λσ H Q=>∃W δ ds μ',W.H=H/\WOk K tb W/\jH K tb W δ σ/\f δ W.mu=some (ds,μ')/\
 ∀p vs W',WOk K tb W'->Le tb W W'->W'.mu=μ'->W'.H p=none->cJ K tb W' ds vs->Q (.ref p) (upd W'.H p (.lst vs))
def PDN(X:Cx)(tb:List Addr)(e:Expr)(f:LF):Prop:=PE X e (tDN X.K tb f)
def mFz(f:LF):EF:=λδ μ=>(f δ μ).bind λr=>some (.lst r.1,r.2)
def nq(f:LF):EF:=λδ μ=>(f δ μ).bind λr=>some (.cell r.2.length,r.2++[some r.1])
theorem dX{f:LF}(h:PDN X tb e f):PD X tb e (mFz f):=dO h λσ H Q zq11=>by
 obtain⟨W,δ,d,μ',e,ok,hd,hf,k⟩:=zq11
 unfold mFz at hf
 obtain⟨⟨ds,μ1⟩,e1,e2⟩:=Za.mp hf
 cases e2
 refine⟨W,δ,ds,_,e,ok,hd,e1,λp vs W1 ok1 l1 m1 hp r=>?_⟩
 exact lH ok1 (λv W' ok' l' m' d'=>k v W' ok' (l1.trans l') (m'.trans m1) d') r hp
theorem lF{f:LF}(h:PDN X tb e f):PD X tb e (nq f):=dO h λσ H Q zq12=>by
 obtain⟨W,δ,d,μ',e,ok,hd,hf,k⟩:=zq12
 unfold nq at hf
 obtain⟨⟨ds,μ1⟩,e1,e2⟩:=Za.mp hf
 cases e2
 refine⟨W,δ,ds,μ1,e,ok,hd,e1,λp vs W1 ok1 l1 m1 hp r=>?_⟩
 obtain⟨ok2,l2,d2⟩:=ok1.new hp r
 exact k _ _ ok2 (l1.trans l2) (by show W1.mu++[some ds]=_;rw[m1]) (by rw[<-m1];exact d2)
def rN(fs:AF):LF:=λδ μ=>(fs δ μ).bind λr=>if r.1.length<=sizeLine then some r else none
theorem oU{es:List Expr}{fs:AF}(h:PAD X tb es fs):PDN X tb (.List es pos) (rN fs):=dO (Kf h) λσ H Q zq13=>by
 obtain⟨W,δ,ds,μ',e,ok,hd,hf,k⟩:=zq13
 unfold rN at hf
 obtain⟨⟨xs,μ1⟩,e1,e2⟩:=Za.mp hf
 split at e2
 .rename_i hl
  cases e2
  exact⟨W,δ,_,_,e,ok,hd,e1,λvs W1 ok1 l1 m1 d1=>⟨by rw[<-aD.length d1];exact hl,λp hp=>k p vs W1 ok1 l1 m1 hp d1⟩⟩
 .cases e2
def cW(own:List Str)(δ:En)(capI:List Nat):En:=List.replicate own.length none++capI.map λi=>(δ[i]?).join
theorem ug{K:PySem.W.Frag}{W:Wd}{own:List Str}{capI:List Nat}{δ:En}{σ:SV}(h:jH K tb W δ σ):jH K tb W (cW own δ capI) (cR own σ capI):=by
 refine⟨by unfold cW cR lW;simp,λi d e=>?_⟩
 unfold cW at e
 unfold cR lW
 by_cases hi:i<own.length
 .rw[Zs (by simpa using hi),List.getElem?_replicate]at e
  split at e<;>cases e
 .rw[List.getElem?_append_right (by simpa using hi),List.getElem?_map]at e
  rw[List.getElem?_append_right (by simpa using hi),List.getElem?_map]
  rw[List.length_replicate]at e ⊢
  cases q:capI[i-own.length]? with
  |none=>rw[q]at e;cases e
  |some j=>
   rw[q]at e
   have e':(δ[j]?).join=some d:=by simpa using e
   cases q2:δ[j]? with
   |none=>rw[q2]at e';cases e'
   |some o=>
    rw[q2]at e'
    have e2:o=some d:=e'
    subst e2
    obtain⟨v,ev,dv⟩:=h.2 j d q2
    exact⟨v,by simp[ev],dv⟩
theorem fits_of{own:List Str}{capI:List Nat}{σ σ':SV}{ts:List Nat}(hts:∀i∈ts,i<own.length)(hl:σ'.length=(cR own σ capI).length)(h:∀i,i∉ts->σ'[i]? =(cR own σ capI)[i]?):Fits (cR own σ capI) σ':=
 ⟨hl,λi v e=>by
  rw[h i λz=>?_]
  .exact e
  .unfold cR at e
   rw[Zs (by simpa using hts i z),List.getElem?_replicate]at e
   split at e<;>cases e⟩
open Classical in
noncomputable def lcL(S:Src)(h:GF)(tt:TF)(fe:EF)(δb:En):List D->Mu->Option (List D×Mu)
 | [],μ=>if S.ok μ then some ([],μ)else none
 |d::r,μ=>if S.ok μ then(h d δb μ).bind λδ1=>(tt δ1 μ).bind λk=>if k.1=true then(fe δ1 k.2).bind λy=>(lcL S h tt fe δb r y.2).bind λys=>some (y.1::ys.1,ys.2)else lcL S h tt fe δb r k.2 else none
noncomputable def lLC(own:List Str)(capI:List Nat)(fi:IF)(h:GF)(tt:TF)(fe:EF):LF:=λδ μ=>(fi δ μ).bind λr=>if r.1.items.length<=sizeLine then lcL r.1 h tt fe (cW own δ capI) r.1.items r.2 else none
def MF(X:Cx)(tb:List Addr)(ifs:List Expr)(t:TF):Prop:=PIf X ifs (tDT X.K tb t)
def cN:TF:=λ_ μ=>some (true,μ)
theorem RM{X:Cx}{e:List Expr}{t t':TT}(h:PIf X e t)(k:∀σ H Q,t' σ H Q->t σ H Q):PIf X e t':=λpins s σ H Q I hq=>h pins s σ H Q I (k σ H Q hq)
theorem fZ:MF X tb [] cN:=RM Mf λσ H Q zq14=>by
 obtain⟨W,δ,k,μ',e,ok,hd,hf,h⟩:=zq14
 subst e;cases hf
 exact h W ok (Le.refl _) rfl
theorem Bh{c:Expr}{t:TF}(h:PTD X tb c t):MF X tb [c] t:=KQ h
theorem jk{ifs:List Expr}{fi:IF}{h:GF}{tt:TF}{fe:EF}{own cap:List Str}{capI ts:List Nat}{scope:Scope}(hc:X.calm=true)(B:fY X own cap capI scope)(hown:∀x∈own,(x,NameKind.free)∉scope.names)(hi:PID X tb tg iter fi)
  (hg:∀cs C fp s2 H2,PGD (dW X own cap scope cs C fp s2 H2) tb tg ts h) (ht:∀cs C fp s2 H2,MF (dW X own cap scope cs C fp s2 H2) tb ifs tt) (he:∀cs C fp s2 H2,PD (dW X own cap scope cs C fp s2 H2) tb elt fe)
  (hts:∀i∈ts,i<own.length:=by decide) (hs:∀x,foldedSetIterable iter X.env x=pure x:=by intro _;rfl):PDN X tb (.ListComp elt [⟨tg,iter,ifs,0⟩] scope pos) (lLC own capI fi h tt fe):=
 dO (Uc (g:=tDG X.K tb ts h) (tt:=tDT X.K tb tt) (te:=tD X.K tb fe) hc B hown hi hg ht he hs) λσ H Q zq15=>by
  obtain⟨W,δ,ds,μ',e,ok,hd,hf,k⟩:=zq15
  unfold lLC at hf
  obtain⟨⟨S,μ1⟩,e1,e2⟩:=Za.mp hf
  split at e2
  .rename_i hz
   refine⟨W,δ,S,μ1,e,ok,hd,e1,λJ W1 ok1 l1 m1 io=>?_⟩
   refine⟨λi m ys H2=>m=S.items.length-i/\i<=S.items.length/\ys.length<=i/\∃W2 zs rs,W2.H=H2/\WOk X.K tb W2/\Le tb W1 W2/\cJ X.K tb W2 zs ys/\lcL S h tt fe (cW own δ capI) (S.items.drop i) W2.mu=some (rs,μ')/\zs++rs=ds,
    ⟨S.items.length,rfl,Nat.zero_le _,Nat.zero_le _,W1,[],ds,rfl,ok1,Le.refl _,aD.nil,by rw[m1];exact e2,rfl⟩,?_⟩
   rintro i m ys H2 ⟨hm,hi',hy,W2,zs,rs,rfl,ok2,l2,d2,hn,hzs⟩
   by_cases hlt:i<S.items.length
   .right
    have hdr:S.items.drop i=S.items[i]::S.items.drop (i+1):=List.drop_eq_getElem_cons hlt
    rw[hdr]at hn
    unfold lcL at hn
    split at hn
    .rename_i hok
     obtain⟨δ3,e3,hn⟩:=Za.mp hn
     obtain⟨⟨kk,μ4⟩,e4,hn⟩:=Za.mp hn
     obtain⟨go,yl⟩:=io.go i W2 S.items[i] l2 ok2 hok (by simp[hlt])
     refine⟨go,Zc (Nat.lt_of_le_of_lt hy hlt) hz,λx H' y=>?_⟩
     obtain⟨W3,rfl,ok3,l3,m3,d3⟩:=yl x H' y
     refine⟨W3,cW own δ capI,S.items[i],δ3,rfl,ok3,(ug hd).mono' ((l1.trans l2).trans l3),d3,(by rw[m3];exact e3),λσ3 d3' hl3 ht3=>⟨fits_of hts hl3 ht3,?_⟩⟩
     refine⟨W3,δ3,kk,μ4,rfl,ok3,d3',(by rw[m3];exact e4),λW4 ok4 l4 m4=>?_⟩
     cases kk with
     |false=>
      rw[if_neg Zr]
      exact⟨S.items.length-(i+1),by omega,rfl,hlt,by omega,W4,zs,rs,rfl,ok4,(l2.trans l3).trans l4,cJ.mono' d2 (l3.trans l4),by rw[m4];exact hn,hzs⟩
     |true=>
      rw[if_pos rfl]
      have hn':((fe δ3 μ4).bind λy=>(lcL S h tt fe (cW own δ capI) (S.items.drop (i+1)) y.2).bind λys=>some (y.1::ys.1,ys.2))=some (rs,μ'):=hn
      obtain⟨⟨yd,μ5⟩,e5,hn'⟩:=Za.mp hn'
      obtain⟨⟨rs',μ6⟩,e6,e7⟩:=Za.mp hn'
      cases e7
      refine⟨W4,δ3,yd,μ5,rfl,ok4,d3'.mono' l4,(by rw[m4];exact e5),λv W5 ok5 l5 m5 d5=>?_⟩
      refine⟨S.items.length-(i+1),by omega,rfl,hlt,by rw[List.length_append];simp;omega,W5,zs++[yd],rs',rfl,ok5,((l2.trans l3).trans l4).trans l5,aD.append (cJ.mono' d2 ((l3.trans l4).trans l5)) (aD.cons d5 aD.nil),by rw[m5];exact e6,by rw[List.append_assoc];exact hzs⟩
    .cases hn
   .left
    have hdr:S.items.drop i=[]:=List.drop_of_length_le (by omega)
    rw[hdr]at hn
    unfold lcL at hn
    split at hn
    .rename_i hok
     cases hn
     rw[List.append_nil]at hzs
     subst hzs
     exact⟨io.stop i W2 l2 ok2 hok (by omega),λl hl=>k l ys W2 ok2 (l1.trans l2) rfl hl d2⟩
    .cases hn
  .cases e2
end
end L3
namespace L2
open PySem PySem.Spec PyProof.Rows
theorem yC{X:Cx}{pins:List (Addr×Obj)}{σ:L2.St}{H:Hp}{s:Shared}(I:Inv X pins σ H s)(hc:X.calm=true){A':Around}(h1:A'.handled=X.A.handled)(h2:A'.frames=X.A.frames):A'.handled=none/\A'.frames=some X.stack:=
 ⟨h1.trans (I.ok.hd hc),h2.trans I.ok.frames⟩
theorem tW{X:Cx}{e:Expr}{pos:Pos}{s:Shared}{Q:List Value->Shared->Prop}(h:wpAny (model X.prog X.w) X.A (eval e X.env) (λu s1=>Q [u] s1) X.xe s)(hs:starEach [e] X.env=(false,eval e X.env)::starEach [] X.env:=by rfl):
  wpAny (model X.prog X.w) X.A (spliced (backTo pos (starEach [e] X.env))) Q X.xe s:=by
 rw[hs]
 show wpAny _ _ (spliced ((false,eval e X.env)::backTo pos (starEach [] X.env))) _ _ s
 exact Calls.spliced_cons (thn h λu s1 q=>Calls.spliced_nil q)
def Ky(y:V)(k:Bool):Prop:=y= .bl k∨∃i,y= .int i/\k=(i != 0)
theorem Li{P:Program}{w:World}{A:Around}{E:Value->Shared->Prop}{s:Shared}{y:V}{v:Value}{k:Bool}{Q:Bool->Shared->Prop}(r:RelV y v)(h:Ky y k)(hq:Q k s):wpAny (model P w) A (truthy v) Q E s:=by
 rcases h with rfl|⟨i,rfl,rfl⟩
 .cases r;exact wpAny_truthy_bool hq
 .obtain⟨t,rfl⟩:=r;exact PySem.P.truthy_int hq
section
variable {X:Cx} {e:Expr} {ts:uU} {p pos:Pos} {pins:List (Addr×Obj)} {σ:L2.St}
def Tz(ts:uU):TE:=λσ H Q=>ts σ H λS H1=>∃W:Nat->Nat->Hp->Prop,(∃m,W 0 m H1)/\∀i m H,W i m H->
 (S.fin i H/\Q (.bl true) H)∨S.nxt i H λy H'=>∃k,Ky y k/\if k=true then∃m',m'<m/\W (i+1) m' H' else Q (.bl false) H'
theorem HS{it:Addr}{lo:Nat}{S:qu}{SS:List (Addr×Obj)->Nat->Hp->Shared->Prop}{Q:VK}{W:Nat->Nat->Hp->Prop}(sm:Ds X pins σ X.A.in1 it lo S SS)
  (st:∀i m H,W i m H->(S.fin i H/\Q (.bl true) H)∨S.nxt i H λy H'=>∃k,Ky y k/\if k=true then∃m',m'<m/\W (i+1) m' H' else Q (.bl false) H'):
  ∀(m i:Nat)(H:Hp)(s:Shared),SS [] i H s->W i m H->codeAny (model X.prog X.w) X.A (.builtin "all.loop" ⟨[.ref it],[]⟩) (λr s'=>∃u,r= .ok (.ret u)/\EP X pins σ Q u s') s:=by
 intro m
 induction m using Nat.strongRecOn with
 |ind m ih=>
  intro i H s hs hw
  refine codeAny_builtin F.entry_all_loop ?_
  rw[Around.under_plainId F.plain_all_loop _]
  show wpAny _ X.A.in1 (pyNext (.ref it) >>= _) _ _ s
  rcases st i m H hw with⟨hf,q⟩|hn
  .refine wpAny_bind (wpAny_mono (sm.stop (λ_ _=>False) hs hf) (λr s1 ⟨hr,I1⟩=>?_) λ_ _ z=>z.elim)
   subst hr
   refine wpAny_bind (wpAny_rule (wpAny_pure ⟨_,rfl,.bl true,H,?_,rfl,q⟩))
   rw[List.append_nil]at I1
   exact I1
  .refine wpAny_bind (wpAny_mono (sm.next (λ_ _=>False) hs hn) (λr s1 ⟨u,y,H',hr,ry,⟨k,tk,q⟩,hs'⟩=>?_) λ_ _ z=>z.elim)
   subst hr
   refine wpAny_bind (wpAny_holding (Li ry tk ?_))
   refine wpAny_bind (wpAny_letGo ?_)
   cases k with
   |true=>
    simp only[if_true]
    rw[if_pos rfl]at q
    obtain⟨m',hm,hw'⟩:=q
    exact wpAny_pure ⟨plainId_quiet F.plain_all_loop _,ih m' hm (i+1) H' s1 hs' hw'⟩
   |false=>
    simp only[Bool.false_eq_true,if_false]
    rw[if_neg Zr]at q
    refine wpAny_bind (wpAny_rule (wpAny_pure ⟨_,rfl,.bl false,H',?_,rfl,q⟩))
    have I1:=sm.inv hs'
    rw[List.append_nil]at I1
    exact I1
theorem Oc(hc:X.calm=true)(hm:X.mg "all"=none)(hstr:NZ X e ts)(hg:Gl X "all":=by rfl)(hs:starEach [e] X.env=(false,eval e X.env)::starEach [] X.env:=by rfl):PE X (.Call (.Name "all" p) [e] [] pos) (Tz ts):=by
 intro pins s σ H Q I h
 refine wpAny_Call_Name_kw (mK I hg hm boot_all ?_ (by decide) (by decide))
 refine PyProof.Rows.callWith_builtin1 (tW (thn (hstr pins s σ H _ I h) λu s1 ⟨S,H1,I1,rdy,W,⟨m,w0⟩,st⟩=>?_) hs) hs rfl
 refine call_function_tree F.kind_all F.plain_all F.entry_all (F.args_all1 _) ?_
 unfold Builtin.«all»
 refine wpAny_bind (m:=oneArg "all" _) (wpAny_pure ?_)
 obtain⟨a1,a2⟩:=yC I1 hc (A':=X.A.in1) rfl rfl
 refine wpAny_bind (wpAny_mono (rdy X.A.in1 (λ_ _=>False) a1 a2 (Nat.le_succ _) (by show X.A.units+1<=_;omega)) (λitv s2 ⟨it,lo,SS,e,sm,s0,_⟩=>?_) λ_ _ z=>z.elim)
 subst e
 refine wpAny_pure ⟨plainId_quiet F.plain_all_loop _,codeAny_mono (HS sm st m 0 H1 s2 s0 w0) λr s' ⟨u,hr,q⟩=>?_⟩
 subst hr
 exact q
end
section
variable {X:Cx} {e:Expr} {ts:uU} {p pos:Pos} {pins:List (Addr×Obj)} {σ:L2.St}
def Rz(S:qu)(Fin:List V->Hp->Prop)(H1:Hp):Prop:=∃W:Nat->Nat->List V->Hp->Prop,(∃m,W 0 m [] H1)/\∀i m ys H,W i m ys H->
 (S.fin i H/\Fin ys H)∨(ys.length<sizeLine/\S.nxt i H λy H'=>∃m',m'<m/\W (i+1) m' (ys++[y]) H')
theorem Bc{A:Around}{it D:Addr}{lo:Nat}{S:qu}{SS:List (Addr×Obj)->Nat->Hp->Shared->Prop}{Fin:List V->Hp->Prop}{W:Nat->Nat->List V->Hp->Prop}{res:Value}(sm:Ds X pins σ A.in1 it lo S SS)(hD:lo<=D)
  (st:∀i m ys H,W i m ys H->(S.fin i H/\Fin ys H)∨(ys.length<sizeLine/\S.nxt i H λy H'=>∃m',m'<m/\W (i+1) m' (ys++[y]) H')):
  ∀(m i:Nat)(ys:List V)(us:List Value)(c:Nat)(H:Hp)(s:Shared),SS [] i H s->W i m ys H->Vals ys us->ys.length<=sizeLine->s.heap.get? D=some (bR us c)->H D=none->
   codeAny (model X.prog X.w) A (.builtin "list.extend.loop" ⟨[.ref D,.ref it,res],[]⟩) (λr s'=>r= .ok (.ret res)/\∃ys us c H',Inv X pins σ H' s'/\Vals ys us/\ys.length<=sizeLine/\s'.heap.get? D=some (bR us c)/\H' D=none/\Fin ys H') s:=by
 intro m
 induction m using Nat.strongRecOn with
 |ind m ih=>
  intro i ys us c H s hs hw hv hz ho hn
  have hsp:=sm.pin hs hD ho hn (λv z=>by cases z)
  refine codeAny_builtin F.entry_extend_loop ?_
  rw[Around.under_plainId F.plain_extend_loop _]
  show wpAny _ A.in1 (pyNext (.ref it) >>= _) _ _ s
  rcases st i m ys H hw with⟨hf,q⟩|⟨hlt,hn'⟩
  .refine wpAny_bind (wpAny_mono (sm.stop (λ_ _=>False) hsp hf) (λr s1 ⟨hr,I1⟩=>?_) λ_ _ z=>z.elim)
   subst hr
   have pl:=I1.pin (D,bR us c) (by simp)
   exact wpAny_pure ⟨rfl,ys,us,c,H,I1.pins_of λp hp=>I1.pin p (by simp[hp]),hv,hz,pl.1,hn,q⟩
  .refine wpAny_bind (wpAny_mono (sm.next (λ_ _=>False) hsp hn') (λr s1 ⟨u,y,H',hr,ry,⟨m',hm,hw'⟩,hs'⟩=>?_) λ_ _ z=>z.elim)
   subst hr
   have pl:=(sm.inv hs').pin (D,bR us c) (by simp)
   have hul:us.length=ys.length:=hv.length.symm
   show wpAny _ A.in1 (updateSeq D (·.push u) >>= _) _ _ _
   refine wpAny_bind ?_
   refine wpAny_updateSeq pl.1 rfl (wpAny_pure ⟨plainId_quiet F.plain_extend_loop _,ih m' hm (i+1) (ys++[y]) (us++[u]) (c+1) H' _ (sm.acc (tk:=s1.toks) (sm.unpin hs') hD pl.2.1 (λp hp=>absurd hp (by simp)) λb o hb e=>(Heap.get?_update_other _ _ (Ne.symm hb)).trans e) hw' (hv.append (.cons ry .nil)) (by rw[List.length_append];exact hlt) ?_ pl.2.1⟩) ?_ ?_
   .rw[Heap.get?_update_self _ pl.1 rfl]
    simp[Obj.mapSeq,bR]
   .show us.toArray.size<=sizeLine
    rw[Zd,hul];exact hz
   .show(us.toArray.push u).size<=sizeLine+1
    rw[Array.size_push,Zd,hul];omega
theorem Am{A:Around}{E:Value->Shared->Prop}{a:Addr}{lo:Nat}{S:qu}{SS:List (Addr×Obj)->Nat->Hp->Shared->Prop}{Fin:List V->Hp->Prop}{H:Hp}{s:Shared}{Q:List Value->Shared->Prop}(sm:Ds X pins σ A.in1 a lo S SS)(hs:SS [] 0 H s)(hal:a<lo)(hlo:lo<=s.heap.objs.size)
  (hg:∀P i H s,SS P i H s->∃g,s.heap.IsGen a g) (hC:Rz S Fin H) (hQ:∀ys us H' s',Inv X pins σ H' s'->Vals ys us->ys.length<=sizeLine->Fin ys H'->Q us s'):wpAny (model X.prog X.w) A (collect (.ref a)) Q E s:=by
 obtain⟨W,⟨m,w0⟩,st⟩:=hC
 have hT:∀{P i H s},SS P i H s->s.TypeIs (.ref a) "generator":=λh=>let⟨g,ig⟩:=hg _ _ _ _ h;ig.typeIs
 have hSa:s.heap.objs.size≠a:=Nat.ne_of_gt (Zc hal hlo)
 unfold collect
 refine wpAny_bind (wpAny_runValue (codeAny_builtin F.entry_proto_collect ?_))
 rw[Around.under_plainId F.plain_proto_collect _]
 show wpAny _ A.in1 (newList [] >>= λl=>again (.builtin "list.__iadd__" ⟨[l,.ref a],[]⟩)) _ _ s
 refine wpAny_bind (wpAny_newObj_type ?_)
 refine wpAny_pure ⟨plainId_quiet F.plain_list_iadd _,codeAny_builtin F.entry_list_iadd ?_⟩
 rw[Around.under_plainId F.plain_list_iadd _]
 have hn:H s.heap.objs.size=none:=(sm.inv hs).hok.fresh (Zg _)
 have hst₁:=sm.keep (h':=s.heap.push { cls:=.type "list",data:=.seq ([]:List Value).toArray}) (tk:=s.toks) hs λb o e=>Zb _ e
 show wpAny _ A.in1 (Builtin.List.listExtendWith (.ref s.heap.objs.size) (.ref a) (.ref s.heap.objs.size)) _ _ _
 unfold Builtin.List.listExtendWith
 refine wpAny_bind (wpAny_typeOf (hT hst₁) ?_)
 have h1:Builtin.List.listSameRef (.ref s.heap.objs.size) (.ref a)=false:=by simp[Builtin.List.listSameRef,hSa]
 have h2:(Value.type "generator"==Value.type "list")=false:=by decide
 have h3:(Value.type "generator"==Value.type "tuple")=false:=by decide
 simp only[h1,h2,h3,Bool.or_false,Bool.false_eq_true,if_false]
 obtain⟨g1,ig1⟩:=hg _ _ _ _ hst₁
 refine wpAny_bind (wpAny_pyIter_gen ig1 ?_)
 refine wpAny_bind (wpAny_holding ?_)
 unfold Builtin.List.listLengthHint
 refine wpAny_bind (wpAny_specialOf (hT hst₁) F.gen_no_len ?_)
 show wpAny _ A.in1 (specialOf (Value.ref a) (Str.ofString "__length_hint__") >>= _) _ _ _
 refine wpAny_bind (wpAny_specialOf (hT hst₁) F.gen_no_hint ?_)
 refine wpAny_pure ?_
 show wpAny _ A.in1 (rule "list.extend.makes-room" >>= λ_=>Builtin.List.listTouch (.ref s.heap.objs.size) >>= λ_=>
  again (.builtin "list.extend.loop" ⟨[.ref s.heap.objs.size,.ref a,.ref s.heap.objs.size],[]⟩)) _ _ _
 refine wpAny_bind (wpAny_rule ?_)
 have hS₁:(s.heap.push { cls:=.type "list",data:=.seq ([]:List Value).toArray}).get? s.heap.objs.size=some { cls:=.type "list",data:=.seq ([]:List Value).toArray}:=Zf _ rfl
 refine wpAny_bind ?_
 show wpAny _ A.in1 (updateSeq s.heap.objs.size (·.push .none) >>= λ_=>updateSeq s.heap.objs.size (·.pop)) _ _ _
 refine wpAny_bind (wpAny_updateSeq hS₁ rfl ?_)
 have hS₂:=Heap.get?_update_self (Obj.mapSeq (·.push Value.none)) hS₁ rfl
 refine wpAny_updateSeq hS₂ rfl ?_
 have hS₃:=Heap.get?_update_self (Obj.mapSeq (·.pop)) hS₂ rfl
 have oth:∀b o,b≠s.heap.objs.size->(s.heap.push { cls:=.type "list",data:=.seq ([]:List Value).toArray}).get? b=some o->
   (((s.heap.push { cls:=.type "list",data:=.seq ([]:List Value).toArray}).update s.heap.objs.size (Obj.mapSeq (·.push Value.none))).update s.heap.objs.size (Obj.mapSeq (·.pop))).get? b=some o:=
  λb o hb e=>(Heap.get?_update_other _ _ (Ne.symm hb)).trans ((Heap.get?_update_other _ _ (Ne.symm hb)).trans e)
 refine wpAny_pure ⟨plainId_quiet F.plain_extend_loop _,codeAny_mono (Bc (res:=.ref s.heap.objs.size) sm hlo st m 0 [] [] _ H _ (sm.acc (s:=({ s with heap:=s.heap.push { cls:=.type "list",data:=.seq ([]:List Value).toArray} }:Shared)) (h':=((s.heap.push { cls:=.type "list",data:=.seq ([]:List Value).toArray}).update s.heap.objs.size (Obj.mapSeq (·.push Value.none))).update s.heap.objs.size (Obj.mapSeq (·.pop))) (tk:=s.toks) hst₁ hlo hn (λp hp=>absurd hp (by simp)) oth) w0 .nil (Nat.zero_le _) hS₃ hn) λr s' ⟨hr,ys,us,c,H',I',hv,hz,ho,hn',hfin⟩=>?_⟩
 subst hr
 show wpAny _ A (load s.heap.objs.size >>= _) _ _ s'
 refine wpAny_bind (wpAny_load ho ?_)
 refine wpAny_pure ?_
 have e:(us.toArray).toList=us:=by simp
 show Q (us.toArray).toList s'
 rw[e]
 exact hQ ys us H' s' I' hv hz hfin
def SM(ts:uU):TE:=λσ H Q=>ts σ H λS H1=>Rz S (λys H'=>∀p,H' p=none->Q (.ref p) (upd H' p (.tup ys))) H1
theorem vh{A:Around}{E:Value->Shared->Prop}{a:Addr}{lo:Nat}{S:qu}{SS:List (Addr×Obj)->Nat->Hp->Shared->Prop}{Fin:List V->Hp->Prop}{H:Hp}{s:Shared}{Q₁:Value->Shared->Prop}(sm:Ds X pins σ A.in1.in1 a lo S SS)(hs:SS [] 0 H s)(hal:a<lo)(hlo:lo<=s.heap.objs.size)
  (hg:∀P i H s,SS P i H s->∃g,s.heap.IsGen a g) (hC:Rz S Fin H) (h:∀ys us H' s',Inv X pins σ H' s'->Vals ys us->ys.length<=sizeLine->Fin ys H'->Q₁ (.ref s'.heap.objs.size) { s' with heap:=s'.heap.push { cls:=.type "tuple",data:=.seq us.toArray} }):
  codeAny (model X.prog X.w) A (.call (.builtin "tuple.__new__") ⟨[.type "tuple",.ref a],[]⟩) (wants Q₁ E) s:=by
 refine codeAny_of_tree ?_
 show wpAny _ A.in1 (do checkBuiltinCall "tuple.__new__" ⟨[.type "tuple",.ref a],[]⟩;again (.builtin "tuple.__new__" ⟨[.type "tuple",.ref a],[]⟩)) _ _ s
 refine wpAny_bind (wpAny_of_eq (F.newCall_tuple_1 _) (wpAny_pure ⟨plainId_quiet F.plain_tuple_new _,codeAny_builtin F.entry_tuple_new ?_⟩))
 rw[Around.under_plainId F.plain_tuple_new _]
 have hsub:=sub_tuple_self
 have hinit:=init_tuple_lookup
 have hmh:=madeHere_tuple
 obtain⟨g0,ig0⟩:=hg _ _ _ _ hs
 have hTI:=ig0.typeIs
 have col:∀{Q:List Value->Shared->Prop}{E:Value->Shared->Prop},(∀ys us H' s',Inv X pins σ H' s'->Vals ys us->ys.length<=sizeLine->Fin ys H'->Q us s')->wpAny (model X.prog X.w) A.in1 (collect (.ref a)) Q E s:=λhQ=>Am sm hs hal hlo hg hC hQ
 wp_walk using wpAny_typeOf hTI,col
 intro ys us H' s' I' hv hz hfin
 show wpAny _ _ (Builtin.Tuple.tupleExact us.toArray >>= λv=>ret v) _ _ _
 unfold Builtin.Tuple.tupleExact
 refine wpAny_bind (wpAny_newObj_type ?_ (by show us.toArray.size<=sizeLine;rw[Zd,<-hv.length];exact hz))
 refine wpAny_pure ?_
 exact h ys us H' s' I' hv hz hfin
theorem Lh(hc:X.calm=true)(hm:X.mg "tuple"=none)(hstr:wU X e ts)(hg:Gl X "tuple":=by rfl)(hs:starEach [e] X.env=(false,eval e X.env)::starEach [] X.env:=by rfl):PE X (.Call (.Name "tuple" p) [e] [] pos) (SM ts):=by
 intro pins s σ H Q I h
 refine wpAny_Call_Name_kw (mK I hg hm PyProof.Rows.boot_tuple ?_ (by decide) (by decide))
 refine PyProof.Rows.callWith_type1 (tW (thn (hstr pins s σ H _ I h) λu s1 ⟨a,S,H1,e,I1,rdy,hC⟩=>?_) hs) hs rfl
 subst e
 obtain⟨a1,a2⟩:=yC I1 hc (A':=X.A.in1.in1.in1) rfl rfl
 obtain⟨lo,SS,sm,s0,hal,hlo,hgn⟩:=rdy X.A.in1.in1.in1 a1 a2 (Nat.le_succ _) (by show X.A.units+1+1+1<=_;omega)
 refine callType_codes (Q₁:=λobj s₁=>s₁.TypeIs obj "tuple"/\EP X pins σ Q obj s₁) F.called_tuple (F.typeCall_tuple_1 _) F.entry_object_init
  (vh (A:=X.A.in1) sm s0 hal hlo hgn hC λys us H' s' I' hv hz hfin=>⟨⟨_,Zf _ rfl,rfl⟩,?_⟩) λobj s₁ h₁=>?_
 .have hf:H' s'.heap.objs.size=none:=I'.hok.fresh (Zg _)
  refine⟨.ref s'.heap.objs.size,upd H' s'.heap.objs.size (.tup ys),I'.laid (t':=s'.toks) (λb u e=>Zb _ e) (Zg _) ?_,rfl,hfin _ hf⟩
  exact⟨hz,us,hv,⟨_,Zf _ rfl,rfl,_,rfl⟩⟩
 .exact⟨h₁.1,F.args_object_init_2 obj _,object_init_meets F.called_tuple.init.lookup F.called_tuple.made (by decide) X.prog X.w X.A.in1 _ s₁ ⟨h₁.1,rfl,h₁.2⟩⟩
def TY(ts:uU):TE:=λσ H Q=>ts σ H λS H1=>∃W:Nat->Nat->Int->Hp->Prop,(∃m,W 0 m 0 H1)/\∀i m t H,W i m t H->
 (S.fin i H/\Q (.int t) H)∨S.nxt i H λy H'=>∃j,y= .int j/\∃m',m'<m/\W (i+1) m' (t+j) H'
theorem HF{A:Around}{it D:Addr}{lo:Nat}{S:qu}{SS:List (Addr×Obj)->Nat->Hp->Shared->Prop}{Q:VK}{W:Nat->Nat->Int->Hp->Prop}(sm:Ds X pins σ A.in1 it lo S SS)(hD:lo<=D)
  (st:∀i m t H,W i m t H->(S.fin i H/\Q (.int t) H)∨S.nxt i H λy H'=>∃j,y= .int j/\∃m',m'<m/\W (i+1) m' (t+j) H'):
  ∀(m i:Nat)(t:Int)(tA:Tok)(c:Nat)(stage:Int)(H:Hp)(s:Shared),(stage=0∨stage=2)->SS [] i H s->W i m t H->s.heap.get? D=some (bR [.int t tA] c)->H D=none->
   codeAny (model X.prog X.w) A (.builtin "sum.loop" ⟨[.ref it,.ref D,rawInt stage,rawInt 0],[]⟩) (λr s'=>∃u,r= .ok (.ret u)/\EP X pins σ Q u s') s:=by
 intro m
 induction m using Nat.strongRecOn with
 |ind m ih=>
  intro i t tA c stage H s hstg hs hw ho hn
  have hsp:=sm.pin hs hD ho hn (λv z=>by cases z)
  refine codeAny_builtin F.entry_sum_loop ?_
  rw[Around.under_plainId F.plain_sum_loop _]
  show wpAny _ A.in1 (seqItems? (.ref D) >>= _) _ _ s
  refine wpAny_bind (wpAny_seqItems ho rfl ?_)
  show wpAny _ A.in1 (tryCatch (pyNext (.ref it)) _ >>= _) _ _ s
  rcases st i m t H hw with⟨hf,q⟩|hn'
  .refine wpAny_bind (wpAny_tryCatch (wpAny_mono (sm.stop (λ_ _=>False) hsp hf) (λr s1 ⟨hr,I1⟩=>?_) λ_ _ z=>z.elim))
   subst hr
   exact wpAny_pure ⟨_,rfl,.int t,H,I1.pins_of λp hp=>I1.pin p (by simp[hp]),⟨tA,rfl⟩,q⟩
  .refine wpAny_bind (wpAny_tryCatch (wpAny_mono (sm.next (λ_ _=>False) hsp hn') (λr s1 ⟨u,y,H',hr,ry,⟨j,ey,m',hm,hw'⟩,hs'⟩=>?_) λ_ _ z=>z.elim))
   subst hr ey
   obtain⟨tj,rfl⟩:=ry
   have pl:=(sm.inv hs').pin (D,bR [.int t tA] c) (by simp)
   have hs0:=sm.unpin hs'
   have plain:∀(next:Value->Int),(∀r,next r=2)->wpAny (model X.prog X.w) A.in1 (do
     match<-(holding [Value.int j tj] (binaryOp .Add (Value.int t tA) (Value.int j tj))).attempt with
     | .ok r=>updateSeq D λ_=> #[r];letGo [Value.int t tA,Value.int j tj];(do updateSeq D λ_=> #[r];again (.builtin "sum.loop" ⟨[.ref it,.ref D,rawInt (next r),rawInt 0],[]⟩))
     | .error e=>updateSeq D λ_=> #[];letGo [Value.int t tA,Value.int j tj] [e];throw e) (λfin s'=>match fin with
      | .done f=>∃u,(Except.ok f:Result)= .ok (.ret u)/\EP X pins σ Q u s'
      | .again c=>c.quiet=true/\codeAny (model X.prog X.w) A c (λr s'=>∃u,r= .ok (.ret u)/\EP X pins σ Q u s') s') (λe s'=>∃u,(Except.error e:Result)= .ok (.ret u)/\EP X pins σ Q u s') s1:=by
    intro next hnx
    refine wpAny_bind (wpAny_attempt (wpAny_holding (add_int ?_)))
    refine wpAny_bind (wpAny_updateSeq (s:={ s1 with toks:=s1.toks+1}) pl.1 rfl ?_)
    have o1:=Heap.get?_update_self (Obj.mapSeq (λ_=> #[Value.int (t+j) s1.toks])) pl.1 rfl
    refine wpAny_bind (wpAny_letGo ?_)
    refine wpAny_bind (wpAny_updateSeq o1 rfl ?_)
    have o2:=Heap.get?_update_self (Obj.mapSeq (λ_=> #[Value.int (t+j) s1.toks])) o1 rfl
    rw[hnx]
    refine wpAny_pure ⟨plainId_quiet F.plain_sum_loop _,ih m' hm (i+1) (t+j) s1.toks _ 2 H' _ (.inr rfl) (sm.acc (s:=s1) (h':=(s1.heap.update D (Obj.mapSeq (λ_=> #[Value.int (t+j) s1.toks]))).update D (Obj.mapSeq (λ_=> #[Value.int (t+j) s1.toks]))) (tk:=s1.toks+1) hs0 hD pl.2.1 (λp hp=>absurd hp (by simp)) λb o hb e=>(Heap.get?_update_other _ _ (Ne.symm hb)).trans ((Heap.get?_update_other _ _ (Ne.symm hb)).trans e)) hw' o2 pl.2.1⟩
   rcases hstg with rfl|rfl
   .show wpAny _ A.in1 (if(_:Bool)=true then(mkInt (t+j) >>= _)else _) _ _ _
    split
    .refine wpAny_bind (wpAny_mkInt ?_)
     show wpAny _ A.in1 (updateSeq D (λ_=> #[.int (t+j) s1.toks]) >>= _) _ _ _
     refine wpAny_bind (wpAny_updateSeq (s:={ s1 with toks:=s1.toks+1}) pl.1 rfl ?_)
     have o1:=Heap.get?_update_self (Obj.mapSeq (λ_=> #[Value.int (t+j) s1.toks])) pl.1 rfl
     exact wpAny_pure ⟨plainId_quiet F.plain_sum_loop _,ih m' hm (i+1) (t+j) s1.toks _ 0 H' _ (.inl rfl) (sm.acc (s:=s1) (h':=s1.heap.update D (Obj.mapSeq (λ_=> #[Value.int (t+j) s1.toks]))) (tk:=s1.toks+1) hs0 hD pl.2.1 (λp hp=>absurd hp (by simp)) λb o hb e=>(Heap.get?_update_other _ _ (Ne.symm hb)).trans e) hw' o1 pl.2.1⟩
    .exact wpAny_bind (wpAny_rule (plain (λ_=>2) λ_=>rfl))
   .exact plain (λ_=>2) λ_=>rfl
theorem LK(hc:X.calm=true)(hm:X.mg "sum"=none)(hstr:NZ X e ts)(hg:Gl X "sum":=by rfl)(hs:starEach [e] X.env=(false,eval e X.env)::starEach [] X.env:=by rfl):PE X (.Call (.Name "sum" p) [e] [] pos) (TY ts):=by
 intro pins s σ H Q I h
 refine wpAny_Call_Name_kw (mK I hg hm boot_sum ?_ (by decide) (by decide))
 refine PyProof.Rows.callWith_builtin1 (tW (thn (hstr pins s σ H _ I h) λu s1 ⟨S,H1,I1,rdy,W,⟨m,w0⟩,st⟩=>?_) hs) hs rfl
 refine call_function_tree F.kind_sum F.plain_sum F.entry_sum (F.args_sum1 _) ?_
 unfold Builtin.«sum»
 simp only[List.length_cons,List.length_nil]
 rw[if_neg (by decide)]
 refine wpAny_bind (wpAny_of_eq (show Builtin.Builtins.bindParams "sum" ["start"] 0 { }=pure [none]from rfl) ?_)
 obtain⟨a1,a2⟩:=yC I1 hc (A':=X.A.in1) rfl rfl
 refine wpAny_bind (wpAny_mono (rdy X.A.in1 (λ_ _=>False) a1 a2 (Nat.le_succ _) (by show X.A.units+1<=_;omega)) (λitv s2 ⟨it,lo,SS,e,sm,s0,hlo⟩=>?_) λ_ _ z=>z.elim)
 subst e
 refine wpAny_bind (wpAny_mkInt ?_)
 refine wpAny_bind (wpAny_pure ?_)
 simp only[List.forIn_cons,List.forIn_nil]
 refine wpAny_bind (wpAny_bind (wpAny_bind (wpAny_isInstance (T:="int") (b:=false) (typeIs_int _ _ _) PySem.sub_int_str ?_)))
 simp only[Bool.false_eq_true,if_false]
 refine wpAny_pure (wpAny_bind (wpAny_bind (wpAny_isInstance (T:="int") (b:=false) (typeIs_int _ _ _) PySem.sub_int_bytes ?_)))
 simp only[Bool.false_eq_true,if_false]
 refine wpAny_pure (wpAny_bind (wpAny_bind (wpAny_isInstance (T:="int") (b:=false) (typeIs_int _ _ _) PySem.sub_int_bytearray ?_)))
 simp only[Bool.false_eq_true,if_false]
 refine wpAny_pure (wpAny_pure ?_)
 refine wpAny_bind (wpAny_newObj_type ?_)
 have hn:H1 s2.heap.objs.size=none:=(sm.inv s0).hok.fresh (Zg _)
 refine wpAny_pure ⟨plainId_quiet F.plain_sum_loop _,codeAny_mono (HF sm hlo st m 0 0 s2.toks 0 0 H1 _ (.inl rfl) (sm.keep (s:=s2) (h':=s2.heap.push { cls:=.type "list",dict:=none,data:=.seq [Value.int 0 s2.toks].toArray}) (tk:=s2.toks+1) s0 λb o e=>Zb _ e) w0 (Zf _ rfl) hn) λr s' ⟨u,hr,q⟩=>?_⟩
 subst hr
 exact q
end
end L2
namespace L3
open PySem PySem.Spec PyProof.Rows L2
abbrev iz:=Mu->Option (D×Mu)
structure Tr(K:PySem.W.Frag)(tb:List Addr)(S:qu)(ths:List iz)(W0:Wd):Prop where
 nxt:∀(i:Nat) W th d μ' Q,Le tb W0 W->WOk K tb W->ths[i]? =some th->th W.mu=some (d,μ')->(∀v W',WOk K tb W'->Le tb W W'->W'.mu=μ'->Den K tb W' d v->Q v W'.H)->S.nxt i W.H Q
 fin:∀(i:Nat) W,Le tb W0 W->WOk K tb W->ths.length<=i->S.fin i W.H
abbrev StF:=En->Mu->Option (List iz×Mu)
def OJ(K:PySem.W.Frag)(tb:List Addr)(f:StF):uU:=λσ H R=>∃W δ ths μ',W.H=H/\WOk K tb W/\jH K tb W δ σ/\f δ W.mu=some (ths,μ')/\
 ∀S W',WOk K tb W'->Le tb W W'->W'.mu=μ'->Tr K tb S ths W'->R S W'.H
def Ji(X:Cx)(tb:List Addr)(e:Expr)(f:StF):Prop:=NZ X e (OJ X.K tb f)
def CN(X:Cx)(tb:List Addr)(e:Expr)(f:StF):Prop:=wU X e (OJ X.K tb f)
section
variable {X:Cx} {tb:List Addr} {e tg iter elt:Expr} {f:EF} {pos p:Pos} {fs:StF}
theorem Jt{t t':uU}(h:wU X e t)(k:∀σ H R,t' σ H R->t σ H R):wU X e t':=λpins s σ H R I hq=>h pins s σ H R I (k σ H R hq)
theorem lq(h:CN X tb e fs):Ji X tb e fs:=Bb h
def thG(h:GF)(fe:EF)(δb:En)(d:D):iz:=λμ=>(h d δb μ).bind λδ1=>fe δ1 μ
def lU(own:List Str)(capI:List Nat)(fi:IF)(h:GF)(fe:EF):StF:=λδ μ=>(fi δ μ).bind λr=>match r.1.cel with
 |none=>some (r.1.items.map (thG h fe (cW own δ capI)),r.2)
 |some _=>none
theorem gO{fi:IF}{h:GF}{fe:EF}{own cap:List Str}{capI ts:List Nat}{scope:Scope}{P:Addr}{kr:Nat}(hc:X.calm=true)(hr:fu kr X.A)(B:fY X own cap capI scope)(hown:∀x∈own,(x,NameKind.free)∉scope.names)(hnc:∀y∈scope.names,y.2≠ .cell)
  (hP:P∈tb) (htb:∃c,X.env.code= .ref c/\PySem.W.CodeHd X.base c P) (hi:PID X tb tg iter fi)
  (hg:∀AG cs C code fp s2 H2,PGD (vz X AG own cap scope cs C code fp s2 H2) tb tg ts h)
  (he:∀AG cs C code fp s2 H2,(∀k,fu (k+1) X.A->fu k AG)->PD (vz X AG own cap scope cs C code fp s2 H2) tb elt fe)
  (hts:∀i∈ts,i<own.length:=by decide) (h0:scope.names.lookup (".0":Str)=some NameKind.local:=by rfl) (hco:scope.isCoroutine=false:=by rfl) (hs:∀x,genFold iter X.env x=pure x:=by intro _;rfl):
  CN X tb (.GeneratorExp elt [⟨tg,iter,[],0⟩] scope pos) (lU own capI fi h fe):=
 Jt (Jq (g:=tDG X.K tb ts h) (te:=tD X.K tb fe) hc hr B hown hnc h0 hco htb hi hg he hs) λσ H R zq2=>by
  obtain⟨W,δ,ths,μ',e,ok,hd,hf,k⟩:=zq2
  unfold lU at hf
  obtain⟨⟨S,μ1⟩,e1,e2⟩:=Za.mp hf
  obtain⟨items,cel⟩:=S
  cases cel with
  |some n=>cases e2
  |none=>
   cases e2
   refine⟨W,δ,⟨items,none⟩,_,e,ok,hd,e1,λJ W1 ok1 l1 m1 io=>?_⟩
   obtain⟨ps,ep,tp⟩:=ok1.tab P hP
   refine⟨ps,ep,tp,λlo H2 ps' hG=>?_⟩
   obtain⟨ok2,l2⟩:=ok1.tbl hP ep hG
   refine k _ ⟨H2,W1.ad,W1.mu⟩ ok2 (l1.trans l2) m1 ⟨λi W3 th d μ3 Q l3 ok3 e3 e4 hQ=>?_,λi W3 l3 ok3 hi3=>?_⟩
   .rw[List.getElem?_map]at e3
    cases q:items[i]? with
    |none=>rw[q]at e3;cases e3
    |some d0=>
     rw[q]at e3
     cases e3
     unfold thG at e4
     obtain⟨δ1,e5,e6⟩:=Za.mp e4
     obtain⟨go,yl⟩:=io.go i W3 d0 (l2.trans l3) ok3 (Src.cB rfl) q
     refine⟨go,λx H' y=>?_⟩
     obtain⟨W4,rfl,ok4,l4,m4,d4⟩:=yl x H' y
     refine⟨W4,cW own δ capI,d0,δ1,rfl,ok4,(ug hd).mono' (((l1.trans l2).trans l3).trans l4),d4,(by rw[m4];exact e5),λσ' d' hl ht=>⟨fits_of hts hl ht,?_⟩⟩
     exact⟨W4,δ1,d,μ3,rfl,ok4,d',(by rw[m4];exact e6),λv W5 ok5 l5 m5 d5=>hQ v W5 ok5 (l4.trans l5) m5 d5⟩
   .exact io.stop i W3 (l2.trans l3) ok3 (Src.cB rfl) (by simpa using hi3)
def Mq:D->Option Bool
 | .bl b=>some b
 | .int i=>some (i != 0)
 |_=>none
theorem JZ{K:PySem.W.Frag}{W:Wd}{x:D}{v:V}{k:Bool}(h:Den K tb W x v)(e:Mq x=some k):Ky v k:=by
 cases x with
 |bl b=>cases e;exact .inl (kJ h)
 |int i=>cases e;exact .inr ⟨i,bx h,rfl⟩
 |_=>cases e
def yz:List iz->Mu->Option (Bool×Mu)
 | [],μ=>some (true,μ)
 |t::r,μ=>(t μ).bind λx=>(Mq x.1).bind λk=>if k=true then yz r x.2 else some (false,x.2)
def wk:List iz->Mu->Option (List D×Mu)
 | [],μ=>some ([],μ)
 |t::r,μ=>(t μ).bind λx=>(wk r x.2).bind λq=>some (x.1::q.1,q.2)
def Ao:Int->List iz->Mu->Option (Int×Mu)
 |a,[],μ=>some (a,μ)
 |a,t::r,μ=>(t μ).bind λx=>match x.1 with
  | .int j=>Ao (a+j) r x.2
  |_=>none
def yj(f:StF):EF:=λδ μ=>(f δ μ).bind λr=>(yz r.1 r.2).bind λq=>some (.bl q.1,q.2)
def xq(f:StF):EF:=λδ μ=>(f δ μ).bind λr=>if r.1.length<=sizeLine then(wk r.1 r.2).bind λq=>some (.tup q.1,q.2)else none
def KY(f:StF):EF:=λδ μ=>(f δ μ).bind λr=>(Ao 0 r.1 r.2).bind λq=>some (.int q.1,q.2)
theorem rJ(hc:X.calm=true)(hm:X.mg "all"=none)(hstr:Ji X tb e fs)(hg:Gl X "all":=by rfl)(hs:starEach [e] X.env=(false,eval e X.env)::starEach [] X.env:=by rfl):PD X tb (.Call (.Name "all" p) [e] [] pos) (yj fs):=
 dO (Oc hc hm hstr hg hs) λσ H Q zq3=>by
  obtain⟨W,δ,d,μ',e,ok,hd,hf,h⟩:=zq3
  unfold yj at hf
  obtain⟨⟨ths,μ1⟩,e1,hf⟩:=Za.mp hf
  obtain⟨⟨b,μ2⟩,e2,e3⟩:=Za.mp hf
  cases e3
  refine⟨W,δ,ths,μ1,e,ok,hd,e1,λS W1 ok1 l1 m1 so=>?_⟩
  refine⟨λi m H2=>m=ths.length-i/\∃W2,W2.H=H2/\WOk X.K tb W2/\Le tb W1 W2/\yz (ths.drop i) W2.mu=some (b,μ2),⟨_,rfl,W1,rfl,ok1,Le.refl _,by rw[m1];exact e2⟩,?_⟩
  rintro i m H2 ⟨rfl,W2,rfl,ok2,l2,ha⟩
  by_cases hlt:i<ths.length
  .right
   rw[List.drop_eq_getElem_cons hlt]at ha
   unfold yz at ha
   obtain⟨⟨x,μ3⟩,e3,ha⟩:=Za.mp ha
   obtain⟨k,e4,ha⟩:=Za.mp ha
   refine so.nxt i W2 ths[i] x μ3 _ l2 ok2 (by simp[hlt]) e3 λv W3 ok3 l3 m3 d3=>⟨k,JZ d3 e4,?_⟩
   cases k with
   |true=>
    rw[if_pos rfl]
    exact⟨ths.length-(i+1),by omega,rfl,W3,rfl,ok3,l2.trans l3,by rw[m3];exact ha⟩
   |false=>
    rw[if_neg Zr]
    cases ha
    exact h _ W3 ok3 ((l1.trans l2).trans l3) m3 gn
  .left
   rw[List.drop_of_length_le (by omega)]at ha
   cases ha
   exact⟨so.fin i W2 l2 ok2 (by omega),h _ W2 ok2 (l1.trans l2) rfl gn⟩
theorem Rg(hc:X.calm=true)(hm:X.mg "sum"=none)(hstr:Ji X tb e fs)(hg:Gl X "sum":=by rfl)(hs:starEach [e] X.env=(false,eval e X.env)::starEach [] X.env:=by rfl):PD X tb (.Call (.Name "sum" p) [e] [] pos) (KY fs):=
 dO (LK hc hm hstr hg hs) λσ H Q zq5=>by
  obtain⟨W,δ,d,μ',e,ok,hd,hf,h⟩:=zq5
  unfold KY at hf
  obtain⟨⟨ths,μ1⟩,e1,hf⟩:=Za.mp hf
  obtain⟨⟨b,μ2⟩,e2,e3⟩:=Za.mp hf
  cases e3
  refine⟨W,δ,ths,μ1,e,ok,hd,e1,λS W1 ok1 l1 m1 so=>?_⟩
  refine⟨λi m t H2=>m=ths.length-i/\∃W2,W2.H=H2/\WOk X.K tb W2/\Le tb W1 W2/\Ao t (ths.drop i) W2.mu=some (b,μ2),⟨_,rfl,W1,rfl,ok1,Le.refl _,by rw[m1];exact e2⟩,?_⟩
  rintro i m t H2 ⟨rfl,W2,rfl,ok2,l2,ha⟩
  by_cases hlt:i<ths.length
  .right
   rw[List.drop_eq_getElem_cons hlt]at ha
   unfold Ao at ha
   obtain⟨⟨x,μ3⟩,e3,ha⟩:=Za.mp ha
   cases x with
   |int j=>
    refine so.nxt i W2 ths[i] _ μ3 _ l2 ok2 (by simp[hlt]) e3 λv W3 ok3 l3 m3 d3=>⟨j,bx d3,ths.length-(i+1),by omega,rfl,W3,rfl,ok3,l2.trans l3,by rw[m3];exact ha⟩
   |_=>cases ha
  .left
   rw[List.drop_of_length_le (by omega)]at ha
   cases ha
   exact⟨so.fin i W2 l2 ok2 (by omega),h _ W2 ok2 (l1.trans l2) rfl eN⟩
theorem EY(hc:X.calm=true)(hm:X.mg "tuple"=none)(hstr:CN X tb e fs)(hg:Gl X "tuple":=by rfl)(hs:starEach [e] X.env=(false,eval e X.env)::starEach [] X.env:=by rfl):PD X tb (.Call (.Name "tuple" p) [e] [] pos) (xq fs):=
 dO (Lh hc hm hstr hg hs) λσ H Q zq6=>by
  obtain⟨W,δ,d,μ',e,ok,hd,hf,h⟩:=zq6
  unfold xq at hf
  obtain⟨⟨ths,μ1⟩,e1,hf⟩:=Za.mp hf
  split at hf
  .rename_i hz
   obtain⟨⟨ds,μ2⟩,e2,e3⟩:=Za.mp hf
   cases e3
   refine⟨W,δ,ths,μ1,e,ok,hd,e1,λS W1 ok1 l1 m1 so=>?_⟩
   refine⟨λi m ys H2=>m=ths.length-i/\ys.length<=i/\i<=ths.length/\∃W2 zs rs,W2.H=H2/\WOk X.K tb W2/\Le tb W1 W2/\cJ X.K tb W2 zs ys/\wk (ths.drop i) W2.mu=some (rs,μ2)/\zs++rs=ds,⟨_,rfl,Zg _,Nat.zero_le _,W1,[],ds,rfl,ok1,Le.refl _,aD.nil,by rw[m1];exact e2,rfl⟩,?_⟩
   rintro i m ys H2 ⟨rfl,hy,hi,W2,zs,rs,rfl,ok2,l2,d2,ha,hzs⟩
   by_cases hlt:i<ths.length
   .right
    rw[List.drop_eq_getElem_cons hlt]at ha
    unfold wk at ha
    obtain⟨⟨x,μ3⟩,e3,ha⟩:=Za.mp ha
    obtain⟨⟨rs',μ4⟩,e4,e5⟩:=Za.mp ha
    cases e5
    refine⟨by have hz':ths.length<=sizeLine:=hz;omega,so.nxt i W2 ths[i] x μ3 _ l2 ok2 (by simp[hlt]) e3 λv W3 ok3 l3 m3 d3=>?_⟩
    exact⟨ths.length-(i+1),by omega,rfl,by rw[List.length_append];simp;omega,hlt,W3,zs++[x],rs',rfl,ok3,l2.trans l3,aD.append (cJ.mono' d2 l3) (aD.cons d3 aD.nil),by rw[m3];exact e4,by rw[List.append_assoc];exact hzs⟩
   .left
    rw[List.drop_of_length_le (by omega)]at ha
    cases ha
    rw[List.append_nil]at hzs
    subst hzs
    exact⟨so.fin i W2 l2 ok2 (by omega),λp hp=>lD ok2 (λv W' ok' l' m' d'=>h v W' ok' ((l1.trans l2).trans l') m' d') d2 hp⟩
  .cases hf
end
abbrev FF:=List D->Mu->Option (D×Mu)
def spD(K:PySem.W.Frag)(tb:List Addr)(n:Nat)(φ:FF):Sp:=λvs H Q _=>∃W ds d μ',W.H=H/\WOk K tb W/\cJ K tb W ds vs/\ds.length=n/\φ ds W.mu=some (d,μ')/\
 ∀v W',WOk K tb W'->Le tb W W'->W'.mu=μ'->Den K tb W' d v->Q v W'.H
structure FI(P:Program)(w:World)(K:PySem.W.Frag)(mg:Str->Option Value)(base:Heap)(tb:List Addr)(x:Str)(n k:Nat)(φ:FF):Prop where
 is:∃f fd ps,tR P w K mg base CX0 k f fd ps (spD K tb n φ)/\mg x=some (.ref f)/\PySem.W.keepIn K (.ref f)=true/\Binds K fd ps []
def aH(m:Nat)(g:SF):FF:=λds μ=>(g (ds.map some++List.replicate (m-ds.length) none) μ).bind λr=>match r.1 with
 | .rt d=>some (d,r.2.2)
 | .nx=>some (.non,r.2.2)
 |_=>none
section
variable {X:Cx} {tb:List Addr} {e:Expr} {es:List Expr} {fs:AF} {x:Str} {n k:Nat} {φ:FF} {p pos:Pos}
theorem aL(F:FI X.prog X.w X.K X.mg X.base tb x n k φ)(hr:fu k X.A)(ha:PAD X tb (e::es) fs)(hn:∀δ μ r,fs δ μ=some r->r.1.length=n)(hg:Gl X x:=by rfl)(hdb:(x==("__debug__":Str))=false:=by decide)
  (he:starEach (e::es) X.env=(false,eval e X.env)::starEach es X.env:=by rfl) (hpl:(backTo pos (starEach es X.env)).any (·.1)=false:=by rfl):PD X tb (.Call (.Name x p) (e::es) [] pos) (MC fs φ):=by
 obtain⟨f,fd,ps,h1,h2,h3,h4⟩:=F.is
 refine dO (Mw (E:=E0) h1 hr hg h2 h3 h4 .nil Vf ha hdb he hpl) λσ H Q zq7=>?_
 obtain⟨W,δ,d,μ',e,ok,hd,hf,h⟩:=zq7
 unfold MC at hf
 obtain⟨⟨xs,μ1⟩,e1,e2⟩:=Za.mp hf
 refine⟨W,δ,xs,μ1,e,ok,hd,e1,λvs W1 ok1 l1 m1 d1=>?_⟩
 refine⟨W1,xs,d,μ',rfl,ok1,by rw[List.append_nil];exact d1,hn _ _ _ e1,(by rw[m1];exact e2),λv W' ok' l' m' d'=>h v W' ok' (l1.trans l') m' d'⟩
theorem aK(δ:En)(μ:Mu)(r:List D×Mu)(h:aC δ μ=some r):r.1.length=0:=by cases h;rfl
theorem az{f:EF}{fs:AF}{n:Nat}(hk:∀δ μ r,fs δ μ=some r->r.1.length=n)(δ:En)(μ:Mu)(r:List D×Mu)(h:ao f fs δ μ=some r):r.1.length=n+1:=by
 unfold ao at h
 obtain⟨q,_,h⟩:=Za.mp h
 obtain⟨t,e,h⟩:=Za.mp h
 cases h
 rw[List.length_cons,hk _ _ _ e]
end
structure dG(K:PySem.W.Frag)(x qual:Str)(st:Stmt)(f:Addr)(fd:FuncData)(P:Addr):Prop where
 ex:∃(oc:Value)(od:Option Addr)(kV doc pm:Value)(an:Option Addr)(c:Addr)(ct:Value)(osl:Array (Option Value)),
  fd=PySem.W.fnOf x qual (mD st) (jO st) (aP st) .none kV doc pm an (.ref c) ct/\K.lookup f=some ⟨oc,od,.func fd,osl⟩/\PySem.W.codeIn K (.ref c) qual=true/\∀h:Heap,K.In h->PySem.W.CodeHd h c P
 kp:PySem.W.keepIn K (.ref f)=true
theorem cG{P:Program}{w:World}{K:PySem.W.Frag}{mg:Str->Option Value}{base:Heap}{tb:List Addr}{x qual:Str}{st:Stmt}{f:Addr}{fd:FuncData}{T:Addr}{N ps:List Str}{n k:Nat}{g:SF}(F:dG K x qual st f fd T)(KB:K.In base)(hmg:mg x=some (.ref f))(S:bc N ps (aP st))(hps:ps.length=n)
  (hb:∀(kV doc pm:Value)(an:Option Addr)(cdv ct:Value)(us:List Value),us.length=ps.length->bindArgs (PySem.W.fnOf x qual (mD st) (jO st) (aP st) .none kV doc pm an cdv ct) ⟨us,[]⟩=pure (ps.zip us))
  (hbody:∀(c:Addr)(A:Around)(outer:List Env)(s:Shared)(H:Hp)(E:XK),PySem.W.CodeHd base c T->fu k (A.deeper (envOfC qual (aP st) s.heap.objs.size f (.ref c)))->
   ww (Cj CX0 P w K mg base N qual (aP st) f (.ref c) A outer s H E).nox tb (jO st) g):FI P w K mg base tb x n (k+1) (aH N.length g):=by
 obtain⟨oc,od,kV,doc,pm,an,c,ct,osl,rfl,lk,hcd,hhd⟩:=F.ex
 refine⟨f,_,ps,Ot lk hcd S (λvs H Q E ⟨W,ds,d,μ',e,ok,dl,hl,_⟩=>by rw[<-aD.length dl,hl,hps]) λA outer s H vs Q E hr hsp=>?_,hmg,F.kp,.all (hb kV doc pm an (.ref c) ct)⟩
 obtain⟨W,ds,d,μ',e,ok,dl,hl,hf,k⟩:=hsp
 refine⟨_,(hbody c A outer s H E (hhd base KB) hr).nox,?_⟩
 unfold aH at hf
 obtain⟨⟨fl,δ',μ1⟩,e1,e2⟩:=Za.mp hf
 refine⟨W,_,fl,δ',μ1,e,ok,?_,e1,λσ' W' ok' l' m' d'=>?_⟩
 .have hlen:=aD.length dl
  refine⟨by unfold L2.start;simp[hlen],λi y q=>?_⟩
  unfold L2.start
  by_cases hi:i<ds.length
  .rw[Zs (by simpa using hi),List.getElem?_map]at q
   cases q2:ds[i]? with
   |none=>rw[q2]at q;cases q
   |some z=>
    rw[q2]at q
    cases q
    obtain⟨v,ev,dv⟩:=aD.get dl q2
    exact⟨v,by rw[Zs (by rw[Zu,<-hlen];exact hi),List.getElem?_map,ev];rfl,dv⟩
  .rw[List.getElem?_append_right (by simpa using hi),List.getElem?_replicate]at q
   split at q<;>cases q
 .cases fl with
  |nx=>cases e2;exact k .non W' ok' l' m' tZ
  |rt d0=>cases e2;exactλv dv=>k v W' ok' l' m' dv
  |bk=>cases e2
  |ct=>cases e2
end L3
namespace L2
open PySem PySem.Spec PyProof.Rows
section
variable {X:Cx} {a b c e:Expr} {ta tb tc te:TE} {pos:Pos}
def jT(i j:Int):Nat:=Builtin.Int.intBits i+Builtin.Int.intBits j
theorem Mm:OpR X (binaryOp .Mult) (rI (λi j=>jT i j<=134217728) λi j=>.int (i*j)):=opI λ_ _ _ _ _ _ _ hc q=>mul_int q (IntMulOk.of_le (Zg _) (Zg _) hc)
theorem Ij:OpR X (binaryOp .FloorDiv) (rI (λ_ j=>j≠0/\j.natAbs.log2<9000) λi j=>.int (i.fdiv j)):=opI λ_ _ _ _ _ _ _ hc q=>floordiv_int hc.1 q (.inl (PyProof.noPylong_of_log2 hc.2))
theorem Nx:OpR X (binaryOp .Pow) (rI (λi j=>0<=j/\(Builtin.Int.intBits i:Int)*j<=2 ^ 27) λi j=>.int (i ^ j.toNat)):=opI λ_ _ _ _ _ _ _ hc q=>pow_int hc.1 hc.2 q
def Ve(K:PySem.W.Frag):R2:=λx y H Q=>∃a b xs ys,x= .ref a/\y= .ref b/\SqT K H a xs/\SqT K H b ys/\xs.length+ys.length<=sizeLine/\
 (xs=[]->Q (.ref b) H)/\(xs≠[]->ys=[]->Q (.ref a) H)/\(xs≠[]->ys≠[]->∀p,H p=none->Q (.ref p) (upd H p (.tup (xs++ys))))
theorem Ly:OpR X (binaryOp .Add) (Ve X.K):=by
 intro pins s σ H x y v u Q I rx ry h
 obtain⟨t,b,xs,ys,rfl,rfl,ha,hb,hz,q0,q1,q2⟩:=h
 by_cases hx:xs=[]
 .subst hx
  cases rx
  cases ry
  obtain⟨its,r1,p1,_⟩:=I.tuple ha
  obtain⟨its2,r2,p2,_⟩:=I.tuple hb
  cases r1
  obtain⟨⟨cls,dd,data,sl⟩,ho,hc,n,hd⟩:=id p1
  obtain⟨⟨cls2,dd2,data2,sl2⟩,ho2,hc2,n2,hd2⟩:=id p2
  simp only at hc hd hc2 hd2
  subst hc hd hc2 hd2
  exact concat_meets ⟨_,ho,rfl⟩ ⟨_,ho2,rfl⟩ noFill_tuple_add seq_tuple_add PySem.F.slot_tuple_add PySem.F.entry_tuple_add (PySem.F.args_tuple_add_2 _ _)
   (tuple_addW0 t b _ _ n n2 dd dd2 sl sl2 (by simp)) ⟨ho,ho2,⟨.ref b,H,I,rfl,q0 rfl⟩⟩
 .exact Nq pins s σ H _ _ v u Q I rx ry ⟨t,b,xs,ys,rfl,rfl,ha,hb,hx,hz,q1 hx,q2 hx⟩
theorem rK:fillsNumberSlot (.type "tuple") "mul"=pure false:=
 PySem.fillsNumberSlot_seq (id:="tuple.__mul__") (r:=some (.builtin "tuple.__rmul__")) F.slot_tuple_mul.lookup (by decide +kernel) F.slot_tuple_rmul.lookup (by decide +kernel)
theorem zB:seqRepeat? (.type "tuple")=pure (some (.builtin "tuple.__mul__")):=by
 unfold seqRepeat?
 rw[PySem.seqSlot_of (T:="tuple") (name:="__mul__") (id:="tuple.__mul__") F.slot_tuple_mul.lookup (by decide +kernel),PySem.seqSlot_of (T:="tuple") (name:="__rmul__") (id:="tuple.__rmul__") F.slot_tuple_rmul.lookup (by decide +kernel)]
 rfl
theorem uT(a:Int)(t:Tok)(l:Addr)(items:Array Value)(n:Nat)(dd:Option Addr)(sl:Array (Option Value)):
  Meets (Builtin.«int.__rmul__» ⟨[.int a t,.ref l],[]⟩) (λ_ R s=>s.heap.get? l=some { cls:=.type "tuple",dict:=dd,data:=.seq items n,slots:=sl}/\R (.ok (.ret Value.notImplemented)) s):=
 .of_wp λprog w A R s h=>by obtain⟨hp,g,d,tk,os⟩:=s;obtain⟨hl,h⟩:=h;wp_walk;exact⟨_,rfl,h⟩
theorem uz(l:Addr)(items:Array Value)(n:Nat)(x:Int)(u:Tok)(dd:Option Addr)(sl:Array (Option Value))(h0:(decide (x< -2 ^ 63)||decide (x>=2 ^ 63))=false)(h1:(items.isEmpty||x==1)=true):
  Meets (Builtin.«tuple.__mul__» ⟨[.ref l,.int x u],[]⟩) (λ_ R s=>s.heap.get? l=some { cls:=.type "tuple",dict:=dd,data:=.seq items n,slots:=sl}/\R (.ok (.ret (Value.ref l))) s):=
 .of_wp λprog w A R s h=>by
  obtain⟨hp,g,d,tk,os⟩:=s;obtain⟨hl,h⟩:=h
  unfold Builtin.«tuple.__mul__»
  wp_walk using AutoSeq1.wpAny_loadPart' hl
  refine wpAny_ite_false (decide_eq_false (by rw[h0];exact Zr)) ?_
  wp_walk using AutoSeq1.wpAny_loadPart' hl
  exact⟨_,rfl,h⟩
theorem vN(l:Addr)(items:Array Value)(n:Nat)(x:Int)(u:Tok)(dd:Option Addr)(sl:Array (Option Value))(h0:(decide (x< -2 ^ 63)||decide (x>=2 ^ 63))=false)(h1:(items.isEmpty||x==1)=false)(h2:(decide (x<=0)||items.isEmpty)=true):
  Meets (Builtin.«tuple.__mul__» ⟨[.ref l,.int x u],[]⟩) (λ_ R s=>s.heap.get? l=some { cls:=.type "tuple",dict:=dd,data:=.seq items n,slots:=sl}/\R (.ok (.ret (Value.ref s.heap.objs.size))) { s with heap:=s.heap.push { cls:=Value.type "tuple",data:=Data.seq #[] },toks:=s.toks}):=
 .of_wp λprog w A R s h=>by
  obtain⟨hp,g,d,tk,os⟩:=s;obtain⟨hl,h⟩:=h
  unfold Builtin.«tuple.__mul__»
  wp_walk using AutoSeq1.wpAny_loadPart' hl
  refine wpAny_ite_false (decide_eq_false (by rw[h0];exact Zr)) ?_
  wp_walk using AutoSeq1.wpAny_loadPart' hl
  exact⟨_,rfl,h⟩
theorem wy(l:Addr)(items:Array Value)(n:Nat)(x:Int)(u:Tok)(dd:Option Addr)(sl:Array (Option Value))(h0:(decide (x< -2 ^ 63)||decide (x>=2 ^ 63))=false)(h1:(items.isEmpty||x==1)=false)(h2:(decide (x<=0)||items.isEmpty)=false)
  (h3:¬(items.size:Int)*x>(2 ^ 63-1) / 8) (h4:Builtin.Tuple.tupleTooMany ((items.size:Int)*x)=false) (h5:((List.replicate x.toNat items).foldl (· ++ ·) #[]).size<=sizeLine):
  Meets (Builtin.«tuple.__mul__» ⟨[.ref l,.int x u],[]⟩) (λ_ R s=>s.heap.get? l=some { cls:=.type "tuple",dict:=dd,data:=.seq items n,slots:=sl}/\R (.ok (.ret (Value.ref s.heap.objs.size))) { s with heap:=s.heap.push { cls:=Value.type "tuple",data:=Data.seq ((List.replicate x.toNat items).foldl (· ++ ·) #[]) },toks:=s.toks}):=
 .of_wp λprog w A R s h=>by
  obtain⟨hp,g,d,tk,os⟩:=s;obtain⟨hl,h⟩:=h
  unfold Builtin.«tuple.__mul__»
  wp_walk using AutoSeq1.wpAny_loadPart' hl
  refine wpAny_ite_false (decide_eq_false (by rw[h0];exact Zr)) ?_
  wp_walk using AutoSeq1.wpAny_loadPart' hl
  refine wpAny_ite_false (decide_eq_false h3) ?_
  wp_walk using AutoSeq1.wpAny_loadPart' hl
  exact⟨_,rfl,h⟩
def TJ(K:PySem.W.Frag):R2:=λx y H Q=>∃l k xs,x= .ref l/\y= .int k/\SqT K H l xs/\ -(2 ^ 63)<=k/\k<2 ^ 63/\xs.length*k.toNat<=sizeLine/\
 ((xs=[]∨k=1)->Q (.ref l) H)/\(¬(xs=[]∨k=1)->∀p,H p=none->Q (.ref p) (upd H p (.tup (List.replicate k.toNat xs).flatten)))
theorem Kz:OpR X (binaryOp .Mult) (TJ X.K):=by
 intro pins s σ H x y v u Q I rx ry h
 obtain⟨l,k,xs,rfl,rfl,hH,h1,h2,hz,q1,q2⟩:=h
 cases rx
 obtain⟨t,rfl⟩:=ry
 obtain⟨its,r,p,hz0⟩:=I.tuple hH
 have hl:=r.length
 obtain⟨⟨cls,dd,data,sl⟩,e,hc,n,hd⟩:=id p
 simp only at hc hd
 subst hc hd
 have h0:(decide (k< -2 ^ 63)||decide (k>=2 ^ 63))=false:=by
  rw[decide_eq_false (by omega),decide_eq_false (by omega)];rfl
 refine wpAny_binaryOp_repeat_ref (T:="tuple") (U:="int") (by decide) ⟨_,e,rfl⟩ (λs'=>typeIs_int s' k t) rK F.fills_int_mul F.slot_int_rmul zB F.slot_int_index.lookup
  (call_meets F.slot_int_rmul (typeIs_int s k t) F.entry_int_rmul (F.args_int_rmul_2 _ _) (uT k t l its.toArray n dd sl) ⟨e,rfl,⟨_,e,rfl⟩,?_⟩)
 by_cases hs:xs=[]∨k=1
 .refine call_meets F.slot_tuple_mul ⟨_,e,rfl⟩ F.entry_tuple_mul (F.args_tuple_mul_2 _ _) (uz l its.toArray n k t dd sl h0 ?_) ⟨e,⟨.ref l,H,I,rfl,q1 hs⟩⟩
  rcases hs with hs|hs
  .subst hs;cases r;rfl
  .subst hs;simp
 .have hne:(its.toArray.isEmpty||k==1)=false:=by
   rw[Bool.or_eq_false_iff]
   refine⟨?_,by simpa usingλz=>hs (.inr z)⟩
   cases its with
   |nil=>cases r;exact absurd (Or.inl rfl) hs
   |cons a b=>simp
  have hne':its.toArray.isEmpty=false:=(Bool.or_eq_false_iff.mp hne).1
  by_cases hk:k<=0
  .refine call_meets F.slot_tuple_mul ⟨_,e,rfl⟩ F.entry_tuple_mul (F.args_tuple_mul_2 _ _) (vN l its.toArray n k t dd sl h0 hne (by rw[decide_eq_true hk];rfl)) ⟨e,?_⟩
   have hk0:k.toNat=0:=by omega
   refine⟨.ref s.heap.objs.size,_,I.laid (t':=s.toks) (o:=.tup []) (λb ob q=>Zb _ q) (Zg _) ⟨Nat.zero_le _,[],.nil,IsTup.new _ _⟩,rfl,?_⟩
   have:=q2 hs _ (I.hok.fresh (Zg _))
   rw[hk0]at this
   exact this
  .have hp:its.length*k.toNat<=sizeLine:=by rw[<-hl];exact hz
   have hsz:=sizeLine_eq
   have hcast:((its.toArray.size:Int))*k=((its.length*k.toNat:Nat):Int):=by
    rw[Zd,Int.natCast_mul,Int.toNat_of_nonneg (by omega)]
   have hfold:List.foldl (λx1 x2=>x1++x2) #[] (List.replicate k.toNat its.toArray)=(List.replicate k.toNat its).flatten.toArray:=by
    have:=foldl_rep its k.toNat []
    rw[List.nil_append]at this
    exact this
   have hlen:(List.replicate k.toNat its).flatten.length<=sizeLine:=by rw[len_rep,Nat.mul_comm];exact hp
   refine call_meets F.slot_tuple_mul ⟨_,e,rfl⟩ F.entry_tuple_mul (F.args_tuple_mul_2 _ _) (wy l its.toArray n k t dd sl h0 hne (by rw[decide_eq_false hk,hne'];rfl) ?_ ?_ ?_) ⟨e,?_⟩
   .rw[hcast]
    have:(sizeLine:Int)<=(2 ^ 63-1) / 8:=by decide
    omega
   .rw[hcast]
    unfold Builtin.Tuple.tupleTooMany
    exact decide_eq_false (by omega)
   .rw[hfold,Zd];exact hlen
   .rw[hfold]
    refine⟨.ref s.heap.objs.size,_,I.laid (t':=s.toks) (o:=.tup (List.replicate k.toNat xs).flatten) (λb ob q=>Zb _ q) (Zg _) ⟨by rw[len_rep,Nat.mul_comm];exact hz,_,r.rep k.toNat,IsTup.new _ _⟩,rfl,q2 hs _ (I.hok.fresh (Zg _))⟩
def RN(K:PySem.W.Frag)(T:String)(x:V)(H:Hp)(k:Bool):Prop:=match x with
 | .non=>k=false
 | .bl _=>k=(T=="bool"||T=="int")
 | .int _=>k=(T=="int")
 | .str _=>k=(T=="str")
 | .ref p=>(k=(T=="list")/\∃xs,SqL K H p xs)∨(k=(T=="tuple")/\∃xs,SqT K H p xs)∨(k=(T=="dict")/\∃xs,H p=some (.dK xs))
 |_=>False
def Ln:List String:=["bool","int","str","list","tuple","dict"]
theorem Jz:je X (.builtin "isinstance") (λxs H Q=>∃x T k,xs=[x,.ty T]/\T∈Ln/\RN X.K T x H k/\Q (.bl k) H):=by
 intro pins s σ H xs us Q I r h
 obtain⟨x,T,k,rfl,hT,hx,q⟩:=h
 obtain⟨u,w',rfl,rx,rt⟩:=vals2 r
 cases rt
 have fin:EP X pins σ Q (.bool k) s:=⟨.bl k,H,I,rfl,q⟩
 have fin1:EP X pins σ Q (.bool k) { s with toks:=s.toks+1}:=⟨.bl k,H,I.tok _,rfl,q⟩
 simp only[Ln,Zi,List.not_mem_nil,or_false]at hT
 cases x with
 |non=>
  cases rx
  have hk:k=false:=hx
  subst hk
  rcases hT with rfl|rfl|rfl|rfl|rfl|rfl
  .exact IsiPair.NoneType_bool fin1
  .exact IsiPair.NoneType_int fin1
  .exact IsiPair.NoneType_str fin1
  .exact IsiPair.NoneType_list fin1
  .exact IsiPair.NoneType_tuple fin1
  .exact IsiPair.NoneType_dict fin1
 |bl b=>
  cases rx
  have hk:k=_:=hx
  subst hk
  rcases hT with rfl|rfl|rfl|rfl|rfl|rfl
  .exact IsiPair.bool_bool fin
  .exact IsiPair.bool_int fin
  .exact IsiPair.bool_str fin1
  .exact IsiPair.bool_list fin1
  .exact IsiPair.bool_tuple fin1
  .exact IsiPair.bool_dict fin1
 |int b=>
  obtain⟨t,rfl⟩:=rx
  have hk:k=_:=hx
  subst hk
  rcases hT with rfl|rfl|rfl|rfl|rfl|rfl
  .exact IsiPair.int_bool fin1
  .exact IsiPair.int_int fin
  .exact IsiPair.int_str fin1
  .exact IsiPair.int_list fin1
  .exact IsiPair.int_tuple fin1
  .exact IsiPair.int_dict fin1
 |str b=>
  obtain⟨t,rfl⟩:=rx
  have hk:k=_:=hx
  subst hk
  rcases hT with rfl|rfl|rfl|rfl|rfl|rfl
  .exact IsiPair.str_bool fin1
  .exact IsiPair.str_int fin1
  .exact IsiPair.str_str fin
  .exact IsiPair.str_list fin1
  .exact IsiPair.str_tuple fin1
  .exact IsiPair.str_dict fin1
 |ref p=>
  cases rx
  rcases hx with⟨hk,xs,hq⟩|⟨hk,xs,hq⟩|⟨hk,xs,hq⟩
  .subst hk
   obtain⟨its,_,pl,_⟩:=I.list hq
   obtain⟨o,ho,hc,_⟩:=pl.isList
   rcases hT with rfl|rfl|rfl|rfl|rfl|rfl
   .exact IsiPair.list_bool ho hc fin1
   .exact IsiPair.list_int ho hc fin1
   .exact IsiPair.list_str ho hc fin1
   .exact IsiPair.list_list ho hc fin
   .exact IsiPair.list_tuple ho hc fin1
   .exact IsiPair.list_dict ho hc fin1
  .subst hk
   obtain⟨its,_,pl,_⟩:=I.tuple hq
   obtain⟨o,ho,hc,_⟩:=pl
   rcases hT with rfl|rfl|rfl|rfl|rfl|rfl
   .exact IsiPair.tuple_bool ho hc fin1
   .exact IsiPair.tuple_int ho hc fin1
   .exact IsiPair.tuple_str ho hc fin1
   .exact IsiPair.tuple_list ho hc fin1
   .exact IsiPair.tuple_tuple ho hc fin
   .exact IsiPair.tuple_dict ho hc fin1
  .subst hk
   obtain⟨_,_,vs,_,o,_,_,ho,ex,_⟩:=I.hok p _ hq
   have hc:=ex.1
   rcases hT with rfl|rfl|rfl|rfl|rfl|rfl
   .exact IsiPair.dict_bool ho hc fin1
   .exact IsiPair.dict_int ho hc fin1
   .exact IsiPair.dict_str ho hc fin1
   .exact IsiPair.dict_list ho hc fin1
   .exact IsiPair.dict_tuple ho hc fin1
   .exact IsiPair.dict_dict ho hc fin
 |_=>exact hx.elim
end
end L2
namespace L3
open PySem PySem.Spec PyProof.Rows L2
abbrev O2:=D->D->Mu->Option (D×Mu)
abbrev O1':=D->Mu->Option (D×Mu)
abbrev ON:=List D->Mu->Option (D×Mu)
def bL:O2
 | .int i,.int j,μ=>some (.int (i+j),μ)
 | .tup xs,.tup ys,μ=>if xs.length+ys.length<=sizeLine then some (.tup (xs++ys),μ)else none
 | .lst xs,.lst ys,μ=>if xs.length+ys.length<=sizeLine then some (.lst (xs++ys),μ)else none
 | .str x,.str y,μ=>if x.length+y.length<=sizeLine then some (.str (x++y),μ)else none
 |_,_,_=>none
def gh:O2
 | .int i,.int j,μ=>some (.int (i-j),μ)
 |_,_,_=>none
def cu:O2
 | .int i,.int j,μ=>if jT i j<=134217728 then some (.int (i*j),μ)else none
 | .tup xs,.int k,μ=>if -(2 ^ 63)<=k/\k<2 ^ 63/\xs.length*k.toNat<=sizeLine then some (.tup (List.replicate k.toNat xs).flatten,μ)else none
 | .lst xs,.int k,μ=>if -(2 ^ 63)<=k/\k<2 ^ 63/\xs.length*k.toNat<=sizeLine then some (.lst (List.replicate k.toNat xs).flatten,μ)else none
 |_,_,_=>none
def oDiv:O2
 | .int i,.int j,μ=>if j≠0/\j.natAbs.log2<9000 then some (.int (i.fdiv j),μ)else none
 |_,_,_=>none
def oMod:O2
 | .int i,.int j,μ=>if j≠0 then some (.int (i.fmod j),μ)else none
 |_,_,_=>none
def zE:O2
 | .int i,.int j,μ=>if 0<=j/\(Builtin.Int.intBits i:Int)*j<=2 ^ 27 then some (.int (i ^ j.toNat),μ)else none
 |_,_,_=>none
def oLt:O2
 | .int i,.int j,μ=>some (.bl (decide (i<j)),μ)
 |_,_,_=>none
def oLe:O2
 | .int i,.int j,μ=>some (.bl (decide (i<=j)),μ)
 |_,_,_=>none
def oGt:O2
 | .int i,.int j,μ=>some (.bl (decide (j<i)),μ)
 |_,_,_=>none
def oGe:O2
 | .int i,.int j,μ=>some (.bl (decide (j<=i)),μ)
 |_,_,_=>none
section
variable {X:Cx} {tb:List Addr}
theorem ue{K:PySem.W.Frag}{F:Hp}{ad:List Addr}{ds:List D}{vs:List V}(h:aD K F ad ds vs):∀k:Nat,aD K F ad (List.replicate k ds).flatten (List.replicate k vs).flatten
 |0=>aD.nil
 |k+1=>by
  rw[List.replicate_succ,List.replicate_succ,List.flatten_cons,List.flatten_cons]
  exact aD.append h (ue h k)
theorem mx{K:PySem.W.Frag}{F:Hp}{ad:List Addr}{ds:List D}{vs:List V}(h:aD K F ad ds vs):vs=[]↔ds=[]:=by
 have:=aD.length h
 cases ds<;>cases vs<;>simp_all
theorem Lf{α:Type}(xs:List α):(List.replicate (1:Int).toNat xs).flatten=xs:=by simp
theorem cI:OpD X tb (binaryOp .Add) bL:=⟨_,QW.or (Ly.or (Rb.or Cd)),λW x y v u d μ' Q ok dx dy ho h=>by
 cases x with
 |int i=>
  cases y with
  |int j=>cases ho;rw[bx dx,bx dy];exact .inl ⟨i,j,rfl,rfl,put ok h eN⟩
  |_=>cases ho
 |tup xs=>
  cases y with
  |tup ys=>
   have ho':(if xs.length+ys.length<=sizeLine then some (D.tup (xs++ys),W.mu)else none)=some (d,μ'):=ho
   split at ho'
   .rename_i hz
    cases ho'
    obtain⟨a,us,rfl,q1,r1⟩:=jK dx
    obtain⟨b,ws,rfl,q2,r2⟩:=jK dy
    refine .inr (.inl ⟨a,b,us,ws,rfl,rfl,SqT.fz q1,SqT.fz q2,by rw[<-aD.length r1,<-aD.length r2];exact hz,λe=>?_,λ_ e=>?_,λ_ _ p hp=>lD ok h (aD.append r1 r2) hp⟩)
    .have e':=(mx r1).mp e
     subst e'
     exact put ok h dy
    .have e':=(mx r2).mp e
     subst e'
     rw[List.append_nil]at h
     exact put ok h dx
   .cases ho'
  |_=>cases ho
 |lst xs=>
  cases y with
  |lst ys=>
   have ho':(if xs.length+ys.length<=sizeLine then some (D.lst (xs++ys),W.mu)else none)=some (d,μ'):=ho
   split at ho'
   .rename_i hz
    cases ho'
    obtain⟨a,us,rfl,q1,r1⟩:=oW dx
    obtain⟨b,ws,rfl,q2,r2⟩:=oW dy
    exact .inr (.inr (.inl ⟨a,b,us,ws,rfl,rfl,(dB q1).1,(dB q2).1,by rw[<-aD.length r1,<-aD.length r2];exact hz,λp hp=>lH ok h (aD.append r1 r2) hp⟩))
   .cases ho'
  |_=>cases ho
 |str x=>
  cases y with
  |str y=>
   have ho':(if x.length+y.length<=sizeLine then some (D.str (x++y),W.mu)else none)=some (d,μ'):=ho
   split at ho'
   .rename_i hz
    cases ho'
    rw[lZ dx,lZ dy]
    exact .inr (.inr (.inr ⟨x,y,rfl,rfl,hz,put ok h KC⟩))
   .cases ho'
  |_=>cases ho
 |_=>cases y<;>cases ho⟩
theorem fK:OpD X tb (binaryOp .Sub) gh:=⟨_,Qn,λW x y v u d μ' Q ok dx dy ho h=>by
 cases x with
 |int i=>
  cases y with
  |int j=>cases ho;rw[bx dx,bx dy];exact⟨i,j,rfl,rfl,put ok h eN⟩
  |_=>cases ho
 |_=>cases y<;>cases ho⟩
theorem cT:OpD X tb (binaryOp .Mult) cu:=⟨_,Mm.or (Kz.or Hs),λW x y v u d μ' Q ok dx dy ho h=>by
 cases x with
 |int i=>
  cases y with
  |int j=>
   have ho':(if jT i j<=134217728 then some (D.int (i*j),W.mu)else none)=some (d,μ'):=ho
   split at ho'
   .rename_i hz
    cases ho'
    rw[bx dx,bx dy];exact .inl ⟨i,j,rfl,rfl,hz,put ok h eN⟩
   .cases ho'
  |_=>cases ho
 |tup xs=>
  cases y with
  |int k=>
   have ho':(if -(2 ^ 63)<=k/\k<2 ^ 63/\xs.length*k.toNat<=sizeLine then some (D.tup (List.replicate k.toNat xs).flatten,W.mu)else none)=some (d,μ'):=ho
   split at ho'
   .rename_i hz
    cases ho'
    obtain⟨a,us,rfl,q1,r1⟩:=jK dx
    rw[bx dy]
    refine .inr (.inl ⟨a,k,us,rfl,rfl,SqT.fz q1,hz.1,hz.2.1,by rw[<-aD.length r1];exact hz.2.2,λe=>?_,λ_ p hp=>lD ok h (ue r1 _) hp⟩)
    rcases e with e|e
    .have e':=(mx r1).mp e
     subst e'
     have e2:(List.replicate k.toNat ([]:List D)).flatten=[]:=by simp
     rw[e2]at h
     exact put ok h dx
    .subst e
     rw[Lf]at h
     exact put ok h dx
   .cases ho'
  |_=>cases ho
 |lst xs=>
  cases y with
  |int k=>
   have ho':(if -(2 ^ 63)<=k/\k<2 ^ 63/\xs.length*k.toNat<=sizeLine then some (D.lst (List.replicate k.toNat xs).flatten,W.mu)else none)=some (d,μ'):=ho
   split at ho'
   .rename_i hz
    cases ho'
    obtain⟨a,us,rfl,q1,r1⟩:=oW dx
    rw[bx dy]
    exact .inr (.inr ⟨a,k,us,rfl,rfl,(dB q1).1,hz.1,hz.2.1,by rw[<-aD.length r1];exact hz.2.2,λp hp=>lH ok h (ue r1 _) hp⟩)
   .cases ho'
  |_=>cases ho
 |_=>cases y<;>cases ho⟩
theorem eU:OpD X tb (binaryOp .FloorDiv) oDiv:=⟨_,Ij,λW x y v u d μ' Q ok dx dy ho h=>by
 cases x with
 |int i=>
  cases y with
  |int j=>
   have ho':(if j≠0/\j.natAbs.log2<9000 then some (D.int (i.fdiv j),W.mu)else none)=some (d,μ'):=ho
   split at ho'
   .rename_i hz
    cases ho'
    rw[bx dx,bx dy];exact⟨i,j,rfl,rfl,hz,put ok h eN⟩
   .cases ho'
  |_=>cases ho
 |_=>cases y<;>cases ho⟩
theorem bJ:OpD X tb (binaryOp .Mod) oMod:=⟨_,Kp,λW x y v u d μ' Q ok dx dy ho h=>by
 cases x with
 |int i=>
  cases y with
  |int j=>
   have ho':(if j≠0 then some (D.int (i.fmod j),W.mu)else none)=some (d,μ'):=ho
   split at ho'
   .rename_i hz
    cases ho'
    rw[bx dx,bx dy];exact⟨i,j,rfl,rfl,hz,put ok h eN⟩
   .cases ho'
  |_=>cases ho
 |_=>cases y<;>cases ho⟩
theorem HN:OpD X tb (binaryOp .Pow) zE:=⟨_,Nx,λW x y v u d μ' Q ok dx dy ho h=>by
 cases x with
 |int i=>
  cases y with
  |int j=>
   have ho':(if 0<=j/\(Builtin.Int.intBits i:Int)*j<=2 ^ 27 then some (D.int (i ^ j.toNat),W.mu)else none)=some (d,μ'):=ho
   split at ho'
   .rename_i hz
    cases ho'
    rw[bx dx,bx dy];exact⟨i,j,rfl,rfl,hz,put ok h eN⟩
   .cases ho'
  |_=>cases ho
 |_=>cases y<;>cases ho⟩
theorem vH:OpD X tb (compareOp .Lt) oLt:=⟨_,Uh,λW x y v u d μ' Q ok dx dy ho h=>by
 cases x with
 |int i=>
  cases y with
  |int j=>cases ho;rw[bx dx,bx dy];exact⟨i,j,rfl,rfl,put ok h gn⟩
  |_=>cases ho
 |_=>cases y<;>cases ho⟩
theorem Jo:OpD X tb (compareOp .LtE) oLe:=⟨_,Te,λW x y v u d μ' Q ok dx dy ho h=>by
 cases x with
 |int i=>
  cases y with
  |int j=>cases ho;rw[bx dx,bx dy];exact⟨i,j,rfl,rfl,put ok h gn⟩
  |_=>cases ho
 |_=>cases y<;>cases ho⟩
theorem HD:OpD X tb (compareOp .Gt) oGt:=⟨_,UT,λW x y v u d μ' Q ok dx dy ho h=>by
 cases x with
 |int i=>
  cases y with
  |int j=>cases ho;rw[bx dx,bx dy];exact⟨i,j,rfl,rfl,put ok h gn⟩
  |_=>cases ho
 |_=>cases y<;>cases ho⟩
theorem Ef:OpD X tb (compareOp .GtE) oGe:=⟨_,Ub,λW x y v u d μ' Q ok dx dy ho h=>by
 cases x with
 |int i=>
  cases y with
  |int j=>cases ho;rw[bx dx,bx dy];exact⟨i,j,rfl,rfl,put ok h gn⟩
  |_=>cases ho
 |_=>cases y<;>cases ho⟩
end
open PySem.SeqAt
mutual
def eqD:D->D->Bool
 | .non,.non=>true
 | .bl a,.bl b=>a==b
 | .bl a,.int b=>(if a then 1 else 0)==b
 | .int a,.bl b=>a==(if b then 1 else 0)
 | .int a,.int b=>a==b
 | .str a,.str b=>a==b
 | .tup xs,.tup ys=>iR xs ys
 | .lst xs,.lst ys=>iR xs ys
 |_,_=>false
def iR:List D->List D->Bool
 | [],[]=>true
 |x::xs,y::ys=>eqD x y&&iR xs ys
 |_,_=>false
end
mutual
def fM:D->Nat
 | .tup ds=>fH ds+1
 | .lst ds=>fH ds+1
 |_=>0
def fH:List D->Nat
 | []=>0
 |d::ds=>max (fM d) (fH ds)
end
mutual
def bV:D->Bool
 | .non=>true
 | .bl _=>true
 | .int _=>true
 | .str _=>true
 | .tup ds=>cF ds
 | .lst ds=>cF ds
 |_=>false
def cF:List D->Bool
 | []=>true
 |d::ds=>bV d&&cF ds
end
mutual
def DV(K:PySem.W.Frag)(H:Hp):D->V->Prop
 | .non,v=>v= .non
 | .bl b,v=>v= .bl b
 | .int i,v=>v= .int i
 | .str x,v=>v= .str x
 | .tup ds,v=>∃a xs,v= .ref a/\SqT K H a xs/\DVL K H ds xs
 | .lst ds,v=>∃a xs,v= .ref a/\SqL K H a xs/\DVL K H ds xs
 | .ro _,_=>False
 | .dic _,_=>False
 | .cell _,_=>False
def DVL(K:PySem.W.Frag)(H:Hp):List D->List V->Prop
 | [],vs=>vs=[]
 |d::ds,vs=>∃u us,vs=u::us/\DV K H d u/\DVL K H ds us
end
section
variable {K:PySem.W.Frag} {tb:List Addr} {W:Wd}
mutual
theorem Ov:∀(d:D)(v:V),bV d=true->bA K (W.fz tb) W.ad d v->DV K W.H d v
 | .non,v,_,h=>by unfold bA at h;unfold DV;exact h
 | .bl _,v,_,h=>by unfold bA at h;unfold DV;exact h
 | .int _,v,_,h=>by unfold bA at h;unfold DV;exact h
 | .str _,v,_,h=>by unfold bA at h;unfold DV;exact h
 | .tup ds,v,p,h=>by
  unfold bA at h;unfold DV;unfold bV at p
  obtain⟨a,xs,e,q,r⟩:=h
  exact⟨a,xs,e,SqT.fz q,vM ds xs p r⟩
 | .lst ds,v,p,h=>by
  unfold bA at h;unfold DV;unfold bV at p
  obtain⟨a,xs,e,q,r⟩:=h
  exact⟨a,xs,e,SqL.of (dB q).1,vM ds xs p r⟩
 | .ro ds,v,p,h=>by unfold bV at p;cases p
 | .dic ds,v,p,h=>by unfold bV at p;cases p
 | .cell ds,v,p,h=>by unfold bV at p;cases p
theorem vM:∀(ds:List D)(vs:List V),cF ds=true->aD K (W.fz tb) W.ad ds vs->DVL K W.H ds vs
 | [],vs,_,h=>by unfold aD at h;unfold DVL;exact h
 |d::ds,vs,p,h=>by
  unfold aD at h;unfold DVL;unfold cF at p
  rw[Zo]at p
  obtain⟨u,us,e,q,r⟩:=h
  exact⟨u,us,e,Ov d u p.1 q,vM ds us p.2 r⟩
end
end
def sX(xs ys:List D)(j:Nat):Bool:=match xs[j]?,ys[j]? with
 |some x,some y=>eqD x y
 |_,_=>false
theorem mO:∀(xs ys:List D),xs.length=ys.length->(List.range xs.length).all (sX xs ys)=iR xs ys
 | [],[],_=>by unfold iR;rfl
 |x::xs,y::ys,h=>by
  unfold iR
  rw[List.length_cons,List.range_succ_eq_map,List.all_cons,List.all_map,<-mO xs ys (by simpa using h)]
  rfl
theorem qR:∀(xs ys:List D),xs.length≠ys.length->iR xs ys=false
 | [],[],h=>absurd rfl h
 | [],y::ys,_=>by unfold iR;rfl
 |x::xs,[],_=>by unfold iR;rfl
 |x::xs,y::ys,h=>by
  unfold iR
  rw[qR xs ys (by simpa using h),Bool.and_false]
theorem Br(xs ys:List D):((List.range (min xs.length ys.length)).all (sX xs ys)&&xs.length==ys.length)=iR xs ys:=by
 by_cases h:xs.length=ys.length
 .rw[<-h,Nat.min_self,mO xs ys h];simp
 .rw[qR xs ys h,beq_false_of_ne h,Bool.and_false]
section
variable {X:Cx} {pins:List (Addr×Obj)} {σ:L2.St} {H:Hp} {s:Shared}
theorem DVL.length{K:PySem.W.Frag}:∀{ds:List D}{vs:List V},DVL K H ds vs->ds.length=vs.length
 | [],vs,h=>by unfold DVL at h;subst h;rfl
 |d::ds,vs,h=>by
  unfold DVL at h
  obtain⟨u,us,rfl,_,r⟩:=h
  rw[List.length_cons,List.length_cons,DVL.length r]
theorem DVL.get'{K:PySem.W.Frag}:∀{ds:List D}{vs:List V}{i:Nat}{v:V},DVL K H ds vs->vs[i]? =some v->∃d,ds[i]? =some d/\DV K H d v
 | [],vs,i,v,h,e=>by unfold DVL at h;subst h;simp at e
 |d::ds,vs,0,x,h,e=>by
  unfold DVL at h
  obtain⟨u,us,rfl,p,r⟩:=h
  simp at e;subst e
  exact⟨d,rfl,p⟩
 |d::ds,vs,i+1,x,h,e=>by
  unfold DVL at h
  obtain⟨u,us,rfl,p,r⟩:=h
  obtain⟨y,e1,e2⟩:=DVL.get' (i:=i) r (by simpa using e)
  exact⟨y,by simpa using e1,e2⟩
theorem Bf{a:Addr}{xs ys:List V}(I:Inv X pins σ H s)(h:SqL X.K H a xs)(h':SqT X.K H a ys):False:=by
 obtain⟨its,_,pl,_⟩:=I.list h
 obtain⟨its',_,pt,_⟩:=I.tuple h'
 obtain⟨o,ho,hc,_⟩:=pl.isList
 obtain⟨o',ho',hc',_⟩:=pt
 rw[ho]at ho';cases ho'
 rw[hc]at hc'
 exact absurd hc' (by decide)
mutual
theorem uX(I:Inv X pins σ H s):∀(x y:D)(v:V),DV X.K H x v->DV X.K H y v->eqD x y=true
 | .non,.non,v,h,k=>by unfold eqD;rfl
 | .non,.bl b,v,h,k=>by unfold DV at h k;subst h;cases k
 | .non,.int b,v,h,k=>by unfold DV at h k;subst h;cases k
 | .non,.str b,v,h,k=>by unfold DV at h k;subst h;cases k
 | .non,.tup ys,v,h,k=>by unfold DV at h k;obtain⟨a,us,rfl,q,r⟩:=k;cases h
 | .non,.lst ys,v,h,k=>by unfold DV at h k;obtain⟨a,us,rfl,q,r⟩:=k;cases h
 | .bl a,.non,v,h,k=>by unfold DV at h k;subst h;cases k
 | .bl a,.bl b,v,h,k=>by unfold DV at h k;subst h;cases k;unfold eqD;simp
 | .bl a,.int b,v,h,k=>by unfold DV at h k;subst h;cases k
 | .bl a,.str b,v,h,k=>by unfold DV at h k;subst h;cases k
 | .bl a,.tup ys,v,h,k=>by unfold DV at h k;obtain⟨a,us,rfl,q,r⟩:=k;cases h
 | .bl a,.lst ys,v,h,k=>by unfold DV at h k;obtain⟨a,us,rfl,q,r⟩:=k;cases h
 | .int a,.non,v,h,k=>by unfold DV at h k;subst h;cases k
 | .int a,.bl b,v,h,k=>by unfold DV at h k;subst h;cases k
 | .int a,.int b,v,h,k=>by unfold DV at h k;subst h;cases k;unfold eqD;simp
 | .int a,.str b,v,h,k=>by unfold DV at h k;subst h;cases k
 | .int a,.tup ys,v,h,k=>by unfold DV at h k;obtain⟨a,us,rfl,q,r⟩:=k;cases h
 | .int a,.lst ys,v,h,k=>by unfold DV at h k;obtain⟨a,us,rfl,q,r⟩:=k;cases h
 | .str a,.non,v,h,k=>by unfold DV at h k;subst h;cases k
 | .str a,.bl b,v,h,k=>by unfold DV at h k;subst h;cases k
 | .str a,.int b,v,h,k=>by unfold DV at h k;subst h;cases k
 | .str a,.str b,v,h,k=>by unfold DV at h k;subst h;cases k;unfold eqD;simp
 | .str a,.tup ys,v,h,k=>by unfold DV at h k;obtain⟨a,us,rfl,q,r⟩:=k;cases h
 | .str a,.lst ys,v,h,k=>by unfold DV at h k;obtain⟨a,us,rfl,q,r⟩:=k;cases h
 | .tup xs,.non,v,h,k=>by unfold DV at h k;obtain⟨a,us,rfl,q,r⟩:=h;cases k
 | .tup xs,.bl b,v,h,k=>by unfold DV at h k;obtain⟨a,us,rfl,q,r⟩:=h;cases k
 | .tup xs,.int b,v,h,k=>by unfold DV at h k;obtain⟨a,us,rfl,q,r⟩:=h;cases k
 | .tup xs,.str b,v,h,k=>by unfold DV at h k;obtain⟨a,us,rfl,q,r⟩:=h;cases k
 | .tup xs,.tup ys,v,h,k=>by
  unfold DV at h k
  obtain⟨a,us,rfl,q,r⟩:=h
  obtain⟨a',us',e,q',r'⟩:=k
  cases e
  have:=I.tuple_inj q q'
  subst this
  unfold eqD
  exact rn I xs ys us r r'
 | .tup xs,.lst ys,v,h,k=>by
  unfold DV at h k
  obtain⟨a,us,rfl,q,r⟩:=h
  obtain⟨a',us',e,q',r'⟩:=k
  cases e
  exact(Bf I q' q).elim
 | .lst xs,.non,v,h,k=>by unfold DV at h k;obtain⟨a,us,rfl,q,r⟩:=h;cases k
 | .lst xs,.bl b,v,h,k=>by unfold DV at h k;obtain⟨a,us,rfl,q,r⟩:=h;cases k
 | .lst xs,.int b,v,h,k=>by unfold DV at h k;obtain⟨a,us,rfl,q,r⟩:=h;cases k
 | .lst xs,.str b,v,h,k=>by unfold DV at h k;obtain⟨a,us,rfl,q,r⟩:=h;cases k
 | .lst xs,.tup ys,v,h,k=>by
  unfold DV at h k
  obtain⟨a,us,rfl,q,r⟩:=h
  obtain⟨a',us',e,q',r'⟩:=k
  cases e
  exact(Bf I q q').elim
 | .lst xs,.lst ys,v,h,k=>by
  unfold DV at h k
  obtain⟨a,us,rfl,q,r⟩:=h
  obtain⟨a',us',e,q',r'⟩:=k
  cases e
  have:=I.list_inj q q'
  subst this
  unfold eqD
  exact rn I xs ys us r r'
 | .ro _,_,v,h,_=>by unfold DV at h;exact h.elim
 | .dic _,_,v,h,_=>by unfold DV at h;exact h.elim
 | .cell _,_,v,h,_=>by unfold DV at h;exact h.elim
 |_,.ro _,v,_,k=>by unfold DV at k;exact k.elim
 |_,.dic _,v,_,k=>by unfold DV at k;exact k.elim
 |_,.cell _,v,_,k=>by unfold DV at k;exact k.elim
theorem rn(I:Inv X pins σ H s):∀(xs ys:List D)(vs:List V),DVL X.K H xs vs->DVL X.K H ys vs->iR xs ys=true
 | [],[],vs,_,_=>by unfold iR;rfl
 | [],y::ys,vs,h,k=>by unfold DVL at h k;subst h;obtain⟨u,us,e,_⟩:=k;cases e
 |x::xs,[],vs,h,k=>by unfold DVL at h k;subst k;obtain⟨u,us,e,_⟩:=h;cases e
 |x::xs,y::ys,vs,h,k=>by
  unfold DVL at h k
  obtain⟨u,us,rfl,p,r⟩:=h
  obtain⟨u',us',e,p',r'⟩:=k
  cases e
  unfold iR
  rw[uX I x y u p p',rn I xs ys us r r'];rfl
end
def sk:D->D->Bool
 | .tup _,.tup _=>true
 | .lst _,.lst _=>true
 |_,_=>false
def Vw(s:Shared):D->Value->Prop
 | .non,v=>v= .none
 | .bl b,v=>v= .bool b
 | .int i,v=>∃t,v= .int i t
 | .str z,v=>∃t,v= .str z t
 | .tup _,v=>∃a its,v= .ref a/\IsTup s.heap a its
 | .lst _,v=>∃a its,v= .ref a/\s.heap.IsList a its
 |_,_=>False
theorem vw{x:D}{v:V}{vv:Value}(I:Inv X pins σ H s)(h:DV X.K H x v)(rv:RelV v vv):Vw s x vv:=by
 cases x<;>unfold DV at h
 case tup=>obtain⟨a,us,rfl,q,r⟩:=h;obtain⟨_,_,pl,_⟩:=I.tuple q;exact⟨a,_,rv,pl⟩
 case lst=>obtain⟨a,us,rfl,q,r⟩:=h;obtain⟨_,_,pl,_⟩:=I.list q;exact⟨a,_,rv,pl.isList⟩
 case ro=>exact h.elim
 case dic=>exact h.elim
 case cell=>exact h.elim
 all_goals subst h;exact rv
theorem my{vv uu:Value}{A:Around}(hu:A.units<cLine):∀(x y:D),Vw s x vv->Vw s y uu->sk x y=false->EqAt A s vv uu (eqD x y)
 | .non,.non,rfl,rfl,_=>by unfold eqD;exact EqAt.same _
 | .non,.bl _,rfl,rfl,_=>by unfold eqD;exact EqAt.none_bool _
 | .non,.int _,rfl,⟨_,rfl⟩,_=>by unfold eqD;exact EqAt.none_int _ _
 | .non,.str _,rfl,⟨_,rfl⟩,_=>by unfold eqD;exact EqAt.none_str _ _
 | .non,.tup _,rfl,⟨_,_,rfl,m⟩,_=>by unfold eqD;exact EqAt.none_tuple m hu
 | .non,.lst _,rfl,⟨_,_,rfl,m⟩,_=>by unfold eqD;exact EqAt.none_list m hu
 | .bl _,.non,rfl,rfl,_=>by unfold eqD;exact EqAt.bool_none _
 | .bl _,.bl _,rfl,rfl,_=>by unfold eqD;exact EqAt.bool_bool _ _
 | .bl _,.int _,rfl,⟨_,rfl⟩,_=>by unfold eqD;exact EqAt.bool_int _ _ _
 | .bl _,.str _,rfl,⟨_,rfl⟩,_=>by unfold eqD;exact EqAt.bool_str _ _ _
 | .bl _,.tup _,rfl,⟨_,_,rfl,m⟩,_=>by unfold eqD;exact EqAt.bool_tuple _ m hu
 | .bl _,.lst _,rfl,⟨_,_,rfl,m⟩,_=>by unfold eqD;exact EqAt.bool_list _ m hu
 | .int _,.non,⟨_,rfl⟩,rfl,_=>by unfold eqD;exact EqAt.int_none _ _
 | .int _,.bl _,⟨_,rfl⟩,rfl,_=>by unfold eqD;exact EqAt.int_bool _ _ _
 | .int _,.int _,⟨_,rfl⟩,⟨_,rfl⟩,_=>by unfold eqD;exact EqAt.int_int _ _ _ _
 | .int _,.str _,⟨_,rfl⟩,⟨_,rfl⟩,_=>by unfold eqD;exact EqAt.int_str _ _ _ _
 | .int _,.tup _,⟨_,rfl⟩,⟨_,_,rfl,m⟩,_=>by unfold eqD;exact EqAt.int_tuple _ _ m hu
 | .int _,.lst _,⟨_,rfl⟩,⟨_,_,rfl,m⟩,_=>by unfold eqD;exact EqAt.int_list _ _ m hu
 | .str _,.non,⟨_,rfl⟩,rfl,_=>by unfold eqD;exact EqAt.str_none _ _
 | .str _,.bl _,⟨_,rfl⟩,rfl,_=>by unfold eqD;exact EqAt.str_bool _ _ _
 | .str _,.int _,⟨_,rfl⟩,⟨_,rfl⟩,_=>by unfold eqD;exact EqAt.str_int _ _ _ _
 | .str _,.str _,⟨_,rfl⟩,⟨_,rfl⟩,_=>by unfold eqD;exact EqAt.str_str _ _ _ _
 | .str _,.tup _,⟨_,rfl⟩,⟨_,_,rfl,m⟩,_=>by unfold eqD;exact EqAt.str_tuple _ _ m hu
 | .str _,.lst _,⟨_,rfl⟩,⟨_,_,rfl,m⟩,_=>by unfold eqD;exact EqAt.str_list _ _ m hu
 | .tup _,.non,⟨_,_,rfl,l⟩,rfl,_=>by unfold eqD;exact EqAt.tuple_none l hu
 | .tup _,.bl _,⟨_,_,rfl,l⟩,rfl,_=>by unfold eqD;exact EqAt.tuple_bool _ l hu
 | .tup _,.int _,⟨_,_,rfl,l⟩,⟨_,rfl⟩,_=>by unfold eqD;exact EqAt.tuple_int _ _ l hu
 | .tup _,.str _,⟨_,_,rfl,l⟩,⟨_,rfl⟩,_=>by unfold eqD;exact EqAt.tuple_str _ _ l hu
 | .tup _,.tup _,_,_,h=>nomatch h
 | .tup _,.lst _,⟨_,_,rfl,l⟩,⟨_,_,rfl,m⟩,_=>by unfold eqD;exact EqAt.tuple_list l m hu
 | .lst _,.non,⟨_,_,rfl,l⟩,rfl,_=>by unfold eqD;exact EqAt.list_none l hu
 | .lst _,.bl _,⟨_,_,rfl,l⟩,rfl,_=>by unfold eqD;exact EqAt.list_bool _ l hu
 | .lst _,.int _,⟨_,_,rfl,l⟩,⟨_,rfl⟩,_=>by unfold eqD;exact EqAt.list_int _ _ l hu
 | .lst _,.str _,⟨_,_,rfl,l⟩,⟨_,rfl⟩,_=>by unfold eqD;exact EqAt.list_str _ _ l hu
 | .lst _,.tup _,⟨_,_,rfl,l⟩,⟨_,_,rfl,m⟩,_=>by unfold eqD;exact EqAt.list_tuple l m hu
 | .lst _,.lst _,_,_,h=>nomatch h
 | .ro _,_,p,_,_=>p.elim
 |_,.ro _,_,p,_=>p.elim
 | .dic _,_,p,_,_=>p.elim
 |_,.dic _,_,p,_=>p.elim
 | .cell _,_,p,_,_=>p.elim
 |_,.cell _,_,p,_=>p.elim
theorem mJ{vv uu:Value}{A:Around}(hu:A.units<cLine):∀(x y:D),Vw s x vv->Vw s y uu->sk x y=false->RcAt A s vv uu (eqD x y)
 | .non,.non,rfl,rfl,_=>by unfold eqD;exact RcAt.none_none
 | .non,.bl _,rfl,rfl,_=>by unfold eqD;exact RcAt.none_bool _
 | .non,.int _,rfl,⟨_,rfl⟩,_=>by unfold eqD;exact RcAt.none_int _ _
 | .non,.str _,rfl,⟨_,rfl⟩,_=>by unfold eqD;exact RcAt.none_str _ _
 | .non,.tup _,rfl,⟨_,_,rfl,m⟩,_=>by unfold eqD;exact RcAt.none_tuple m hu
 | .non,.lst _,rfl,⟨_,_,rfl,m⟩,_=>by unfold eqD;exact RcAt.none_list m hu
 | .bl _,.non,rfl,rfl,_=>by unfold eqD;exact RcAt.bool_none _
 | .bl _,.bl _,rfl,rfl,_=>by unfold eqD;exact RcAt.bool_bool _ _
 | .bl _,.int _,rfl,⟨_,rfl⟩,_=>by unfold eqD;exact RcAt.bool_int _ _ _
 | .bl _,.str _,rfl,⟨_,rfl⟩,_=>by unfold eqD;exact RcAt.bool_str _ _ _
 | .bl _,.tup _,rfl,⟨_,_,rfl,m⟩,_=>by unfold eqD;exact RcAt.bool_tuple _ m hu
 | .bl _,.lst _,rfl,⟨_,_,rfl,m⟩,_=>by unfold eqD;exact RcAt.bool_list _ m hu
 | .int _,.non,⟨_,rfl⟩,rfl,_=>by unfold eqD;exact RcAt.int_none _ _
 | .int _,.bl _,⟨_,rfl⟩,rfl,_=>by unfold eqD;exact RcAt.int_bool _ _ _
 | .int _,.int _,⟨_,rfl⟩,⟨_,rfl⟩,_=>by unfold eqD;exact RcAt.int_int _ _ _ _
 | .int _,.str _,⟨_,rfl⟩,⟨_,rfl⟩,_=>by unfold eqD;exact RcAt.int_str _ _ _ _
 | .int _,.tup _,⟨_,rfl⟩,⟨_,_,rfl,m⟩,_=>by unfold eqD;exact RcAt.int_tuple _ _ m hu
 | .int _,.lst _,⟨_,rfl⟩,⟨_,_,rfl,m⟩,_=>by unfold eqD;exact RcAt.int_list _ _ m hu
 | .str _,.non,⟨_,rfl⟩,rfl,_=>by unfold eqD;exact RcAt.str_none _ _
 | .str _,.bl _,⟨_,rfl⟩,rfl,_=>by unfold eqD;exact RcAt.str_bool _ _ _
 | .str _,.int _,⟨_,rfl⟩,⟨_,rfl⟩,_=>by unfold eqD;exact RcAt.str_int _ _ _ _
 | .str _,.str _,⟨_,rfl⟩,⟨_,rfl⟩,_=>by unfold eqD;exact RcAt.str_str _ _ _ _
 | .str _,.tup _,⟨_,rfl⟩,⟨_,_,rfl,m⟩,_=>by unfold eqD;exact RcAt.str_tuple _ _ m hu
 | .str _,.lst _,⟨_,rfl⟩,⟨_,_,rfl,m⟩,_=>by unfold eqD;exact RcAt.str_list _ _ m hu
 | .tup _,.non,⟨_,_,rfl,l⟩,rfl,_=>by unfold eqD;exact RcAt.tuple_none l hu
 | .tup _,.bl _,⟨_,_,rfl,l⟩,rfl,_=>by unfold eqD;exact RcAt.tuple_bool _ l hu
 | .tup _,.int _,⟨_,_,rfl,l⟩,⟨_,rfl⟩,_=>by unfold eqD;exact RcAt.tuple_int _ _ l hu
 | .tup _,.str _,⟨_,_,rfl,l⟩,⟨_,rfl⟩,_=>by unfold eqD;exact RcAt.tuple_str _ _ l hu
 | .tup _,.tup _,_,_,h=>nomatch h
 | .tup _,.lst _,⟨_,_,rfl,l⟩,⟨_,_,rfl,m⟩,_=>by unfold eqD;exact RcAt.tuple_list l m hu
 | .lst _,.non,⟨_,_,rfl,l⟩,rfl,_=>by unfold eqD;exact RcAt.list_none l hu
 | .lst _,.bl _,⟨_,_,rfl,l⟩,rfl,_=>by unfold eqD;exact RcAt.list_bool _ l hu
 | .lst _,.int _,⟨_,_,rfl,l⟩,⟨_,rfl⟩,_=>by unfold eqD;exact RcAt.list_int _ _ l hu
 | .lst _,.str _,⟨_,_,rfl,l⟩,⟨_,rfl⟩,_=>by unfold eqD;exact RcAt.list_str _ _ l hu
 | .lst _,.tup _,⟨_,_,rfl,l⟩,⟨_,_,rfl,m⟩,_=>by unfold eqD;exact RcAt.list_tuple l m hu
 | .lst _,.lst _,_,_,h=>nomatch h
 | .ro _,_,p,_,_=>p.elim
 |_,.ro _,_,p,_=>p.elim
 | .dic _,_,p,_,_=>p.elim
 |_,.dic _,_,p,_=>p.elim
 | .cell _,_,p,_,_=>p.elim
 |_,.cell _,_,p,_=>p.elim
theorem mF{vv uu:Value}{A:Around}(hu:A.units<cLine):∀(x y:D),Vw s x vv->Vw s y uu->sk x y=false->RcNeAt A s vv uu (!eqD x y)
 | .non,.non,rfl,rfl,_=>by unfold eqD;exact RcNeAt.none_none
 | .non,.bl _,rfl,rfl,_=>by unfold eqD;exact RcNeAt.none_bool _
 | .non,.int _,rfl,⟨_,rfl⟩,_=>by unfold eqD;exact RcNeAt.none_int _ _
 | .non,.str _,rfl,⟨_,rfl⟩,_=>by unfold eqD;exact RcNeAt.none_str _ _
 | .non,.tup _,rfl,⟨_,_,rfl,m⟩,_=>by unfold eqD;exact RcNeAt.none_tuple m hu
 | .non,.lst _,rfl,⟨_,_,rfl,m⟩,_=>by unfold eqD;exact RcNeAt.none_list m hu
 | .bl _,.non,rfl,rfl,_=>by unfold eqD;exact RcNeAt.bool_none _
 | .bl _,.bl _,rfl,rfl,_=>by unfold eqD;exact RcNeAt.bool_bool _ _
 | .bl _,.int _,rfl,⟨_,rfl⟩,_=>by unfold eqD;exact RcNeAt.bool_int _ _ _
 | .bl _,.str _,rfl,⟨_,rfl⟩,_=>by unfold eqD;exact RcNeAt.bool_str _ _ _
 | .bl _,.tup _,rfl,⟨_,_,rfl,m⟩,_=>by unfold eqD;exact RcNeAt.bool_tuple _ m hu
 | .bl _,.lst _,rfl,⟨_,_,rfl,m⟩,_=>by unfold eqD;exact RcNeAt.bool_list _ m hu
 | .int _,.non,⟨_,rfl⟩,rfl,_=>by unfold eqD;exact RcNeAt.int_none _ _
 | .int _,.bl _,⟨_,rfl⟩,rfl,_=>by unfold eqD;exact RcNeAt.int_bool _ _ _
 | .int _,.int _,⟨_,rfl⟩,⟨_,rfl⟩,_=>by unfold eqD;exact RcNeAt.int_int _ _ _ _
 | .int _,.str _,⟨_,rfl⟩,⟨_,rfl⟩,_=>by unfold eqD;exact RcNeAt.int_str _ _ _ _
 | .int _,.tup _,⟨_,rfl⟩,⟨_,_,rfl,m⟩,_=>by unfold eqD;exact RcNeAt.int_tuple _ _ m hu
 | .int _,.lst _,⟨_,rfl⟩,⟨_,_,rfl,m⟩,_=>by unfold eqD;exact RcNeAt.int_list _ _ m hu
 | .str _,.non,⟨_,rfl⟩,rfl,_=>by unfold eqD;exact RcNeAt.str_none _ _
 | .str _,.bl _,⟨_,rfl⟩,rfl,_=>by unfold eqD;exact RcNeAt.str_bool _ _ _
 | .str _,.int _,⟨_,rfl⟩,⟨_,rfl⟩,_=>by unfold eqD;exact RcNeAt.str_int _ _ _ _
 | .str _,.str _,⟨_,rfl⟩,⟨_,rfl⟩,_=>by unfold eqD;exact RcNeAt.str_str _ _ _ _
 | .str _,.tup _,⟨_,rfl⟩,⟨_,_,rfl,m⟩,_=>by unfold eqD;exact RcNeAt.str_tuple _ _ m hu
 | .str _,.lst _,⟨_,rfl⟩,⟨_,_,rfl,m⟩,_=>by unfold eqD;exact RcNeAt.str_list _ _ m hu
 | .tup _,.non,⟨_,_,rfl,l⟩,rfl,_=>by unfold eqD;exact RcNeAt.tuple_none l hu
 | .tup _,.bl _,⟨_,_,rfl,l⟩,rfl,_=>by unfold eqD;exact RcNeAt.tuple_bool _ l hu
 | .tup _,.int _,⟨_,_,rfl,l⟩,⟨_,rfl⟩,_=>by unfold eqD;exact RcNeAt.tuple_int _ _ l hu
 | .tup _,.str _,⟨_,_,rfl,l⟩,⟨_,rfl⟩,_=>by unfold eqD;exact RcNeAt.tuple_str _ _ l hu
 | .tup _,.tup _,_,_,h=>nomatch h
 | .tup _,.lst _,⟨_,_,rfl,l⟩,⟨_,_,rfl,m⟩,_=>by unfold eqD;exact RcNeAt.tuple_list l m hu
 | .lst _,.non,⟨_,_,rfl,l⟩,rfl,_=>by unfold eqD;exact RcNeAt.list_none l hu
 | .lst _,.bl _,⟨_,_,rfl,l⟩,rfl,_=>by unfold eqD;exact RcNeAt.list_bool _ l hu
 | .lst _,.int _,⟨_,_,rfl,l⟩,⟨_,rfl⟩,_=>by unfold eqD;exact RcNeAt.list_int _ _ l hu
 | .lst _,.str _,⟨_,_,rfl,l⟩,⟨_,rfl⟩,_=>by unfold eqD;exact RcNeAt.list_str _ _ l hu
 | .lst _,.tup _,⟨_,_,rfl,l⟩,⟨_,_,rfl,m⟩,_=>by unfold eqD;exact RcNeAt.list_tuple l m hu
 | .lst _,.lst _,_,_,h=>nomatch h
 | .ro _,_,p,_,_=>p.elim
 |_,.ro _,_,p,_=>p.elim
 | .dic _,_,p,_,_=>p.elim
 |_,.dic _,_,p,_=>p.elim
 | .cell _,_,p,_,_=>p.elim
 |_,.cell _,_,p,_=>p.elim
theorem zy{xs ys:List D}{us ws:List V}{its0 its1:List Value}{A:Around}(r:DVL X.K H xs us)(r2:DVL X.K H ys ws)(iv0:Vals us its0)(iv1:Vals ws its1)
  (E:∀(j:Nat)(x y:D),xs[j]? =some x->ys[j]? =some y->∀(z z':Value),its0[j]? =some z->its1[j]? =some z'->EqAt A.in1 s z z' (eqD x y)) (j:Nat) (h1:j<its0.toArray.size) (h2:j<its1.toArray.size):EqAt A.in1 s its0.toArray[j] its1.toArray[j] (sX xs ys j):=by
 have h1':j<its0.length:=by simpa using h1
 have h2':j<its1.length:=by simpa using h2
 obtain⟨d,e1,dv⟩:=DVL.get' r (show us[j]? =some (us[j]'(by rw[iv0.length];exact h1')) by simp)
 obtain⟨d',e2,dv'⟩:=DVL.get' r2 (show ws[j]? =some (ws[j]'(by rw[iv1.length];exact h2')) by simp)
 obtain⟨z,ez,rz⟩:=iv0.get (show us[j]? =some (us[j]'(by rw[iv0.length];exact h1')) by simp)
 obtain⟨z',ez',rz'⟩:=iv1.get (show ws[j]? =some (ws[j]'(by rw[iv1.length];exact h2')) by simp)
 have f1:its0.toArray[j]=z:=by simpa[h1']using ez
 have f2:its1.toArray[j]=z':=by simpa[h2']using ez'
 rw[f1,f2]
 have:=E j d d' e1 e2 z z' ez ez'
 unfold sX
 rw[e1,e2]
 exact this
theorem Ex{xs ys:List D}{us ws:List V}{its0 its1:List Value}{a b:Addr}{A:Around}(pl0:IsTup s.heap a its0.toArray)(pl1:IsTup s.heap b its1.toArray)(r:DVL X.K H xs us)(r2:DVL X.K H ys ws)(iv0:Vals us its0)(iv1:Vals ws its1)(hu:A.units<cLine)
  (E:∀(j:Nat)(x y:D),xs[j]? =some x->ys[j]? =some y->∀(z z':Value),its0[j]? =some z->its1[j]? =some z'->EqAt A.in1 s z z' (eqD x y)):RcAt A s (.ref a) (.ref b) (iR xs ys):=by
 have hl0:its0.toArray.size=xs.length:=by rw[Zd,<-iv0.length,<-DVL.length r]
 have hl1:its1.toArray.size=ys.length:=by rw[Zd,<-iv1.length,<-DVL.length r2]
 have rc:=RcAt.tuples (A:=A) (e:=sX xs ys) pl0 pl1 (by omega) (zy r r2 iv0 iv1 E)
 rw[hl0,hl1,Br]at rc
 exact rc
theorem DX{xs ys:List D}{us ws:List V}{its0 its1:List Value}{a b:Addr}{A:Around}(pl0:PlainL s.heap a its0.toArray)(pl1:PlainL s.heap b its1.toArray)(r:DVL X.K H xs us)(r2:DVL X.K H ys ws)(iv0:Vals us its0)(iv1:Vals ws its1)(hu:A.units<cLine)
  (E:∀(j:Nat)(x y:D),xs[j]? =some x->ys[j]? =some y->∀(z z':Value),its0[j]? =some z->its1[j]? =some z'->EqAt A.in1 s z z' (eqD x y)):RcAt A s (.ref a) (.ref b) (iR xs ys):=by
 have hl0:its0.toArray.size=xs.length:=by rw[Zd,<-iv0.length,<-DVL.length r]
 have hl1:its1.toArray.size=ys.length:=by rw[Zd,<-iv1.length,<-DVL.length r2]
 by_cases hlen:xs.length=ys.length
 .have rc:=RcAt.lists (A:=A) (e:=sX xs ys) pl0.isList pl1.isList (by rw[hl0,hl1,hlen]) (by omega) (zy r r2 iv0 iv1 E)
  rw[hl0,mO _ _ hlen]at rc
  exact rc
 .rw[qR _ _ hlen]
  exact RcAt.lists_lengths pl0.isList pl1.isList (by rw[hl0,hl1];simpa using hlen) (by omega)
theorem La{xs ys:List D}{us ws:List V}{its0 its1:List Value}{a b:Addr}{A:Around}(pl0:IsTup s.heap a its0.toArray)(pl1:IsTup s.heap b its1.toArray)(r:DVL X.K H xs us)(r2:DVL X.K H ys ws)(iv0:Vals us its0)(iv1:Vals ws its1)(hu:A.units<cLine)
  (E:∀(j:Nat)(x y:D),xs[j]? =some x->ys[j]? =some y->∀(z z':Value),its0[j]? =some z->its1[j]? =some z'->EqAt A.in1 s z z' (eqD x y)):RcNeAt A s (.ref a) (.ref b) (!iR xs ys):=by
 have hl0:its0.toArray.size=xs.length:=by rw[Zd,<-iv0.length,<-DVL.length r]
 have hl1:its1.toArray.size=ys.length:=by rw[Zd,<-iv1.length,<-DVL.length r2]
 have rc:=RcNeAt.tuples (A:=A) (e:=sX xs ys) pl0 pl1 (by omega) (zy r r2 iv0 iv1 E)
 rw[hl0,hl1,Br]at rc
 exact rc
theorem Nb{xs ys:List D}{us ws:List V}{its0 its1:List Value}{a b:Addr}{A:Around}(pl0:PlainL s.heap a its0.toArray)(pl1:PlainL s.heap b its1.toArray)(r:DVL X.K H xs us)(r2:DVL X.K H ys ws)(iv0:Vals us its0)(iv1:Vals ws its1)(hu:A.units<cLine)
  (E:∀(j:Nat)(x y:D),xs[j]? =some x->ys[j]? =some y->∀(z z':Value),its0[j]? =some z->its1[j]? =some z'->EqAt A.in1 s z z' (eqD x y)):RcNeAt A s (.ref a) (.ref b) (!iR xs ys):=by
 have hl0:its0.toArray.size=xs.length:=by rw[Zd,<-iv0.length,<-DVL.length r]
 have hl1:its1.toArray.size=ys.length:=by rw[Zd,<-iv1.length,<-DVL.length r2]
 by_cases hlen:xs.length=ys.length
 .have rc:=RcNeAt.lists (A:=A) (e:=sX xs ys) pl0.isList pl1.isList (by rw[hl0,hl1,hlen]) (by omega) (zy r r2 iv0 iv1 E)
  rw[hl0,mO _ _ hlen]at rc
  exact rc
 .rw[qR _ _ hlen]
  exact RcNeAt.lists_lengths pl0.isList pl1.isList (by rw[hl0,hl1];simpa using hlen) (by omega)
mutual
theorem Qj(I:Inv X pins σ H s):∀(x y:D)(v u:V)(vv uu:Value)(A:Around),DV X.K H x v->DV X.K H y u->RelV v vv->RelV u uu->A.units+fM x<cLine->EqAt A s vv uu (eqD x y)
 | .tup xs,y,v,u,vv,uu,A,h,k,rv,ru,hu=>by
  cases y with
  |tup ys=>
   have h0:=h
   have k0:=k
   unfold DV at h k;unfold fM at hu
   obtain⟨a,us,rfl,q,r⟩:=h;cases rv;obtain⟨its0,iv0,pl0,hz0⟩:=I.tuple q;obtain⟨b,ws,rfl,p,r2⟩:=k;cases ru;obtain⟨its1,iv1,pl1,hz1⟩:=I.tuple p
   by_cases hab:a=b
   .subst hab
    rw[uX I _ _ _ h0 k0]
    exact EqAt.same _
   .unfold eqD
    exact EqAt.of_refs hab (Ex pl0 pl1 r r2 iv0 iv1 (by omega) (mq I xs ys us ws its0 its1 A.in1 r r2 iv0 iv1 (by rw[units_in1];omega)))
  |_=>exact my (by omega) _ _ (vw I h rv) (vw I k ru) rfl
 | .lst xs,y,v,u,vv,uu,A,h,k,rv,ru,hu=>by
  cases y with
  |lst ys=>
   have h0:=h
   have k0:=k
   unfold DV at h k;unfold fM at hu
   obtain⟨a,us,rfl,q,r⟩:=h;cases rv;obtain⟨its0,iv0,pl0,hz0⟩:=I.list q;obtain⟨b,ws,rfl,p,r2⟩:=k;cases ru;obtain⟨its1,iv1,pl1,hz1⟩:=I.list p
   by_cases hab:a=b
   .subst hab
    rw[uX I _ _ _ h0 k0]
    exact EqAt.same _
   .unfold eqD
    exact EqAt.of_refs hab (DX pl0 pl1 r r2 iv0 iv1 (by omega) (mq I xs ys us ws its0 its1 A.in1 r r2 iv0 iv1 (by rw[units_in1];omega)))
  |_=>exact my (by omega) _ _ (vw I h rv) (vw I k ru) rfl
 | .non,y,v,u,vv,uu,A,h,k,rv,ru,hu=>my (by omega) _ _ (vw I h rv) (vw I k ru) (by cases y<;>rfl)
 | .bl _,y,v,u,vv,uu,A,h,k,rv,ru,hu=>my (by omega) _ _ (vw I h rv) (vw I k ru) (by cases y<;>rfl)
 | .int _,y,v,u,vv,uu,A,h,k,rv,ru,hu=>my (by omega) _ _ (vw I h rv) (vw I k ru) (by cases y<;>rfl)
 | .str _,y,v,u,vv,uu,A,h,k,rv,ru,hu=>my (by omega) _ _ (vw I h rv) (vw I k ru) (by cases y<;>rfl)
 | .ro _,y,v,u,vv,uu,A,h,k,rv,ru,hu=>my (by omega) _ _ (vw I h rv) (vw I k ru) (by cases y<;>rfl)
 | .dic _,y,v,u,vv,uu,A,h,k,rv,ru,hu=>my (by omega) _ _ (vw I h rv) (vw I k ru) (by cases y<;>rfl)
 | .cell _,y,v,u,vv,uu,A,h,k,rv,ru,hu=>my (by omega) _ _ (vw I h rv) (vw I k ru) (by cases y<;>rfl)
theorem mq(I:Inv X pins σ H s):∀(xs ys:List D)(vs us:List V)(vvs uus:List Value)(A:Around),DVL X.K H xs vs->DVL X.K H ys us->Vals vs vvs->Vals us uus->A.units+fH xs<cLine->
  ∀(j:Nat)(x y:D),xs[j]? =some x->ys[j]? =some y->∀(z z':Value),vvs[j]? =some z->uus[j]? =some z'->EqAt A s z z' (eqD x y)
 | [],ys,vs,us,vvs,uus,A,_,_,_,_,_=>λj x y e=>by simp at e
 |x::xs,[],vs,us,vvs,uus,A,_,_,_,_,_=>λj _ y _ e=>by simp at e
 |x::xs,y::ys,vs,us,vvs,uus,A,h,k,rv,ru,hu=>by
  unfold DVL at h k
  unfold fH at hu
  obtain⟨v,vs',rfl,p,r⟩:=h
  obtain⟨u,us',rfl,p',r'⟩:=k
  cases rv with
  |cons rv1 rv2=>
   cases ru with
   |cons ru1 ru2=>
    intro j x' y' e1 e2 z z' ez ez'
    cases j with
    |zero=>
     simp at e1 e2 ez ez'
     subst e1 e2 ez ez'
     exact Qj I x y v u _ _ A p p' rv1 ru1 (by omega)
    |succ j=>
     exact mq I xs ys vs' us' _ _ A r r' rv2 ru2 (by omega) j x' y' (by simpa using e1) (by simpa using e2) z z' (by simpa using ez) (by simpa using ez')
end
theorem Qy(I:Inv X pins σ H s):∀(x y:D)(v u:V)(vv uu:Value)(A:Around),DV X.K H x v->DV X.K H y u->RelV v vv->RelV u uu->A.units+fM x<cLine->RcAt A s vv uu (eqD x y)
 | .tup xs,y,v,u,vv,uu,A,h,k,rv,ru,hu=>by
  cases y with
  |tup ys=>
   unfold DV at h k;unfold fM at hu
   obtain⟨a,us,rfl,q,r⟩:=h;cases rv;obtain⟨its0,iv0,pl0,hz0⟩:=I.tuple q;obtain⟨b,ws,rfl,p,r2⟩:=k;cases ru;obtain⟨its1,iv1,pl1,hz1⟩:=I.tuple p
   unfold eqD
   exact Ex pl0 pl1 r r2 iv0 iv1 (by omega) (mq I xs ys us ws its0 its1 A.in1 r r2 iv0 iv1 (by rw[units_in1];omega))
  |_=>exact mJ (by omega) _ _ (vw I h rv) (vw I k ru) rfl
 | .lst xs,y,v,u,vv,uu,A,h,k,rv,ru,hu=>by
  cases y with
  |lst ys=>
   unfold DV at h k;unfold fM at hu
   obtain⟨a,us,rfl,q,r⟩:=h;cases rv;obtain⟨its0,iv0,pl0,hz0⟩:=I.list q;obtain⟨b,ws,rfl,p,r2⟩:=k;cases ru;obtain⟨its1,iv1,pl1,hz1⟩:=I.list p
   unfold eqD
   exact DX pl0 pl1 r r2 iv0 iv1 (by omega) (mq I xs ys us ws its0 its1 A.in1 r r2 iv0 iv1 (by rw[units_in1];omega))
  |_=>exact mJ (by omega) _ _ (vw I h rv) (vw I k ru) rfl
 | .non,y,v,u,vv,uu,A,h,k,rv,ru,hu=>mJ (by omega) _ _ (vw I h rv) (vw I k ru) (by cases y<;>rfl)
 | .bl _,y,v,u,vv,uu,A,h,k,rv,ru,hu=>mJ (by omega) _ _ (vw I h rv) (vw I k ru) (by cases y<;>rfl)
 | .int _,y,v,u,vv,uu,A,h,k,rv,ru,hu=>mJ (by omega) _ _ (vw I h rv) (vw I k ru) (by cases y<;>rfl)
 | .str _,y,v,u,vv,uu,A,h,k,rv,ru,hu=>mJ (by omega) _ _ (vw I h rv) (vw I k ru) (by cases y<;>rfl)
 | .ro _,y,v,u,vv,uu,A,h,k,rv,ru,hu=>mJ (by omega) _ _ (vw I h rv) (vw I k ru) (by cases y<;>rfl)
 | .dic _,y,v,u,vv,uu,A,h,k,rv,ru,hu=>mJ (by omega) _ _ (vw I h rv) (vw I k ru) (by cases y<;>rfl)
 | .cell _,y,v,u,vv,uu,A,h,k,rv,ru,hu=>mJ (by omega) _ _ (vw I h rv) (vw I k ru) (by cases y<;>rfl)
theorem QF(I:Inv X pins σ H s):∀(x y:D)(v u:V)(vv uu:Value)(A:Around),DV X.K H x v->DV X.K H y u->RelV v vv->RelV u uu->A.units+fM x<cLine->RcNeAt A s vv uu (!eqD x y)
 | .tup xs,y,v,u,vv,uu,A,h,k,rv,ru,hu=>by
  cases y with
  |tup ys=>
   unfold DV at h k;unfold fM at hu
   obtain⟨a,us,rfl,q,r⟩:=h;cases rv;obtain⟨its0,iv0,pl0,hz0⟩:=I.tuple q;obtain⟨b,ws,rfl,p,r2⟩:=k;cases ru;obtain⟨its1,iv1,pl1,hz1⟩:=I.tuple p
   unfold eqD
   exact La pl0 pl1 r r2 iv0 iv1 (by omega) (mq I xs ys us ws its0 its1 A.in1 r r2 iv0 iv1 (by rw[units_in1];omega))
  |_=>exact mF (by omega) _ _ (vw I h rv) (vw I k ru) rfl
 | .lst xs,y,v,u,vv,uu,A,h,k,rv,ru,hu=>by
  cases y with
  |lst ys=>
   unfold DV at h k;unfold fM at hu
   obtain⟨a,us,rfl,q,r⟩:=h;cases rv;obtain⟨its0,iv0,pl0,hz0⟩:=I.list q;obtain⟨b,ws,rfl,p,r2⟩:=k;cases ru;obtain⟨its1,iv1,pl1,hz1⟩:=I.list p
   unfold eqD
   exact Nb pl0 pl1 r r2 iv0 iv1 (by omega) (mq I xs ys us ws its0 its1 A.in1 r r2 iv0 iv1 (by rw[units_in1];omega))
  |_=>exact mF (by omega) _ _ (vw I h rv) (vw I k ru) rfl
 | .non,y,v,u,vv,uu,A,h,k,rv,ru,hu=>mF (by omega) _ _ (vw I h rv) (vw I k ru) (by cases y<;>rfl)
 | .bl _,y,v,u,vv,uu,A,h,k,rv,ru,hu=>mF (by omega) _ _ (vw I h rv) (vw I k ru) (by cases y<;>rfl)
 | .int _,y,v,u,vv,uu,A,h,k,rv,ru,hu=>mF (by omega) _ _ (vw I h rv) (vw I k ru) (by cases y<;>rfl)
 | .str _,y,v,u,vv,uu,A,h,k,rv,ru,hu=>mF (by omega) _ _ (vw I h rv) (vw I k ru) (by cases y<;>rfl)
 | .ro _,y,v,u,vv,uu,A,h,k,rv,ru,hu=>mF (by omega) _ _ (vw I h rv) (vw I k ru) (by cases y<;>rfl)
 | .dic _,y,v,u,vv,uu,A,h,k,rv,ru,hu=>mF (by omega) _ _ (vw I h rv) (vw I k ru) (by cases y<;>rfl)
 | .cell _,y,v,u,vv,uu,A,h,k,rv,ru,hu=>mF (by omega) _ _ (vw I h rv) (vw I k ru) (by cases y<;>rfl)
end
def rsv(d:D)(μ:Mu):D:=match d with
 | .cell n=>match μ[n]? with
  |some (some ds)=>.lst ds
  |_=>d
 | .ro ds=>.lst ds
 |_=>d
theorem rG{K:PySem.W.Frag}{tb:List Addr}{W:Wd}{d:D}{v:V}(ok:WOk K tb W)(h:Den K tb W d v)(p:bV (rsv d W.mu)=true):DV K W.H (rsv d W.mu) v:=by
 cases d with
 |cell n=>
  obtain⟨a,rfl,q⟩:=iV h
  unfold rsv at p ⊢
  dsimp only at p ⊢
  cases e:W.mu[n]? with
  |none=>rw[e]at p;cases p
  |some o=>
   rw[e]at p
   cases o with
   |none=>cases p
   |some ds=>
    dsimp only at p ⊢
    unfold bV at p
    obtain⟨xs,ex,r⟩:=ok.cont n a ds q e
    unfold DV
    exact⟨a,xs,rfl,SqL.of ex,vM ds xs p r⟩
 |ro ds=>
  obtain⟨a,xs,rfl,q,r⟩:=xF h
  have p':bV (.lst ds)=true:=p
  unfold bV at p'
  show DV K W.H (.lst ds) _
  unfold DV
  exact⟨a,xs,rfl,SqL.fz q,vM ds xs p' r⟩
 |_=>exact Ov _ _ p h
def oEq:O2:=λx y μ=>if(bV (rsv x μ)&&bV (rsv y μ))=true/\fM (rsv x μ)<100 then some (.bl (eqD (rsv x μ) (rsv y μ)),μ)else none
def oNe:O2:=λx y μ=>if(bV (rsv x μ)&&bV (rsv y μ))=true/\fM (rsv x μ)<100 then some (.bl (!eqD (rsv x μ) (rsv y μ)),μ)else none
def rEqD(K:PySem.W.Frag):R2:=λv u H Q=>∃x y,DV K H x v/\DV K H y u/\fM x<100/\Q (.bl (eqD x y)) H
def rNeD(K:PySem.W.Frag):R2:=λv u H Q=>∃x y,DV K H x v/\DV K H y u/\fM x<100/\Q (.bl (!eqD x y)) H
section
variable {X:Cx} {tb:List Addr} {k:Nat}
theorem Qp(hr:fu k X.A):OpR X (compareOp .Eq) (rEqD X.K):=by
 intro pins s σ H v u vv uu Q I rv ru h
 obtain⟨x,y,hx,hy,hd,q⟩:=h
 have hun:=hr.un
 exact Qy I x y v u vv uu X.A hx hy rv ru (by omega) X.prog X.w X.xe _ ⟨.bl _,H,I,rfl,q⟩
theorem IK(hr:fu k X.A):OpR X (compareOp .NotEq) (rNeD X.K):=by
 intro pins s σ H v u vv uu Q I rv ru h
 obtain⟨x,y,hx,hy,hd,q⟩:=h
 have hun:=hr.un
 exact QF I x y v u vv uu X.A hx hy rv ru (by omega) X.prog X.w X.xe _ ⟨.bl _,H,I,rfl,q⟩
theorem iK(hr:fu k X.A):OpD X tb (compareOp .Eq) oEq:=⟨_,Qp hr,λW x y v u d μ' Q ok dx dy ho h=>by
 unfold oEq at ho
 split at ho
 .rename_i hc
  cases ho
  rw[Zo]at hc
  exact⟨_,_,rG ok dx hc.1.1,rG ok dy hc.1.2,hc.2,put ok h gn⟩
 .cases ho⟩
theorem zF(hr:fu k X.A):OpD X tb (compareOp .NotEq) oNe:=⟨_,IK hr,λW x y v u d μ' Q ok dx dy ho h=>by
 unfold oNe at ho
 split at ho
 .rename_i hc
  cases ho
  rw[Zo]at hc
  exact⟨_,_,rG ok dx hc.1.1,rG ok dy hc.1.2,hc.2,put ok h gn⟩
 .cases ho⟩
end
end L3
namespace L2
open PySem PySem.Spec PyProof.Rows
section
variable {prog:Program} {w:World} {A:Around} {E:Value->Shared->Prop} {s:Shared}
theorem qD{it l:Addr}{i:Nat}{items}{x:Value}{Q:Value->Shared->Prop}(hit:s.heap.IsTupleIter it l i)(hl:s.heap.IsTuple l items)(hx:items[i]? =some x)
  (hQ:∀h',h'.IsTupleIter it l (i+1)->Heap.SameBut it s.heap h'->Q x { s with heap:=h'}):wpAny (model prog w) A (Builtin.SmallTypes.nextOf (.ref it)) Q E s:=by
 obtain⟨o,ho,hc,hd⟩:=id hit
 obtain⟨ol,hol,_,nl,hdl⟩:=hl
 unfold Builtin.SmallTypes.nextOf
 refine wpAny_bind (wpAny_callSpecial?_slot (name:=Str.ofString "__next__") hit.typeIs F.slot_tuple_iterator_next
  (wpAny_call_entry F.slot_tuple_iterator_next hit.typeIs F.entry_tuple_iterator_next ?_ (F.args_tuple_iterator_next_1 _)))
 show wpAny _ _ (field (.ref it) 0 >>= _) _ _ s
 refine wpAny_bind (wpAny_field ho hd (x:=.ref l) rfl ?_)
 show wpAny _ _ (if(Value.ref l==Value.none)=true then _ else _) _ _ s
 rw[if_neg (show¬((Value.ref l==Value.none)=true)from Zr)]
 show wpAny _ _ (field (.ref it) 1 >>= _) _ _ s
 refine wpAny_bind (wpAny_field ho hd (x:=.int i 0) rfl ?_)
 show wpAny _ _ (seqItems? (.ref l) >>= _) _ _ s
 refine wpAny_bind (wpAny_seqItems hol hdl ?_)
 simp only[Int.toNat_natCast,hx]
 refine wpAny_bind (wpAny_setField ho hd (by simp) (wpAny_pure ⟨x,rfl,wpAny_pure (hQ _ ?_ (Heap.SameBut.update ..))⟩))
 exact⟨_,Heap.get?_update_self _ ho (Obj.isFreed_of_fields (Obj.data_mapFields hd _)),(Obj.cls_mapFields ..).trans hc,by
  rw[Obj.data_mapFields hd];simp[rawInt]⟩
theorem rM{it l:Addr}{i:Nat}{items}{Q:Value->Shared->Prop}(hh:A.handled=none)(hit:s.heap.IsTupleIter it l i)(hl:s.heap.IsTuple l items)(hx:items[i]? =none)
  (hE:∀h' e,Heap.ExtBut it s.heap h'->(∃o,h'.get? e=some o/\o.cls= .type "StopIteration")->E (.ref e) { s with heap:=h'}):wpAny (model prog w) A (Builtin.SmallTypes.nextOf (.ref it)) Q E s:=by
 obtain⟨o,ho,hc,hd⟩:=id hit
 obtain⟨ol,hol,_,nl,hdl⟩:=hl
 unfold Builtin.SmallTypes.nextOf
 refine wpAny_bind (wpAny_callSpecial?_slot (name:=Str.ofString "__next__") hit.typeIs F.slot_tuple_iterator_next
  (wpAny_call_entry F.slot_tuple_iterator_next hit.typeIs F.entry_tuple_iterator_next ?_ (F.args_tuple_iterator_next_1 _)))
 show wpAny _ _ (field (.ref it) 0 >>= _) _ _ s
 refine wpAny_bind (wpAny_field ho hd (x:=.ref l) rfl ?_)
 show wpAny _ _ (if(Value.ref l==Value.none)=true then _ else _) _ _ s
 rw[if_neg (show¬((Value.ref l==Value.none)=true)from Zr)]
 show wpAny _ _ (field (.ref it) 1 >>= _) _ _ s
 refine wpAny_bind (wpAny_field ho hd (x:=.int i 0) rfl ?_)
 show wpAny _ _ (seqItems? (.ref l) >>= _) _ _ s
 refine wpAny_bind (wpAny_seqItems hol hdl ?_)
 simp only[Int.toNat_natCast,hx]
 refine wpAny_bind (wpAny_rule (wpAny_bind (wpAny_setField ho hd (by simp) ?_)))
 show wpAny _ _ (newExc (.type "StopIteration") [] >>= _) _ _ _
 refine wpAny_bind ?_
 simp only[newExc,newTuple]
 refine wpAny_bind (wpAny_newObj_type ?_ (by size_fits))
 refine wpAny_bind (m:=firstArgMember _ _) (wpAny_of_eq (a:=Value.none) (by first|rfl|(simp only[firstArgMember];rfl)) ?_)
 refine wpAny_newObj_type ?_ (by size_fits)
 simp only[raiseNew]
 refine wpAny_bind (wpAny_handled ?_)
 first|rw[show A.in1.handled=none from hh]|rw[hh]
 refine wpAny_bind (wpAny_pure (wpAny_throw ?_))
 exact hE _ _ (((Heap.SameBut.update ..).extBut.push _).push _) ⟨_,Zf _ rfl,rfl⟩
end
def gY(k:Bool)(h:Heap)(it l:Addr)(i:Nat):Prop:=if k=true then h.IsTupleIter it l i else h.IsListIter it l i
def lN(k:Bool)(h:Heap)(l:Addr)(xs:Array Value):Prop:=if k=true then h.IsTuple l xs else h.IsList l xs
section
variable {prog:Program} {w:World} {A:Around} {E:Value->Shared->Prop} {s:Shared} {k:Bool} {it l:Addr} {i:Nat} {xs:Array Value} {h h':Heap}
theorem gY.obj(x:gY k h it l i):∃o,h.get? it=some o/\(∀v,o.data≠ .cell v)/\(o.cls= .type "tuple_iterator"∨o.cls= .type "list_iterator"):=by
 cases k
 .obtain⟨o,e,c,d⟩:h.IsListIter it l i:=x
  exact⟨o,e,(λv z=>by rw[d]at z;cases z),.inr c⟩
 .obtain⟨o,e,c,d⟩:h.IsTupleIter it l i:=x
  exact⟨o,e,(λv z=>by rw[d]at z;cases z),.inl c⟩
theorem gY.at'(x:gY k h it l i)(hk:∀o,h.get? it=some o->h'.get? it=some o):gY k h' it l i:=by
 cases k
 .obtain⟨o,e,c,d⟩:h.IsListIter it l i:=x
  exact(⟨o,hk o e,c,d⟩:h'.IsListIter it l i)
 .obtain⟨o,e,c,d⟩:h.IsTupleIter it l i:=x
  exact(⟨o,hk o e,c,d⟩:h'.IsTupleIter it l i)
theorem lN.at'(x:lN k h l xs)(hk:∀o,h.get? l=some o->h'.get? l=some o):lN k h' l xs:=by
 cases k
 .obtain⟨o,e,c⟩:h.IsList l xs:=x
  exact(⟨o,hk o e,c⟩:h'.IsList l xs)
 .obtain⟨o,e,c⟩:h.IsTuple l xs:=x
  exact(⟨o,hk o e,c⟩:h'.IsTuple l xs)
theorem km{x:Value}{Q:Value->Shared->Prop}(hit:gY k s.heap it l i)(hl:lN k s.heap l xs)(hx:xs[i]? =some x)
  (hQ:∀h',gY k h' it l (i+1)->Heap.SameBut it s.heap h'->Q x { s with heap:=h'}):wpAny (model prog w) A (Builtin.SmallTypes.nextOf (.ref it)) Q E s:=by
 cases k
 .exact wpAny_nextOf_list_item hit hl hx hQ
 .exact qD hit hl hx hQ
theorem pC{Q:Value->Shared->Prop}(hh:A.handled=none)(hit:gY k s.heap it l i)(hl:lN k s.heap l xs)(hx:xs[i]? =none)
  (hE:∀h' e,Heap.ExtBut it s.heap h'->(∃o,h'.get? e=some o/\o.cls= .type "StopIteration")->E (.ref e) { s with heap:=h'}):wpAny (model prog w) A (Builtin.SmallTypes.nextOf (.ref it)) Q E s:=by
 cases k
 .exact wpAny_nextOf_list_end hh hit hl hx hE
 .exact rM hh hit hl hx hE
end
structure ZA(z TI TO i1 i2:Addr):Prop where
 TIz:TI≠z
 TOz:TO≠z
 i1z:i1≠z
 i2z:i2≠z
 TITO:TI≠TO
 TIi1:TI≠i1
 TIi2:TI≠i2
 TOi1:TO≠i1
 TOi2:TO≠i2
 i12:i1≠i2
section
variable {prog:Program} {w:World} {A:Around} {E:Value->Shared->Prop} {s:Shared}
theorem Fi{z TI TO i1 i2 l1 l2:Addr}{c1 c2:Bool}{k1 k2:Nat}{xs ys:Array Value}{x y a b:Value}{Q:Value->Shared->Prop}(D:ZA z TI TO i1 i2)
  (l1z:l1≠z) (l2z:l2≠z) (l2i1:l2≠i1) (l2TO:l2≠TO)
  (hz:IsZip s.heap z TI TO .none) (hTI:IsPair s.heap TI (.ref i1) (.ref i2)) (hTO:IsPair s.heap TO a b)
  (h1:gY c1 s.heap i1 l1 k1) (h2:gY c2 s.heap i2 l2 k2) (hl1:lN c1 s.heap l1 xs) (hl2:lN c2 s.heap l2 ys) (hx:xs[k1]? =some x) (hy:ys[k2]? =some y)
  (hQ:∀h',IsZip h' z TI TO (rawInt s.heap.objs.size)->IsPair h' TO x y->gY c1 h' i1 l1 (k1+1)->gY c2 h' i2 l2 (k2+1)->IsPair h' s.heap.objs.size x y->h'.objs.size=s.heap.objs.size+1->
   (∀c o,c≠z->c≠TO->c≠i1->c≠i2->s.heap.get? c=some o->h'.get? c=some o)->Q (.ref s.heap.objs.size) { s with heap:=h'}):
  wpAny (model prog w) A (Builtin.«zip.__next__» ⟨[.ref z],[]⟩) (λfin s'=>∃v,fin= .done (.ret v)/\Q v s') E s:=by
 show wpAny _ _ (field (.ref z) 2 >>= _) _ _ _
 refine wpAny_bind (wpAny_field hz rfl (x:=.bool false) rfl ?_)
 show wpAny _ _ (field (.ref z) 3 >>= _) _ _ _
 refine wpAny_bind (wpAny_field hz rfl (x:=.ref TI) rfl ?_)
 refine wpAny_bind (wpAny_seqItems hTI rfl ?_)
 show wpAny _ _ (Builtin.SmallTypes.ownedTupleIsFree (.ref z) >>= _) _ _ _
 refine wpAny_bind ?_
 unfold Builtin.SmallTypes.ownedTupleIsFree
 refine wpAny_bind (wpAny_field hz rfl (x:=.none) rfl (wpAny_pure ?_))
 simp only[if_true]
 refine wpAny_bind (wpAny_rule ?_)
 refine wpAny_bind (wpAny_field hz rfl (x:=.ref TO) rfl ?_)
 refine wpAny_bind (wpAny_setField_rec hz (by simp) λh₁ hz₁ hs₁=>?_)
 replace hz₁:IsZip h₁ z TI TO .ellipsis:=hz₁
 refine wpAny_bind ?_
 simp only[List.zipIdx_cons,List.zipIdx_nil,List.forIn_cons,List.forIn_nil]
 refine wpAny_bind (wpAny_bind (wpAny_onRaise ?_))
 show wpAny _ _ (Builtin.SmallTypes.nextOf (.ref i1) >>= _) _ _ _
 refine wpAny_bind (km (h1.at' λo e=>hs₁.extBut _ _ D.i1z e) (hl1.at' λo e=>hs₁.extBut _ _ l1z e) hx λh₂ h1₂ hs₂=>wpAny_pure ?_)
 have hTO₂:IsPair h₂ TO a b:=hs₂.extBut _ _ D.TOi1 (hs₁.extBut _ _ D.TOz hTO)
 refine wpAny_bind (wpAny_seqItems hTO₂ rfl ?_)
 refine wpAny_bind (wpAny_updateSeq_pair hTO₂ λh₃ hTO₃ hs₃=>?_)
 replace hTO₃:IsPair h₃ TO x b:=hTO₃
 refine wpAny_bind (wpAny_letGo (wpAny_pure ?_))
 refine wpAny_bind (wpAny_bind (wpAny_onRaise ?_))
 show wpAny _ _ (Builtin.SmallTypes.nextOf (.ref i2) >>= _) _ _ _
 refine wpAny_bind (km (h2.at' λo e=>hs₃.extBut _ _ D.TOi2.symm (hs₂.extBut _ _ D.i12.symm (hs₁.extBut _ _ D.i2z e))) (hl2.at' λo e=>hs₃.extBut _ _ l2TO (hs₂.extBut _ _ l2i1 (hs₁.extBut _ _ l2z e))) hy λh₄ h2₄ hs₄=>wpAny_pure ?_)
 have hTO₄:IsPair h₄ TO x b:=hs₄.extBut _ _ D.TOi2 hTO₃
 refine wpAny_bind (wpAny_seqItems hTO₄ rfl ?_)
 refine wpAny_bind (wpAny_updateSeq_pair hTO₄ λh₅ hTO₅ hs₅=>?_)
 replace hTO₅:IsPair h₅ TO x y:=hTO₅
 refine wpAny_bind (wpAny_letGo (wpAny_pure (wpAny_pure ?_)))
 refine wpAny_bind (wpAny_seqItems hTO₅ rfl ?_)
 refine wpAny_bind (wpAny_newTuple ?_)
 have hsz:h₅.objs.size=s.heap.objs.size:=by rw[hs₅.1,hs₄.1,hs₃.1,hs₂.1,hs₁.1]
 have hz₅:IsZip h₅ z TI TO .ellipsis:=hs₅.extBut _ _ D.TOz.symm (hs₄.extBut _ _ D.i2z.symm (hs₃.extBut _ _ D.TOz.symm (hs₂.extBut _ _ D.i1z.symm hz₁)))
 have hk₅:∀c o,c≠z->c≠TO->c≠i1->c≠i2->s.heap.get? c=some o->h₅.get? c=some o:=λc o q1 q2 q3 q4 e=>
  hs₅.extBut _ _ q2 (hs₄.extBut _ _ q4 (hs₃.extBut _ _ q2 (hs₂.extBut _ _ q3 (hs₁.extBut _ _ q1 e))))
 have h1₅:gY c1 h₅ i1 l1 (k1+1):=h1₂.at' λo e=>hs₅.extBut _ _ D.TOi1.symm (hs₄.extBut _ _ D.i12 (hs₃.extBut _ _ D.TOi1.symm e))
 have h2₅:gY c2 h₅ i2 l2 (k2+1):=h2₄.at' λo e=>hs₅.extBut _ _ D.TOi2.symm e
 have hzlt:z<h₅.objs.size:=Ze hz₅
 show wpAny _ _ (Builtin.SmallTypes.ownedTupleHandOut (.ref z) (.ref h₅.objs.size) >>= _) _ _ _
 refine wpAny_bind ?_
 unfold Builtin.SmallTypes.ownedTupleHandOut
 have hz₆:IsZip (h₅.push { cls:=.type "tuple",data:=.seq #[x,y] }) z TI TO .ellipsis:=Zb _ hz₅
 refine wpAny_bind (wpAny_setField_rec hz₆ (by simp) λh₇ hz₇ hs₇=>?_)
 replace hz₇:IsZip h₇ z TI TO (rawInt h₅.objs.size):=hz₇
 refine wpAny_setField_rec hz₇ (by simp) λh₈ hz₈ hs₈=>?_
 replace hz₈:IsZip h₈ z TI TO (rawInt h₅.objs.size):=hz₈
 have up:∀c o,c≠z->h₅.get? c=some o->h₈.get? c=some o:=λc o q1 e=>hs₈.extBut _ _ q1 (hs₇.extBut _ _ q1 (Zb _ e))
 have hT₈:IsPair h₈ h₅.objs.size x y:=hs₈.extBut _ _ (Nat.ne_of_gt hzlt) (hs₇.extBut _ _ (Nat.ne_of_gt hzlt) (Zf _ rfl))
 have hz8:h₈.objs.size=h₅.objs.size+1:=by rw[hs₈.1,hs₇.1,Heap.size_push]
 rw[hsz]at hz₈ hT₈ hz8
 refine wpAny_pure ⟨_,rfl,?_⟩
 show Q (.ref h₅.objs.size) _
 rw[hsz]
 exact hQ h₈ hz₈ (up _ _ D.TOz hTO₅) (h1₅.at' λo e=>up _ o D.i1z e) (h2₅.at' λo e=>up _ o D.i2z e) hT₈ hz8 λc o q1 q2 q3 q4 e=>up c o q1 (hk₅ c o q1 q2 q3 q4 e)
theorem HB{z TI TO i1 i2 l1 l2:Addr}{c1 c2:Bool}{k1 k2:Nat}{xs ys:Array Value}{a b:Value}{Q:PySem.Fin->Shared->Prop}(hh:A.handled=none)(D:ZA z TI TO i1 i2)
  (l1z:l1≠z) (l2z:l2≠z) (l2i1:l2≠i1) (l2TO:l2≠TO)
  (hz:IsZip s.heap z TI TO .none) (hTI:IsPair s.heap TI (.ref i1) (.ref i2)) (hTO:IsPair s.heap TO a b)
  (h1:gY c1 s.heap i1 l1 k1) (h2:gY c2 s.heap i2 l2 k2) (hl1:lN c1 s.heap l1 xs) (hl2:lN c2 s.heap l2 ys) (hend:xs[k1]? =none∨ys[k2]? =none)
  (hE:∀h' e,(∀c o,c≠z->c≠TO->c≠i1->c≠i2->s.heap.get? c=some o->h'.get? c=some o)->(∃o,h'.get? e=some o/\o.cls= .type "StopIteration")->E (.ref e) { s with heap:=h'}):
  wpAny (model prog w) A (Builtin.«zip.__next__» ⟨[.ref z],[]⟩) Q E s:=by
 show wpAny _ _ (field (.ref z) 2 >>= _) _ _ _
 refine wpAny_bind (wpAny_field hz rfl (x:=.bool false) rfl ?_)
 show wpAny _ _ (field (.ref z) 3 >>= _) _ _ _
 refine wpAny_bind (wpAny_field hz rfl (x:=.ref TI) rfl ?_)
 refine wpAny_bind (wpAny_seqItems hTI rfl ?_)
 show wpAny _ _ (Builtin.SmallTypes.ownedTupleIsFree (.ref z) >>= _) _ _ _
 refine wpAny_bind ?_
 unfold Builtin.SmallTypes.ownedTupleIsFree
 refine wpAny_bind (wpAny_field hz rfl (x:=.none) rfl (wpAny_pure ?_))
 simp only[if_true]
 refine wpAny_bind (wpAny_rule ?_)
 refine wpAny_bind (wpAny_field hz rfl (x:=.ref TO) rfl ?_)
 refine wpAny_bind (wpAny_setField_rec hz (by simp) λh₁ hz₁ hs₁=>?_)
 replace hz₁:IsZip h₁ z TI TO .ellipsis:=hz₁
 refine wpAny_bind ?_
 simp only[List.zipIdx_cons,List.zipIdx_nil,List.forIn_cons,List.forIn_nil]
 refine wpAny_bind (wpAny_bind (wpAny_onRaise ?_))
 show wpAny _ _ (Builtin.SmallTypes.nextOf (.ref i1) >>= _) _ _ _
 cases hx:xs[k1]? with
 |none=>
  refine wpAny_bind (pC hh (h1.at' λo e=>hs₁.extBut _ _ D.i1z e) (hl1.at' λo e=>hs₁.extBut _ _ l1z e) hx λh₂ e hs₂ he=>?_)
  obtain⟨oe,hoe,hce⟩:=he
  have hz₂:IsZip h₂ z TI TO .ellipsis:=hs₂ _ _ D.i1z.symm hz₁
  have hez:e≠z:=λx=>by subst x;rw[hz₂]at hoe;cases hoe;simp at hce
  exact wpAny_setField_rec hz₂ (by simp) λh₃ _ hs₃=>hE h₃ e (λc o q1 _ q3 _ x=>hs₃.extBut _ _ q1 (hs₂ _ _ q3 (hs₁.extBut _ _ q1 x))) ⟨oe,hs₃.extBut _ _ hez hoe,hce⟩
 |some x=>
  have hy:ys[k2]? =none:=by rcases hend with h|h;rw[hx]at h;cases h;exact h
  refine wpAny_bind (km (h1.at' λo e=>hs₁.extBut _ _ D.i1z e) (hl1.at' λo e=>hs₁.extBut _ _ l1z e) hx λh₂ h1₂ hs₂=>wpAny_pure ?_)
  have hTO₂:IsPair h₂ TO a b:=hs₂.extBut _ _ D.TOi1 (hs₁.extBut _ _ D.TOz hTO)
  refine wpAny_bind (wpAny_seqItems hTO₂ rfl ?_)
  refine wpAny_bind (wpAny_updateSeq_pair hTO₂ λh₃ hTO₃ hs₃=>?_)
  refine wpAny_bind (wpAny_letGo (wpAny_pure ?_))
  refine wpAny_bind (wpAny_bind (wpAny_onRaise ?_))
  show wpAny _ _ (Builtin.SmallTypes.nextOf (.ref i2) >>= _) _ _ _
  refine wpAny_bind (pC hh (h2.at' λo e=>hs₃.extBut _ _ D.TOi2.symm (hs₂.extBut _ _ D.i12.symm (hs₁.extBut _ _ D.i2z e))) (hl2.at' λo e=>hs₃.extBut _ _ l2TO (hs₂.extBut _ _ l2i1 (hs₁.extBut _ _ l2z e))) hy λh₄ e hs₄ he=>?_)
  obtain⟨oe,hoe,hce⟩:=he
  have hz₄:IsZip h₄ z TI TO .ellipsis:=hs₄ _ _ D.i2z.symm (hs₃.extBut _ _ D.TOz.symm (hs₂.extBut _ _ D.i1z.symm hz₁))
  have hez:e≠z:=λx=>by subst x;rw[hz₄]at hoe;cases hoe;simp at hce
  exact wpAny_setField_rec hz₄ (by simp) λh₅ _ hs₅=>hE h₅ e (λc o q1 q2 q3 q4 x=>hs₅.extBut _ _ q1 (hs₄ _ _ q4 (hs₃.extBut _ _ q2 (hs₂.extBut _ _ q3 (hs₁.extBut _ _ q1 x))))) ⟨oe,hs₅.extBut _ _ hez hoe,hce⟩
end
section
variable {prog:Program} {w:World} {A:Around} {E:Value->Shared->Prop} {s:Shared}
theorem sy{z TI TO i1 i2 l1 l2:Addr}{c1 c2:Bool}{k1 k2:Nat}{xs ys:Array Value}{x y a b:Value}{Q:Option Value->Shared->Prop}(D:ZA z TI TO i1 i2)
  (l1z:l1≠z) (l2z:l2≠z) (l2i1:l2≠i1) (l2TO:l2≠TO)
  (hz:IsZip s.heap z TI TO .none) (hTI:IsPair s.heap TI (.ref i1) (.ref i2)) (hTO:IsPair s.heap TO a b)
  (h1:gY c1 s.heap i1 l1 k1) (h2:gY c2 s.heap i2 l2 k2) (hl1:lN c1 s.heap l1 xs) (hl2:lN c2 s.heap l2 ys) (hx:xs[k1]? =some x) (hy:ys[k2]? =some y)
  (hQ:∀h',IsZip h' z TI TO (rawInt s.heap.objs.size)->IsPair h' TO x y->gY c1 h' i1 l1 (k1+1)->gY c2 h' i2 l2 (k2+1)->IsPair h' s.heap.objs.size x y->h'.objs.size=s.heap.objs.size+1->
   (∀c o,c≠z->c≠TO->c≠i1->c≠i2->s.heap.get? c=some o->h'.get? c=some o)->Q (some (.ref s.heap.objs.size)) { s with heap:=h'}):
  wpAny (model prog w) A (pyNext (.ref z)) Q E s:=by
 have hT:s.TypeIs (.ref z) "zip":=⟨_,hz,rfl⟩
 unfold pyNext
 exact wpAny_bind (wpAny_attempt (wpAny_callSpecial?_slot (name:=Str.ofString "__next__") hT F.slot_zip_next
  (wpAny_call_entry F.slot_zip_next hT F.entry_zip_next
   (Fi D l1z l2z l2i1 l2TO hz hTI hTO h1 h2 hl1 hl2 hx hy λh' a1 a2 a3 a4 a5 a6 a7=>wpAny_pure (hQ h' a1 a2 a3 a4 a5 a6 a7)) (F.args_zip_next_1 _))))
theorem tU{z TI TO i1 i2 l1 l2:Addr}{c1 c2:Bool}{k1 k2:Nat}{xs ys:Array Value}{a b:Value}{Q:Option Value->Shared->Prop}(hh:A.handled=none)(D:ZA z TI TO i1 i2)
  (l1z:l1≠z) (l2z:l2≠z) (l2i1:l2≠i1) (l2TO:l2≠TO)
  (hz:IsZip s.heap z TI TO .none) (hTI:IsPair s.heap TI (.ref i1) (.ref i2)) (hTO:IsPair s.heap TO a b)
  (h1:gY c1 s.heap i1 l1 k1) (h2:gY c2 s.heap i2 l2 k2) (hl1:lN c1 s.heap l1 xs) (hl2:lN c2 s.heap l2 ys) (hend:xs[k1]? =none∨ys[k2]? =none)
  (hQ:∀h',(∀c o,c≠z->c≠TO->c≠i1->c≠i2->s.heap.get? c=some o->h'.get? c=some o)->Q none { s with heap:=h'}):wpAny (model prog w) A (pyNext (.ref z)) Q E s:=by
 have hT:s.TypeIs (.ref z) "zip":=⟨_,hz,rfl⟩
 unfold pyNext
 refine wpAny_bind (wpAny_attempt (wpAny_callSpecial?_slot (name:=Str.ofString "__next__") hT F.slot_zip_next
  (wpAny_call_entry F.slot_zip_next hT F.entry_zip_next (HB hh D l1z l2z l2i1 l2TO hz hTI hTO h1 h2 hl1 hl2 hend λh' e hk he=>?_) (F.args_zip_next_1 _))))
 obtain⟨o,ho,hc⟩:=he
 refine wpAny_bind (wpAny_isInstance (T:="StopIteration") (b:=true) ⟨o,ho,hc⟩ isSubtype_stop ?_)
 exact wpAny_pure (hQ _ hk)
def itTy(k:Bool):String:=if k=true then "tuple_iterator" else "list_iterator"
abbrev pK(k:Bool)(l:Addr):Obj:={ cls:=.type (itTy k),data:=.fields #[.ref l,.int 0 0] }
theorem xg{k:Bool}{l:Addr}{xs:Array Value}{Q:Value->Shared->Prop}(hl:lN k s.heap l xs)(hQ:Q (.ref s.heap.objs.size) { s with heap:=s.heap.push (pK k l) }):wpAny (model prog w) A (pyIter (.ref l)) Q E s:=by
 cases k
 .exact wpAny_pyIter_list hl hQ
 .exact wpAny_pyIter_tuple hl hQ
end
abbrev zH2(h:Heap)(c1 c2:Bool)(l1 l2:Addr):Heap:=(h.push (pK c1 l1)).push (pK c2 l2)
abbrev zH3(h:Heap)(c1 c2:Bool)(l1 l2:Addr):Heap:=(zH2 h c1 c2 l1 l2).push { cls:=.type "tuple",data:=.seq #[.ref h.objs.size,.ref (h.push (pK c1 l1)).objs.size] }
abbrev zH4(h:Heap)(c1 c2:Bool)(l1 l2:Addr):Heap:=(zH3 h c1 c2 l1 l2).push { cls:=.type "tuple",data:=.seq #[.none,.none] }
abbrev zH5(h:Heap)(c1 c2:Bool)(l1 l2:Addr):Heap:=(zH4 h c1 c2 l1 l2).push { cls:=.type "zip",data:=.fields #[.none,.bool false,.bool false,.ref (zH2 h c1 c2 l1 l2).objs.size,.ref (zH3 h c1 c2 l1 l2).objs.size] }
theorem Ha(c1 c2:Bool)(l1 l2:Addr)(xs ys:Array Value):
  Meets (Builtin.«zip.__new__» ⟨[.type "zip",.ref l1,.ref l2],[]⟩) (λ_ R s=>lN c1 s.heap l1 xs/\lN c2 s.heap l2 ys/\
   R (.ok (.ret (.ref (zH4 s.heap c1 c2 l1 l2).objs.size))) { s with heap:=zH5 s.heap c1 c2 l1 l2}):=
 .of_wp λprog w A R s h=>by
  obtain⟨hp,g,d,tk,os⟩:=s;obtain⟨hl1,hl2,h⟩:=h
  have hsub:=sub_zip
  have hL1:lN c1 (Shared.heap ⟨hp,g,d,tk,os⟩) l1 xs:=hl1
  have hL2:lN c2 (Shared.heap ⟨hp.push (pK c1 l1),g,d,tk,os⟩) l2 ys:=hl2.at' λo e=>Zb _ e
  wp_walk using xg hL1,xg hL2
  exact⟨_,rfl,h⟩
section
variable {prog:Program} {w:World} {A:Around} {E:Value->Shared->Prop} {s:Shared}
theorem gY.new(k:Bool)(h:Heap)(l:Addr):gY k (h.push (pK k l)) h.objs.size l 0:=by
 cases k
 .exact(⟨pK false l,Zf _ rfl,rfl,rfl⟩:Heap.IsListIter _ _ _ 0)
 .exact(⟨pK true l,Zf _ rfl,rfl,rfl⟩:Heap.IsTupleIter _ _ _ 0)
theorem Fy{c1 c2:Bool}{l1 l2:Addr}{xs ys:Array Value}{Q:Value->Shared->Prop}(hl1:lN c1 s.heap l1 xs)(hl2:lN c2 s.heap l2 ys)
  (h:∀h',IsZip h' (s.heap.objs.size+4) (s.heap.objs.size+2) (s.heap.objs.size+3) .none->IsPair h' (s.heap.objs.size+2) (.ref s.heap.objs.size) (.ref (s.heap.objs.size+1))->
   IsPair h' (s.heap.objs.size+3) .none .none->gY c1 h' s.heap.objs.size l1 0->gY c2 h' (s.heap.objs.size+1) l2 0->h'.objs.size=s.heap.objs.size+5->
   (∀c o,s.heap.get? c=some o->h'.get? c=some o)->Q (.ref (s.heap.objs.size+4)) { s with heap:=h'}):
  wpAny (model prog w) A (call (.type "zip") [.ref l1,.ref l2]) Q E s:=by
 refine callType_new F.called_zip (by decide) (F.typeCall_zip_2 _ _) (F.newCall_zip_2 _ _) (λobj=>F.args_object_init_3 obj _ _) F.entry_zip_new
  (Ha c1 c2 l1 l2 xs ys) ⟨hl1,hl2,?_⟩
 have z1:(s.heap.push (pK c1 l1)).objs.size=s.heap.objs.size+1:=Heap.size_push ..
 have z2:(zH2 s.heap c1 c2 l1 l2).objs.size=s.heap.objs.size+2:=by rw[Heap.size_push,z1]
 have z3:(zH3 s.heap c1 c2 l1 l2).objs.size=s.heap.objs.size+3:=by rw[Heap.size_push,z2]
 have z4:(zH4 s.heap c1 c2 l1 l2).objs.size=s.heap.objs.size+4:=by rw[Heap.size_push,z3]
 have z5:(zH5 s.heap c1 c2 l1 l2).objs.size=s.heap.objs.size+5:=by rw[Heap.size_push,z4]
 have g5:(zH5 s.heap c1 c2 l1 l2).get? (zH4 s.heap c1 c2 l1 l2).objs.size=some _:=Zf _ rfl
 have g4:(zH5 s.heap c1 c2 l1 l2).get? (zH3 s.heap c1 c2 l1 l2).objs.size=some _:=Zb _ (Zf _ rfl)
 have g3:(zH5 s.heap c1 c2 l1 l2).get? (zH2 s.heap c1 c2 l1 l2).objs.size=some _:=Zb _ (Zb _ (Zf _ rfl))
 have g2:gY c2 (zH5 s.heap c1 c2 l1 l2) (s.heap.push (pK c1 l1)).objs.size l2 0:=(gY.new c2 _ l2).at' λo e=>Zb _ (Zb _ (Zb _ e))
 have g1:gY c1 (zH5 s.heap c1 c2 l1 l2) s.heap.objs.size l1 0:=(gY.new c1 _ l1).at' λo e=>Zb _ (Zb _ (Zb _ (Zb _ e)))
 show _/\_
 rw[z2,z3,z4]at g5
 rw[z1,z2]at g3
 rw[z3]at g4
 rw[z1]at g2
 rw[z4]
 exact⟨⟨_,g5,rfl⟩,h _ g5 g3 g4 g1 g2 z5 λc o x=>
  Zb _ (Zb _ (Zb _ (Zb _ (Zb _ x))))⟩
end
def SqB(c:Bool)(K:PySem.W.Frag)(H:Hp)(a:Addr)(xs:List V):Prop:=if c=true then SqT K H a xs else SqL K H a xs
section
variable {X:Cx} {pins:List (Addr×Obj)} {σ:L2.St} {H H':Hp} {s:Shared} {h':Heap}
theorem Inv.sqB{c:Bool}{a:Addr}{xs:List V}(I:Inv X pins σ H s)(h:SqB c X.K H a xs):∃its:List Value,Vals xs its/\lN c s.heap a its.toArray/\xs.length<=sizeLine:=by
 cases c
 .obtain⟨its,r,p,hz⟩:=I.list (show SqL X.K H a xs from h)
  exact⟨its,r,p.isList,hz⟩
 .obtain⟨its,r,p,hz⟩:=I.tuple (show SqT X.K H a xs from h)
  exact⟨its,r,p,hz⟩
theorem Inv.sqB_inj{c:Bool}{a:Addr}{xs ys:List V}(I:Inv X pins σ H s)(h:SqB c X.K H a xs)(h':SqB c X.K H a ys):xs=ys:=by
 cases c
 .exact I.list_inj (show SqL X.K H a xs from h) h'
 .exact I.tuple_inj (show SqT X.K H a xs from h) h'
theorem Inv.sqB_ne{c:Bool}{a b:Addr}{xs:List V}(I:Inv X pins σ H s)(h:SqB c X.K H a xs)(f:nY X pins H b):a≠b:=by
 have key:(∃o,H a=some o)∨∃o,X.K.lookup a=some o:=by
  cases c
  .rcases(show SqL X.K H a xs from h)with(h|⟨o,h⟩)|⟨o,_,_,h,_⟩
   .exact .inl ⟨_,h⟩
   .exact .inl ⟨_,h⟩
   .exact .inr ⟨_,h⟩
  .rcases(show SqT X.K H a xs from h)with(h|⟨o,h⟩)|⟨o,_,_,h,_⟩
   .exact .inl ⟨_,h⟩
   .exact .inl ⟨_,h⟩
   .exact .inr ⟨_,h⟩
 intro z
 subst z
 rcases key with⟨o,e⟩|⟨o,e⟩
 .rw[f.1]at e;cases e
 .have e':=I.ok.mod.kin a o e
  rcases f.2.2.2.1 with q|q
  .exact I.ok.noex a o e' q
  .exact absurd (Zc (Ze (I.ok.bs a o e').1) q) (Nat.lt_irrefl _)
theorem Inv.turnedL{t':Nat}{fp:List Addr}(I:Inv X pins σ H s)(k:∀b o,b∉fp->s.heap.get? b=some o->h'.get? b=some o)(hf:∀b∈fp,nY X pins H b):Inv X pins σ H { s with heap:=h',toks:=t'}:=by
 have nit:∀b u,H b=some u->b∉fp:=λb u e z=>by rw[(hf b z).1]at e;cases e
 refine I.step (g':=s.gens) (d':=s.drawn) (ch:=fp) (λb hb=>?_) (λb o _ _ hc e _=>k b o hc e) (λb o _ _ hc e _=>⟨o.slots,k b o hc e⟩) (λ_ _ _ _ n=>n)
  (λb o hc e=>⟨o,k b o hc e⟩) (λ_ _ e=>e) (λ_ _ _ e=>e) (λb ps e=>⟨#[],by rw[e];simp⟩) (λm hm=>?_) (λb u e=>?_) I.bare.again
 .obtain⟨f0,f1,f2,f3,f4,f5⟩:=hf b hb
  exact⟨f3,f1,f4,f5⟩
 .obtain⟨o,es,ep,ho,r⟩:=hm
  exact⟨o,es,ep,k _ o (λz=>(hf _ z).2.1 rfl) ho,r⟩
 .refine(I.hok b u e).stay (λc v hc q=>k c v ?_ q) (λ_ q=>q) λ_ _ q=>q
  rcases hc with z|z
  .rw[z];exact nit b u e
  .exact nit c _ z
end
def Itz(K:PySem.W.Frag)(c1 c2:Bool)(a1 a2:Addr):It:=
 ⟨λi H=>(∃xs x,SqB c1 K H a1 xs/\xs[i]? =some x)/\∃ys y,SqB c2 K H a2 ys/\ys[i]? =some y,
  λi H v H'=>∃p x y,v= .ref p/\H p=none/\H'=upd H p (.tup [x,y])/\(∀xs,SqB c1 K H a1 xs->xs[i]? =some x)/\∀ys,SqB c2 K H a2 ys->ys[i]? =some y,
  λi H=>∃xs ys,SqB c1 K H a1 xs/\SqB c2 K H a2 ys/\(xs.length<=i∨ys.length<=i)⟩
def ZSt(c1 c2:Bool)(z TI TO i1 i2 a1 a2:Addr)(i:Nat)(h:Heap):Prop:=
 IsZip h z TI TO .none/\IsPair h TI (.ref i1) (.ref i2)/\(∃a b,IsPair h TO a b)/\gY c1 h i1 a1 i/\gY c2 h i2 a2 i
theorem Hk{h:Heap}{o u:Obj}{b:Addr}(e:(h.push o).get? b=some u)(hb:b≠h.objs.size):h.get? b=some u:=by
 unfold Heap.get? at e ⊢
 have hp:(h.push o).objs[b]? =h.objs[b]? :=by
  show(h.objs.push o)[b]? =h.objs[b]?
  rw[Array.getElem?_push,if_neg hb]
 rw[hp]at e
 exact e
theorem Jd{P:Program}{w:World}{K:PySem.W.Frag}{elts:List Expr}{kk:Nat}{pos:Pos}(c1 c2:Bool)(z TI TO i1 i2 a1 a2:Addr)(D:ZA z TI TO i1 i2):
  Turn P w K (.Tuple elts kk pos) (Itz K c1 c2 a1 a2) [z,TI,TO,i1,i2] z (ZSt c1 c2 z TI TO i1 i2 a1 a2) where
 mem:=by simp
 obj:=λi h st b hb=>by
  obtain⟨hz,hTI,⟨a,b',hTO⟩,h1,h2⟩:=st
  simp only[Zi,List.not_mem_nil,or_false]at hb
  rcases hb with rfl|rfl|rfl|rfl|rfl
  .exact⟨_,hz,λv q=>by cases q⟩
  .exact⟨_,hTI,λv q=>by cases q⟩
  .exact⟨_,hTO,λv q=>by cases q⟩
  .obtain⟨o,e,d,_⟩:=h1.obj;exact⟨o,e,d⟩
  .obtain⟨o,e,d,_⟩:=h2.obj;exact⟨o,e,d⟩
 keep:=λi h h' st k=>by
  obtain⟨hz,hTI,⟨a,b',hTO⟩,h1,h2⟩:=st
  exact⟨k z (by simp) _ hz,k TI (by simp) _ hTI,⟨a,b',k TO (by simp) _ hTO⟩,h1.at' λo e=>k i1 (by simp) o e,h2.at' λo e=>k i2 (by simp) o e⟩
 item:=by
  intro X hP hw hK hc i pins s σ H E I hf st hg
  subst hP hw hK
  obtain⟨hz,hTI,⟨a,b',hTO⟩,h1,h2⟩:=st
  obtain⟨⟨xs,x,hx,ex⟩,ys,y,hy,ey⟩:=hg
  obtain⟨its1,r1,p1,z1⟩:=I.sqB hx
  obtain⟨its2,r2,p2,z2⟩:=I.sqB hy
  obtain⟨u1,eu1,ru1⟩:=r1.get ex
  obtain⟨u2,eu2,ru2⟩:=r2.get ey
  have fz:=hf z (by simp)
  have fTO:=hf TO (by simp)
  have fi1:=hf i1 (by simp)
  have ltz:z<s.heap.objs.size:=Ze hz
  have ltTI:TI<s.heap.objs.size:=Ze hTI
  have ltTO:TO<s.heap.objs.size:=Ze hTO
  have lti1:i1<s.heap.objs.size:=let⟨_,e,_⟩:=h1.obj;Ze e
  have lti2:i2<s.heap.objs.size:=let⟨_,e,_⟩:=h2.obj;Ze e
  refine sy D (I.sqB_ne hx fz) (I.sqB_ne hy fz) (I.sqB_ne hy fi1) (I.sqB_ne hy fTO) hz hTI hTO h1 h2 p1 p2 (x:=u1) (y:=u2) (by simpa using eu1) (by simpa using eu2) λh' q1 q2 q3 q4 q5 q6 q7=>⟨_,rfl,?_⟩
  refine wpAny_letOwnedTupleGo_zip q1 λh2' y1 y2=>?_
  have hpn:H s.heap.objs.size=none:=I.hok.fresh (Zg _)
  have IA:Inv X pins σ (upd H s.heap.objs.size (.tup [x,y])) { s with heap:=s.heap.push { cls:=.type "tuple",data:=.seq #[u1,u2] } }:=
   I.laid (t':=s.toks) (o:=.tup [x,y]) (λb ob q=>Zb _ q) (Zg _) ⟨by show 2<=sizeLine;decide,[u1,u2],.cons ru1 (.cons ru2 .nil),IsTup.new _ _⟩
  have hne:∀b∈[z,TI,TO,i1,i2],b≠s.heap.objs.size:=λb hb=>by
   simp only[Zi,List.not_mem_nil,or_false]at hb
   rcases hb with rfl|rfl|rfl|rfl|rfl
   .exact Zk ltz
   .exact Zk ltTI
   .exact Zk ltTO
   .exact Zk lti1
   .exact Zk lti2
  have hf':∀b∈[z,TI,TO,i1,i2],nY X pins (upd H s.heap.objs.size (.tup [x,y])) b:=λb hb=>by
   obtain⟨f0,f1⟩:=hf b hb
   exact⟨by rw[aU (hne b hb)];exact f0,f1⟩
  have IB:Inv X pins σ (upd H s.heap.objs.size (.tup [x,y])) { s with heap:=h2'}:=by
   refine Inv.turnedL (s:={ s with heap:=s.heap.push { cls:=.type "tuple",data:=.seq #[u1,u2] } }) (t':=s.toks) (fp:=[z,TI,TO,i1,i2]) IA (λb o hb e=>?_) hf'
   simp only[Zi,List.not_mem_nil,or_false,not_or]at hb
   obtain⟨b1,b2,b3,b4,b5⟩:=hb
   by_cases hs:b=s.heap.objs.size
   .subst hs
    have e':some ({ cls:=.type "tuple",data:=.seq #[u1,u2] }:Obj)=some o:=(Zf s.heap rfl).symm.trans e
    cases e'
    exact y2.extBut _ _ b1 q5
   .exact y2.extBut _ _ b1 (q7 b o b1 b3 b4 b5 (Hk e hs))
  refine⟨.ref s.heap.objs.size,_,IB,rfl,⟨_,x,y,rfl,hpn,rfl,λzs hzs=>by rw[I.sqB_inj hzs hx];exact ex,λzs hzs=>by rw[I.sqB_inj hzs hy];exact ey⟩,?_,λb hb=>(hf' b hb).1⟩
  exact⟨y1,y2.extBut _ _ D.TIz (q7 _ _ D.TIz D.TITO D.TIi1 D.TIi2 hTI),⟨_,_,y2.extBut _ _ D.TOz q2⟩,q3.at' λo e=>y2.extBut _ _ D.i1z e,q4.at' λo e=>y2.extBut _ _ D.i2z e⟩
 done:=by
  intro X hP hw hK hc i pins s σ H E I hf st hg
  subst hP hw hK
  obtain⟨hz,hTI,⟨a,b',hTO⟩,h1,h2⟩:=st
  obtain⟨xs,ys,hx,hy,hend⟩:=hg
  obtain⟨its1,r1,p1,z1⟩:=I.sqB hx
  obtain⟨its2,r2,p2,z2⟩:=I.sqB hy
  have fz:=hf z (by simp)
  have fTO:=hf TO (by simp)
  have fi1:=hf i1 (by simp)
  have l1:=r1.length
  have l2:=r2.length
  refine tU (I.ok.hd hc) D (I.sqB_ne hx fz) (I.sqB_ne hy fz) (I.sqB_ne hy fi1) (I.sqB_ne hy fTO) hz hTI hTO h1 h2 p1 p2 ?_ λh' q=>⟨rfl,I.turnedL (t':=s.toks) (fp:=[z,TI,TO,i1,i2]) (λb o hb e=>?_) hf⟩
  .rcases hend with h|h
   .exact .inl (by simp;omega)
   .exact .inr (by simp;omega)
  .simp only[Zi,List.not_mem_nil,or_false,not_or]at hb
   exact q b o hb.1 hb.2.2.1 hb.2.2.2.1 hb.2.2.2.2 e
 self:=λ_ _ _ _ _ st h=>wpAny_pyIter_zip st.1 h
def iZip(K:PySem.W.Frag)(ta:TA):TI:=λσ H R=>ta σ H λvs H1=>∃a1 a2 c1 c2,vs=[.ref a1,.ref a2]/\(∃xs,SqB c1 K H1 a1 xs)/\(∃ys,SqB c2 K H1 a2 ys)/\R (Itz K c1 c2 a1 a2) H1
section
variable {X:Cx}
theorem Rw{a b:Expr}{ta:TA}{p pos p':Pos}{elts:List Expr}{kk:Nat}(hg:Gl X "zip")(hm:X.mg "zip"=none)(ha:PA X [a,b] ta)(hs:starEach [a,b] X.env=[(false,eval a X.env),(false,eval b X.env)]:=by rfl)(hs2:starEach [b] X.env=[(false,eval b X.env)]:=by rfl):
  PI X (.Tuple elts kk p') (.Call (.Name "zip" p) [a,b] [] pos) (iZip X.K ta):=by
 intro pins s σ H R I h
 refine Call_ (mK I hg hm boot_zip (PyProof.Rows.callWith_type1 (thn (ha pos pins s σ H _ I h) λus s1 ⟨vs,H1,I1,r1,q1⟩=>?_) (by rw[hs,hs2]) (by rw[hs2];rfl)))
 obtain⟨a1,a2,c1,c2,rfl,⟨xs,hx⟩,⟨ys,hy⟩,q⟩:=q1
 obtain⟨u,v,rfl,ru,rv⟩:=vals2 r1
 cases ru
 cases rv
 obtain⟨its1,_,p1,_⟩:=I1.sqB hx
 obtain⟨its2,_,p2,_⟩:=I1.sqB hy
 refine Fy p1 p2 λh' g1 g2 g3 g4 g5 g6 g7=>?_
 refine wpAny_pyIter_zip g1 ?_
 refine⟨_,[s1.heap.objs.size+4,s1.heap.objs.size+2,s1.heap.objs.size+3,s1.heap.objs.size,s1.heap.objs.size+1],_,_,H1,rfl,I1.kept (t':=s1.toks) g7,Jd c1 c2 _ _ _ _ _ a1 a2 ?_,⟨g1,g2,⟨_,_,g3⟩,g4,g5⟩,λb hb=>?_,q⟩
 .constructor<;>first|exact Zk (by omega)|exact Nat.ne_of_gt (by omega)
 .have hb':s1.heap.objs.size<=b:=by
   simp only[Zi,List.not_mem_nil,or_false]at hb
   rcases hb with q|q|q|q|q<;>rw[q]<;>first|exact Nat.le_add_right _ _|exact Zg _
  exact I1.fpOk hb' (I1.hok.fresh hb')
end
end L2
namespace L3
open PySem PySem.Spec PyProof.Rows L2
def bI:D->Mu->Option (List D)
 | .tup ds,_=>some ds
 | .lst ds,_=>some ds
 | .ro ds,_=>some ds
 | .cell n,μ=>match μ[n]? with
  |some (some ds)=>some ds
  |_=>none
 |_,_=>none
def Dn:D->Bool
 | .tup _=>true
 |_=>false
section
variable {K:PySem.W.Frag} {tb:List Addr}
theorem jV{W:Wd}{x:D}{v:V}{ds:List D}(ok:WOk K tb W)(h:Den K tb W x v)(e:bI x W.mu=some ds):∃a xs,v= .ref a/\SqB (Dn x) K W.H a xs/\cJ K tb W ds xs:=by
 cases x with
 |tup es=>cases e;obtain⟨a,xs,rfl,q,r⟩:=jK h;exact⟨a,xs,rfl,SqT.fz q,r⟩
 |lst es=>cases e;obtain⟨a,xs,rfl,q,r⟩:=mL h;exact⟨a,xs,rfl,SqL.fz q,r⟩
 |ro es=>cases e;obtain⟨a,xs,rfl,q,r⟩:=xF h;exact⟨a,xs,rfl,SqL.fz q,r⟩
 |cell n=>
  obtain⟨a,rfl,q⟩:=iV h
  have e':(match W.mu[n]? with|some (some ds)=>some ds|_=>none)=some ds:=e
  cases e2:W.mu[n]? with
  |none=>rw[e2]at e';cases e'
  |some o=>
   cases o with
   |none=>rw[e2]at e';cases e'
   |some es=>
    rw[e2]at e'
    cases e'
    obtain⟨xs,e3,r⟩:=ok.cont n a ds q e2
    exact⟨a,xs,rfl,SqL.of e3,r⟩
 |_=>cases e
theorem SqB.or{c:Bool}{H:Hp}{a:Addr}{xs:List V}(h:SqB c K H a xs):SqL K H a xs∨SqT K H a xs:=by
 cases c
 .exact .inl h
 .exact .inr h
end
theorem KH{K:PySem.W.Frag}{tb:List Addr}{W:Wd}{ds:List D}{xs:List V}{i:Int}{d:D}(r:cJ K tb W ds xs)(h:atI ds i=some d):∃v,atI xs i=some v/\Den K tb W d v:=by
 unfold atI at h ⊢
 rw[<-aD.length r]
 cases e:ixN ds.length i with
 |none=>rw[e]at h;cases h
 |some j=>
  rw[e]at h
  exact aD.get r h
def oIx:O2:=λx y μ=>match y with
 | .int i=>(bI x μ).bind λds=>(atI ds i).map λd=>(d,μ)
 |_=>none
def cj:O1':=λx μ=>match x with
 | .str y=>if y.length<=sizeLine then some (.int y.length,μ)else none
 |_=>(bI x μ).map λds=>(.int ds.length,μ)
def pY:O1':=λx μ=>match x with
 | .int i=>some (.int (if i<0 then -i else i),μ)
 |_=>none
def gR:O1':=λx μ=>match x with
 | .int i=>some (.int (-i),μ)
 |_=>none
def mW(op:O2):ON:=λxs μ=>match xs with
 | [x,y]=>op x y μ
 |_=>none
theorem Cy{op:O2}{xs:List D}{μ:Mu}{r:D×Mu}(h:mW op xs μ=some r):∃x y,xs=[x,y]/\op x y μ=some r:=by
 unfold mW at h
 split at h
 .exact⟨_,_,rfl,h⟩
 .cases h
def mV:O2:=λx y μ=>match x,y with
 | .int i,.int j=>some (.int (if j<i then j else i),μ)
 |_,_=>none
def gW:ON:=λxs μ=>match xs with
 | [x]=>(bI x μ).map λds=>(.tup ds,μ)
 |_=>none
def Js(T:String):D->Option Bool
 | .non=>some false
 | .bl _=>some (T=="bool"||T=="int")
 | .int _=>some (T=="int")
 | .str _=>some (T=="str")
 | .tup _=>some (T=="tuple")
 | .lst _=>some (T=="list")
 | .ro _=>some (T=="list")
 | .dic _=>some (T=="dict")
 | .cell _=>none
def jY(T:String):O1':=λx μ=>match x with
 | .cell n=>match μ[n]? with
  |some (some _)=>some (.bl (T=="list"),μ)
  |_=>none
 |_=>(Js T x).map λk=>(.bl k,μ)
section
variable {X:Cx} {tb:List Addr} {a b e:Expr} {fa fb f:EF} {fs:AF} {p pos:Pos}
theorem bF(ha:PD X tb a fa)(hb:PD X tb b fb)(hs:Eg b:=by intro _ _;rfl):PD X tb (.Subscript a b pos) (M2 fa fb oIx):=
 Dv (λta tb' ha hb=>Uk Qf ha hb hs) (λW x y v u d μ' Q ok dx dy ho h=>by
  cases y with
  |int i=>
   obtain⟨ds,e1,e2⟩:=Za.mp (show((bI x W.mu).bind λds=>(atI ds i).map λd=>(d,W.mu))=some (d,μ')from ho)
   obtain⟨d0,e3,e4⟩:=Zp.mp e2
   cases e4
   rw[bx dy]
   obtain⟨a,xs,rfl,q,r⟩:=jV ok dx e1
   obtain⟨v,ev,dv⟩:=KH r e3
   rcases SqB.or q with q|q
   .exact .inl ⟨a,xs,i,v,rfl,rfl,q,ev,put ok h dv⟩
   .exact .inr (.inl ⟨a,xs,i,v,rfl,rfl,q,ev,put ok h dv⟩)
  |_=>cases ho) ha hb
theorem gC(ha:PD X tb a fa):PD X tb (.UnaryOp .USub a pos) (M1 fa gR):=
 Pu (λta ha=>UV Px ha) (λW x v d μ' Q ok dx ho h=>by
  cases x with
  |int i=>cases ho;rw[bx dx];exact⟨i,rfl,put ok h eN⟩
  |_=>cases ho) ha
def bu(op:O1'):ON:=λxs μ=>match xs with
 | [x]=>op x μ
 |_=>none
theorem vU{op:O1'}{xs:List D}{μ:Mu}{r:D×Mu}(h:bu op xs μ=some r):∃x,xs=[x]/\op x μ=some r:=by
 unfold bu at h
 split at h
 .exact⟨_,rfl,h⟩
 .cases h
theorem Aj{xs:List D}{μ:Mu}{r:D×Mu}(h:gW xs μ=some r):∃x,xs=[x]/\gW [x] μ=some r:=by
 unfold gW at h
 split at h
 .exact⟨_,rfl,h⟩
 .cases h
theorem eO(hm:X.mg "len"=none)(ha:PAD X tb [a] fs)(hg:Gl X "len":=by rfl)(he:starEach [a] X.env=(false,eval a X.env)::starEach [] X.env:=by rfl):PD X tb (.Call (.Name "len" p) [a] [] pos) (MC fs (bu cj)):=
 Fw (λta ha=>nU (yh.or zj) hg hm PySem.boot_len ha (by decide) (by decide) he (by rfl)) (λW xs vs d μ' Q ok r ho h=>by
  obtain⟨x,rfl,ho⟩:=vU ho
  obtain⟨v,rfl,dv⟩:=aD.one r
  have gen:∀ds,bI x W.mu=some ds->some (D.int ds.length,W.mu)=some (d,μ')->((∃p ys,[v]=[V.ref p]/\(SqL X.K W.H p ys∨SqT X.K W.H p ys)/\Q (.int ys.length) W.H)∨∃z,[v]=[V.str z]/\z.length<=sizeLine/\Q (.int z.length) W.H):=λds e1 e2=>by
   cases e2
   obtain⟨a,xs,e,q,r⟩:=jV ok dv e1
   exact Or.inl ⟨a,xs,by rw[e],SqB.or q,by rw[<-aD.length r];exact put ok h eN⟩
  cases x with
  |str y=>
   have ho':(if y.length<=sizeLine then some (D.int y.length,W.mu)else none)=some (d,μ'):=ho
   split at ho'
   .rename_i hz
    cases ho'
    rw[lZ dv]
    exact .inr ⟨y,rfl,hz,put ok h eN⟩
   .cases ho'
  |tup ds=>exact gen ds rfl ho
  |lst ds=>exact gen ds rfl ho
  |ro ds=>exact gen ds rfl ho
  |cell n=>
   obtain⟨ds,e1,e2⟩:=Zp.mp (show(bI (.cell n) W.mu).map (λds=>(D.int ds.length,W.mu))=some (d,μ')from ho)
   exact gen ds e1 (congrArg some e2)
  |_=>cases ho) ha
theorem vO(hm:X.mg "abs"=none)(ha:PAD X tb [a] fs)(hg:Gl X "abs":=by rfl)(he:starEach [a] X.env=(false,eval a X.env)::starEach [] X.env:=by rfl):PD X tb (.Call (.Name "abs" p) [a] [] pos) (MC fs (bu pY)):=
 Fw (λta ha=>nU Jm hg hm PyProof.Rows.boot_abs ha (by decide) (by decide) he (by rfl)) (λW xs vs d μ' Q ok r ho h=>by
  obtain⟨x,rfl,ho⟩:=vU ho
  obtain⟨v,rfl,dv⟩:=aD.one r
  cases x with
  |int i=>cases ho;rw[bx dv];exact⟨i,rfl,put ok h eN⟩
  |_=>cases ho) ha
theorem zx(hc:X.calm=true)(hm:X.mg "min"=none)(ha:PAD X tb [a,b] fs)(hg:Gl X "min":=by rfl)(he:starEach [a,b] X.env=(false,eval a X.env)::starEach [b] X.env:=by rfl)(hpl:(backTo pos (starEach [b] X.env)).any (·.1)=false:=by rfl):PD X tb (.Call (.Name "min" p) [a,b] [] pos) (MC fs (mW mV)):=
 Fw (λta ha=>nU (Ga hc) hg hm PyProof.Rows.boot_min ha (by decide) (by decide) he hpl) (λW xs vs d μ' Q ok r ho h=>by
  obtain⟨x,y,rfl,ho⟩:=Cy ho
  obtain⟨u,v,rfl,du,dv⟩:=aD.two r
  cases x with
  |int i=>
   cases y with
   |int j=>
    cases ho
    rw[bx du,bx dv]
    exact⟨i,j,rfl,put ok h eN⟩
   |_=>cases ho
  |_=>cases ho) ha
theorem qW(hm:X.mg "tuple"=none)(ha:PAD X tb [a] fs)(hg:Gl X "tuple":=by rfl)(he:starEach [a] X.env=(false,eval a X.env)::starEach [] X.env:=by rfl):PD X tb (.Call (.Name "tuple" p) [a] [] pos) (MC fs gW):=
 Fw (λta ha=>iJ wB hg hm PyProof.Rows.boot_tuple ha (by decide) (by decide) he (by rfl)) (λW xs vs d μ' Q ok r ho h=>by
  obtain⟨x,rfl,ho⟩:=Aj ho
  obtain⟨v,rfl,dv⟩:=aD.one r
  obtain⟨ds,e1,e2⟩:=Zp.mp (show(bI x W.mu).map (λds=>(D.tup ds,W.mu))=some (d,μ')from ho)
  cases e2
  by_cases ht:∃es,x= .tup es
  .obtain⟨es,rfl⟩:=ht
   cases e1
   obtain⟨a,xs,rfl,q,r⟩:=jK dv
   exact⟨a,xs,rfl,.inr ⟨SqT.fz q,put ok h dv⟩⟩
  .obtain⟨a,xs,rfl,q,r⟩:=jV ok dv e1
   have hf:Dn x=false:=by cases x<;>first|rfl|exact absurd ⟨_,rfl⟩ ht
   rw[hf]at q
   exact⟨a,xs,rfl,.inl ⟨q,λl hl=>lD ok h r hl⟩⟩) ha
def lOf(fs:AF):LF:=λδ μ=>(fs δ μ).bind λr=>match r.1 with
 | [x]=>(bI x r.2).map λds=>(ds,r.2)
 |_=>none
theorem uY(hm:X.mg "list"=none)(ha:PAD X tb [a] fs)(hg:Gl X "list":=by rfl)(he:starEach [a] X.env=(false,eval a X.env)::starEach [] X.env:=by rfl):PDN X tb (.Call (.Name "list" p) [a] [] pos) (lOf fs):=
 dO (iJ zA hg hm PyProof.Rows.boot_list ha (by decide) (by decide) he (by rfl)) λσ H Q zq1=>by
  obtain⟨W,δ,ds,μ',e,ok,hd,hf,k⟩:=zq1
  unfold lOf at hf
  obtain⟨⟨xs,μ1⟩,e1,e2⟩:=Za.mp hf
  match xs,e1,e2 with
  | [x],e1,e2=>
   obtain⟨ds',e3,e4⟩:=Zp.mp (show(bI x μ1).map (λds=>(ds,μ1))=some (ds,μ')from e2)
   cases e4
   refine⟨W,δ,[x],_,e,ok,hd,e1,λvs W1 ok1 l1 m1 d1=>?_⟩
   obtain⟨v,rfl,dv⟩:=aD.one d1
   obtain⟨a,xs,rfl,q,r⟩:=jV ok1 dv (by rw[m1];exact e3)
   exact⟨a,xs,rfl,SqB.or q,λl hl=>k l xs W1 ok1 l1 m1 hl r⟩
theorem lu{T:Str}{tn:String}{pt:Pos}(hm:X.mg "isinstance"=none)(hmT:X.mg T=none)(hT:bootBuiltins T=some (.type tn))(hmem:tn∈Ln)(ha:PD X tb a fa)(hg:Gl X "isinstance":=by rfl)(hgT:Gl X T:=by rfl)(hn:T≠"__name__":=by decide)(hdb:(T==("__debug__":Str))=false:=by decide)
  (hs:starEach [a,.Name T pt] X.env=(false,eval a X.env)::starEach [.Name T pt] X.env:=by rfl):PD X tb (.Call (.Name "isinstance" p) [a,.Name T pt] [] pos) (M1 fa (jY tn)):=
 dO (nU Jz hg hm PyProof.Rows.boot_isinstance (mG ha (mG (Lb hgT hmT hT (v:=.ty tn) rfl hn hdb) rE) hs) (by decide) (by decide) hs (by rfl)) λσ H Q zq2=>by
  obtain⟨W,δ,d,μ',e,ok,hd,hf,h⟩:=zq2
  unfold M1 at hf
  obtain⟨⟨x,μ1⟩,e1,e2⟩:=Za.mp hf
  refine⟨W,δ,x,μ1,e,ok,hd,e1,λv W1 ok1 l1 m1 d1=>?_⟩
  have fin:∀k,RN X.K tn v W1.H k->some (D.bl k,μ1)=some (d,μ')->∃x T k,[v,V.ty tn]=[x,.ty T]/\T∈Ln/\RN X.K T x W1.H k/\Q (.bl k) W1.H:=λk hk e=>by
   cases e
   exact⟨v,tn,k,rfl,hmem,hk,h _ W1 ok1 l1 m1 gn⟩
  cases x with
  |non=>rw[pR d1]at fin ⊢;exact fin _ rfl e2
  |bl b=>rw[kJ d1]at fin ⊢;exact fin _ rfl e2
  |int b=>rw[bx d1]at fin ⊢;exact fin _ rfl e2
  |str b=>rw[lZ d1]at fin ⊢;exact fin _ rfl e2
  |tup ds=>obtain⟨a,xs,rfl,q,r⟩:=jK d1;exact fin _ (.inr (.inl ⟨rfl,xs,SqT.fz q⟩)) e2
  |lst ds=>obtain⟨a,xs,rfl,q,r⟩:=mL d1;exact fin _ (.inl ⟨rfl,xs,SqL.fz q⟩) e2
  |ro ds=>obtain⟨a,xs,rfl,q,r⟩:=xF d1;exact fin _ (.inl ⟨rfl,xs,SqL.fz q⟩) e2
  |dic ds=>obtain⟨a,xs,rfl,q,r⟩:=Qw d1;exact fin _ (.inr (.inr ⟨rfl,xs,(dB q).1⟩)) e2
  |cell n=>
   have e2':(match μ1[n]? with|some (some _)=>some (D.bl (tn=="list"),μ1)|_=>none)=some (d,μ'):=e2
   obtain⟨a,rfl,q⟩:=iV d1
   cases e4:μ1[n]? with
   |none=>rw[e4]at e2';cases e2'
   |some o=>
    cases o with
    |none=>rw[e4]at e2';cases e2'
    |some ds=>
     rw[e4]at e2'
     obtain⟨xs,ex,_⟩:=ok1.cont n a ds q (by rw[m1];exact e4)
     exact fin _ (.inl ⟨rfl,xs,SqL.of ex⟩) e2'
def gA(μ:Mu)(n:Nat):Bool:=match μ[n]? with
 |some (some _)=>true
 |_=>false
theorem Bp{μ:Mu}{n:Nat}(h:gA μ n=true):∃ds,μ[n]? =some (some ds):=by
 unfold gA at h
 split at h
 .exact⟨_,by assumption⟩
 .cases h
def fQ(fo:EF)(fs:AF):EF:=λδ μ=>(fo δ μ).bind λr=>(fs δ r.2).bind λq=>match r.1,q.1 with
 | .cell n,[y]=>match q.2[n]? with
  |some (some ds)=>if gA r.2 n=true/\ds.length<sizeLine then some (.non,q.2.set n (some (ds++[y])))else none
  |_=>none
 |_,_=>none
theorem dD{o:Expr}{fo:EF}{apos cpos:Pos}(ho:PD X tb o fo)(ha:PAD X tb [e] fs)
  (hbase:attributeBase o "append" X.env (eval o X.env)=eval o X.env:=by rfl)
  (hfew:((backTo cpos (starEach [e] X.env)).all (λx=>!x.1)&&(backToKw cpos (keywordEach [] X.env)).all (λx=>x.1.isSome)
   &&decide ([e].length+([]:List Keyword).length+(if([]:List Keyword).isEmpty then 0 else 1)<30))=true:=by rfl)
  (hline:(apos.endLine==cpos.line)=true:=by rfl) (hs:starEach [e] X.env=(false,eval e X.env)::starEach [] X.env:=by rfl):PD X tb (.Call (.Attribute o "append" apos) [e] [] cpos) (fQ fo fs):=
 dO (Ou PySem.F.plainAttrs_list PySem.F.slot_list_append PySem.F.type_list_append Gi ho ha hbase hfew hline hs (by rfl)) λσ H Q zq3=>by
  obtain⟨W,δ,d,μ',e,ok,hd,hf,h⟩:=zq3
  unfold fQ at hf
  obtain⟨⟨x,μ1⟩,e1,hf⟩:=Za.mp hf
  obtain⟨⟨ys,μ2⟩,e2,hf⟩:=Za.mp hf
  refine⟨W,δ,x,μ1,e,ok,hd,e1,λv W1 ok1 l1 m1 d1=>?_⟩
  match x,ys,e1,e2,hf,d1 with
  | .cell n,[y],e1,e2,hf,d1=>
   have hf':(match μ2[n]? with|some (some ds)=>if gA μ1 n=true/\ds.length<sizeLine then some (D.non,μ2.set n (some (ds++[y])))else none|_=>none)=some (d,μ'):=hf
   cases e4:μ2[n]? with
   |none=>rw[e4]at hf';cases hf'
   |some oo=>
    cases oo with
    |none=>rw[e4]at hf';cases hf'
    |some ds=>
     rw[e4]at hf'
     have hf'':(if gA μ1 n=true/\ds.length<sizeLine then some (D.non,μ2.set n (some (ds++[y])))else none)=some (d,μ'):=hf'
     split at hf''
     .rename_i hz
      cases hf''
      obtain⟨a,rfl,q⟩:=iV d1
      obtain⟨ds0,e5⟩:=Bp hz.1
      obtain⟨xs0,ex0,_⟩:=ok1.cont n a ds0 q (by rw[m1];exact e5)
      refine⟨.inl ⟨rfl,xs0,SqL.of ex0⟩,W1,δ,[y],μ2,rfl,ok1,hd.mono' l1,(by rw[m1];exact e2),λvs W2 ok2 l2 m2 d2=>?_⟩
      obtain⟨u,rfl,du⟩:=aD.one d2
      have q2:=l2.ad _ _ q
      have e6:W2.mu[n]? =some (some ds):=by rw[m2];exact e4
      obtain⟨xs,ex,r⟩:=ok2.cont n a ds q2 e6
      refine⟨a,xs,u,rfl,rfl,ex,by rw[<-aD.length r];exact hz.2,?_⟩
      obtain⟨ok3,l3⟩:=ok2.write q2 e6 (aD.append r (aD.cons du aD.nil))
      exact h .non _ ok3 ((l1.trans l2).trans l3) (by rw[<-m2]) tZ
     .cases hf''
def Dz(fo:EF):EF:=λδ μ=>(fo δ μ).bind λr=>match r.1 with
 | .cell n=>match r.2[n]? with
  |some (some (y::ds))=>some (y,r.2.set n (some ds))
  |_=>none
 |_=>none
theorem Og{o:Expr}{fo:EF}{apos cpos p0:Pos}{j}(ho:PD X tb o fo)
  (hbase:attributeBase o "pop" X.env (eval o X.env)=eval o X.env:=by rfl)
  (hfew:((backTo cpos (starEach [.Constant (.int 0) j p0] X.env)).all (λx=>!x.1)&&(backToKw cpos (keywordEach [] X.env)).all (λx=>x.1.isSome)
   &&decide ([Expr.Constant (.int 0) j p0].length+([]:List Keyword).length+(if([]:List Keyword).isEmpty then 0 else 1)<30))=true:=by rfl)
  (hline:(apos.endLine==cpos.line)=true:=by rfl):PD X tb (.Call (.Attribute o "pop" apos) [.Constant (.int 0) j p0] [] cpos) (Dz fo):=
 dO (Ou PySem.F.plainAttrs_list PySem.F.slot_list_pop PySem.F.type_list_pop JM ho (mG Ii rE) hbase hfew hline (by rfl) (by rfl)) λσ H Q zq4=>by
  obtain⟨W,δ,d,μ',e,ok,hd,hf,h⟩:=zq4
  unfold Dz at hf
  obtain⟨⟨x,μ1⟩,e1,hf⟩:=Za.mp hf
  refine⟨W,δ,x,μ1,e,ok,hd,e1,λv W1 ok1 l1 m1 d1=>?_⟩
  cases x with
  |cell n=>
   have hf':(match μ1[n]? with|some (some (y::ds))=>some (y,μ1.set n (some ds))|_=>none)=some (d,μ'):=hf
   cases e4:μ1[n]? with
   |none=>rw[e4]at hf';cases hf'
   |some oo=>
    match oo,e4 with
    |none,e4=>rw[e4]at hf';cases hf'
    |some [],e4=>rw[e4]at hf';cases hf'
    |some (y::ds),e4=>
     rw[e4]at hf'
     have hf'':some (y,μ1.set n (some ds))=some (d,μ'):=hf'
     cases hf''
     obtain⟨a,rfl,q⟩:=iV d1
     have e6:W1.mu[n]? =some (some (d::ds)):=by rw[m1];exact e4
     obtain⟨xs,ex,r⟩:=ok1.cont n a _ q e6
     have r':aD _ _ _ _ _:=r
     unfold aD at r'
     obtain⟨u,us,rfl,du,r2⟩:=r'
     refine⟨.inl ⟨rfl,_,SqL.of ex⟩,a,u::us,0,0,u,rfl,rfl,ex,by decide,by decide,?_,rfl,?_⟩
     .simp[seqIndex?]
     .obtain⟨ok3,l3⟩:=ok1.write q e6 r2
      exact h u _ ok3 (l1.trans l3) (by rw[<-m1]) (Den.mono' du l3)
  |_=>cases hf
theorem pdv(i:Nat){x:Str}(hN:X.N[i]? =some x:=by rfl)(hv:Vis X.env.scope x:=by first|exact Or.inl rfl|exact Or.inr (Or.inl rfl)|exact Or.inr (Or.inr rfl))(hd:(x==("__debug__":Str))=false:=by decide)(hcd:(x==("__classdict__":Str))=false:=by decide):PD X tb (.Name x pos) (aq i):=Pz hN hv hd hcd
end
section
variable {X:Cx} {tb:List Addr} {a b e:Expr} {es:List Expr} {fa fb f:EF} {fs:AF} {p pos:Pos}
def jE:List D->List D->List D
 |x::xs,y::ys=>.tup [x,y]::jE xs ys
 |_,_=>[]
theorem Ag:∀{xs ys:List D}{i:Nat}{d:D},(jE xs ys)[i]? =some d->∃x y,d= .tup [x,y]/\xs[i]? =some x/\ys[i]? =some y
 | [],ys,i,d,h=>by simp[jE]at h
 |x::xs,[],i,d,h=>by simp[jE]at h
 |x::xs,y::ys,0,d,h=>by
  have h':some (D.tup [x,y])=some d:=by simpa[jE]using h
  cases h'
  exact⟨x,y,rfl,rfl,rfl⟩
 |x::xs,y::ys,i+1,d,h=>by
  obtain⟨u,v,e,e1,e2⟩:=Ag (xs:=xs) (ys:=ys) (i:=i) (by simpa[jE]using h)
  exact⟨u,v,e,by simpa using e1,by simpa using e2⟩
theorem Av:∀(xs ys:List D),(jE xs ys).length=min xs.length ys.length
 | [],ys=>by simp[jE]
 |x::xs,[]=>by simp[jE]
 |x::xs,y::ys=>by simp[jE,Av xs ys]
def fO:D->Option (List D)
 | .tup ds=>some ds
 | .lst ds=>some ds
 | .ro ds=>some ds
 |_=>none
theorem JP{K:PySem.W.Frag}{W:Wd}{x:D}{v:V}{ds:List D}(h:Den K tb W x v)(e:fO x=some ds):∃a xs,v= .ref a/\SqB (Dn x) K (W.fz tb) a xs/\cJ K tb W ds xs:=by
 cases x with
 |tup es=>cases e;obtain⟨a,xs,rfl,q,r⟩:=jK h;exact⟨a,xs,rfl,q,r⟩
 |lst es=>cases e;obtain⟨a,xs,rfl,q,r⟩:=mL h;exact⟨a,xs,rfl,q,r⟩
 |ro es=>cases e;obtain⟨a,xs,rfl,q,r⟩:=xF h;exact⟨a,xs,rfl,q,r⟩
 |_=>cases e
theorem nO{K:PySem.W.Frag}{c:Bool}{W0 W:Wd}{a:Addr}{xs:List V}(h:SqB c K (W0.fz tb) a xs)(l:Le tb W0 W):SqB c K W.H a xs:=by
 cases c
 .exact SqL.fz (SqL.mono l.same (show SqL K (W0.fz tb) a xs from h))
 .exact SqT.fz (SqT.mono l.same (show SqT K (W0.fz tb) a xs from h))
def uD(fs:AF):IF:=λδ μ=>(fs δ μ).bind λr=>match r.1 with
 | [x,y]=>(fO x).bind λxs=>(fO y).map λys=>(⟨jE xs ys,none⟩,r.2)
 |_=>none
theorem uh{p':Pos}{elts:List Expr}{kk:Nat}(hm:X.mg "zip"=none)(ha:PAD X tb [a,b] fs)(hg:Gl X "zip":=by rfl)(hs:starEach [a,b] X.env=[(false,eval a X.env),(false,eval b X.env)]:=by rfl)(hs2:starEach [b] X.env=[(false,eval b X.env)]:=by rfl):
  PID X tb (.Tuple elts kk p') (.Call (.Name "zip" p) [a,b] [] pos) (uD fs):=
 Ir (Rw hg hm ha hs hs2) λσ H R zq4=>by
  obtain⟨W,δ,S,μ',e,ok,hd,hf,h⟩:=zq4
  unfold uD at hf
  obtain⟨⟨zs,μ1⟩,e1,hf⟩:=Za.mp hf
  match zs,e1,hf with
  | [x,y],e1,hf=>
   obtain⟨xs,e2,hf⟩:=Za.mp (show((fO x).bind λxs=>(fO y).map λys=>((⟨jE xs ys,none⟩:Src),μ1))=some (S,μ')from hf)
   obtain⟨ys,e3,e4⟩:=Zp.mp hf
   cases e4
   refine⟨W,δ,[x,y],_,e,ok,hd,e1,λvs W1 ok1 l1 m1 d1=>?_⟩
   obtain⟨u,v,rfl,du,dv⟩:=aD.two d1
   obtain⟨a1,us,rfl,q1,r1⟩:=JP du e2
   obtain⟨a2,ws,rfl,q2,r2⟩:=JP dv e3
   refine⟨a1,a2,_,_,rfl,⟨us,nO q1 (Le.refl _)⟩,⟨ws,nO q2 (Le.refl _)⟩,h _ W1 ok1 l1 m1 ⟨λi W2 d l ok2 _ ei=>?_,λi W2 l ok2 _ hi=>?_⟩⟩
   .obtain⟨x0,y0,rfl,ex,ey⟩:=Ag ei
    obtain⟨vx,evx,dvx⟩:=aD.get (cJ.mono' r1 l) ex
    obtain⟨vy,evy,dvy⟩:=aD.get (cJ.mono' r2 l) ey
    refine⟨⟨⟨us,vx,nO q1 l,evx⟩,ws,vy,nO q2 l,evy⟩,λz H' ⟨p,x',y',ez,hp,eH,hx',hy'⟩=>?_⟩
    have ex':=hx' us (nO q1 l)
    have ey':=hy' ws (nO q2 l)
    rw[evx]at ex';cases ex'
    rw[evy]at ey';cases ey'
    obtain⟨ok3,l3,e3⟩:=ok2.alloc (o:=.tup [vx,vy]) hp
    refine⟨_,eH.symm,ok3,l3,rfl,?_⟩
    rw[ez]
    show bA _ _ _ _ _
    unfold bA
    exact⟨p,[vx,vy],rfl,.inl (.inl e3),cJ.mono' (aD.cons dvx (aD.cons dvy aD.nil)) l3⟩
   .have hi':min xs.length ys.length<=i:=by rw[<-Av];exact hi
    have l1':=aD.length r1
    have l2':=aD.length r2
    refine⟨us,ws,nO q1 l,nO q2 l,?_⟩
    omega
end
theorem DK{K:PySem.W.Frag}{F:Hp}{ad:List Addr}:∀(ns:List Int),aD K F ad (ns.map D.int) (ns.map V.int)
 | []=>aD.nil
 |n::ns=>aD.cons (by unfold bA;rfl) (DK ns)
theorem FW{P:Program}{w:World}{K:PySem.W.Frag}{mg mb:Str->Option Value}{k:Nat}{fa a:Addr}{fd:FuncData}{x:Str}{s₁:Shared}{vs:List Value}{ns:List Int}{tb:List Addr}{φ:FF}{μ':Mu}
  (KX:K.In s₁.heap) (hns:s₁.heap.Ns mainGlobals mg) (hb:s₁.heap.Ns builtinsNs mb) (hbb:∀x:Str,x≠"__name__"->mb x=bootBuiltins x) (hlim:s₁.heap.NoLimit)
  (hbm:∃bm ob,mg "__builtins__"=some (.ref bm)/\bm≠builtinsNs/\s₁.heap.get? bm=some ob/\ob.cls= .type "module"/\ob.dict=some builtinsNs/\ob.data= .plain) (hg:s₁.gens= #[])
  (ha:s₁.heap.get? a=some { cls:=.type "list",data:=.seq vs.toArray}) (hi:IntsAre vs ns) (hl:ns.length<=sizeLine) (hr:fu k callerA)
  (htb:∀P∈tb,∃c,PySem.W.CodeHd s₁.heap c P/\s₁.heap.get? P=some (PySem.W.tabObj #[])) (hnt:PySem.W.noTabs K=true)
  (F:∀base:Heap,K.In base->base.Ns mainGlobals mg->tR P w K mg base CX0 k fa fd [x] (spD K tb 1 φ)) (hbind:∀(s:Shared)(u:Value),BindsTo s fd ⟨[u],[]⟩ [(x,u)])
  (hsp:φ [.ro (ns.map .int)] []=some (.bl true,μ')):
  codeAny (model P w) callerA (.call (.ref fa) ⟨[.ref a],[]⟩) (λr s'=>r= .ok (.ret (.bool true))/\OldK s₁.heap s'.heap/\s'.os=s₁.os/\AllBare s'.gens) s₁:=by
 have rv:=sE hi
 have lenV:=hi.length
 have hat:a∉tb:=λz=>by
  obtain⟨c,_,e⟩:=htb a z
  rw[ha]at e;cases e
 have hKt:∀P∈tb,K.lookup P=none:=λP hP=>by
  cases q:K.lookup P with
  |none=>rfl
  |some o=>
   obtain⟨c,_,e⟩:=htb P hP
   have e2:=KX P o q
   rw[e]at e2
   cases e2
   have h2:=List.all_eq_true.mp hnt (P,_) (PySem.W.mem_of_lookupK q)
   exact absurd (show false=true from h2) Zr
 have core:∀H:Hp,(∀b,H b=none∨(b=a/\∃o xs,H b=some (.frz o (.lst xs)))∨(b∈tb/\H b=some (.tbl #[])))->SqL K H a (ns.map V.int)->HOk P w H s₁.heap->(∀P∈tb,H P=some (.tbl #[]))->(H a≠none->K.lookup a=none)->
   codeAny (model P w) callerA (.call (.ref fa) ⟨[.ref a],[]⟩) (λr s'=>r= .ok (.ret (.bool true))/\OldK s₁.heap s'.heap/\s'.os=s₁.os/\AllBare s'.gens) s₁:=by
  intro H hO hS hok hT hK
  have base_of:∀{b:Addr}{o:Obj},s₁.heap.get? b=some o->H b=none->(xX s₁.heap H).get? b=some o:=λe n=>Iv e n
  have noH:∀{b:Addr}{o:Obj},s₁.heap.get? b=some o->o.cls≠ .type "list"->o.cls≠ .none->H b=none:=λ{b o} e d1 d2=>by
   rcases hO b with z|⟨rfl,_⟩|⟨z,_⟩
   .exact z
   .rw[ha]at e;cases e;exact absurd rfl d1
   .obtain⟨c,_,e2⟩:=htb b z
    rw[e2]at e;cases e;exact absurd rfl d2
  have noA:∀{b:Addr}{o:Obj}{es:Array DictEntry}{ep:Nat},s₁.heap.get? b=some o->o.data= .dict es ep->H b=none:=λ{b o es ep} e d=>by
   rcases hO b with z|⟨rfl,_⟩|⟨z,_⟩
   .exact z
   .rw[ha]at e;cases e;cases d
   .obtain⟨c,_,e2⟩:=htb b z
    rw[e2]at e;cases e;cases d
  have nsK:∀{b:Addr}{m:Str->Option Value},s₁.heap.Ns b m->(xX s₁.heap H).Ns b m:=λ{b m}⟨o,es,ep,e,d,r⟩=>⟨o,es,ep,base_of e (noA e d),d,r⟩
  have hKb:K.In (xX s₁.heap H):=λb o e=>base_of (KX b o e) (by
   rcases hO b with z|⟨rfl,_,_,z⟩|⟨z,_⟩
   .exact z
   .rw[hK (by rw[z];simp)]at e;cases e
   .rw[hKt b z]at e;cases e)
  have hM:Mod K mg (xX s₁.heap H):=⟨hKb,nsK hns,⟨mb,nsK hb,hbb⟩,(let⟨mc,h1,h2⟩:=hlim;⟨mc,nsK h1,h2⟩),(let⟨bm,ob,h1,h2,h3,h4,r⟩:=hbm;⟨bm,ob,h1,h2,base_of h3 (noH h3 (by rw[h4];decide) (by rw[h4];decide)),h4,r⟩)⟩
  have e0:KN P w K mg (xX s₁.heap H) callerA [] s₁ H:=⟨rfl,hM,λb o e=>Lw e,Nat.le_of_eq (FQ _ _),trivial,λb hb=>absurd (show b∈([]:List Addr)from hb) (by simp),hok,.of_eq hg⟩
  have okW:WOk K tb ⟨H,[],[]⟩:=⟨rfl,λi a ds e=>by simp at e,λi j a ds es e=>by simp at e,λP hP=>⟨#[],hT P hP,TOk.nil⟩⟩
  have nlive:∀b,¬nu ([]:List Addr) ([]:Mu) b:=λb ⟨i,ds,e,_⟩=>by simp at e
  have fzA:Wd.fz tb ⟨H,[],[]⟩ a=H a:=pH (W:=⟨H,[],[]⟩) (nlive a) hat
  have hden:Den K tb ⟨H,[],[]⟩ (.ro (ns.map .int)) (.ref a):=by
   show bA _ _ _ _ _
   unfold bA
   refine⟨a,_,rfl,?_,DK ns⟩
   rcases hS with(h|⟨o,h⟩)|h
   .exact .inl (.inl (fzA.trans h))
   .exact .inl (.inr ⟨o,fzA.trans h⟩)
   .exact .inr h
  refine codeAny_mono ((F _ hKb (nsK hns)).run callerA [] s₁ H ⟨[.ref a],[]⟩ [.ref a] [.ref a] (λv _=>v= .bl true) (λ_ _ _=>False) hr e0 (hbind s₁ (.ref a)) (.cons rfl .nil)
   ⟨⟨H,[],[]⟩,[.ro (ns.map .int)],_,_,rfl,okW,aD.cons hden aD.nil,rfl,hsp,λv W' _ _ _ dv=>kJ dv⟩) λr s' h=>?_
  cases r with
  |error e=>exact False.elim h
  |ok fl=>
   cases fl with
   |next=>exact False.elim h
   |brk=>exact False.elim h
   |cont=>exact False.elim h
   |ret u=>
    obtain⟨v,H',os,bare,un,hok',r',q⟩:=h
    have q':v= .bl true:=q
    subst q'
    obtain rfl:u=Value.bool true:=r'
    have old:∀b o,s₁.heap.get? b=some o->asItWas s₁.heap s'.heap b o/\∃o',s'.heap.get? b=some o':=λb o e=>by
     rcases hO b with z|⟨rfl,ob,xs,z⟩|⟨hb,z⟩
     .have:=un.keep b o e z (by intro z;exact absurd (show b∈([]:List Addr)from z) (by simp)) (by simp)
      exact⟨.inl this,o,this⟩
     .have z2:=un.frzs b ob _ z
      obtain⟨e1,_⟩:=hok b _ z
      obtain⟨e2,_⟩:=hok' b _ z2
      rw[e]at e1;cases e1
      exact⟨.inl e2,_,e2⟩
     .obtain⟨more,z2⟩:=un.tbls b _ z
      have e2:=hok' b _ z2
      obtain⟨c,hd,hp⟩:=htb b hb
      rw[hp]at e;cases e
      have e3:s'.heap.get? b=some { cls:=.none,data:=.fields (#[]++more) }:=e2
      exact⟨.inr (.inl ⟨(hd.tab hp).isCodeTable,rfl,#[],more,rfl,e3⟩),_,e3⟩
    exact⟨rfl,⟨λb o e=>(old b o e).1,λb o e=>(old b o e).2⟩,os,bare.bare⟩
 have tbOk:∀{H:Hp}{b:Addr},b∈tb->iD P w H s₁.heap b (.tbl #[]):=λ{H b} hb=>by
  obtain⟨c,_,e⟩:=htb b hb
  exact e
 classical
 cases hk:K.lookup a with
 |some o=>
  have e:=KX a o hk
  rw[ha]at e
  cases e
  refine core (λb=>if b∈tb then some (.tbl #[])else none) (λb=>?_) (.inr ⟨_,vs.toArray,_,hk,rfl,rfl,rfl,by rw[Zd,lenV];exact hl,by simpa using rv⟩) (λb u z=>?_) (λP hP=>if_pos hP) λz=>absurd (if_neg hat) z
  .by_cases hb:b∈tb
   .exact .inr (.inr ⟨hb,if_pos hb⟩)
   .exact .inl (if_neg hb)
  .by_cases hb:b∈tb
   .have z':=(if_pos hb).symm.trans z
    cases z'
    exact tbOk hb
   .have z':=(if_neg hb).symm.trans z
    cases z'
 |none=>
  refine core (λb=>if b=a then some (.frz { cls:=.type "list",data:=.seq vs.toArray} (.lst (ns.map V.int)))else if b∈tb then some (.tbl #[])else none) (λb=>?_) (.inl (.inr ⟨{ cls:=.type "list",data:=.seq vs.toArray},if_pos rfl⟩)) (λb u z=>?_) (λP hP=>?_) λ_=>hk
  .by_cases hb:b=a
   .exact .inr (.inl ⟨hb,_,_,if_pos hb⟩)
   .by_cases hb':b∈tb
    .exact .inr (.inr ⟨hb',(if_neg hb).trans (if_pos hb')⟩)
    .exact .inl ((if_neg hb).trans (if_neg hb'))
  .by_cases hb:b=a
   .have z':=(if_pos hb).symm.trans z
    cases z'
    subst hb
    exact⟨ha,by rw[Zu];exact hl,vs,_,rv,ha⟩
   .have z1:=(if_neg hb).symm.trans z
    by_cases hb':b∈tb
    .have z':=(if_pos hb').symm.trans z1
     cases z'
     exact tbOk hb'
    .have z':=(if_neg hb').symm.trans z1
     cases z'
  .have hne:P≠a:=λz=>hat (z▸hP)
   exact(if_neg hne).trans (if_pos hP)
theorem Im{l:PySem.W.OpenLaw}{n k:Nat}{q:Program}{loose:List Str}{XP:(Str->Option Value)->Heap->Prop}{YP:World->Heap->Prop}{d:DefRec}{K:Params->PySem.W.Frag}{x:Str}{φ:FF}
  (hn:l.most=some n) (hn2:n<=sizeLine) (hdf:d.params.defaults=[]) (hr:fu k callerA)
  (hY:∀(w:World)(h:Heap),YP w h->(K w.params).In h)
  (F:∀(w:World)(mg mb:Str->Option Value)(mean:ExcName->Option Value)(lo:List Str)(fa:Addr)(h:Heap),(K w.params).In h->Top q lo mean mg mb h->mg d.name=some (.ref fa)->
   ∃(fd:FuncData)(tb:List Addr),(∀(s:Shared)(u:Value),BindsTo s fd ⟨[u],[]⟩ [(x,u)])/\(∀P∈tb,∃c,PySem.W.CodeHd h c P/\h.get? P=some (PySem.W.tabObj #[]))/\PySem.W.noTabs (K w.params)=true/\
    ∀base:Heap,(K w.params).In base->base.Ns mainGlobals mg->tR l.prog w (K w.params) mg base CX0 k fa fd [x] (spD (K w.params) tb 1 φ))
  (hsp:∀(ns:List Int),ns.length<=n->∃μ',φ [.ro (ns.map .int)] []=some (.bl true,μ')):
  PySem.W.WalkO q loose XP YP l.row.toRowW d [] (λf vs=>PySem.call f vs):=by
 refine Att.attach_call hn hdf λw s₀ s₁ mg mb fa o pm cd doc a vs ns G Y ho hd hcd hmg hobj hints hlen hg=>?_
 have KX:=hY w _ Y
 obtain⟨fd,tb,hb,htb,hnt,hF⟩:=F w mg mb _ _ fa _ KX G.T hmg
 obtain⟨μ',hs⟩:=hsp ns hlen
 exact FW KX G.T.g G.T.b G.T.builtins G.T.nolimit G.T.bmain hg hobj hints (Zl hlen hn2) hr htb hnt hF hb hs
end L3
namespace L2
open PySem PySem.Spec PyProof.Rows
section
variable {X:Cx} {tg iter elt:Expr} {ifs:List Expr} {wi:TI} {g:TG} {tt:TT} {te:TE} {own cap:List Str} {capI:List Nat} {scope:Scope} {pos:Pos}
theorem Tt{i₀:Nat}{x₀:Str}{px₀ spos:Pos}(hN:X.N.Nodup)(hi₀:X.N[i₀]? =some x₀)(hx₀:Loc X.env.scope x₀)(hc:X.calm=true)(B:fY X own cap capI scope)(hown:∀x∈own,(x,NameKind.free)∉scope.names)(hi:PI X tg iter wi)
  (hg:∀cs C fp s2 H2,PG (dW X own cap scope cs C fp s2 H2) tg g) (ht:∀cs C fp s2 H2,PIf (dW X own cap scope cs C fp s2 H2) ifs tt) (he:∀cs C fp s2 H2,PE (dW X own cap scope cs C fp s2 H2) elt te)
  (hs:∀x,foldedSetIterable iter X.env x=pure x:=by intro _;rfl) (hsw:swapsWith (.ListComp elt [⟨tg,iter,ifs,0⟩] scope pos) (some (.Name x₀ px₀)) spos.line X.env=pure true:=by rfl)
  (hf₀:X.fn x₀=true∨X.env.scope.names.lookup x₀=some .local:=by first|exact .inl rfl|exact .inr rfl|assumption):
  PS X (.Assign [.Name x₀ px₀] (.ListComp elt [⟨tg,iter,ifs,0⟩] scope pos) spos) (Rk (tLC own capI wi g tt te) (JB i₀)):=by
 intro pins s σ H D I h
 rw[exec_Assign_Name_used _ _ _ _ hsw]
 refine wpAny_bind (wpAny_standAt (wpAny_bind ?_))
 show wpAny _ X.A (do let _<-comprehension (.ListComp elt [⟨tg,iter,ifs,0⟩] scope pos) scope X.env _ (newList []) false (eval iter X.env) (some (assign (.Name x₀ px₀) X.env))) _ _ s
 refine wpAny_bind (wpAny_mono (wpAny_comprehension_free (use:=some (assign (.Name x₀ px₀) X.env)) (Q:=λ_ s'=>SP X pins D .next s') (cl:=cz X.env scope.names []) rfl hs (jw (B.cells I)) B.kind (λy hy e=>dj B.nd (by rw[<-e];exact hy)) ?_) (λ_ s' hq=>wpAny_pure (wpAny_pure hq)) λ_ _ e=>e)
 refine thn (hi pins s σ H _ I h) λv s1 h1=>thn h1 λitv s2 h2=>?_
 obtain⟨it,fp,tn,J,H2,e,I2,T,st2,f2,W,⟨m0,w0⟩,turn⟩:=h2
 subst e
 refine wpAny_newObj_type (pI ?_)
 dsimp only
 generalize hl:s2.heap.objs.size=l
 generalize hh0:s2.heap.push { cls:=.type "list",dict:=none,data:=.seq ([]:List Value).toArray}=h0
 have hsz0:h0.objs.size=l+1:=by rw[<-hh0,Heap.size_push,hl]
 generalize hC:h0.objs.size=C
 generalize hh1:pushCells (h0.push { cls:=.type (if(some X.env).isSome=true then "dict" else "frame"),data:=.dict #[] }) scope.names=h1
 have hl0:h0.get? l=some (bR [] 0):=by rw[<-hh0,<-hl];exact Zf _ rfl
 have hk0:∀b o,s2.heap.get? b=some o->h0.get? b=some o:=λb o e=>by rw[<-hh0];exact Zb _ e
 have hlC:l≠C:=by rw[<-hC,hsz0];exact Zk (Nat.lt_succ_self _)
 have hls:s2.heap.objs.size<=l:=Nat.le_of_eq hl
 have hCs:s2.heap.objs.size<=C:=by rw[<-hC,hsz0,hl];exact Nat.le_succ _
 have ho2:∀b∈fp,∃o,s2.heap.get? b=some o:=λb hb=>let⟨o,e,_⟩:=T.obj 0 _ st2 b hb;⟨o,e⟩
 have hfl:∀b∈fp,b≠l/\b≠C:=λb hb=>let⟨o,e⟩:=ho2 b hb;⟨Zk (Zc (Ze e) hls),Zk (Zc (Ze e) hCs)⟩
 have hl1:h1.get? l=some (bR [] 0):=by rw[<-hh1];exact pushCells_keeps _ _ _ _ (Zb _ hl0)
 have keep1:∀b o,s2.heap.get? b=some o->h1.get? b=some o:=λb o e=>by rw[<-hh1];exact pushCells_keeps _ _ _ _ (Zb _ (hk0 b o e))
 generalize hcs:cellsFrom (C+1) scope.names (cz X.env scope.names [])=cs
 have I0:Inv (dW X own cap scope cs C fp s2 H2) [] (cR own σ capI) H2 { s2 with heap:=h1}:=by
  have q:=I2.comp (tk:=s2.toks) B hown f2 ho2 hk0 (by rw[hsz0,hl];exact Nat.le_succ _) hC.symm hh1.symm
  rw[hcs]at q
  exact q
 have henv:(newEnv scope C X.env.globals cs X.env.qual none .none (some X.env) builtinsNs)={ compEnvC scope cs C X.env with scope:=scope}:=rfl
 have henv2:({ newEnv scope C X.env.globals cs X.env.qual none .none (some X.env) builtinsNs with scope:=relabel scope X.env}:Env)=(dW X own cap scope cs C fp s2 H2).env:=rfl
 generalize hX':dW X own cap scope cs C fp s2 H2=X' at I0 henv2
 have eP:X'.prog=X.prog:=by rw[<-hX'];rfl
 have eW:X'.w=X.w:=by rw[<-hX'];rfl
 have eK:X'.K=X.K:=by rw[<-hX'];rfl
 have eA:X'.A=X.A:=by rw[<-hX'];rfl
 have eFs:X'.fs=frs X.stack:=by rw[<-hX'];rfl
 have eEx:X'.ex=fp:=by rw[<-hX'];rfl
 have eS:X'.s₀=s2:=by rw[<-hX'];rfl
 have eH:X'.H₀=H2:=by rw[<-hX'];rfl
 have eL:X'.env.locals=C:=by rw[<-hX'];rfl
 have eC:X'.calm=true:=by rw[<-hX'];exact hc
 have eX:X'.xe=λ_ _=>False:=by rw[<-hX'];rfl
 have ePn:X'.pn=[]:=by rw[<-hX'];rfl
 have hg':PG X' tg g:=by rw[<-hX'];exact hg cs C fp s2 H2
 have ht':PIf X' ifs tt:=by rw[<-hX'];exact ht cs C fp s2 H2
 have he':PE X' elt te:=by rw[<-hX'];exact he cs C fp s2 H2
 have stat:∀{H':Hp}{P:List (Addr×Obj)},X'.Ok->(∀b∈fp,H' b=none)->(∀p∈P,p.1=l)->∀b∈fp,nY X' P H' b:=λ{H' P} ok hn hP b hb=>by
  refine⟨hn b hb,?_,?_,.inl (by rw[eEx];exact hb),?_,λp hp=>?_⟩
  .exact(ok.exf b (by rw[eEx];exact hb)).1
  .exact ok.exfs b (by rw[eEx];exact hb)
  .exact(ok.exf b (by rw[eEx];exact hb)).2
  .rw[ePn,List.nil_append]at hp
   rw[hP p hp]
   exact Ne.symm (hfl b hb).1
 have lfs:X'.Ok->l∉X'.fs:=λok hz=>by
  rw[eFs]at hz
  exact(Inv.nofs (X:=X) I2 hls) ((Zi.mp (I2.stkSub l hz)).elim (λz=>absurd I2.lt (by rw[<-z,hl];exact Nat.lt_irrefl _)) id)
 have pinL:∀{σ':St}{H':Hp}{s':Shared}{us:List Value}{k:Nat},Inv X' [] σ' H' s'->s'.heap.get? l=some (bR us k)->H' l=none->Inv X' [(l,bR us k)] σ' H' s':=λ{σ' H' s' us k} I' e n=>
  I'.pins_of λp hp=>by
   obtain rfl:p=(l,bR us k):=by simpa using hp
   exact⟨e,n,by rw[eL];exact hlC,lfs I'.ok,λv z=>by cases z⟩
 have loop:∀s3:Shared,s3={ s2 with heap:=h1}->codeAny (model X.prog X.w) X.A (.compLoop (.ListComp elt [⟨tg,iter,ifs,0⟩] scope pos) 0 (.ref it) (.ref l) X'.env) (compPost (model X.prog X.w) X.A X.xe (some (assign (.Name x₀ px₀) X.env)) (λ_ s'=>SP X pins D .next s') (.ref l) C) s3:=by
  rintro s3 rfl
  refine xV (E':=λ_ _=>False) (λn s'=>∃i ys us k H',Inv X' [] (cR own σ capI) H' s'/\tn i s'.heap/\(∀b∈fp,H' b=none)/\W i n ys H'/\Vals ys us/\s'.heap.get? l=some (bR us k)/\H' l=none/\ys.length<=sizeLine) (λ_ _ z=>z.elim) ?_ m0
   ⟨0,[],[],0,H2,I0,T.keep _ _ _ st2 λb _ o e=>keep1 b o e,λb hb=>(f2 b hb).1,w0,.nil,hl1,I2.hok.fresh hls,Nat.zero_le _⟩
  rintro n s3 ⟨i,ys,us,k,H3,I3,st3,fr3,w3,v3,o3,n3,z3⟩
  have I3p:=pinL I3 o3 n3
  have P1:∀p∈[(l,bR us k)],p.1=l:=λp hp=>by
   obtain rfl:p=(l,bR us k):=by simpa using hp
   rfl
  rcases turn i n ys H3 w3 with⟨stop,qn⟩|⟨go,hlt,step⟩
  .have q:=T.done X' eP eW eK eC i _ s3 _ H3 (λ_ _=>False) I3p (stat I3.ok fr3 P1) st3 stop
   rw[eA]at q
   refine wpAny_mono q (λr s4 ⟨hr,I4⟩=>?_) λ_ _ z=>z
   subst hr
   have pl:=I4.pin (l,bR us k) (by simp)
   obtain⟨m4,hn4,_⟩:=I4.loc
   rw[eL]at hn4
   have fC:H3 C=none:=by have:=I4.free;rw[eL]at this;exact this
   have IE:Inv X pins σ (upd H3 l (.lst ys)) s4:=by
    have:=I2.compEnd f2 eP eW eFs eEx eS eH eL I4 hls hlC hCs pl.1 n3 v3 z3 (Heap.SameBut.refl C s4.heap)
    exact this
   show wpAny _ X.A (assign (.Name x₀ px₀) X.env (.ref l)) _ _ s4
   refine wpAny_assign_Name (xr IE hN hi₀ hx₀ (v:=.ref l) rfl (λs5 I5 ⟨a,sa,ha⟩=>?_) hf₀)
   have hnL:C≠X.env.locals:=Nat.ne_of_gt (Zc I2.lt hCs)
   have hnc:∀y c,X.env.cells.lookup y=some c->c≠C:=λy c e=>by
    obtain⟨v,q⟩:=I2.cell y c e
    exact Zk (Zc q.lt hCs)
   have haC:C≠a:=by
    rcases ha with q|q
    .rw[q];exact hnL
    .exact Ne.symm (hnc _ _ q)
   obtain⟨o4,es4,ep4,ho4,r4⟩:=hn4
   refine⟨m4,⟨o4,es4,ep4,(sa.2 C haC).trans ho4,r4⟩,λh' sb=>⟨_,_,?_,qn l n3⟩⟩
   refine I5.turned (t':=s5.toks) (it:=C) (λb o hb e=>(sb.2 b hb).trans e) (by rw[aU (Ne.symm hlC)];exact fC) hnL (.inr (Zl I2.sz hCs)) hnc λp hp=>?_
   exact Zk (Zc (Ze (I2.pin p hp).1) hCs)
  .have q:=T.item X' eP eW eK eC i _ s3 _ H3 (λ_ _=>False) I3p (stat I3.ok fr3 P1) st3 go
   rw[eA]at q
   refine wpAny_mono q (λr s4 ⟨u,hr,h4⟩=>?_) λ_ _ z=>z
   subst hr
   refine wpAny_mono h4 (λ_ s5 ⟨x,H5,I5,r5,y5,st5,fr5⟩=>?_) λ_ _ z=>z
   have I5':=I5.pinned (stat I5.ok fr5 P1) (T.obj _ _ st5)
   have a1:=hg' _ s5 _ H5 x u _ I5' r5 (step x H5 y5)
   rw[eP,eW,eA,eX]at a1
   refine wpAny_mono a1 (λ_ s6 ⟨σ6,H6,I6,ft6,q6⟩=>?_) λ_ _ z=>z
   have a2:=ht' _ s6 σ6 H6 _ I6 q6
   rw[eP,eW,eA,eX]at a2
   refine wpAny_mono a2 (λok s7 ⟨H7,I7,q7⟩=>?_) λ_ _ z=>z
   have back:∀{H8:Hp}{s8:Shared},Inv X' ([(l,bR us k)]++rW fp s5.heap) σ6 H8 s8->Inv X' [] (cR own σ capI) H8 s8/\tn (i+1) s8.heap/\(∀b∈fp,H8 b=none)/\s8.heap.get? l=some (bR us k)/\H8 l=none:=λ{H8 s8} I8=>by
    have pl:=I8.pin (l,bR us k) (by simp)
    refine⟨(I8.weak ft6.1.symm ft6.2).pins_of λp hp=>absurd hp (by simp),T.keep _ _ _ st5 λb hb o e=>?_,λb hb=>?_,pl.1,pl.2.1⟩
    .exact(I8.pin (b,o) (Zn _ (Zn _ (gB hb e)))).1
    .obtain⟨o,e,d⟩:=T.obj _ _ st5 b hb
     exact(I8.pin (b,o) (Zn _ (Zn _ (gB hb e)))).2.1
   cases ok with
   |false=>
    rw[if_neg Zr]
    rw[if_neg Zr]at q7
    obtain⟨m',hm,w7⟩:=q7
    obtain⟨I8,st8,fr8,o8,n8⟩:=back I7
    exact⟨m',hm,i+1,ys,us,k,H7,I8,st8,fr8,w7,v3,o8,n8,z3⟩
   |true=>
    rw[if_pos rfl]
    rw[if_pos rfl]at q7
    have a3:=he' _ s7 σ6 H7 _ I7 q7
    rw[eP,eW,eA,eX]at a3
    refine wpAny_mono a3 (λyv s8 ⟨y,H8,I8',r8,m',hm,w8⟩=>?_) λ_ _ z=>z
    obtain⟨I8,st8,fr8,o8,n8⟩:=back I8'
    refine append_at (hsz:=by show us.toArray.size<=sizeLine;rw[Zd,<-v3.length];exact z3) o8 λh9 sb9 o9=>?_
    have I9:Inv X' [] (cR own σ capI) H8 { s8 with heap:=h9}:=I8.turned (t':=s8.toks) (λb o hb e=>(sb9.2 b hb).trans e) n8 (by rw[eL];exact hlC) (.inr (by rw[eS];exact hls)) (λx c e=>by
     rintro rfl
     obtain⟨v',ho',hd',hd''⟩:=I8.cell x c e
     rw[o8]at hd'
     cases hd'
     cases hd'') (λp hp=>by rw[ePn]at hp;exact absurd hp (by simp))
    refine⟨m',hm,i+1,ys++[y],us++[yv],k+1,H8,I9,T.keep _ _ _ st8 λb hb o e=>(sb9.2 b (hfl b hb).1).trans e,fr8,w8,v3.append (.cons r8 .nil),?_,n8,?_⟩
    .rw[o9]
     simp[bR]
    .rw[List.length_append]
     exact hlt
 have T0:=T.keep 0 s2.heap h1 st2 λb _ o e=>keep1 b o e
 rw[henv2]
 exact codeAny_compStart_list (loop _ rfl) (T.self X.A 0 _ _ _ T0 (loop _ rfl))
end
end L2
namespace L3
open PySem PySem.Spec PyProof.Rows L2
section
variable {X:Cx} {tb:List Addr} {e tg iter elt:Expr} {f:EF} {pos:Pos}
theorem Mv{fi:IF}{h:GF}{tt:TF}{fe:EF}{own:List Str}{capI ts:List Nat}{σ:SV}{H:Hp}{Q:VK}(hts:∀i∈ts,i<own.length)(hx:tDN X.K tb (lLC own capI fi h tt fe) σ H Q):
  tLC own capI (tDI X.K tb fi) (tDG X.K tb ts h) (tDT X.K tb tt) (tD X.K tb fe) σ H Q:=by
  obtain⟨W,δ,ds,μ',e,ok,hd,hf,k⟩:=hx
  unfold lLC at hf
  obtain⟨⟨S,μ1⟩,e1,e2⟩:=Za.mp hf
  split at e2
  .rename_i hz
   refine⟨W,δ,S,μ1,e,ok,hd,e1,λJ W1 ok1 l1 m1 io=>?_⟩
   refine⟨λi m ys H2=>m=S.items.length-i/\i<=S.items.length/\ys.length<=i/\∃W2 zs rs,W2.H=H2/\WOk X.K tb W2/\Le tb W1 W2/\cJ X.K tb W2 zs ys/\lcL S h tt fe (cW own δ capI) (S.items.drop i) W2.mu=some (rs,μ')/\zs++rs=ds,
    ⟨S.items.length,rfl,Nat.zero_le _,Nat.zero_le _,W1,[],ds,rfl,ok1,Le.refl _,aD.nil,by rw[m1];exact e2,rfl⟩,?_⟩
   rintro i m ys H2 ⟨hm,hi',hy,W2,zs,rs,rfl,ok2,l2,d2,hn,hzs⟩
   by_cases hlt:i<S.items.length
   .right
    have hdr:S.items.drop i=S.items[i]::S.items.drop (i+1):=List.drop_eq_getElem_cons hlt
    rw[hdr]at hn
    unfold lcL at hn
    split at hn
    .rename_i hok
     obtain⟨δ3,e3,hn⟩:=Za.mp hn
     obtain⟨⟨kk,μ4⟩,e4,hn⟩:=Za.mp hn
     obtain⟨go,yl⟩:=io.go i W2 S.items[i] l2 ok2 hok (by simp[hlt])
     refine⟨go,Zc (Nat.lt_of_le_of_lt hy hlt) hz,λx H' y=>?_⟩
     obtain⟨W3,rfl,ok3,l3,m3,d3⟩:=yl x H' y
     refine⟨W3,cW own δ capI,S.items[i],δ3,rfl,ok3,(ug hd).mono' ((l1.trans l2).trans l3),d3,(by rw[m3];exact e3),λσ3 d3' hl3 ht3=>⟨fits_of hts hl3 ht3,?_⟩⟩
     refine⟨W3,δ3,kk,μ4,rfl,ok3,d3',(by rw[m3];exact e4),λW4 ok4 l4 m4=>?_⟩
     cases kk with
     |false=>
      rw[if_neg Zr]
      exact⟨S.items.length-(i+1),by omega,rfl,hlt,by omega,W4,zs,rs,rfl,ok4,(l2.trans l3).trans l4,cJ.mono' d2 (l3.trans l4),by rw[m4];exact hn,hzs⟩
     |true=>
      rw[if_pos rfl]
      have hn':((fe δ3 μ4).bind λy=>(lcL S h tt fe (cW own δ capI) (S.items.drop (i+1)) y.2).bind λys=>some (y.1::ys.1,ys.2))=some (rs,μ'):=hn
      obtain⟨⟨yd,μ5⟩,e5,hn'⟩:=Za.mp hn'
      obtain⟨⟨rs',μ6⟩,e6,e7⟩:=Za.mp hn'
      cases e7
      refine⟨W4,δ3,yd,μ5,rfl,ok4,d3'.mono' l4,(by rw[m4];exact e5),λv W5 ok5 l5 m5 d5=>?_⟩
      refine⟨S.items.length-(i+1),by omega,rfl,hlt,by rw[List.length_append];simp;omega,W5,zs++[yd],rs',rfl,ok5,((l2.trans l3).trans l4).trans l5,aD.append (cJ.mono' d2 ((l3.trans l4).trans l5)) (aD.cons d5 aD.nil),by rw[m5];exact e6,by rw[List.append_assoc];exact hzs⟩
    .cases hn
   .left
    have hdr:S.items.drop i=[]:=List.drop_of_length_le (by omega)
    rw[hdr]at hn
    unfold lcL at hn
    split at hn
    .rename_i hok
     cases hn
     rw[List.append_nil]at hzs
     subst hzs
     exact⟨io.stop i W2 l2 ok2 hok (by omega),λl hl=>k l ys W2 ok2 (l1.trans l2) rfl hl d2⟩
    .cases hn
  .cases e2
theorem Nv{i:Nat}{x:Str}{px spos:Pos}{ifs:List Expr}{fi:IF}{h:GF}{tt:TF}{fe:EF}{own cap:List Str}{capI ts:List Nat}{scope:Scope}(hN:X.N.Nodup)(hc:X.calm=true)(B:fY X own cap capI scope)(hown:∀x∈own,(x,NameKind.free)∉scope.names)(hi:PID X tb tg iter fi)
  (hg:∀cs C fp s2 H2,PGD (dW X own cap scope cs C fp s2 H2) tb tg ts h) (ht:∀cs C fp s2 H2,MF (dW X own cap scope cs C fp s2 H2) tb ifs tt) (he:∀cs C fp s2 H2,PD (dW X own cap scope cs C fp s2 H2) tb elt fe)
  (hts:∀i∈ts,i<own.length:=by decide) (hs:∀x,foldedSetIterable iter X.env x=pure x:=by intro _;rfl) (hi₀:X.N[i]? =some x:=by rfl) (hx₀:Loc X.env.scope x:=by first|exact Or.inl rfl|exact Or.inr rfl)
  (hsw:swapsWith (.ListComp elt [⟨tg,iter,ifs,0⟩] scope pos) (some (.Name x px)) spos.line X.env=pure true:=by rfl)
  (hf₀:X.fn x=true∨X.env.scope.names.lookup x=some .local:=by first|exact .inl rfl|exact .inr rfl|assumption):
  PSD X tb (.Assign [.Name x px] (.ListComp elt [⟨tg,iter,ifs,0⟩] scope pos) spos) (aV i (mFz (lLC own capI fi h tt fe))):=
 mR (Tt (g:=tDG X.K tb ts h) (tt:=tDT X.K tb tt) (te:=tD X.K tb fe) hN hi₀ hx₀ hc B hown hi hg ht he hs hsw hf₀) λE σ H zq1=>by
  obtain⟨W,δ,fl,δ',μ',e,ok,hd,hf,k⟩:=zq1
  unfold aV at hf
  obtain⟨⟨d,μ1⟩,e1,e2⟩:=Za.mp hf
  cases e2
  unfold mFz at e1
  obtain⟨⟨ds,μ2⟩,e3,e4⟩:=Za.mp e1
  cases e4
  refine Mv hts ⟨W,δ,ds,_,e,ok,hd,e3,λp vs W1 ok1 l1 m1 hp r=>?_⟩
  exact lH (Q:=λv H=>E.nx (σ.set i (some v)) H) ok1 (λv W' ok' l' m' d'=>k _ W' ok' (l1.trans l') (m'.trans m1) ((hd.mono' (l1.trans l')).set d')) r hp
end
theorem Ml{P:Program}{w:World}{K:PySem.W.Frag}{mg:Str->Option Value}{base:Heap}{tb:List Addr}{x qual:Str}{st:Stmt}{f:Addr}{fd:FuncData}{T:Addr}{N ps:List Str}{n k:Nat}{g:SF}(F:dG K x qual st f fd T)(KB:K.In base)(S:bc N ps (aP st))(hps:ps.length=n)
  (hbody:∀(c:Addr)(A:Around)(outer:List Env)(s:Shared)(H:Hp)(E:XK),PySem.W.CodeHd base c T->fu k (A.deeper (envOfC qual (aP st) s.heap.objs.size f (.ref c)))->
   ww (Cj CX0 P w K mg base N qual (aP st) f (.ref c) A outer s H E).nox tb (jO st) g):tR P w K mg base CX0 (k+1) f fd ps (spD K tb n (aH N.length g)):=by
 obtain⟨oc,od,kV,doc,pm,an,c,ct,osl,rfl,lk,hcd,hhd⟩:=F.ex
 refine Ot lk hcd S (λvs H Q E ⟨W,ds,d,μ',e,ok,dl,hl,_⟩=>by rw[<-aD.length dl,hl,hps]) λA outer s H vs Q E hr hsp=>?_
 obtain⟨W,ds,d,μ',e,ok,dl,hl,hf,k⟩:=hsp
 refine⟨_,(hbody c A outer s H E (hhd base KB) hr).nox,?_⟩
 unfold aH at hf
 obtain⟨⟨fl,δ',μ1⟩,e1,e2⟩:=Za.mp hf
 refine⟨W,_,fl,δ',μ1,e,ok,?_,e1,λσ' W' ok' l' m' d'=>?_⟩
 .have hlen:=aD.length dl
  refine⟨by unfold L2.start;simp[hlen],λi y q=>?_⟩
  unfold L2.start
  by_cases hi:i<ds.length
  .rw[Zs (by simpa using hi),List.getElem?_map]at q
   cases q2:ds[i]? with
   |none=>rw[q2]at q;cases q
   |some z=>
    rw[q2]at q
    cases q
    obtain⟨v,ev,dv⟩:=aD.get dl q2
    exact⟨v,by rw[Zs (by rw[Zu,<-hlen];exact hi),List.getElem?_map,ev];rfl,dv⟩
  .rw[List.getElem?_append_right (by simpa using hi),List.getElem?_replicate]at q
   split at q<;>cases q
 .cases fl with
  |nx=>cases e2;exact k .non W' ok' l' m' tZ
  |rt d0=>cases e2;exactλv dv=>k v W' ok' l' m' dv
  |bk=>cases e2
  |ct=>cases e2
def yW(vs:Array Value):Bool:=(match vs.getD 18 .none with| .str _ _=>true|_=>false)&&(match vs.getD 7 .none with| .int _ _=>true|_=>false)&&
 (match vs.getD 9 .none with| .bool _=>true|_=>false)&&(match vs.getD 10 .none with| .int _ _=>true|_=>false)
theorem FJ{K:PySem.W.Frag}{c P:Addr}{dd:Option Addr}{vs:Array Value}{sl:Array (Option Value)}(lc:K.lookup c=some ⟨.type "code",dd,.fields vs,sl⟩)(p:vs[11]? =some (.ref P))(q:yW vs=true)(ne:(c != P)=true):PySem.W.codeHdIn K c P=true:=by
 unfold PySem.W.codeHdIn
 rw[lc]
 unfold yW at q
 simp only[Zo]at q ⊢
 obtain⟨⟨⟨q1,q2⟩,q3⟩,q4⟩:=q
 refine⟨⟨⟨⟨⟨?_,q1⟩,q2⟩,q3⟩,q4⟩,ne⟩
 rw[p]
 exact beq_self_eq_true P
theorem MN{K:PySem.W.Frag}{x qual:Str}{st:Stmt}{f c P:Addr}{oc:Value}{od an:Option Addr}{osl:Array (Option Value)}{kV doc pm ct:Value}{dd:Option Addr}{vs:Array Value}{sl:Array (Option Value)}
  (l:K.lookup f=some ⟨oc,od,.func (PySem.W.fnOf x qual (mD st) (jO st) (aP st) .none kV doc pm an (.ref c) ct),osl⟩) (hc:PySem.W.codeIn K (.ref c) qual=true) (k:PySem.W.keepIn K (.ref f)=true)
  (lc:K.lookup c=some ⟨.type "code",dd,.fields vs,sl⟩) (p:vs[11]? =some (.ref P)) (q:yW vs=true) (ne:(c != P)=true):dG K x qual st f (PySem.W.fnOf x qual (mD st) (jO st) (aP st) .none kV doc pm an (.ref c) ct) P:=
 ⟨⟨oc,od,kV,doc,pm,an,c,ct,osl,rfl,l,hc,λh X=>PySem.W.codeHd_of_K X (FJ lc p q ne)⟩,k⟩
theorem Sg{K:PySem.W.Frag}{x:Str}{f c P:Addr}{oc oc':Value}{od dd:Option Addr}{fd:FuncData}{osl sl:Array (Option Value)}{vs:Array Value}(a:PySem.W.nsIn K mainGlobals x=some (some (.ref f)))(l:K.lookup f=some ⟨oc,od,.func fd,osl⟩)(hc:fd.code= .ref c)
  (lc:K.lookup c=some ⟨oc',dd,.fields vs,sl⟩) (p:vs[11]? =some (.ref P)):PySem.W.tabIn K x=some (c,P):=by
 unfold PySem.W.tabIn
 rw[a]
 simp only[l,hc,lc,p]
theorem mQ{q:Program}{lo:List Str}{mean:ExcName->Option Value}{mg mb:Str->Option Value}{h:Heap}{K:PySem.W.Frag}{x:Str}{c P:Addr}(T:Top q lo mean mg mb h)(X:K.In h)(hr:((recsOf q).find? (λe=>e.name==x)).isSome=true)(ht:PySem.W.tabIn K x=some (c,P)):PySem.W.CodeHd h c P/\h.get? P=some (PySem.W.tabObj #[]):=by
 obtain⟨d,hd⟩:=Option.isSome_iff_exists.mp hr
 exact PySem.W.tab_of T X hd ht
end L3
namespace L2
open PySem PySem.Spec PyProof.Rows HT
section
variable {prog:Program} {w:World} {A:Around} {E:Value->Shared->Prop} {s:Shared}
theorem pA{t sl:Addr}{items:Array Value}{vl vu:Value}{lo hi:Option Int}{Q:Value->Shared->Prop}(ht:IsTup s.heap t items)(hs:s.heap.IsSliceOf sl vl vu .none)(pl:IsPart vl lo)(pu:IsPart vu hi)
  (hw:sIx items.size 0 lo=0/\sIx items.size items.size hi=items.size) (h:Q (.ref t) s):wpAny (model prog w) A (getItem (.ref t) (.ref sl)) Q E s:=by
 obtain⟨os,hos,hcs,hds⟩:=id hs
 have hTs:s.TypeIs (.ref sl) "slice":=⟨os,hos,hcs⟩
 unfold getItem
 try with_reducible refine wpAny_holding ?_
 first|refine wpAny_bind (wpAny_pure ?_)|skip
 refine wpAny_bind (wpAny_sequenceKey ht.typeIs (by decide) ?_)
 refine wpAny_bind (wpAny_callSpecial?_slot (name:=Str.ofString "__getitem__") ht.typeIs PyProof.Rows.slot_tuple_getitem
  (wpAny_call_entry PyProof.Rows.slot_tuple_getitem ht.typeIs entry_tuple_getitem ?_ (args_tuple_getitem _ _)))
 show wpAny _ _ (Builtin.Tuple.tupleItemsOf (.ref t) >>= _) _ _ s
 refine wpAny_bind (tupleItemsOf_ ht ?_)
 refine wpAny_bind (wpAny_typeOf hTs ?_)
 rw[if_pos (by decide)]
 refine wpAny_bind (lX hs pl pu ?_)
 have hyes:(((sIx items.size 0 lo:Nat):Int)==0&&(1:Int)==1&&(sIx items.size items.size hi-sIx items.size 0 lo)==items.size)=true:=by
  rw[hw.1,hw.2]
  simp
 show wpAny _ _ (if(((sIx items.size 0 lo:Nat):Int)==0&&(1:Int)==1&&(sIx items.size items.size hi-sIx items.size 0 lo)==items.size)=true then _ else _) _ _ s
 rw[if_pos hyes]
 refine wpAny_bind (m:=Builtin.Tuple.tupleIsExact (.ref t)) (wpAny_bind (wpAny_typeOf ht.typeIs (wpAny_pure ?_)))
 rw[if_pos (by decide)]
 refine wpAny_bind (wpAny_rule ?_)
 first
  |exact wpAny_pure ⟨_,rfl,wpAny_pure h⟩
  |exact wpAny_bind (wpAny_pure (wpAny_pure ⟨_,rfl,wpAny_pure h⟩))
  |exact wpAny_pure (wpAny_pure h)
end
section
variable {X:Cx}
def rSlW(K:PySem.W.Frag):V->Option Int->Option Int->Hp->VK->Prop:=λx lo hi H Q=>∃a xs,x= .ref a/\SqT K H a xs/\
 (HT.sIx xs.length 0 lo=0/\HT.sIx xs.length xs.length hi=xs.length)/\Q (.ref a) H
theorem NB:SlR X (rSlW X.K):=by
 intro pins s σ H x v vl vu lo hi sl Q I rx hs pl pu h
 obtain⟨a,xs,rfl,hx,hw,q⟩:=h
 cases rx
 obtain⟨its,r,ht,hz⟩:=I.tuple hx
 have hlen:its.toArray.size=xs.length:=by rw[Zd];exact r.length.symm
 refine⟨"tuple",_,PyProof.Rows.slot_tuple_getitem.lookup,ht.typeIs,?_⟩
 exact pA ht hs pl pu (by rw[hlen];exact hw) ⟨.ref a,H,I,rfl,q⟩
end
end L2
namespace L3
open PySem PySem.Spec PyProof.Rows L2
abbrev PF:=En->Mu->Option (Option Int×Mu)
def tDO(K:PySem.W.Frag)(tb:List Addr)(f:PF):TO:=λσ H Q=>∃W δ i μ',W.H=H/\WOk K tb W/\jH K tb W δ σ/\f δ W.mu=some (i,μ')/\∀W',WOk K tb W'->Le tb W W'->W'.mu=μ'->Q i W'.H
def POD(X:Cx)(tb:List Addr)(e:Option Expr)(f:PF):Prop:=PO X e (tDO X.K tb f)
theorem Ph{X:Cx}{e:Option Expr}{t t':TO}(h:PO X e t)(k:∀σ H Q,t' σ H Q->t σ H Q):PO X e t':=λpins s σ H Q I hq=>h pins s σ H Q I (k σ H Q hq)
def fNo:PF:=λ_ μ=>some (none,μ)
def fAt(f:EF):PF:=λδ μ=>(f δ μ).bind λr=>match r.1 with
 | .int i=>some (some i,r.2)
 |_=>none
def cutD(ds:List D)(lo hi:Option Int):List D:=(ds.drop (HT.sIx ds.length 0 lo)).take (HT.sIx ds.length ds.length hi-HT.sIx ds.length 0 lo)
def oSl(x:D)(lo hi:Option Int)(μ:Mu):Option (D×Mu):=match x with
 | .tup ds=>some (.tup (cutD ds lo hi),μ)
 | .lst ds=>some (.lst (cutD ds lo hi),μ)
 | .ro ds=>some (.lst (cutD ds lo hi),μ)
 | .cell n=>match μ[n]? with
  |some (some ds)=>some (.lst (cutD ds lo hi),μ)
  |_=>none
 |_=>none
def mSl(f:EF)(fl fh:PF):EF:=λδ μ=>(f δ μ).bind λr=>(fl δ r.2).bind λl=>(fh δ l.2).bind λu=>oSl r.1 l.1 u.1 u.2
section
variable {X:Cx} {tb:List Addr} {e:Expr} {lo hi:Option Expr} {f:EF} {fl fh:PF} {pos p2:Pos}
theorem jz:POD X tb none fNo:=Ph Np λσ H Q zq1=>by
 obtain⟨W,δ,i,μ',e,ok,hd,hf,h⟩:=zq1
 subst e;cases hf
 exact h W ok (Le.refl _) rfl
theorem jy(h:PD X tb e f):POD X tb (some e) (fAt f):=Ph (Ms h) λσ H Q zq2=>by
 obtain⟨W,δ,i,μ',e,ok,hd,hf,h⟩:=zq2
 unfold fAt at hf
 obtain⟨⟨x,μ1⟩,e1,e2⟩:=Za.mp hf
 cases x with
 |int j=>
  cases e2
  exact⟨W,δ,_,_,e,ok,hd,e1,λv W1 ok1 l1 m1 d1=>⟨j,bx d1,h W1 ok1 l1 m1⟩⟩
 |_=>cases e2
theorem oO{K:PySem.W.Frag}{W:Wd}{ds:List D}{vs:List V}{l h:Option Int}(r:cJ K tb W ds vs):cJ K tb W (cutD ds l h) (zG vs l h):=by
 unfold cutD zG
 rw[<-aD.length r]
 exact aD.take _ (aD.drop _ r)
theorem jZ(he:PD X tb e f)(hl:POD X tb lo fl)(hh:POD X tb hi fh):PD X tb (.Subscript e (.Slice lo hi none p2) pos) (mSl f fl fh):=
 dO (Aq (PQ.or (NB.or Et)) he hl hh) λσ H Q zq3=>by
  obtain⟨W,δ,d,μ',e,ok,hd,hf,h⟩:=zq3
  unfold mSl at hf
  obtain⟨⟨x,μ1⟩,e1,hf⟩:=Za.mp hf
  obtain⟨⟨l,μ2⟩,e2,hf⟩:=Za.mp hf
  obtain⟨⟨u,μ3⟩,e3,hf⟩:=Za.mp hf
  refine⟨W,δ,x,μ1,e,ok,hd,e1,λv W1 ok1 l1 m1 d1=>⟨W1,δ,l,μ2,rfl,ok1,hd.mono' l1,(by rw[m1];exact e2),λW2 ok2 l2 m2=>⟨W2,δ,u,μ3,rfl,ok2,hd.mono' (l1.trans l2),(by rw[m2];exact e3),λW3 ok3 l3 m3=>?_⟩⟩⟩
  have d3:=Den.mono' d1 (l2.trans l3)
  have k:∀v W',WOk X.K tb W'->Le tb W3 W'->W'.mu=W3.mu->Den X.K tb W' d v->W3.mu=μ'->Q v W'.H:=λv W' ok' l' m' d' q=>h v W' ok' (((l1.trans l2).trans l3).trans l') (m'.trans q) d'
  cases x with
  |tup ds=>
   obtain⟨a,xs,rfl,q,r⟩:=jK d3
   cases hf
   by_cases hw:HT.sIx ds.length 0 l=0/\HT.sIx ds.length ds.length u=ds.length
   .have e:cutD ds l u=ds:=by unfold cutD;rw[hw.1,hw.2];simp
    exact .inr (.inl ⟨a,xs,rfl,SqT.fz q,by rw[<-aD.length r];exact hw,k (.ref a) W3 ok3 (Le.refl _) rfl (by rw[e];exact d3) m3⟩)
   .exact .inl ⟨a,xs,rfl,SqT.fz q,by rw[<-aD.length r];exact hw,λp hp=>lD ok3 (λv W' ok' l' m' d'=>k v W' ok' l' m' d' m3) (oO r) hp⟩
  |lst ds=>
   obtain⟨a,xs,rfl,q,r⟩:=mL d3
   cases hf
   exact .inr (.inr ⟨a,xs,rfl,SqL.fz q,λp hp=>lH ok3 (λv W' ok' l' m' d'=>k v W' ok' l' m' d' m3) (oO r) hp⟩)
  |ro ds=>
   obtain⟨a,xs,rfl,q,r⟩:=xF d3
   cases hf
   exact .inr (.inr ⟨a,xs,rfl,SqL.fz q,λp hp=>lH ok3 (λv W' ok' l' m' d'=>k v W' ok' l' m' d' m3) (oO r) hp⟩)
  |cell n=>
   obtain⟨a,rfl,q⟩:=iV d3
   have hf:(match μ3[n]? with|some (some ds)=>some (D.lst (cutD ds l u),μ3)|_=>none)=some (d,μ'):=hf
   cases e4:μ3[n]? with
   |none=>rw[e4]at hf;cases hf
   |some o=>
    rw[e4]at hf
    cases o with
    |none=>cases hf
    |some ds=>
     cases hf
     obtain⟨xs,ex,r⟩:=ok3.cont n a ds q (by rw[m3];exact e4)
     exact .inr (.inr ⟨a,xs,rfl,SqL.of ex,λp hp=>lH ok3 (λv W' ok' l' m' d'=>k v W' ok' l' m' d' m3) (oO r) hp⟩)
  |_=>cases hf
end
theorem Gq{zs:List V}{ws:List Value}(r:Vals zs ws):∀(π:List Nat),Vals (π.map λi=>zs.getD i .non) (π.map λi=>ws.getD i .none)
 | []=>.nil
 |i::π=>by
  refine .cons ?_ (Gq r π)
  show L2.RelV (zs.getD i V.non) (ws.getD i Value.none)
  cases e:zs[i]? with
  |none=>
   have e2:=Vals.none_of r e
   rw[List.getD_eq_getElem?_getD,List.getD_eq_getElem?_getD,e,e2]
   rfl
  |some v=>
   obtain⟨u,e2,rv⟩:=Vals.get r e
   rw[List.getD_eq_getElem?_getD,List.getD_eq_getElem?_getD,e,e2]
   exact rv
theorem uH{K:PySem.W.Frag}{tb:List Addr}{W:Wd}{ds:List D}{vs:List V}(r:cJ K tb W ds vs):∀(π:List Nat),cJ K tb W (π.map λi=>ds.getD i .non) (π.map λi=>vs.getD i .non)
 | []=>aD.nil
 |i::π=>by
  refine aD.cons ?_ (uH r π)
  show bA K (Wd.fz tb W) W.ad (ds.getD i D.non) (vs.getD i V.non)
  have hl:=aD.length r
  cases e:ds[i]? with
  |none=>
   have e2:vs[i]? =none:=by
    rw[List.getElem?_eq_none_iff]at e ⊢
    omega
   rw[List.getD_eq_getElem?_getD,List.getD_eq_getElem?_getD,e,e2]
   exact tZ
  |some v=>
   obtain⟨u,e2,rv⟩:=aD.get r e
   rw[List.getD_eq_getElem?_getD,List.getD_eq_getElem?_getD,e,e2]
   exact rv
theorem wM{X:Cx}:je X (.type "range") (λxs H Q=>∃j,xs=[.int j]/\∀p,H p=none->Q (.ref p) (upd H p (.rng 0 j))):=by
 intro pins s σ H xs us Q I r h
 obtain⟨j,rfl,q⟩:=h
 obtain⟨u,rfl,⟨t,rfl⟩⟩:=vals1 r
 exact call_range_1 ⟨.ref s.heap.objs.size,_,I.laid (a:=s.heap.objs.size) (o:=.rng 0 j) (λb o e=>Zb _ e) (Zg _) ⟨_,_,_,Zf _ rfl⟩,rfl,q _ (I.hok.fresh (Zg _))⟩
theorem Fq{X:Cx}:je X (.type "range") (λxs H Q=>∃i j,xs=[.int i,.int j]/\∀p,H p=none->Q (.ref p) (upd H p (.rng i j))):=by
 intro pins s σ H xs us Q I r h
 obtain⟨i,j,rfl,q⟩:=h
 obtain⟨u,w',rfl,⟨t,rfl⟩,⟨t',rfl⟩⟩:=vals2 r
 exact call_range_2 ⟨.ref s.heap.objs.size,_,I.laid (a:=s.heap.objs.size) (o:=.rng i j) (λb o e=>Zb _ e) (Zg _) ⟨_,_,_,Zf _ rfl⟩,rfl,q _ (I.hok.fresh (Zg _))⟩
def wA(lo:Int)(n:Nat):List V:=(List.range n).map λ(k:Nat)=>V.int (lo+(k:Int))
theorem rT{lo:Int}:∀{acc:List Value}{n k:Nat},acc.length=n->(∀j v,acc[j]? =some v->∃t,v=Value.int (lo+((k+j:Nat):Int)) t)->Vals ((List.range' k n).map λ(i:Nat)=>V.int (lo+(i:Int))) acc
 | [],n,k,e,_=>by cases e;exact .nil
 |v::r,n,k,e,h=>by
  cases e
  rw[List.length_cons,List.range'_succ,Zj]
  refine .cons ?_ (rT rfl λj u hu=>?_)
  .obtain⟨t,q⟩:=h 0 v rfl
   exact⟨t,by simpa using q⟩
  .obtain⟨t,q⟩:=h (j+1) u hu
   exact⟨t,by rw[q];congr 2;omega⟩
theorem wg{X:Cx}(hc:X.calm=true):je X (.type "list") (λxs H Q=>∃p i j,xs=[.ref p]/\H p=some (.rng i j)/\(-(2 ^ 62)<=i/\i<2 ^ 62/\ -(2 ^ 62)<=j/\j<2 ^ 62)/\(j-i).toNat<=sizeLine/\∀l,H l=none->Q (.ref l) (upd H l (.lst (wA i (j-i).toNat)))):=by
 intro pins s σ H xs us Q I r h
 obtain⟨p,i,j,rfl,hp,⟨h1,h2,h3,h4⟩,hz,q⟩:=h
 obtain⟨u,rfl,rx⟩:=vals1 r
 cases rx
 obtain⟨t,u,v,ho⟩:=I.hok p _ hp
 have hn:Builtin.Range.rangeSize i j 1=((j-i).toNat:Nat):=by rw[rangeSize_one];split<;>omega
 refine call_list_range (I.ok.hd hc) ho (small_one h1 h2 h3 h4) hn (by rw[sizeLine_eq]at hz;omega) λh' tk acc' c' kp e it=>?_
 obtain⟨e1,e2⟩:=it
 have hv:Vals (wA i (j-i).toNat) acc'.toList:=by
  unfold wA
  rw[List.range_eq_range']
  refine rT (by simpa using e1) λk v hk=>?_
  obtain⟨t,q⟩:=e2 k v (by simpa using hk)
  exact⟨t,by rw[q];congr 1;first|done|omega⟩
 exact⟨.ref s.heap.objs.size,_,I.laid (t':=tk) kp (Zg _) (show iD X.prog X.w _ h' _ (.lst _)from⟨by rw[hv.length];simpa[e1]using hz,acc'.toList,c',hv,by rw[Array.toArray_toList];exact e⟩),rfl,q _ (I.hok.fresh (Zg _))⟩
def Af(fs:AF):LF:=λδ μ=>(fs δ μ).bind λr=>match r.1 with
 | [.int j]=>if -(2 ^ 62)<=j/\j<2 ^ 62/\j.toNat<=sizeLine then some (cL 0 j.toNat,r.2)else none
 |_=>none
theorem uc{K:PySem.W.Frag}{F:Hp}{ad:List Addr}{lo:Int}:∀(l:List Nat),aD K F ad (l.map λ(k:Nat)=>D.int (lo+(k:Int))) (l.map λ(k:Nat)=>V.int (lo+(k:Int)))
 | []=>aD.nil
 |k::l=>aD.cons (by unfold bA;rfl) (uc l)
section
variable {X:Cx} {tb:List Addr} {a b:Expr} {fs:AF} {p p2 pos pos2:Pos}
theorem Hd(hc:X.calm=true)(hm:X.mg "list"=none)(hm2:X.mg "range"=none)(ha:PAD X tb [a] fs)(hg:Gl X "list":=by rfl)(hg2:Gl X "range":=by rfl)(he:starEach [a] X.env=(false,eval a X.env)::starEach [] X.env:=by rfl)
  (he2:starEach [.Call (.Name "range" p2) [a] [] pos2] X.env=(false,eval (.Call (.Name "range" p2) [a] [] pos2) X.env)::starEach [] X.env:=by rfl):
  PDN X tb (.Call (.Name "list" p) [.Call (.Name "range" p2) [a] [] pos2] [] pos) (Af fs):=
 dO (iJ (wg hc) hg hm PyProof.Rows.boot_list (mG (iJ wM hg2 hm2 PyProof.Rows.boot_range ha (by decide) (by decide) he (by rfl)) rE he2) (by decide) (by decide) he2 (by rfl)) λσ H Q zq3=>by
  obtain⟨W,δ,ds,μ',e,ok,hd,hf,k⟩:=zq3
  unfold Af at hf
  obtain⟨⟨xs,μ1⟩,e1,e2⟩:=Za.mp hf
  match xs,e1,e2 with
  | [.int j],e1,e2=>
   have e2':(if -(2 ^ 62)<=j/\j<2 ^ 62/\j.toNat<=sizeLine then some (cL 0 j.toNat,μ1)else none)=some (ds,μ'):=e2
   split at e2'
   .rename_i hj
    cases e2'
    refine⟨W,δ,[.int j],_,e,ok,hd,e1,λvs W1 ok1 l1 m1 d1=>?_⟩
    obtain⟨v,rfl,dv⟩:=aD.one d1
    rw[bx dv]
    refine⟨j,rfl,λq hq=>?_⟩
    obtain⟨ok2,l2,eq⟩:=ok1.alloc (o:=.rng 0 j) hq
    refine⟨q,0,j,rfl,cX,⟨by omega,by omega,by omega,by omega⟩,by simpa using hj.2.2,λl hl=>?_⟩
    have:=k l (wA 0 (j-0).toNat) _ ok2 (l1.trans l2) m1 hl (by simpa[cL,wA]using uc (List.range j.toNat) (lo:=0))
    exact this
   .cases e2'
end
def rC(f:EF):EF:=λδ μ=>(f δ μ).bind λr=>match r.1 with
 | .cell n=>(r.2.getD n none).map λds=>(.lst ds,r.2.set n none)
 |d=>some (d,r.2)
theorem pZ{X:Cx}{tb:List Addr}{e:Expr}{f:EF}(h:PD X tb e f):PD X tb e (rC f):=
 dO h λσ H Q zq1=>by
  obtain⟨W,δ,d,μ',e,ok,hd,hf,k⟩:=zq1
  unfold rC at hf
  obtain⟨⟨x,μ1⟩,e1,e2⟩:=Za.mp hf
  refine⟨W,δ,x,μ1,e,ok,hd,e1,λv W1 ok1 l1 m1 d1=>?_⟩
  cases x with
  |cell n=>
   obtain⟨ds,e3,e4⟩:=Zp.mp e2
   cases e4
   obtain⟨a,rfl,ea⟩:=iV d1
   have em:W1.mu[n]? =some (some ds):=by
    rw[m1]
    rw[List.getD_eq_getElem?_getD]at e3
    cases q:μ1[n]? with
    |none=>rw[q]at e3;cases e3
    |some z=>rw[q]at e3;exact congrArg some e3
   obtain⟨ok2,l2,d2⟩:=ok1.freeze ea em
   exact k _ ⟨W1.H,W1.ad,W1.mu.set n none⟩ ok2 (l1.trans l2) (by show W1.mu.set n none=_;rw[m1]) d2
  |_=>cases e2;exact k v W1 ok1 l1 m1 d1
mutual
def cLt(m:Nat):D->Bool
 | .tup ds=>oG m ds
 | .lst ds=>oG m ds
 | .ro ds=>oG m ds
 | .dic kvs=>zN m kvs
 | .cell n=>decide (n<m)
 |_=>true
def oG(m:Nat):List D->Bool
 | []=>true
 |d::ds=>cLt m d&&oG m ds
def zN(m:Nat):List (Key×D)->Bool
 | []=>true
 |p::ds=>cLt m p.2&&zN m ds
end
section
variable {K:PySem.W.Frag} {F F':Hp} {ad:List Addr} {m:Nat}
mutual
theorem bA.cut(s:mZ F F'):∀(d:D)(v:V),cLt m d=true->bA K F ad d v->bA K F' (ad.take m) d v
 | .non,v,_,h=>by unfold bA at h ⊢;exact h
 | .bl _,v,_,h=>by unfold bA at h ⊢;exact h
 | .int _,v,_,h=>by unfold bA at h ⊢;exact h
 | .str _,v,_,h=>by unfold bA at h ⊢;exact h
 | .tup ds,v,c,h=>by
  unfold bA at h ⊢;unfold cLt at c
  obtain⟨a,xs,e,q,r⟩:=h
  exact⟨a,xs,e,SqT.mono s q,aD.cut s ds xs c r⟩
 | .lst ds,v,c,h=>by
  unfold bA at h ⊢;unfold cLt at c
  obtain⟨a,xs,e,q,r⟩:=h
  exact⟨a,xs,e,s _ _ q,aD.cut s ds xs c r⟩
 | .ro ds,v,c,h=>by
  unfold bA at h ⊢;unfold cLt at c
  obtain⟨a,xs,e,q,r⟩:=h
  exact⟨a,xs,e,SqL.mono s q,aD.cut s ds xs c r⟩
 | .dic kvs,v,c,h=>by
  unfold bA at h ⊢;unfold cLt at c
  obtain⟨a,ps,e,q,r⟩:=h
  exact⟨a,ps,e,s _ _ q,jB.cut s kvs ps c r⟩
 | .cell n,v,c,h=>by
  unfold bA at h ⊢;unfold cLt at c
  obtain⟨a,e,q⟩:=h
  exact⟨a,e,by rw[List.getElem?_take_of_lt (by simpa using c)];exact q⟩
theorem aD.cut(s:mZ F F'):∀(ds:List D)(vs:List V),oG m ds=true->aD K F ad ds vs->aD K F' (ad.take m) ds vs
 | [],vs,_,h=>by unfold aD at h ⊢;exact h
 |d::ds,vs,c,h=>by
  unfold aD at h ⊢;unfold oG at c
  have c:=(Zo _ _).mp c
  obtain⟨u,us,e,p,r⟩:=h
  exact⟨u,us,e,bA.cut s d u c.1 p,aD.cut s ds us c.2 r⟩
theorem jB.cut(s:mZ F F'):∀(ds:List (Key×D))(vs:List (Key×V)),zN m ds=true->jB K F ad ds vs->jB K F' (ad.take m) ds vs
 | [],vs,_,h=>by unfold jB at h ⊢;exact h
 |p::ds,vs,c,h=>by
  unfold jB at h ⊢;unfold zN at c
  have c:=(Zo _ _).mp c
  obtain⟨u,us,e,⟨p1,p2⟩,r⟩:=h
  exact⟨u,us,e,⟨p1,bA.cut s p.2 u.2 c.1 p2⟩,jB.cut s ds us c.2 r⟩
end
end
def cOk(m:Nat)(μ:Mu):Bool:=μ.all λo=>match o with
 |some ds=>oG m ds
 |none=>true
theorem WOk.cut{K:PySem.W.Frag}{tb:List Addr}{W:Wd}{m:Nat}(ok:WOk K tb W)(c:cOk m (W.mu.take m)=true):
  WOk K tb ⟨W.H,W.ad.take m,W.mu.take m⟩/\mZ (W.fz tb) (Wd.fz tb ⟨W.H,W.ad.take m,W.mu.take m⟩):=by
 have lv:∀b,nu (W.ad.take m) (W.mu.take m) b->nu W.ad W.mu b:=λb zq2=>by
  obtain⟨i,es,e1,e2⟩:=zq2
  have h1:i<m:=by have:=(Zh.mp e1).1;simp at this;omega
  rw[List.getElem?_take_of_lt h1]at e1 e2
  exact⟨i,es,e1,e2⟩
 have sm:mZ (W.fz tb) (Wd.fz tb ⟨W.H,W.ad.take m,W.mu.take m⟩):=λb u e=>by
  obtain⟨e1,e2,e3⟩:=dB e
  have q:=pH (tb:=tb) (W:=⟨W.H,W.ad.take m,W.mu.take m⟩) (b:=b) (λz=>e2 (lv b z)) e3
  rw[q];exact e1
 refine⟨⟨by simp[ok.len],λi a ds e1 e2=>?_,λi j a ds es e1 e2 e3 e4=>?_,ok.tab⟩,sm⟩
 .have h1:i<m:=by have:=(Zh.mp e1).1;simp at this;omega
  have cd:oG m ds=true:=by
   have:=List.all_eq_true.mp c (some ds) (List.mem_of_getElem? e2)
   exact this
  have e1':(W.ad.take m)[i]? =some a:=e1
  have e2':(W.mu.take m)[i]? =some (some ds):=e2
  rw[List.getElem?_take_of_lt h1]at e1' e2'
  obtain⟨xs,e,r⟩:=ok.cont i a ds e1' e2'
  exact⟨xs,e,aD.cut sm ds xs cd r⟩
 .have h1:i<m:=by have:=(Zh.mp e1).1;simp at this;omega
  have h2:j<m:=by have:=(Zh.mp e2).1;simp at this;omega
  have e1':(W.ad.take m)[i]? =some a:=e1
  have e2':(W.ad.take m)[j]? =some a:=e2
  have e3':(W.mu.take m)[i]? =some (some ds):=e3
  have e4':(W.mu.take m)[j]? =some (some es):=e4
  rw[List.getElem?_take_of_lt h1]at e1' e3'
  rw[List.getElem?_take_of_lt h2]at e2' e4'
  exact ok.inj i j a ds es e1' e2' e3' e4'
def trunc(φ:FF):FF:=λds μ=>(φ ds μ).bind λr=>if(cLt μ.length r.1&&cOk μ.length (r.2.take μ.length))=true then some (r.1,r.2.take μ.length)else some r
theorem FI.trunc{P:Program}{w:World}{K:PySem.W.Frag}{mg:Str->Option Value}{base:Heap}{tb:List Addr}{x:Str}{n k:Nat}{φ:FF}(F:FI P w K mg base tb x n k φ):FI P w K mg base tb x n k (trunc φ):=by
 obtain⟨f,fd,ps,h1,h2⟩:=F.is
 refine⟨f,fd,ps,h1.imp λvs H Q E ⟨W,ds,d,μ',e,ok,dl,hl,hf,k⟩=>?_,h2⟩
 unfold L3.trunc at hf
 obtain⟨⟨d1,μ1⟩,e1,e2⟩:=Za.mp hf
 split at e2
 .rename_i hc
  have hc:=(Zo _ _).mp hc
  cases e2
  refine⟨W,ds,d1,μ1,e,ok,dl,hl,e1,λv W' ok' l' m' d'=>?_⟩
  obtain⟨ok2,sm⟩:=ok'.cut (m:=W.mu.length) (by rw[m'];exact hc.2)
  exact k v ⟨W'.H,W'.ad.take W.mu.length,W'.mu.take W.mu.length⟩ ok2 ⟨l'.same.trans sm,λi x q=>by
   have hi:i<W.mu.length:=by rw[<-ok.len];exact(Zh.mp q).1
   show(W'.ad.take W.mu.length)[i]? =some x
   rw[List.getElem?_take_of_lt hi];exact l'.ad i x q⟩ (by show W'.mu.take _=_;rw[m']) (bA.cut sm d1 v hc.1 d')
 .cases e2
  exact⟨W,ds,d,μ',e,ok,dl,hl,e1,k⟩
theorem iH{φ:FF}{ds:List D}{μ μ':Mu}{d:D}(h:φ ds μ=some (d,μ'))(hl:μ'.length=μ.length):trunc φ ds μ=some (d,μ'):=by
 unfold trunc
 rw[h]
 simp only[Option.bind_some]
 rw[<-hl,List.take_length]
 split<;>rfl
theorem il{φ:FF}{ds:List D}{μ:Mu}{d:D}(h:φ ds μ=some (d,μ)):trunc φ ds μ=some (d,μ):=iH h rfl
theorem zM{K:PySem.W.Frag}{F:Hp}{ad:List Addr}:∀{ds:List D}{vs:List V}{d:D}{v:V}(j:Nat),aD K F ad ds vs->bA K F ad d v->aD K F ad (ds.set j d) (vs.set j v)
 | [],vs,d,v,j,r,h=>by
  unfold aD at r
  subst r
  exact aD.nil
 |x::ds,vs,d,v,j,r,h=>by
  unfold aD at r
  obtain⟨u,us,rfl,p,r⟩:=r
  cases j with
  |zero=>exact aD.cons h r
  |succ j=>exact aD.cons p (zM j r h)
def Cm(x o i:D)(μ:Mu):Option Mu:=match o,i with
 | .cell n,.int k=>match μ[n]? with
  |some (some ds)=>(ixN ds.length k).map λj=>μ.set n (some (ds.set j x))
  |_=>none
 |_,_=>none
def zT(f fo fi:EF):SF:=λδ μ=>(f δ μ).bind λr=>(fo δ r.2).bind λo=>(fi δ o.2).bind λi=>(Cm r.1 o.1 i.1 i.2).map λμ'=>(.nx,δ,μ')
theorem Ff{X:Cx}{tb:List Addr}{o i e:Expr}{f fo fi:EF}{pos pos':Pos}(he:PD X tb e f)(ho:PD X tb o fo)(hi:PD X tb i fi)
  (ha:∀v,assign (.Subscript o i pos') X.env v=(do
   let ov<-holding [v] (eval o X.env)
   let iv<-holding [v,ov] (eval i X.env)
   standAt pos'
   holding [v,ov,iv] (setItem ov iv v)
   release [v,ov,iv] []):=by intro _;rfl)
  (hs:swapsWithSole [.Subscript o i pos'] e pos.line X.env=pure false:=by rfl) (hw:swappedStores [.Subscript o i pos'] e X.env=pure none:=by rfl)
  (h1:(assignEach [.Subscript o i pos'] X.env).map (·.2)=[assign (.Subscript o i pos') X.env]:=by rfl):PSD X tb (.Assign [.Subscript o i pos'] e pos) (zT f fo fi):=
 mR (Jb he (Rp ho hi set_list ha) hs hw h1) λE σ H zq1=>by
  obtain⟨W,δ,fl,δ',μ',e,ok,hd,hf,h⟩:=zq1
  unfold zT at hf
  obtain⟨⟨x,μ1⟩,e1,hf⟩:=Za.mp hf
  obtain⟨⟨c,μ2⟩,e2,hf⟩:=Za.mp hf
  obtain⟨⟨k,μ3⟩,e3,hf⟩:=Za.mp hf
  obtain⟨μ4,e4,e5⟩:=Zp.mp hf
  cases e5
  refine⟨W,δ,x,μ1,e,ok,hd,e1,λv W1 ok1 l1 m1 d1=>⟨W1,δ,c,μ2,rfl,ok1,hd.mono' l1,(by rw[m1];exact e2),λu W2 ok2 l2 m2 d2=>⟨W2,δ,k,μ3,rfl,ok2,hd.mono' (l1.trans l2),(by rw[m2];exact e3),λy W3 ok3 l3 m3 d3=>?_⟩⟩⟩
  have d2:=Den.mono' d2 l3
  have d1:=Den.mono' d1 (l2.trans l3)
  cases c with
  |cell n=>
   cases k with
   |int k=>
    have e4':(match μ3[n]? with|some (some ds)=>(ixN ds.length k).map λj=>μ3.set n (some (ds.set j x))|_=>none)=some μ':=e4
    cases e6:μ3[n]? with
    |none=>rw[e6]at e4';cases e4'
    |some oo=>
     cases oo with
     |none=>rw[e6]at e4';cases e4'
     |some ds=>
      rw[e6]at e4'
      obtain⟨j,e7,e8⟩:=Zp.mp e4'
      obtain⟨a,rfl,q⟩:=iV d2
      have e6:W3.mu[n]? =some (some ds):=by rw[m3];exact e6
      obtain⟨xs,ex,r⟩:=ok3.cont n a ds q e6
      refine⟨a,xs,k,j,rfl,bx d3,ex,by rw[<-aD.length r];exact e7,?_⟩
      obtain⟨ok4,l4⟩:=ok3.write q e6 (zM j r d1)
      exact h _ _ ok4 (((l1.trans l2).trans l3).trans l4) (by rw[<-e8,<-m3]) (hd.mono' (((l1.trans l2).trans l3).trans l4))
   |_=>cases e4
  |_=>cases e4
def Cr(i:Nat)(f:EF)(op:O2):SF:=λδ μ=>match δ[i]? with
 |some (some x)=>(f δ μ).bind λr=>(op x r.1 r.2).map λz=>(.nx,δ.set i (some z.1),z.2)
 |_=>none
def Tc:O2
 | .int i,.int j,μ=>some (.int (i+j),μ)
 |_,_,_=>none
def Fe:O2
 | .int i,.int j,μ=>if jT i j<=134217728 then some (.int (i*j),μ)else none
 |_,_,_=>none
theorem Lx{X:Cx}:PIp X .Mult (λx y H Q=>∃i j,x= .int i/\y= .int j/\jT i j<=134217728/\Q (.int (i*j)) H):=by
 intro pins s σ H x y v u Q I r1 r2 h
 obtain⟨i,j,e1,e2,hb,q⟩:=h
 subst e1;subst e2
 obtain⟨t,rfl⟩:=r1
 obtain⟨t',rfl⟩:=r2
 exact imul_int ⟨.int _,H,I.tok _,⟨_,rfl⟩,q⟩ (IntMulOk.of_le (Zg _) (Zg _) hb)
section
variable {X:Cx} {tb:List Addr} {e:Expr} {f:EF} {pos pos':Pos} {i:Nat} {x:Str}
theorem QK{op:Operator}{o:O2}{ti:TIp}(hN:X.N.Nodup)(he:PD X tb e f)(hip:PIp X op ti)(hi:X.N[i]? =some x)(hx:Loc X.env.scope x)(hf:X.fn x=true∨X.env.scope.names.lookup x=some .local)
  (ho:∀x y μ d μ',o x y μ=some (d,μ')->μ'=μ/\∃a b c,x= .int a/\y= .int b/\d= .int c/\∀H Q,Q (.int c) H->ti (.int a) (.int b) H Q):PSD X tb (.AugAssign (.Name x pos') op e pos) (Cr i f o):=
 mR (RG hN hi hx he hip hf) λE σ H zq2=>by
  obtain⟨W,δ,fl,δ',μ',e,ok,hd,hf,h⟩:=zq2
  unfold Cr at hf
  cases e0:δ[i]? with
  |none=>rw[e0]at hf;cases hf
  |some oo=>
   cases oo with
   |none=>rw[e0]at hf;cases hf
   |some z=>
    rw[e0]at hf
    obtain⟨⟨y,μ1⟩,e1,hf⟩:=Za.mp hf
    obtain⟨⟨d,μ2⟩,e2,e3⟩:=Zp.mp hf
    obtain⟨rfl,a,b,c,rfl,rfl,rfl,q⟩:=ho _ _ _ _ _ e2
    cases e3
    obtain⟨v,ev,dv⟩:=hd.2 i _ e0
    rw[bx dv]at ev
    refine⟨.int a,ev,W,δ,_,_,e,ok,hd,e1,λu W1 ok1 l1 m1 d1=>?_⟩
    rw[bx d1]
    exact q _ _ (h _ W1 ok1 l1 m1 ((hd.mono' l1).set eN))
theorem Ci(hN:X.N.Nodup)(he:PD X tb e f)(hi:X.N[i]? =some x:=by rfl)(hx:Loc X.env.scope x:=by first|exact Or.inl rfl|exact Or.inr rfl)(hf:X.fn x=true∨X.env.scope.names.lookup x=some .local:=by first|exact .inl rfl|exact .inr rfl|assumption):PSD X tb (.AugAssign (.Name x pos') .Mult e pos) (Cr i f Fe):=
 QK hN he Lx hi hx hf λx y μ d μ' h=>by
  unfold Fe at h
  split at h
  .split at h
   .rename_i hb
    cases h
    exact⟨rfl,_,_,_,rfl,rfl,rfl,λH Q q=>⟨_,_,rfl,rfl,hb,q⟩⟩
   .cases h
  .cases h
end
def vg:D->Bool
 | .non=>true
 | .bl _=>true
 | .int _=>true
 | .str _=>true
 |_=>false
def eqF:D->D->Bool
 | .non,.non=>true
 | .bl a,.bl b=>a==b
 | .bl a,.int b=>(if a then 1 else 0)==b
 | .int a,.bl b=>a==(if b then 1 else 0)
 | .int a,.int b=>a==b
 | .str a,.str b=>a==b
 |_,_=>false
def inF(x:D)(ds:List D):Bool:=ds.any λy=>eqF y x
def oIn(neg:Bool):O2:=λx y μ=>(bI y μ).bind λds=>if vg x=true/\ds.all vg=true then some (.bl (if neg then !inF x ds else inF x ds),μ)else none
section
variable {K:PySem.W.Frag} {tb:List Addr} {W:Wd}
theorem vK{x:D}{v:V}(h:Den K tb W x v)(f:vg x=true):pG v=true/\(∀y u,Den K tb W y u->vg y=true->eqV v u=eqF x y):=by
 cases x with
 |non=>rw[pR h];refine⟨rfl,λy u d g=>?_⟩;cases y<;>first|(rw[pR d];rfl)|(rw[kJ d];rfl)|(rw[bx d];rfl)|(rw[lZ d];rfl)|cases g
 |bl b=>rw[kJ h];refine⟨rfl,λy u d g=>?_⟩;cases y<;>first|(rw[pR d];rfl)|(rw[kJ d];rfl)|(rw[bx d];rfl)|(rw[lZ d];rfl)|cases g
 |int b=>rw[bx h];refine⟨rfl,λy u d g=>?_⟩;cases y<;>first|(rw[pR d];rfl)|(rw[kJ d];rfl)|(rw[bx d];rfl)|(rw[lZ d];rfl)|cases g
 |str b=>rw[lZ h];refine⟨rfl,λy u d g=>?_⟩;cases y<;>first|(rw[pR d];rfl)|(rw[kJ d];rfl)|(rw[bx d];rfl)|(rw[lZ d];rfl)|cases g
 |_=>cases f
theorem rA{x:D}{v:V}(h:Den K tb W x v)(f:vg x=true):∀{ds:List D}{vs:List V},cJ K tb W ds vs->ds.all vg=true->vs.all pG=true/\inV v vs=inF x ds
 | [],vs,r,_=>by
  have r':aD _ _ _ _ _:=r
  unfold aD at r'
  subst r'
  exact⟨rfl,rfl⟩
 |d::ds,vs,r,g=>by
  have r':aD _ _ _ _ _:=r
  unfold aD at r'
  obtain⟨u,us,rfl,p,r2⟩:=r'
  rw[List.all_cons,Zo]at g
  obtain⟨h1,h2⟩:=rA h f (show cJ K tb W ds us from r2) g.2
  obtain⟨h3,h4⟩:=vK (show Den K tb W d u from p) g.1
  refine⟨by rw[List.all_cons,h3,h1];rfl,?_⟩
  show(eqV u v||inV v us)=(eqF d x||inF x ds)
  rw[h4 x v h f,h2]
end
theorem Ur{X:Cx}{tb:List Addr}:OpD X tb (compareOp .In) (oIn false):=⟨_,Gv,λW x y v u d μ' Q ok dx dy ho h=>by
 unfold oIn at ho
 obtain⟨ds,e1,e2⟩:=Za.mp ho
 split at e2
 .rename_i hf
  cases e2
  obtain⟨a,xs,rfl,q,r⟩:=jV ok dy e1
  obtain⟨h1,h2⟩:=rA dx hf.1 r hf.2
  refine⟨a,xs,rfl,SqB.or q,(vK dx hf.1).1,h1,?_⟩
  rw[h2]
  exact put ok h gn
 .cases e2⟩
theorem Jy{X:Cx}{tb:List Addr}:OpD X tb (compareOp .NotIn) (oIn true):=⟨_,yN,λW x y v u d μ' Q ok dx dy ho h=>by
 unfold oIn at ho
 obtain⟨ds,e1,e2⟩:=Za.mp ho
 split at e2
 .rename_i hf
  cases e2
  obtain⟨a,xs,rfl,q,r⟩:=jV ok dy e1
  obtain⟨h1,h2⟩:=rA dx hf.1 r hf.2
  refine⟨a,xs,rfl,SqB.or q,(vK dx hf.1).1,h1,?_⟩
  rw[h2]
  exact put ok h gn
 .cases e2⟩
open PySem.SeqAt
theorem Hb{X:Cx}{k:Nat}(hr:fu k X.A):OpR X (compareOp .NotEq) (λv u H Q=>∃a b xs ys,v= .ref a/\u= .ref b/\SqL X.K H a xs/\SqL X.K H b ys/\xs.length≠ys.length/\Q (.bl true) H):=by
 intro pins s σ H v u vv uu Q I rv ru h
 obtain⟨a,b,xs,ys,rfl,rfl,hx,hy,hl,q⟩:=h
 have hun:=hr.un
 cases rv
 cases ru
 obtain⟨its0,iv0,pl0,hz0⟩:=I.list hx
 obtain⟨its1,iv1,pl1,hz1⟩:=I.list hy
 have hl':its0.length≠its1.length:=by rw[<-iv0.length,<-iv1.length];exact hl
 exact RcNeAt.lists_lengths (A:=X.A) pl0.isList pl1.isList (by simpa using hl') (by omega) X.prog X.w X.xe _ ⟨.bl true,H,I,rfl,q⟩
def yt:O2:=λx y μ=>match x,y with
 | .lst ds,.lst []=>some (.bl (!ds.isEmpty),μ)
 |x,y=>oNe x y μ
theorem Dw{x y:D}{μ:Mu}:yt x y μ=oNe x y μ∨∃d ds,x= .lst (d::ds)/\y= .lst []/\yt x y μ=some (.bl true,μ):=by
 unfold yt
 split
 .rename_i ds
  cases ds with
  |nil=>left;unfold oNe rsv;simp[bV,cF,fM,fH,eqD,iR]
  |cons d ds=>exact .inr ⟨d,ds,rfl,rfl,rfl⟩
 .exact .inl rfl
theorem Iz{X:Cx}{tb:List Addr}{k:Nat}(hr:fu k X.A):OpD X tb (compareOp .NotEq) yt:=⟨_,(IK hr).or (Hb hr),λW x y v u d μ' Q ok dx dy ho h=>by
 rcases Dw (x:=x) (y:=y) (μ:=W.mu)with e|⟨d',ds,rfl,rfl,e⟩
 .rw[e]at ho
  unfold oNe at ho
  split at ho
  .rename_i hc
   cases ho
   rw[Zo]at hc
   exact .inl ⟨_,_,rG ok dx hc.1.1,rG ok dy hc.1.2,hc.2,put ok h gn⟩
  .cases ho
 .rw[e]at ho
  cases ho
  obtain⟨a,xs,rfl,q,r⟩:=mL dx
  obtain⟨b,ys,rfl,q2,r2⟩:=mL dy
  refine .inr ⟨a,b,xs,ys,rfl,rfl,SqL.fz q,SqL.fz q2,?_,put ok h gn⟩
  have h1:=aD.length r
  have h2:=aD.length r2
  simp at h1 h2
  omega⟩
def lSl(f:EF)(fl fh:PF):LF:=λδ μ=>(f δ μ).bind λr=>(fl δ r.2).bind λl=>(fh δ l.2).bind λu=>match r.1 with
 | .lst ds=>some (L3.cutD ds l.1 u.1,u.2)
 | .ro ds=>some (L3.cutD ds l.1 u.1,u.2)
 |_=>none
theorem Gs{X:Cx}{tb:List Addr}{e:Expr}{lo hi:Option Expr}{f:EF}{fl fh:PF}{pos p2:Pos}(he:PD X tb e f)(hl:POD X tb lo fl)(hh:POD X tb hi fh):PDN X tb (.Subscript e (.Slice lo hi none p2) pos) (lSl f fl fh):=
 dO (Aq Et he hl hh) λσ H Q zq1=>by
  obtain⟨W,δ,ds,μ',e,ok,hd,hf,h⟩:=zq1
  unfold lSl at hf
  obtain⟨⟨x,μ1⟩,e1,hf⟩:=Za.mp hf
  obtain⟨⟨l,μ2⟩,e2,hf⟩:=Za.mp hf
  obtain⟨⟨u,μ3⟩,e3,hf⟩:=Za.mp hf
  refine⟨W,δ,x,μ1,e,ok,hd,e1,λv W1 ok1 l1 m1 d1=>⟨W1,δ,l,μ2,rfl,ok1,hd.mono' l1,(by rw[m1];exact e2),λW2 ok2 l2 m2=>⟨W2,δ,u,μ3,rfl,ok2,hd.mono' (l1.trans l2),(by rw[m2];exact e3),λW3 ok3 l3 m3=>?_⟩⟩⟩
  have d3:=Den.mono' d1 (l2.trans l3)
  cases x with
  |lst es=>
   obtain⟨a,xs,rfl,q,r⟩:=mL d3
   cases hf
   exact⟨a,xs,rfl,SqL.fz q,λp hp=>h p _ W3 ok3 ((l1.trans l2).trans l3) m3 hp (oO r)⟩
  |ro es=>
   obtain⟨a,xs,rfl,q,r⟩:=xF d3
   cases hf
   exact⟨a,xs,rfl,SqL.fz q,λp hp=>h p _ W3 ok3 ((l1.trans l2).trans l3) m3 hp (oO r)⟩
  |_=>cases hf
def zQ(fa fb:EF):LF:=λδ μ=>(fa δ μ).bind λr=>(fb δ r.2).bind λq=>match r.1,q.1 with
 | .lst xs,.int k=>if -(2 ^ 63)<=k/\k<2 ^ 63/\xs.length*k.toNat<=sizeLine then some ((List.replicate k.toNat xs).flatten,q.2)else none
 |_,_=>none
theorem Oe{X:Cx}{tb:List Addr}{a b:Expr}{fa fb:EF}{pos:Pos}(ha:PD X tb a fa)(hb:PD X tb b fb):PDN X tb (.BinOp a .Mult b pos) (zQ fa fb):=
 dO (Pb Hs ha hb) λσ H Q zq2=>by
  obtain⟨W,δ,ds,μ',e,ok,hd,hf,h⟩:=zq2
  unfold zQ at hf
  obtain⟨⟨x,μ1⟩,e1,hf⟩:=Za.mp hf
  obtain⟨⟨y,μ2⟩,e2,hf⟩:=Za.mp hf
  refine⟨W,δ,x,μ1,e,ok,hd,e1,λv W1 ok1 l1 m1 d1=>⟨W1,δ,y,μ2,rfl,ok1,hd.mono' l1,(by rw[m1];exact e2),λu W2 ok2 l2 m2 d2=>?_⟩⟩
  have d1:=Den.mono' d1 l2
  cases x with
  |lst xs=>
   cases y with
   |int k=>
    have hf':(if -(2 ^ 63)<=k/\k<2 ^ 63/\xs.length*k.toNat<=sizeLine then some ((List.replicate k.toNat xs).flatten,μ2)else none)=some (ds,μ'):=hf
    split at hf'
    .rename_i hz
     cases hf'
     obtain⟨c,us,rfl,q1,r1⟩:=oW d1
     rw[bx d2]
     exact⟨c,k,us,rfl,rfl,(dB q1).1,hz.1,hz.2.1,by rw[<-aD.length r1];exact hz.2.2,λp hp=>h p _ W2 ok2 (l1.trans l2) m2 hp (ue r1 _)⟩
    .cases hf'
   |_=>cases hf
  |_=>cases y<;>cases hf
def vq:D->Mu->Option (List D)
 | .lst ds,_=>some ds
 | .cell n,μ=>(μ[n]?).join
 |_,_=>none
theorem wV{K:PySem.W.Frag}{tb:List Addr}{W:Wd}{x:D}{v:V}{ds:List D}(ok:WOk K tb W)(h:Den K tb W x v)(e:vq x W.mu=some ds):∃a xs,v= .ref a/\W.H a=some (.lst xs)/\cJ K tb W ds xs:=by
 cases x with
 |lst es=>
  cases e
  obtain⟨a,xs,rfl,q,r⟩:=oW h
  exact⟨a,xs,rfl,(dB q).1,r⟩
 |cell n=>
  obtain⟨a,rfl,q⟩:=iV h
  have e:(W.mu[n]?).join=some ds:=e
  cases e2:W.mu[n]? with
  |none=>rw[e2]at e;cases e
  |some o=>
   rw[e2]at e
   have e:o=some ds:=e
   subst e
   obtain⟨xs,ex,r⟩:=ok.cont n a ds q e2
   exact⟨a,xs,rfl,ex,r⟩
 |_=>cases e
theorem us1{α:Type}{P:List α->Prop}(h:∀a,P [a]):∀us:List α,us.length=1->P us
 | [a],_=>h a
theorem us2{α:Type}{P:List α->Prop}(h:∀a b,P [a,b]):∀us:List α,us.length=2->P us
 | [a,b],_=>h a b
theorem us3{α:Type}{P:List α->Prop}(h:∀a b c,P [a,b,c]):∀us:List α,us.length=3->P us
 | [a,b,c],_=>h a b c
theorem us4{α:Type}{P:List α->Prop}(h:∀a b c d,P [a,b,c,d]):∀us:List α,us.length=4->P us
 | [a,b,c,d],_=>h a b c d
structure Got(K:PySem.W.Frag)(x:Str)(st:Stmt)(f c P:Addr)(fd:FuncData):Prop where
 F:dG K x x st f fd P
 m:PySem.W.nsIn K mainGlobals x=some (some (.ref f))
 t:PySem.W.tabIn K x=some (c,P)
 e:∃kV dc pm an ct,fd=PySem.W.fnOf x x (mD st) (jO st) (aP st) .none kV dc pm an (.ref c) ct
theorem PN{K:PySem.W.Frag}{x:Str}{st:Stmt}{f c P:Addr}{oc:Value}{od an:Option Addr}{osl:Array (Option Value)}{kV doc pm ct:Value}{dd:Option Addr}{vs:Array Value}{sl:Array (Option Value)}(a:PySem.W.nsIn K mainGlobals x=some (some (.ref f)))
  (l:K.lookup f=some ⟨oc,od,.func (PySem.W.fnOf x x (mD st) (jO st) (aP st) .none kV doc pm an (.ref c) ct),osl⟩) (hc:PySem.W.codeIn K (.ref c) x=true) (k:PySem.W.keepIn K (.ref f)=true)
  (lc:K.lookup c=some ⟨.type "code",dd,.fields vs,sl⟩) (p:vs[11]? =some (.ref P)) (q:yW vs=true) (ne:(c != P)=true):∃f c P fd,Got K x st f c P fd:=
 ⟨f,c,P,_,MN l hc k lc p q ne,a,Sg a l rfl lc p,kV,doc,pm,an,ct,rfl⟩
end L3
namespace L2
open PySem PySem.Spec PyProof.Rows PySem.W
def wz{α:Type}(f:Nat->Nat->Bool):KasT α->α
 | .ret a=>a
 | .ask i j k=>wz f (k (f i j))
def dN{α:Type}(n:Nat)(R:α->Prop):KasT α->Prop
 | .ret a=>R a
 | .ask i j k=>i<n/\j<n/\∀b,dN n R (k b)
theorem dN.bind{α β:Type}{n:Nat}{R:α->Prop}{R':β->Prop}{f:α->KasT β}(hf:∀a,R a->dN n R' (f a)):∀{t:KasT α},dN n R t->dN n R' (t.bind f)
 | .ret a,h=>hf a h
 | .ask i j k,h=>⟨h.1,h.2.1,λb=>dN.bind hf (h.2.2 b)⟩
theorem dN.run{α:Type}{n:Nat}{R:α->Prop}{f:Nat->Nat->Bool}:∀{t:KasT α},dN n R t->R (wz f t)
 | .ret a,h=>h
 | .ask i j k,h=>show R (wz f (k (f i j)))from dN.run (t:=k (f i j)) (h.2.2 (f i j))
theorem dN.wp{α:Type}{n:Nat}{R:α->Prop}{f:Nat->Nat->Bool}{cmp:Nat->Nat->(Bool->Shared->Prop)->Shared->Prop}{s:Shared}(hc:∀i j (C:Bool->Shared->Prop),i<n->j<n->C (f i j) s->cmp i j C s){Q:α->Shared->Prop}:
  ∀{t:KasT α},dN n R t->Q (wz f t) s->t.kasWp cmp Q s
 | .ret a,_,q=>q
 | .ask i j k,h,q=>hc i j _ h.1 h.2.1 (dN.wp hc (h.2.2 (f i j)) q)
def gm(n:Nat)(p:Array Nat):Prop:=p.toList.Perm (List.range n)
theorem gm.getD{n:Nat}{p:Array Nat}(h:gm n p)(h0:0<n)(k:Nat):p.getD k 0<n:=by
 unfold Array.getD
 split
 .rename_i hk
  have:p.getInternal k hk∈p.toList:=by
   show p[k]∈p.toList
   simp
  exact List.mem_range.mp (h.mem_iff.mp this)
 .exact h0
theorem gm.of{n:Nat}{p q:Array Nat}(h:gm n p)(e:q.Perm p):gm n q:=(Array.perm_iff_toList_perm.mp e).trans h
theorem gm.rev{n:Nat}{p:Array Nat}(h:gm n p)(i j:Nat):gm n (kas_rev p i j):=h.of (mirror_perm _ _ _ _)
theorem uW{n:Nat}{p:Array Nat}(hp:gm n p)(h0:0<n):∀(f k:Nat),dN n (λ_=>True) (kas_asc p f k)
 |0,k=>trivial
 |f+1,k=>⟨hp.getD h0 _,hp.getD h0 _,λb=>by
  cases b
  .exact uW hp h0 f (k+1)
  .exact trivial⟩
theorem oV{n:Nat}(h0:0<n):∀(f:Nat)(p:Array Nat)(k q:Nat),gm n p->dN n (λr=>gm n r.1) (kas_desc f p k q)
 |0,p,k,q,hp=>hp
 |f+1,p,k,q,hp=>⟨hp.getD h0 _,hp.getD h0 _,λb=>by
  cases b
  .refine⟨hp.getD h0 _,hp.getD h0 _,λc=>?_⟩
   cases c
   .exact oV h0 f p (k+1) (q+1) hp
   .exact hp
  .show dN n _ (if true=true then(if q>0 then kas_desc f (kas_rev p (k-(q+1)) k) (k+1) 0 else kas_desc f p (k+1) 0)else _)
   rw[if_pos rfl]
   split
   .exact oV h0 f _ (k+1) 0 (hp.rev _ _)
   .exact oV h0 f p (k+1) 0 hp⟩
theorem vQ{n:Nat}(h0:0<n){p:Array Nat}(hp:gm n p)(a b:Nat):dN n (λr=>gm n r.2) (kas_tail3 a b p):=by
 unfold kas_tail3
 refine dN.bind (R:=λ_=>True) (λm _=>?_) (uW (hp.rev _ _) h0 _ _)
 exact hp.rev 0 a
theorem pF{n:Nat}(h0:0<n){p:Array Nat}(hp:gm n p)(a b:Nat):dN n (λr=>gm n r.2) (kas_descPart a b p):=
 dN.bind (λr hr=>by
  split
  .exact vQ h0 (gm.rev hr _ _) _ _
  .exact vQ h0 hr _ _) (oV h0 _ p _ _ hp)
theorem Cu{n:Nat}(h0:0<n){p:Array Nat}(hp:gm n p)(a:Nat):dN n (λr=>gm n r.2) (kas_count a p):=
 dN.bind (λm _=>by
  split
  .exact hp
  .split
   .refine⟨hp.getD h0 _,hp.getD h0 _,λc=>?_⟩
    cases c
    .exact pF h0 (hp.rev _ _) _ _
    .exact hp
   .exact pF h0 hp _ _) (uW hp h0 _ _)
theorem pP{n:Nat}(h0:0<n){p:Array Nat}(hp:gm n p)(k:Nat):∀(f l r:Nat),dN n (λ_=>True) (kas_place p k f l r)
 |0,l,r=>trivial
 |f+1,l,r=>by
  unfold kas_place
  split
  .exact trivial
  .refine⟨hp.getD h0 _,hp.getD h0 _,λc=>?_⟩
   cases c
   .exact pP h0 hp k f _ _
   .exact pP h0 hp k f _ _
theorem Ae{n:Nat}(h0:0<n):∀(f:Nat)(p:Array Nat)(k:Nat),gm n p->dN n (gm n) (kas_bin f p k)
 |0,p,k,hp=>hp
 |f+1,p,k,hp=>dN.bind (λl _=>Ae h0 f _ (k+1) (hp.of (bubble_perm _ _ _))) (pP h0 hp k _ _ _)
theorem rP{n:Nat}(h0:0<n):dN n (gm n) (kas_sort n):=
 dN.bind (λr hr=>by
  split
  .exact Ae h0 _ _ _ hr
  .exact hr) (Cu h0 (show(List.range n).Perm (List.range n)from List.Perm.refl _) n)
def lz(f:Nat->Nat->Bool)(n:Nat):List Nat:=if 2<=n then(wz f (kas_sort n)).toList else List.range n
theorem rH(f:Nat->Nat->Bool)(n:Nat):(lz f n).Perm (List.range n):=by
 unfold lz
 split
 .exact dN.run (rP (by omega))
 .exact List.Perm.refl _
theorem lJ(f:Nat->Nat->Bool)(n:Nat):(lz f n).length=n:=by
 rw[(rH f n).length_eq,List.length_range]
theorem range_getD{α:Type}(z:α)(vs:List α):(List.range vs.length).map (λi=>vs.getD i z)=vs:=by
 apply List.ext_getElem?
 intro i
 rw[List.getElem?_map]
 by_cases h:i<vs.length
 .rw[List.getElem?_range h]
  simp[h]
 .rw[List.getElem?_eq_none (by simpa using h),List.getElem?_eq_none (by simpa using h)]
  rfl
section
variable {prog:Program} {w:World} {A:Around} {E:Value->Shared->Prop} {s:Shared} {a:Addr} {vs:List Value} {f:Nat->Nat->Bool}
def Cmp(prog:Program)(w:World)(A:Around)(vs:List Value)(f:Nat->Nat->Bool)(s:Shared):Prop:=
 wpAny (model prog w) A (keyKind' vs.toArray) (λκ s'=>s'=s/\∀i j (C:Bool->Shared->Prop),i<vs.length->j<vs.length->C (f i j) s->kas_ask prog w A κ vs i j C s) (λ_ _=>False) s
theorem Gz{n:Nat}{P:PySem.Fin->Shared->Prop}(ho:s.heap.get? a=some (seqObj "list" vs.toArray n))(h64:vs.length<64)
  (hk:2<=vs.length->∀h',(∀b o,b≠a->s.heap.get? b=some o->h'.get? b=some o)->Cmp prog w A vs f { s with heap:=h'})
  (h:∀h' c,(∀b o,b≠a->s.heap.get? b=some o->h'.get? b=some o)->h'.get? a=some (seqObj "list" ((lz f vs.length).map λi=>vs.getD i Value.none).toArray c)->P (.done (.ret .none)) { s with heap:=h'}):
  wpAny (model prog w) A (Builtin.«list.sort» ⟨[.ref a],[]⟩) P E s:=by
 have upd1:=λ(g:Heap)(q:Array Value->Array Value)=>Heap.SameBut.update g a (Obj.mapSeq q)
 have e1:=get?_update_seq ho λ_=>(#[]:Array Value)
 generalize hc1:(if(#[]:Array Value).size==vs.toArray.size then n else n+1)=c1 at e1
 rw[list_sort_plain]
 refine wpAny_bind (listItems_at ho rfl ?_)
 refine wpAny_bind (listUpdate_at ho rfl ?_ (by rw[Zd,sizeLine_eq];omega) (Nat.zero_le _))
 refine wpAny_bind (seqEpoch_at e1 rfl ?_)
 refine wpAny_bind (wpAny_newTuple ?_ (by show vs.length<=_;rw[sizeLine_eq];omega))
 refine wpAny_bind (wpAny_newList ?_ (Nat.zero_le _))
 refine wpAny_holding ?_
 generalize hg:((s.heap.update a (Obj.mapSeq λ_=>(#[]:Array Value))).push (seqObj "tuple" vs.toArray 0)).push (seqObj "list" #[] 0)=g
 have kg:∀b o,b≠a->s.heap.get? b=some o->g.get? b=some o:=λb o hb e=>by
  rw[<-hg]
  exact Zb _ (Zb _ (((upd1 s.heap _).2 b hb).trans e))
 have ag:g.get? a=some (seqObj "list" #[] c1):=by
  rw[<-hg]
  exact Zb _ (Zb _ e1)
 have fin:∀(out:Array Value),out.size=vs.length->out=((lz f vs.length).map λi=>vs.getD i Value.none).toArray->P (.done (.ret .none)) { s with heap:=g.update a (Obj.mapSeq λ_=>out) }:=λout hsz ho'=>by
  have e2:=get?_update_seq ag λ_=>out
  rw[ho']at e2 ⊢
  exact h _ _ (λb o hb e=>((upd1 g _).2 b hb).trans (kg b o hb e)) e2
 show wpAny (model prog w) A _ P E { s with heap:=g}
 dsimp only
 by_cases h2:vs.toArray.size<2
 .rw[if_pos h2,if_pos h2]
  refine wpAny_bind (wpAny_pure ?_)
  rw[StateT.run_pure]
  refine wpAny_bind (wpAny_pure ?_)
  dsimp only
  have hz:(vs.toArray.zip vs.toArray).map (λp=>p.2)=vs.toArray:=by
   apply Array.toList_inj.mp
   rw[Array.toList_map]
   simp[List.map_snd_zip]
  have hA:(arrOf (SortSt.mk' general' (vs.toArray.zip vs.toArray) #[] 7 none)).map (·.2)=vs.toArray:=hz
  rw[hA]
  refine wpAny_bind (seqEpoch_at ag rfl ?_)
  refine wpAny_bind (listUpdate_at ag rfl ?_ (Nat.zero_le _) (by rw[Zd,sizeLine_eq];omega))
  simp only[bne_self_eq_false,Bool.false_eq_true,if_false]
  refine wpAny_pure (fin _ (by simp) ?_)
  rw[Zd]at h2
  unfold lz
  rw[if_neg (by omega),range_getD]
 .rw[if_neg h2,if_neg h2]
  rw[Zd]at h2
  refine wpAny_bind (wpAny_mono (hk (by omega) g kg) (λκ s' hs=>?_) λ_ _ x=>x.elim)
  obtain⟨rfl,hask⟩:=hs
  have good:(kas_sort vs.length).kasWp (kas_ask prog w A κ vs) (λp s'=>p=wz f (kas_sort vs.length)/\s'={ s with heap:=g}) { s with heap:=g}:=
   dN.wp (n:=vs.length) (f:=f) (R:=gm vs.length) (λi j C hi hj hC=>hask i j C hi hj hC) (rP (by omega)) ⟨rfl,rfl⟩
  refine wpAny_bind (wpAny_mono (kat_run (Q:=λst' s'=>s'={ s with heap:=g}/\failedOf st'=none/\(arrOf st').map (·.2)=List.toArray ((wz f (kas_sort vs.length)).toList.map λi=>vs.getD i Value.none)) rfl (by omega) h64 (λp st' s' a1 a2 a3 a4=>⟨a4.2,a3,by rw[<-a4.1];exact kat_snds rfl a2⟩) good) ?_ λ_ _ e=>e)
  rintro⟨⟨⟩,st'⟩ s' ⟨rfl,hf,har⟩
  dsimp only
  rw[har]
  have hlen:(List.toArray ((wz f (kas_sort vs.length)).toList.map λi=>vs.getD i Value.none)).size=vs.length:=by
   have:=lJ f vs.length
   unfold lz at this
   rw[if_pos (by omega)]at this
   rw[Zd,Zu,this]
  refine wpAny_bind (seqEpoch_at ag rfl ?_)
  refine wpAny_bind (listUpdate_at ag rfl ?_ (Nat.zero_le _) (Zl (Nat.le_of_eq hlen) (by rw[sizeLine_eq];omega)))
  rw[hf]
  simp only[bne_self_eq_false,Bool.false_eq_true,if_false]
  refine wpAny_pure (fin _ hlen ?_)
  unfold lz
  rw[if_pos (by omega)]
theorem CV{l:Addr}{Q:Value->Shared->Prop}(hl:s.heap.IsList l vs.toArray)(h64:vs.length<64)
  (hk:2<=vs.length->∀h',(∀b o,s.heap.get? b=some o->h'.get? b=some o)->Cmp prog w A.in1.in1 vs f { s with heap:=h'})
  (h:∀D h' c,(∀b o,s.heap.get? b=some o->h'.get? b=some o)->s.heap.objs.size<=D->h'.get? D=some (seqObj "list" ((lz f vs.length).map λi=>vs.getD i Value.none).toArray c)->Q (.ref D) { s with heap:=h'}):
  wpAny (model prog w) A (call (.builtin "sorted") [.ref l]) Q E s:=by
 refine Calls.call_function_entry kind_sorted plain_sorted entry_sorted (args_sorted1 _) ?_
 unfold Builtin.«sorted»
 refine wpAny_bind (m:=checkCount "sorted" 1 1 _) (wpAny_pure ?_)
 refine wpAny_bind (collect_list hl ?_ (by rw[sizeLine_eq];omega))
 refine wpAny_bind (wpAny_newList ?_ (by rw[sizeLine_eq];omega))
 generalize hg1:(s.heap.push (seqObj "list" #[] 0)).update s.heap.objs.size (Obj.mapSeq (· ++vs.toArray))=g1
 have k1:∀b o,s.heap.get? b=some o->g1.get? b=some o:=λb o q=>by
  rw[<-hg1,Heap.get?_update_ne _ _ _ _ (Zk (Ze q)),Heap.get?_push_ne _ _ _ (Zk (Ze q))]
  exact q
 have z1:g1.objs.size=s.heap.objs.size+1:=by rw[<-hg1,Heap.size_update,size_push']
 have k2:∀b o,s.heap.get? b=some o->(g1.push (seqObj "list" vs.toArray 0)).get? b=some o:=λb o q=>Zb _ (k1 b o q)
 have o2:(g1.push (seqObj "list" vs.toArray 0)).get? g1.objs.size=some (seqObj "list" vs.toArray 0):=Zf _ rfl
 show wpAny _ _ _ _ _ { s with heap:=g1.push (seqObj "list" vs.toArray 0) }
 have hle:s.heap.objs.size<=g1.objs.size:=by omega
 generalize g1.push (seqObj "list" vs.toArray 0)=g2 at *
 generalize g1.objs.size=D at *
 refine wpAny_bind (wpAny_holding (wpAny_call_entry slot_list_sort ⟨_,o2,rfl⟩ entry_list_sort ?body (args_list_sort _)))
 case body=>
  have ne:∀b o,s.heap.get? b=some o->b≠D:=λb o q=>Zk (Zc (Ze q) hle)
  refine Gz (s:={ s with heap:=g2}) (f:=f) o2 h64 (λh2 h' k'=>hk h2 h' λb o q=>k' b o (ne b o q) (k2 b o q)) λh' c k' e'=>⟨_,rfl,?_⟩
  exact wpAny_pure ⟨_,rfl,h D h' c (λb o q=>k' b o (ne b o q) (k2 b o q)) hle e'⟩
end
theorem uZ:∀{a b:List Int},a.Perm b->a.Pairwise (· <= ·)->b.Pairwise (· <= ·)->a=b
 | [],b,p,_,_=>(List.nil_perm.mp p).symm
 |x::a,b,p,ha,hb=>by
  cases b with
  |nil=>exact absurd p.length_eq (by simp)
  |cons y b=>
   obtain⟨hx,ha'⟩:=List.pairwise_cons.mp ha
   obtain⟨hy,hb'⟩:=List.pairwise_cons.mp hb
   have e:x=y:=by
    have m1:x∈y::b:=p.mem_iff.mp (by simp)
    have m2:y∈x::a:=p.mem_iff.mpr (by simp)
    rcases Zi.mp m1 with z|z
    .exact z
    .rcases Zi.mp m2 with w|w
     .exact w.symm
     .exact Int.le_antisymm (hx y w) (hy x z)
   subst e
   rw[uZ (List.Perm.cons_inv p) ha' hb']
theorem sG:∀{ns:List Int}{us:List Value},Vals (ns.map V.int) us->IntsAre us ns
 | [],_,.nil=>.nil
 |n::ns,_,.cons ⟨t,e⟩ r=>by subst e;exact .cons n t (sG r)
theorem CZ{h:Heap}{a b:Addr}{o:Obj}{g:Obj->Obj}(hb:b<a)(e:h.get? b=some o):(h.update a g).get? b=some o:=by
 rw[Heap.get?_update_ne _ _ _ _ (Zk hb)];exact e
theorem vp{h:Heap}{vs:List Value}{out:Array Value}{b:Addr}{o:Obj}(e:h.get? b=some o):(sortedAll h vs out).get? b=some o:=by
 have hb:=Ze e
 unfold sortedAll sortedHeap
 exact CZ (Nat.lt_succ_of_lt hb) (Zb _ (Zb _ (CZ (Nat.lt_succ_of_lt hb) (Zb _ (CZ hb (Zb _ e))))))
theorem sortedAll_at{h:Heap}{vs:List Value}{out:Array Value}:∃c,(sortedAll h vs out).get? (h.objs.size+1)=some (seqObj "list" out c):=by
 unfold sortedAll
 generalize hg:(h.push (seqObj "list" #[] 0)).update h.objs.size (Obj.mapSeq (· ++vs.toArray))=g
 have hz:g.objs.size=h.objs.size+1:=by rw[<-hg,Heap.size_update,size_push']
 have e0:(g.push (seqObj "list" vs.toArray 0)).get? (h.objs.size+1)=some (seqObj "list" vs.toArray 0):=by rw[<-hz];exact Zf _ rfl
 unfold sortedHeap
 have e1:=get?_update_seq e0 λ_=>(#[]:Array Value)
 exact⟨_,get?_update_seq (Zb _ (Zb _ e1)) λ_=>out⟩
theorem Ck{X:Cx}:je X (.builtin "sorted") (λxs H Q=>∃a ns,xs=[.ref a]/\SqL X.K H a (ns.map V.int)/\ns.length<64/\∀p,H p=none->Q (.ref p) (upd H p (.lst ((sortI ns).map V.int)))):=by
 intro pins s σ H xs us Q I r h
 obtain⟨a,ns,rfl,hq,h64,q⟩:=h
 obtain⟨u,rfl,rx⟩:=vals1 r
 cases rx
 obtain⟨its,r',pl,hz⟩:=I.list hq
 have hI:=sG r'
 have hl:=r'.length
 rw[Zu]at hl hz
 refine sorted_ints pl.isList hI (by omega) λout ns' i1 p1 o1=>?_
 have e:=uZ (p1.trans (sortI_perm ns).symm) o1 (sortI_rises ns)
 subst e
 obtain⟨c,ec⟩:=sortedAll_at (h:=s.heap) (vs:=its) (out:=out)
 have hlen:(sortI ns).length=ns.length:=(sortI_perm ns).length_eq
 refine⟨.ref (s.heap.objs.size+1),_,I.laid (t':=s.toks) (λb o e=>vp e) (Nat.le_succ _) (show iD X.prog X.w _ _ _ (.lst ((sortI ns).map V.int))from⟨by rw[Zu,hlen];exact hz,out.toList,c,sE i1,?_⟩),rfl,q _ (I.hok.fresh (Nat.le_succ _))⟩
 rw[ec]
def Jr(h:Heap)(v:Value)(ks:List Int):Prop:=∃a o its n,v= .ref a/\h.get? a=some o/\o.cls= .type "tuple"/\o.data= .seq (List.toArray its) n/\IntsAre its ks
theorem zO{prog:Program}{w:World}{A:Around}{Q:Bool->Shared->Prop}{s:Shared}{fin:Bool}:∀{xs ys:List Value}{ms ns:List Int},IntsAre xs ms->IntsAre ys ns->ms.length=ns.length->∀(i:Nat)(k:Bool),fin=false->Q (HT.lexLt ms ns) s->KatLex prog w A k fin Q (xs.zip ys) i s
 |_,_,_,_,.nil,.nil,_,i,k,hf,h=>by rw[hf];exact h
 |_,_,_,_,.nil,.cons _ _ _,hl,_,_,_,_=>by cases hl
 |_,_,_,_,.cons _ _ _,.nil,hl,_,_,_,_=>by cases hl
 |_,_,_,_,.cons (vs:=xs) (ns:=ms) m t h1,.cons (vs:=ys) (ns:=ns) n u h2,hl,i,k,hf,h=>by
  refine kat_cons (wpAny_eqBool_int ?_)
  unfold KatGo
  rw[HT.lexLt_cons]at h
  by_cases e:m=n
  .rw[if_pos e]at h
   rw[if_pos (by simpa using e)]
   exact zO h1 h2 (by simpa using hl) (i+1) k hf h
  .rw[if_neg e]at h
   rw[if_neg (by simpa using e)]
   cases hb:(k&&i==0)with
   |true=>exact oneLt_int h
   |false=>exact kat_one _ _ (lt_int h)
theorem GR{prog:Program}{w:World}{A:Around}{vs:List Value}{kss:List (List Int)}{s:Shared}{d:Nat}(hl:vs.length=kss.length)(h2:2<=vs.length)(ht:∀i,i<vs.length->Jr s.heap (vs.getD i .none) (kss.getD i []))(hd:∀ks∈kss,ks.length=d+1):
  Cmp prog w A vs (λi j=>HT.lexLt (kss.getD i []) (kss.getD j [])) s:=by
 have hdk:∀i,i<vs.length->(kss.getD i []).length=d+1:=λi hi=>by
  have:kss.getD i []=kss[i]:=by simp[List.getD,hl▸hi]
  rw[this];exact hd _ (List.getElem_mem _)
 have firsts:∀(k:Nat)(us:List Value),us=vs.drop (vs.length-k)->k<=vs.length->∃fs:List Value,KatTups s.heap us fs/\fs.length=k/\∀v∈fs,∃n t,v= .int n t:=by
  intro k
  induction k with
  |zero=>intro us e _;subst e;exact⟨[],by simp[KatTups],rfl,by simp⟩
  |succ k ih=>
   intro us e hk
   have hlt:vs.length-(k+1)<vs.length:=by omega
   obtain⟨fs,f1,f2,f3⟩:=ih (vs.drop (vs.length-k)) rfl (by omega)
   rw[List.drop_eq_getElem_cons hlt]at e
   rw[show vs.length-(k+1)+1=vs.length-k by omega]at e
   obtain⟨a,o,its,n,ev,ho,hc,hdt,hi⟩:=ht _ hlt
   have ev':vs[vs.length-(k+1)]= .ref a:=by rw[<-ev];simp[List.getD,hlt]
   rw[ev']at e
   subst e
   have hlen:=hdk _ hlt
   generalize kss.getD (vs.length-(k+1)) []=ks at *
   cases hi with
   |nil=>cases hlen
   |cons m t h1=>
    rename_i r1 r2
    exact⟨.int m t::fs,KatTups.cons ho hc hdt (by simp) f1,by simp[f2],λv hv=>by
     rcases Zi.mp hv with z|z
     .exact⟨m,t,z⟩
     .exact f3 v z⟩
 obtain⟨fs,f1,f2,f3⟩:=firsts vs.length vs (by simp) (Zg _)
 refine kat_kind (T:=.type "int") f1 (by omega) (λv hv=>?_) rfl ⟨rfl,λi j C hi hj hC=>?_⟩
 .obtain⟨n,t,rfl⟩:=f3 v hv
  exact Looks.of_pure rfl
 .obtain⟨a,o,its,n,ev,ho,hc,hdt,hI⟩:=ht i hi
  obtain⟨a',o',its',n',ev',ho',hc',hdt',hI'⟩:=ht j hj
  have e1:=hdk i hi
  have e2:=hdk j hj
  have l1:=hI.length
  have l2:=hI'.length
  show wpAny _ _ (keyLt' _ (vs.getD i Value.none) (vs.getD j Value.none)) C _ s
  rw[ev,ev']
  refine kat_lt ho hdt ho' hdt' ?_
  simp only[List.toList_toArray]
  exact zO hI hI' (by omega) 0 _ (by rw[Zd,Zd];exact decide_eq_false (by omega)) hC
theorem qt:∀{xs:List V}{us:List Value},Vals xs us->∀i,RelV (xs.getD i .non) (us.getD i .none)
 |_,_,.nil,i=>by simp[RelV]
 |_,_,.cons r t,0=>r
 |_,_,.cons r t,i+1=>qt t i
theorem uv{xs:List V}{us:List Value}(r:Vals xs us):∀(is:List Nat),Vals (is.map λi=>xs.getD i .non) (is.map λi=>us.getD i .none)
 | []=>.nil
 |i::is=>.cons (qt r i) (uv r is)
theorem Dg{X:Cx}:je X (.builtin "sorted") (λxs H Q=>∃(a:Addr)(ys:List V)(kss:List (List Int))(d:Nat),xs=[.ref a]/\SqL X.K H a ys/\ys.length<64/\ys.length=kss.length/\(∀ks∈kss,ks.length=d+1)/\(∀i,i<ys.length->∃p,ys.getD i .non= .ref p/\SqT X.K H p ((kss.getD i []).map V.int))/\
  ∀p,H p=none->Q (.ref p) (upd H p (.lst ((lz (λi j=>HT.lexLt (kss.getD i []) (kss.getD j [])) ys.length).map λi=>ys.getD i .non)))):=by
 intro pins s σ H xs us Q I r h
 obtain⟨a,ys,kss,d,rfl,hq,h64,hl,hd,ht,q⟩:=h
 obtain⟨u,rfl,rx⟩:=vals1 r
 cases rx
 obtain⟨its,r',pl,hz⟩:=I.list hq
 have hlen:=r'.length
 have tups:∀i,i<its.length->Jr s.heap (its.getD i .none) (kss.getD i []):=λi hi=>by
  obtain⟨p,ep,hT⟩:=ht i (by omega)
  have rl:=qt r' i
  rw[ep]at rl
  have e:its.getD i .none= .ref p:=rl
  obtain⟨us,ru,⟨o,ho,hc,n,hdt⟩,_⟩:=I.tuple hT
  exact⟨p,o,us,n,e,ho,hc,hdt,sG ru⟩
 refine CV (f:=λi j=>HT.lexLt (kss.getD i []) (kss.getD j [])) pl.isList (by omega) (λh2 h' k'=>?_) λD h' c k' hD ec=>?_
 .refine GR (d:=d) (by omega) h2 (λi hi=>?_) hd
  obtain⟨p,o,us,n,e1,e2,e3⟩:=tups i hi
  exact⟨p,o,us,n,e1,k' _ _ e2,e3⟩
 .refine⟨.ref D,_,I.laid (t':=s.toks) k' hD (show iD X.prog X.w _ _ _ (.lst ((lz (λi j=>HT.lexLt (kss.getD i []) (kss.getD j [])) ys.length).map λi=>ys.getD i .non))from⟨by rw[Zu,lJ];exact hz,_,c,?_,ec⟩),rfl,q _ (I.hok.fresh hD)⟩
  rw[<-hlen]
  exact uv r' _
end L2
namespace L3
open PySem PySem.Spec PyProof.Rows L2
def sW:List D->Option (List Int)
 | []=>some []
 | .int i::r=>(sW r).map (i:: ·)
 |_=>none
def DQ:List D->Option (List (List Int))
 | []=>some []
 | .tup es::r=>(sW es).bind λks=>(DQ r).map (ks:: ·)
 |_=>none
def Uo(kss:List (List Int)):Bool:=kss.all λks=>ks.length==(kss.headD []).length-1+1
def sJ(ds:List D):Option (List D):=if ds.length<64 then match sW ds with
  |some ns=>some ((PySem.W.sortI ns).map .int)
  |none=>match DQ ds with
   |some kss=>if Uo kss=true then some ((lz (λi j=>HT.lexLt (kss.getD i []) (kss.getD j [])) ds.length).map λi=>ds.getD i .non)else none
   |none=>none
 else none
theorem uq:∀{ds:List D}{ns:List Int},sW ds=some ns->ds=ns.map .int
 | [],ns,h=>by cases h;rfl
 |d::r,ns,h=>by
  cases d with
  |int i=>
   obtain⟨ms,e,rfl⟩:=Zp.mp (show(sW r).map (i:: ·)=some ns from h)
   rw[uq e];rfl
  |_=>cases h
theorem uM:∀(ns:List Int),sW (ns.map .int)=some ns
 | []=>rfl
 |n::ns=>by
  show(sW (ns.map .int)).map (n:: ·)=_
  rw[uM ns];rfl
theorem Bd:∀{ds:List D}{kss:List (List Int)},DQ ds=some kss->ds=kss.map λks=>.tup (ks.map .int)
 | [],kss,h=>by cases h;rfl
 |d::r,kss,h=>by
  cases d with
  |tup es=>
   obtain⟨ks,e1,h⟩:=Za.mp (show(sW es).bind (λks=>(DQ r).map (ks:: ·))=some kss from h)
   obtain⟨ms,e,rfl⟩:=Zp.mp h
   rw[Bd e,uq e1];rfl
  |_=>cases h
theorem xu{K:PySem.W.Frag}{tb:List Addr}{W:Wd}:∀(ns:List Int),cJ K tb W (ns.map .int) (ns.map V.int)
 | []=>aD.nil
 |n::ns=>aD.cons eN (xu ns)
theorem vd{K:PySem.W.Frag}{tb:List Addr}{W:Wd}:∀{ns:List Int}{xs:List V},cJ K tb W (ns.map .int) xs->xs=ns.map V.int
 | [],xs,h=>by
  have:=aD.length h
  cases xs with
  |nil=>rfl
  |cons a b=>cases this
 |n::ns,xs,h=>by
  cases xs with
  |nil=>have:=aD.length h;cases this
  |cons a b=>
   obtain⟨u,us,e,h1,h2⟩:∃u us,a::b=u::us/\bA K (Wd.fz tb W) W.ad (.int n) u/\aD K (Wd.fz tb W) W.ad (ns.map .int) us:=by unfold cJ aD at h;exact h
   cases e
   rw[bx h1,vd h2];rfl
def uA(fs:AF):LF:=λδ μ=>(fs δ μ).bind λr=>match r.1 with
 | [x]=>(vq x r.2).bind λds=>(sJ ds).map λes=>(es,r.2)
 |_=>none
theorem Bm{X:Cx}{tb:List Addr}{a:Expr}{fs:AF}{p pos:Pos}(hm:X.mg "sorted"=none)(ha:PAD X tb [a] fs)(hg:Gl X "sorted":=by rfl)(he:starEach [a] X.env=(false,eval a X.env)::starEach [] X.env:=by rfl):PDN X tb (.Call (.Name "sorted" p) [a] [] pos) (uA fs):=
 dO (nU (Ck.or Dg) hg hm PyProof.Rows.boot_sorted ha (by decide) (by decide) he (by rfl)) λσ H Q zq1=>by
  obtain⟨W,δ,ds,μ',e,ok,hd,hf,k⟩:=zq1
  unfold uA at hf
  obtain⟨⟨xs,μ1⟩,e1,e2⟩:=Za.mp hf
  match xs,e1,e2 with
  | [x],e1,e2=>
   obtain⟨es,e3,e4⟩:=Za.mp (show(vq x μ1).bind (λds=>(sJ ds).map λes=>(es,μ1))=some (ds,μ')from e2)
   obtain⟨os,e5,e6⟩:=Zp.mp e4
   cases e6
   refine⟨W,δ,[x],_,e,ok,hd,e1,λvs W1 ok1 l1 m1 d1=>?_⟩
   obtain⟨v,rfl,dv⟩:=aD.one d1
   obtain⟨a,ys,rfl,q,r⟩:=wV ok1 dv (by rw[m1];exact e3)
   have hlen:=aD.length r
   unfold sJ at e5
   split at e5
   .rename_i h64
    split at e5
    .rename_i ns hn
     cases e5
     have:=uq hn
     subst this
     have hy:=vd r
     subst hy
     exact .inl ⟨a,ns,rfl,SqL.of q,by simpa using h64,λl hl=>k l _ W1 ok1 l1 m1 hl (xu _)⟩
    .split at e5
     .rename_i kss hk
      split at e5
      .rename_i hev
       cases e5
       have hk':=Bd hk
       have hkl:es.length=kss.length:=by rw[hk'];simp
       refine .inr ⟨a,ys,kss,(kss.headD []).length-1,rfl,SqL.of q,by omega,by omega,λks h=>?_,λi hi=>?_,λl hl=>?_⟩
       .have:=List.all_eq_true.mp hev ks h
        simpa using this
       .have hi':i<es.length:=by omega
        have hik:i<kss.length:=by omega
        obtain⟨u,eu,du⟩:=aD.get r (List.getElem?_eq_getElem hi')
        have e7:es[i]= .tup ((kss.getD i []).map .int):=by
         have:kss.getD i []=kss[i]:=by simp[List.getD,hik]
         rw[this]
         simp[hk']
        rw[e7]at du
        obtain⟨b,zs,rfl,qb,rb⟩:=jK du
        have hz:=vd rb
        subst hz
        refine⟨b,?_,SqT.fz qb⟩
        rw[List.getD_eq_getElem?_getD,eu];rfl
       .rw[hlen]at k
        exact k l _ W1 ok1 l1 m1 hl (uH r _)
      .cases e5
     .cases e5
   .cases e5
end L3
namespace L2
open PySem PySem.Spec PyProof.Rows PySem.W
abbrev BZ(X:Cx)(scope:Scope)(q:Str)(C f:Addr)(code:Value):Env:=newEnv scope C mainGlobals (cz X.env scope.names []) q (some f) code none builtinsNs
def qK(X:Cx)(A':Around)(x:Str)(cap:List Str)(scope:Scope)(q:Str)(f:Addr)(code:Value)(s:Shared)(H:Hp):Cx where
 prog:=X.prog
 w:=X.w
 K:=X.K
 mg:=X.mg
 base:=X.base
 A:=A'.deeper (BZ X scope q s.heap.objs.size f code)
 N:=[x]++cap
 s₀:=s
 H₀:=H
 env:=BZ X scope q s.heap.objs.size f code
 outer:=X.stack
 stack:=BZ X scope q s.heap.objs.size f code::X.stack
 ex:=[]
 fn:=λy=>y==x
 calm:=true
 pn:=[]
 xe:=λ_ _=>False
section
variable {X:Cx} {pins:List (Addr×Obj)} {σ:St} {H:Hp} {s:Shared} {x:Str} {cap:List Str} {capI:List Nat} {scope:Scope}
theorem Inv.lam{A':Around}{h1:Heap}{q:Str}{f:Addr}{code u:Value}{y:V}{tk:Nat}(I:Inv X pins σ H s)(B:fY X [x] cap capI scope)(hx:scope.names.lookup x=some .local)(hown:(x,NameKind.free)∉scope.names)(hnc:∀y∈scope.names,y.2≠ .cell)
  (hcx:x∉cap) (keep:∀b o,s.heap.get? b=some o->h1.get? b=some o) (hm:h1.Ns s.heap.objs.size (λz=>[(x,u)].reverse.lookup z)) (hAf:A'.frames=some X.stack) (hAh:A'.handled=none) (ry:RelV y u):
  Inv (qK X A' x cap scope q f code s H) [] (some y::lW σ capI) H { s with heap:=h1,toks:=tk}:=by
 have clo_old:∀p∈cz X.env scope.names [],X.env.cells.lookup p.1=some p.2:=λp hp=>(lV hp).elim (λz=>by simp at z) id
 have old_lt:∀z c,X.env.cells.lookup z=some c->c<s.heap.objs.size:=λz c e=>let⟨v,q⟩:=I.cell z c e;q.lt
 have csm:∀z c,(cz X.env scope.names []).lookup z=some c->X.env.cells.lookup z=some c/\c<s.heap.objs.size:=λz c e=>by
  have q:=clo_old _ (Zt e)
  exact⟨q,old_lt _ _ q⟩
 have fresh:H s.heap.objs.size=none:=I.hok.fresh (Zg _)
 have noA:∀b:Addr,b∉(qK X A' x cap scope q f code s H).ex:=λb z=>absurd (show b∈([]:List Addr)from z) (by simp)
 refine⟨⟨I.ok.mod,B.kind,rfl,rfl,Zg _,?_,?_,?_,λ_=>hAh,Around.frames_deeper hAf,.inr ⟨rfl,rfl⟩,λb z=>absurd z (noA b),I.bs,Zl I.ok.bsz I.sz,λb _ _=>noA b,λb z=>absurd z (noA b),I.stack,I.stkFree⟩,rfl,GK.refl I.bare.bare,Un.kept keep,?_,?_,fresh,?_,?_,I.hok.kept keep,?_⟩
 .intro y z c e1 e2
  exact I.ok.inj y z c (csm y c e1).1 (csm z c e2).1
 .intro y hy
  have hy':scope.names.lookup y=some .cell∨scope.names.lookup y=some .free:=hy
  rcases hy' with e|e
  .exact absurd rfl (hnc _ (Zt e))
  .have q:=Zt e
   obtain⟨c,hc⟩:=B.cells I _ q rfl
   exact⟨c,kZ hc (.inl q)⟩
 .intro z c hz e
  exfalso
  have hz:z=x:=by simpa[qK]using hz
  subst hz
  have q:(cz X.env scope.names []).lookup z=none:=by
   rw[oY λk hk=>by rintro rfl;exact hown hk];rfl
  have e':(cz X.env scope.names []).lookup z=some c:=e
  rw[q]at e';cases e'
 .obtain⟨m',hn,hl⟩:=I.loc
  refine⟨_,hm,λi z v e1 e2 hv=>?_⟩
  cases i with
  |zero=>
   have e1:some x=some z:=e1
   cases e1
   have e2:some (some y)=some (some v):=e2
   cases e2
   exact⟨u,ry,.inl ⟨hx,by simp⟩⟩
  |succ i=>
   have e1':cap[i]? =some z:=e1
   have e2':(lW σ capI)[i]? =some (some v):=e2
   obtain⟨i0,q1,q2⟩:=rQ e2'
   obtain⟨y',q3,q4,q5⟩:=B.caps.get q1
   rw[e1']at q3
   cases q3
   have hxf:(z,NameKind.free)∈scope.names:=B.cfr z (List.mem_of_getElem? e1')
   have vis:Vis X.env.scope z:=by
    rcases q5 with q5|q5
    .exact .inr (.inl q5)
    .exact .inr (.inr q5)
   obtain⟨w,rw',lk⟩:=hl i0 z v q4 q2 vis
   refine⟨w,rw',.inr ⟨.inr (dj B.nd hxf),?_⟩⟩
   rcases lk with⟨k,_⟩|⟨_,c,ec,hc⟩
   .rcases q5 with q5|q5<;>rw[k]at q5<;>cases q5
   .exact⟨c,kZ ec (.inl hxf),hc.keeps keep⟩
 .intro z c e
  obtain⟨v,q⟩:=I.cell z c (csm z c e).1
  exact⟨v,q.keeps keep⟩
 .intro z c e
  exact I.freeC z c (csm z c e).1
 .intro p hp
  exact absurd (show p∈([]:List (Addr×Obj))from hp) (by simp)
 .show(some y::lW σ capI).length=([x]++cap).length
  unfold lW
  rw[List.length_cons,Zu,B.caps.length,List.length_append]
  simp[Nat.add_comm]
end
abbrev Ox(qual:Str)(params:Arguments)(body:Expr)(scope:Scope)(cl:List (Str×Addr))(pm cv ct:Value):FuncData:=kla_fn "<lambda>" qual params body scope cl pm cv ct
theorem FT{prog:Program}{w:World}{A:Around}{R:Result->Shared->Prop}{s:Shared}{a c:Addr}{args:Args}{o oc:Obj}{fd:FuncData}{body:Expr}{vs:Array Value}{u:Value}(hroom:A.depth<recursionLimit)(ho:s.heap.get? a=some o)(hd':o.data= .func fd)
  (hco:fd.scope.isCoroutine=false) (hgen:fd.scope.isGenerator=false) (hbody:fd.body= .expr body) (hc:fd.code= .ref c) (hoc:s.heap.get? c=some oc) (hdc:oc.data= .fields vs) (hu:vs[1]? =some u)
  (h:∀q:Str,wpAny (model prog w) A.in1 (bindArgs fd args) (λbinds s₁=>
   wpAny (model prog w) A.in1 (newFunctionEnv fd.scope fd.globals fd.closure binds q (some a) fd.code none fd.builtins)
    (λenv s₂=>s₂.heap.NoLimit/\codeAny (model prog w) A (.expr body env) R s₂) (λe s'=>R (.error e) s') s₁) (λe s'=>R (.error e) s') s):
  codeAny (model prog w) A (.call (.ref a) args) R s:=by
 refine codeAny_of_tree ?_
 show wpAny _ A.in1 (callAny (.ref a) args) _ _ s
 simp only[callAny]
 refine wpAny_bind (wpAny_load ho ?_)
 simp only[hd',callFunction,hco,hgen,hbody,hc]
 rw[hc]at h
 refine wpAny_bind (m:=field (.ref c) 1) (wpAny_field hoc hdc hu ?_)
 have go:∀q:Str,wpAny (model prog w) A.in1 (do
   let env<-newFunctionEnv fd.scope fd.globals fd.closure (<-bindArgs fd args) q (some a) (.ref c) none fd.builtins
   enterFrame
   again (.expr body env)) (λfin s'=>match fin with
    | .done f=>R (.ok f) s'
    | .again c'=>c'.quiet=true/\codeAny (model prog w) A c' R s') (λe s'=>R (.error e) s') s:=λq=>
  wpAny_bind (wpAny_mono (h q) (λbinds s₁ h₁=>wpAny_bind (wpAny_mono h₁ (λenv s₂ h₂=>wpAny_bind (wpAny_enterFrame h₂.1 hroom (wpAny_pure (And.intro rfl h₂.2)))) λ_ _ h'=>h')) λ_ _ h'=>h')
 cases u with
 |str q t=>exact wpAny_bind (wpAny_pure (go _))
 |_=>exact wpAny_bind (wpAny_pure (go _))
section
variable {X:Cx} {pins:List (Addr×Obj)} {σ:St} {H:Hp} {s:Shared} {x:Str} {cap:List Str} {capI:List Nat} {scope:Scope} {params:Arguments} {body:Expr} {te:TE} {k:Nat}
structure Em(X:Cx)(x:Str)(cap:List Str)(capI:List Nat)(scope:Scope)(params:Arguments)(body:Expr):Prop where
 blk:fY X [x] cap capI scope
 par:scope.names.lookup x=some .local
 own:(x,NameKind.free)∉scope.names
 noc:∀y∈scope.names,y.2≠ .cell
 ncap:x∉cap
 co:scope.isCoroutine=false
 gen:scope.isGenerator=false
 dflt:defaultsOf params X.env=([],[])
 bind:∀(qual:Str)(cl:List (Str×Addr))(pm cv ct u:Value),bindArgs (Ox qual params body scope cl pm cv ct) ⟨[u],[]⟩=pure [(x,u)]
abbrev uR(X:Cx)(qual:Str)(params:Arguments)(body:Expr)(scope:Scope)(pm cv ct:Value):Obj:={ cls:=.type "function",data:=.func (Ox qual params body scope (cz X.env scope.names []) pm cv ct) }
theorem Ks{f:Addr}{qual:Str}{pm cv ct u:Value}{y:V}{Q:VK}(hr:fu (k+1) X.A)(hc:X.calm=true)(L:Em X x cap capI scope params body)
  (he:∀q f code s H,PE (qK X X.A.in1.in1 x cap scope q f code s H) body te) (I:Inv X pins σ H s) (ho:s.heap.get? f=some (uR X qual params body scope pm cv ct)) (hcv:yK H cv) (ry:RelV y u) (hq:te (some y::lW σ capI) H Q):
  wpAny (model X.prog X.w) X.A.in1.in1 (call (.ref f) [u]) (EP X pins σ Q) (λ_ _=>False) s:=by
 obtain⟨c,oc,vs,w,rfl,hc1,hc2,hc3⟩:=hcv
 have hoc:s.heap.get? c=some oc:=(I.hok c _ hc1).1
 obtain⟨a1,a2⟩:=yC I hc (A':=X.A.in1.in1) rfl rfl
 have hdp:=hr.dp
 refine wpAny_call (FT (show X.A.depth<recursionLimit by omega) ho rfl L.co L.gen rfl rfl hoc hc2 hc3 λq=>?_)
 rw[L.bind]
 refine wpAny_pure (wpAny_newFunctionEnv L.noc (λz hz=>by rw[List.mem_singleton.mp hz];exact L.par) (λh₁ hns hsb=>?_) L.blk.kind)
 have keep:∀b o,s.heap.get? b=some o->h₁.get? b=some o:=λb o e=>hsb.extBut b o (Zk (Ze e)) (Zb _ e)
 refine⟨I.nolimit.keeps keep,?_⟩
 have J:=I.lam (A':=X.A.in1.in1) (q:=q) (f:=f) (code:=.ref c) (tk:=s.toks+ [(x,u)].length) L.blk L.par L.own L.noc L.ncap keep hns a2 a1 ry
 exact kla_codeExpr (wpAny_mono (he q f (.ref c) s H [] _ _ H Q J hq) (λv s' ⟨v',H',J',rv,qv⟩=>I.after ⟨v',H',J'.os,J'.bare,J'.base,J'.hok,rv,qv⟩) λ_ _ z=>z.elim)
theorem Hc{c P:Addr}{ps:Array Value}{pos:Pos}{A:Around}{E:Value->Shared->Prop}{Q:Value->Shared->Prop}(L:Em X x cap capI scope params body)(I:Inv X pins σ H s)(hcode:X.env.code= .ref c)(hd:CodeHd X.base c P)(hP:H P=some (.tbl ps))(ht:TOk H ps)
  (h:∀f s' H' ps' pm cv ct,Dm s.heap.objs.size P ps ps' H H'->Inv X (pins++[(f,uR X (X.env.qual++"<lambda>") params body scope pm cv ct)]) σ H' s'->yK H' cv->Q (.ref f) s'):
  wpAny (model X.prog X.w) A (eval (.Lambda params body scope pos) X.env) Q E s:=by
 have hd':CodeHd s.heap c P:=hd.keeps I.bk
 have oP:s.heap.get? P=some (tabObj ps):=I.hok P _ hP
 have nb:∀b o,X.base.get? b=some o->b≠P:=λb o e z=>by
  have:=(I.bs b o e).2
  rw[z,hP]at this;cases this
 obtain⟨og,es,ep,eg,edg,_⟩:=id I.mod.glob
 obtain⟨bm,ob,b1,b2,b3,b4,b5,b6⟩:=I.mod.bmain
 have hbG:bm≠mainGlobals:=λz=>by
  rw[z,eg]at b3;cases b3;rw[edg]at b6;cases b6
 have hBA:s.heap.BuiltinsAt X.mg P:=⟨bm,ob,b1,b2,hbG,nb _ _ b3,I.bk _ _ b3,b4,b5,b6⟩
 have hcl:=jw (L.blk.cells I)
 have hg:=I.mod.glob.keeps I.bk
 have fin:∀{H':Hp}{h':Heap}{tk:Nat}{ps':Array Value}{pm cv ct:Value},Dm s.heap.objs.size P ps ps' H H'->Inv X pins σ H' { s with heap:=h',toks:=tk}->yK H' cv->
   Q (.ref h'.objs.size) { s with heap:=h'.push (uR X (X.env.qual++"<lambda>") params body scope pm cv ct),toks:=tk}:=λ{H' h' tk ps' pm cv ct} hG I' hcv=>by
  have I2:Inv X pins σ H' { s with heap:=h'.push (uR X (X.env.qual++"<lambda>") params body scope pm cv ct),toks:=tk}:=I'.kept (t':=tk) λb o e=>Zb _ e
  refine h _ _ H' ps' pm cv ct hG (I2.more λp hp=>?_) hcv
  rw[List.mem_singleton.mp hp]
  exact⟨Zf _ rfl,I'.hok.fresh (Zg _),Nat.ne_of_gt I'.lt,I'.nofs (Zg _),λv=>by intro z;cases z⟩
 refine kla_eval L.dflt ?_
 cases hnf:codeAmong pos ps.toList with
 |some cv=>
  refine kla_makeFunctionHit hcl I.ok.glob hg hcode hd' oP ht.1 hnf hBA λctv h' tk hk hsz=>?_
  exact fin ⟨hP,⟨#[],by simp⟩,ht,λ_ _ _ e=>e,λ_ _ e=>e⟩ (I.kept hk) (ht.2 _ _ hnf)
 |none=>
  refine kla_makeFunction hcl I.ok.glob hg hcode hd' oP ht.1 hnf (nb _ _ eg) hBA λc' ctv h' tk hx hge hlt hrec htb=>?_
  obtain⟨c2,oc,vs,t,e2,hoc,hdd,hv⟩:=hrec
  cases e2
  refine xx I hP ht hge hoc hdd hv (λb o hb e=>hx b o hb e) htb λhG I'=>fin hG I' ⟨c',oc,vs,_,rfl,cX,hdd,hv⟩
end
theorem GQ{X:Cx}{x:Str}{cap:List Str}{scope:Scope}{q:Str}{f:Addr}{code:Value}{s:Shared}{H:Hp}:∀k,fu (k+1) X.A->fu k (qK X X.A.in1.in1 x cap scope q f code s H).A:=λk r=>
 ⟨r.hd,by have:=r.dp;show X.A.depth+1+3*k+5<_;omega,by have:=r.un;show X.A.units+1+1+3+16*k+200<_;omega⟩
section
variable {X:Cx} {pins:List (Addr×Obj)} {σ:St} {H:Hp} {s:Shared}
theorem Inv.trackNew{c:Addr}{o:Obj}{u:HO}(I:Inv X pins σ H s)(ho:s.heap.get? c=some o)(hn:H c=none)(hnew:X.s₀.heap.objs.size<=c)(hL:c≠X.env.locals)(hc:∀x d,X.env.cells.lookup x=some d->d≠c)(hp:∀p∈X.pn++pins,p.1≠c)
  (new:iD X.prog X.w (upd H c u) s.heap c u):Inv X pins σ (upd H c u) s:=by
 have ne:∀b u,H b=some u->b≠c:=λb u e z=>by rw[z,hn]at e;cases e
 refine⟨I.ok,I.os,I.bare,⟨I.base.keep,I.base.slot,λb ob e n hx=>?_,I.base.there,λb xs e=>?_,λb ob u e=>?_,λb ps e=>?_⟩,I.loc,I.cell,?_,λx d e=>?_,λp hp'=>?_,λa u e=>?_,I.len⟩
 .rw[aU (Zk (Zc (Ze e) hnew))];exact I.base.free b ob e n hx
 .have q:=I.base.tups b xs e
  rw[aU (ne _ _ q)];exact q
 .have q:=I.base.frzs b ob u e
  rw[aU (ne _ _ q)];exact q
 .obtain⟨more,q⟩:=I.base.tbls b ps e
  exact⟨more,by rw[aU (ne _ _ q)];exact q⟩
 .rw[aU (Ne.symm hL)];exact I.free
 .rw[aU (hc x d e)];exact I.freeC x d e
 .obtain⟨a,b,r⟩:=I.pin p hp'
  exact⟨a,by rw[aU (hp p hp')];exact b,r⟩
 .by_cases z:a=c
  .subst z
   rw[cX]at e;cases e
   exact new
  .rw[aU z]at e
   exact(I.hok a u e).stay (λb v _ q=>q) (λb q=>by rw[aU (ne _ _ q)];exact q) λb xs q=>by rw[aU (ne _ _ q)];exact q
structure New(X:Cx)(pins:List (Addr×Obj))(a:Addr):Prop where
 s0:X.s₀.heap.objs.size<=a
 loc:a≠X.env.locals
 fs:a∉X.fs
 cel:∀x d,X.env.cells.lookup x=some d->d≠a
 pin:∀p∈X.pn++pins,p.1≠a
theorem Inv.newA(I:Inv X pins σ H s){a:Addr}(h:s.heap.objs.size<=a):New X pins a:=
 ⟨Zl I.sz h,Nat.ne_of_gt (Zc I.lt h),I.nofs h,λx d e=>by
  obtain⟨v,o,e2,_⟩:=I.cell x d e
  exact Zk (Zc (Ze e2) h),λp hp=>Zk (Zc (Ze (I.pin p hp).1) h)⟩
theorem Inv.chg{h':Heap}{a:Addr}{tk:Nat}(I:Inv X pins σ H s)(N:New X pins a)(hn:H a=none)(k:∀b o,b≠a->s.heap.get? b=some o->h'.get? b=some o):Inv X pins σ H { s with heap:=h',toks:=tk}:=
 I.turned k hn N.loc (.inr N.s0) N.cel N.pin
theorem CP{A:Around}{E:Value->Shared->Prop}{P:PySem.Fin->Shared->Prop}{D f:Addr}{n:Nat}{xs:List V}{vs:List Value}{W:Nat->List Int->Hp->Prop}(hA:A=X.A.in1.in1)(I:Inv X pins σ H s)(N:New X pins D)(ho:s.heap.get? D=some (seqObj "list" vs.toArray n))(hn:H D=none)(r:Vals xs vs)(h64:xs.length<64)(w0:W 0 [] H)
  (turn:∀(i:Nat)(y:V)(u:Value)(kz:List Int)(Hi:Hp)(s':Shared)(own:List (Addr×Obj)),xs[i]? =some y->RelV y u->W i kz Hi->Inv X (pins++own) σ Hi s'->wpAny (model X.prog X.w) X.A.in1.in1 (call (.ref f) [u]) (EP X (pins++own) σ λv H'=>∃k,v= .int k/\W (i+1) (kz++[k]) H') (λ_ _=>False) s')
  (h:∀kz H' s',W xs.length kz H'->H' D=none->Inv X pins σ (upd H' D (.lst ((lz (λi j=>decide (kz.getD i 0<kz.getD j 0)) xs.length).map λi=>xs.getD i .non))) s'->P (.done (.ret .none)) s'):
  wpAny (model X.prog X.w) A (ksk_tree D (.ref f) false) P E s:=by
 subst hA
 have hl:=r.length
 have e1:=get?_update_seq ho λ_=>(#[]:Array Value)
 generalize hc1:(if(#[]:Array Value).size==vs.toArray.size then n else n+1)=c1 at e1
 have upd1:=λ(a:Addr)(g:Heap)(q:Array Value->Array Value)=>Heap.SameBut.update g a (Obj.mapSeq q)
 unfold ksk_tree
 refine wpAny_bind (listItems_at ho rfl ?_)
 refine wpAny_bind (listUpdate_at ho rfl ?_ (by rw[Zd,sizeLine_eq];omega) (Nat.zero_le _))
 refine wpAny_bind (seqEpoch_at e1 rfl ?_)
 refine wpAny_bind (wpAny_newTuple ?_ (by show vs.length<=_;rw[sizeLine_eq];omega))
 refine wpAny_bind (wpAny_newList ?_ (Nat.zero_le _))
 refine wpAny_holding ?_
 have I1:Inv X pins σ H { s with heap:=s.heap.update D (Obj.mapSeq λ_=>(#[]:Array Value)),toks:=s.toks}:=I.chg N hn λb o hb e=>((upd1 D s.heap _).2 b hb).trans e
 generalize hg4:(s.heap.update D (Obj.mapSeq λ_=>(#[]:Array Value))).push (seqObj "tuple" vs.toArray 0)=g4
 have I4:Inv X pins σ H { s with heap:=g4,toks:=s.toks}:=I1.kept (h':=g4) λb o e=>by rw[<-hg4];exact Zb _ e
 have o4:g4.get? D=some (seqObj "list" #[] c1):=by rw[<-hg4];exact Zb _ e1
 show wpAny (model X.prog X.w) X.A.in1.in1 (ksk_rest D (.ref f) false vs.toArray c1 (.ref g4.objs.size)) P E { s with heap:=g4.push (seqObj "list" #[] 0) }
 have NK:New X pins g4.objs.size:=I4.newA (Zg _)
 have hDK:D≠g4.objs.size:=Zk (Ze o4)
 have nK:H g4.objs.size=none:=I4.hok.fresh (Zg _)
 have I5:Inv X pins σ H { s with heap:=g4.push (seqObj "list" #[] 0),toks:=s.toks}:=I4.kept (h':=g4.push (seqObj "list" #[] 0)) λb o e=>Zb _ e
 have o5:(g4.push (seqObj "list" #[] 0)).get? D=some (seqObj "list" #[] c1):=Zb _ o4
 have k5:(g4.push (seqObj "list" #[] 0)).get? g4.objs.size=some (seqObj "list" #[] 0):=Zf _ rfl
 generalize g4.objs.size=kS at *
 generalize g4.push (seqObj "list" #[] 0)=g5 at *
 have pinIt:∀{Hi:Hp}{s':Shared}{kA:Array Value}{e:Nat},Inv X pins σ Hi s'->s'.heap.get? kS=some (seqObj "list" kA e)->s'.heap.get? D=some (seqObj "list" #[] c1)->Hi kS=none->Hi D=none->Inv X (pins++[(kS,seqObj "list" kA e),(D,seqObj "list" #[] c1)]) σ Hi s':=λ{Hi s' kA e} J q1 q2 q3 q4=>J.more λp hp=>by
  rcases Zi.mp hp with z|z
  .rw[z];exact⟨q1,q3,NK.loc,NK.fs,λv=>by intro z;cases z⟩
  .rw[List.mem_singleton.mp z];exact⟨q2,q4,N.loc,N.fs,λv=>by intro z;cases z⟩
 unfold ksk_rest
 refine wpAny_bind (wpAny_rule ?_)
 rw[List.forIn_toArray]
 refine wpAny_bind (ksk_fold (λi s'=>∃Hi kz kA e,Inv X (pins++[(kS,seqObj "list" kA e),(D,seqObj "list" #[] c1)]) σ Hi s'/\W i kz Hi/\IntsAre kA.toList kz/\kz.length=i) vs 0 _ ⟨H,[],#[],0,pinIt I5 k5 o5 nK hn,w0,.nil,rfl⟩ ?step ?done)
 case step=>
  rintro j v s' hv ⟨Hi,kz,kA,e,J,w,hk,hkl⟩
  simp only[Nat.zero_add]at w hkl ⊢
  obtain⟨y,hy,ry⟩:∃y,xs[j]? =some y/\RelV y v:=by
   have hj:j<vs.length:=(Zh.mp hv).1
   have hj':j<xs.length:=by omega
   have rl:=qt r j
   refine⟨xs[j],List.getElem?_eq_getElem hj',?_⟩
   have a1:xs.getD j V.non=xs[j]:=by simp[List.getD,hj']
   have a2:vs.getD j Value.none=v:=by simp[List.getD,hv]
   rw[a1,a2]at rl
   exact rl
  have hj:j<xs.length:=(Zh.mp hy).1
  refine wpAny_bind (wpAny_attempt (wpAny_mono (turn j y v kz Hi s' _ hy ry w J) (λu s2 hu=>?_) λ_ _ z=>z.elim))
  obtain⟨z,H2,J2,rz,m,hz,w2⟩:=hu
  subst hz
  obtain⟨t,rfl⟩:=rz
  have pk:=J2.pin (kS,seqObj "list" kA e) (by simp)
  have pd:=J2.pin (D,seqObj "list" #[] c1) (by simp)
  have hkA:kA.size<=64:=by
   have:=hk.length
   rw[Array.length_toList]at this
   omega
  have s1:=upd1 kS s2.heap (·.push (.int m t))
  have q1:=get?_update_seq pk.1 (·.push (.int m t))
  try dsimp only
  refine wpAny_bind (listUpdate_at pk.1 rfl ?_ (by rw[sizeLine_eq];omega) (Zl (Nat.le_of_eq (Array.size_push ..)) (by rw[sizeLine_eq];omega)))
  have ea:(kA.push (Value.int m t)).toList=kA.toList++[Value.int m t]:=by simp
  have J3:Inv X pins σ H2 s2:=J2.unpinned
  refine wpAny_pure ⟨rfl,H2,kz++[m],kA.push (.int m t),_,pinIt (J3.chg (tk:=s2.toks) NK pk.2.1 λb o hb e=>(s1.2 b hb).trans e) q1 ((s1.2 D hDK).trans pd.1) pk.2.1 pd.2.1,w2,by rw[ea];exact ksk_snoc hk,by simp[hkl]⟩
 case done=>
  rintro s' ⟨Hi,kz,kA,e,J,w,hk,hkl⟩
  rw[Nat.zero_add,<-hl]at w
  have hkl:kz.length=xs.length:=by omega
  have pk:=J.pin (kS,seqObj "list" kA e) (by simp)
  have pd:=J.pin (D,seqObj "list" #[] c1) (by simp)
  have J3:Inv X pins σ Hi s':=J.unpinned
  have hkA:kA.size=vs.length:=by
   have:=hk.length
   rw[Array.length_toList]at this
   omega
  try dsimp only
  refine wpAny_bind (listItems_at pk.1 rfl ?_)
  have tail:∀st:SortSt,failedOf st=none->(arrOf st).map (·.2)=(((lz (λi j=>decide (kz.getD i 0<kz.getD j 0)) xs.length).map λi=>vs.getD i Value.none).toArray)->wpAny (model X.prog X.w) X.A.in1.in1 (ksk_tail D false c1 (.ref kS) st) P E s':=λst hf har=>by
   have s1:=upd1 kS s'.heap λ_=>(#[]:Array Value)
   have q1:=(s1.2 D hDK).trans pd.1
   have hsz:((lz (λi j=>decide (kz.getD i 0<kz.getD j 0)) xs.length).map λi=>vs.getD i Value.none).toArray.size=vs.length:=by rw[Zd,Zu,lJ,hl]
   unfold ksk_tail
   rw[har]
   try dsimp only
   refine wpAny_bind (listUpdate_at pk.1 rfl ?_ (by rw[hkA,sizeLine_eq];omega) (Nat.zero_le _))
   refine wpAny_bind (wpAny_letGo ?_)
   refine wpAny_bind (seqEpoch_at q1 rfl ?_)
   have s2:=upd1 D (s'.heap.update kS (Obj.mapSeq λ_=>(#[]:Array Value))) λ_=>((lz (λi j=>decide (kz.getD i 0<kz.getD j 0)) xs.length).map λi=>vs.getD i Value.none).toArray
   have q2:=get?_update_seq q1 λ_=>((lz (λi j=>decide (kz.getD i 0<kz.getD j 0)) xs.length).map λi=>vs.getD i Value.none).toArray
   refine wpAny_bind (listUpdate_at q1 rfl ?_ (Nat.zero_le _) (Zl (Nat.le_of_eq hsz) (by rw[sizeLine_eq];omega)))
   rw[hf]
   simp only[bne_self_eq_false,Bool.false_eq_true,if_false]
   have J4:Inv X pins σ Hi { s' with heap:=s'.heap.update kS (Obj.mapSeq λ_=>(#[]:Array Value)),toks:=s'.toks}:=J3.chg NK pk.2.1 λb o hb e=>(s1.2 b hb).trans e
   have J5:=J4.chg (tk:=s'.toks) N pd.2.1 λb o hb e=>(s2.2 b hb).trans e
   refine wpAny_pure (h kz Hi _ w pd.2.1 (J5.trackNew q2 pd.2.1 N.s0 N.loc N.cel N.pin ⟨by rw[Zu,lJ,sizeLine_eq];omega,_,_,uv r _,q2⟩))
  unfold ksk_end
  try dsimp only
  simp only[Bool.false_eq_true,if_false]
  by_cases h2:vs.toArray.size<2
  .rw[if_pos h2,if_pos h2]
   refine wpAny_bind (wpAny_pure ?_)
   rw[StateT.run_pure]
   refine wpAny_bind (wpAny_pure ?_)
   try dsimp only
   refine tail _ rfl ?_
   rw[Zd]at h2
   unfold lz
   rw[if_neg (by omega),hl,range_getD]
   show(kA.zip vs.toArray).map (λp=>p.2)=vs.toArray
   apply Array.toList_inj.mp
   rw[Array.toList_map,ksk_zip,List.map_snd_zip (by simp[hkA])]
  .rw[if_neg h2,if_neg h2]
   rw[Zd]at h2
   rw[ksk_kind hk (by omega)]
   refine wpAny_bind (wpAny_pure ?_)
   have hkt:kA.toList.length=vs.length:=by rw[Array.length_toList,hkA]
   have good:(kas_sort vs.length).kasWp (kas_ask X.prog X.w X.A.in1.in1 oneType' kA.toList) (λp s''=>p=wz (λi j=>decide (kz.getD i 0<kz.getD j 0)) (kas_sort vs.length)/\s''=s') s':=
    dN.wp (n:=vs.length) (R:=gm vs.length) (λi j C hi hj hC=>by
     obtain⟨t1,g1⟩:=hk.get i (kz.getD i 0) (by simp[List.getD,hkl,<-hl,show i<xs.length by omega])
     obtain⟨t2,g2⟩:=hk.get j (kz.getD j 0) (by simp[List.getD,hkl,<-hl,show j<xs.length by omega])
     show wpAny _ _ (keyLt' _ (kA.toList.getD i Value.none) (kA.toList.getD j Value.none)) C _ s'
     have f1:kA.toList.getD i Value.none= .int (kz.getD i 0) t1:=by
      show(kA.toList[i]?).getD Value.none=_
      rw[g1];rfl
     have f2:kA.toList.getD j Value.none= .int (kz.getD j 0) t2:=by
      show(kA.toList[j]?).getD Value.none=_
      rw[g2];rfl
     rw[f1,f2]
     exact kat_lt_int hC) (rP (by omega)) ⟨rfl,rfl⟩
   have run:=kat_run (E:=E) (Q:=λst' s''=>s''=s'/\failedOf st'=none/\(arrOf st').map (·.2)=List.toArray ((wz (λi j=>decide (kz.getD i 0<kz.getD j 0)) (kas_sort vs.length)).toList.map λi=>vs.getD i Value.none)) hkt (by omega) (by omega) (λp st' s'' a1 a2 a3 a4=>⟨a4.2,a3,by rw[<-a4.1];exact kat_snds hkt a2⟩) good
   rw[Array.toArray_toList]at run
   refine wpAny_bind (wpAny_mono run ?_ λ_ _ e=>e)
   rintro⟨⟨⟩,st'⟩ s'' ⟨rfl,hf,har⟩
   try dsimp only
   refine tail st' hf ?_
   rw[har]
   unfold lz
   rw[if_pos (by omega),hl]
end
def BP(kz:List Int)(xs:List V):List V:=(lz (λi j=>decide (kz.getD i 0<kz.getD j 0)) xs.length).map λi=>xs.getD i .non
def Qc(P:Addr)(capI:List Nat)(ta te:TE):TE:=λσ H Q=>ta σ H λv H1=>∃(a:Addr)(xs:List V)(ps:Array Value),v= .ref a/\H1 a=some (.lst xs)/\xs.length<64/\H1 P=some (.tbl ps)/\TOk H1 ps/\
 ∀lo H2 ps',Dm lo P ps ps' H1 H2->∃W:Nat->List Int->Hp->Prop,W 0 [] H2/\(∀i kz Hi,W i kz Hi->(∀c o,H2 c=some (.frz o (.own 0))->Hi c=some (.frz o (.own 0)))/\∀y,xs[i]? =some y->te (some y::lW σ capI) Hi λv H'=>∃k,v= .int k/\W (i+1) (kz++[k]) H')/\
  ∀kz H',W xs.length kz H'->∀p,H' p=none->Q (.ref p) (upd H' p (.lst (BP kz xs)))
theorem JQ{X:Cx}{x:Str}{cap:List Str}{capI:List Nat}{scope:Scope}{params:Arguments}{body e:Expr}{ta te:TE}{k:Nat}{P:Addr}{p pos lpos kpos:Pos}(hc:X.calm=true)(hr:fu (k+1) X.A)(hm:X.mg "sorted"=none)(L:Em X x cap capI scope params body)(htb:∃c,X.env.code= .ref c/\CodeHd X.base c P)(ha:PE X e ta)
  (he:∀q f code s H,(∀k,fu (k+1) X.A->fu k (qK X X.A.in1.in1 x cap scope q f code s H).A)->PE (qK X X.A.in1.in1 x cap scope q f code s H) body te) (hg:Gl X "sorted":=by rfl) (hs:starEach [e] X.env=(false,eval e X.env)::starEach [] X.env:=by rfl):
  PE X (.Call (.Name "sorted" p) [e] [⟨some "key",.Lambda params body scope lpos,kpos⟩] pos) (Qc P capI ta te):=by
 intro pins s σ H Q I h
 obtain⟨c,hcode,hhd⟩:=htb
 refine wpAny_Call_Name_kw (mK I hg hm PyProof.Rows.boot_sorted ?_ (by decide) (by decide))
 refine PyProof.Rows.callWith_kw (tW (thn (ha pins s σ H _ I h) λu s1 hu=>?_) hs) (by rw[hs];rfl) (by rw[hs];rfl)
 obtain⟨v,H1,I1,r1,a,xs,ps,rfl,hal,h64,hP,ht,hW⟩:=hu
 cases r1
 show wpAny _ _ (evalAll [(do let v<-eval (.Lambda params body scope lpos) X.env;standAt pos;pure v)]) _ _ s1
 refine wpAny_evalAll_cons (wpAny_bind (Hc L I1 hcode hhd hP ht λf s2 H2 ps' pm cv ct hG I2 hcv=>wpAny_bind (wpAny_standAt (wpAny_pure (wpAny_evalAll_nil ?_)))))
 show wpAny _ _ (call (.builtin "sorted") [.ref a] [(Str.ofString "key",.ref f)]) _ _ s2
 obtain⟨W,w0,wt,wf⟩:=hW _ H2 ps' hG
 have hal2:H2 a=some (.lst xs):=hG.keep a _ (zP hal hP (by intro z;cases z)) hal
 obtain⟨hz,its,n,r,hlen,hobj⟩:=I2.lstM hal2
 refine call_function_entry_kw kind_sorted plain_sorted entry_sorted (ksk_s1 _ _) ?_
 unfold Builtin.«sorted»
 refine wpAny_bind (m:=checkCount "sorted" 1 1 _) (wpAny_pure ?_)
 refine wpAny_bind (collect_list (vs:=its) ⟨_,hobj,rfl,n,rfl⟩ ?_ (by rw[sizeLine_eq];omega))
 refine wpAny_bind (wpAny_newList ?_ (by rw[sizeLine_eq];omega))
 generalize hg1:(s2.heap.push (seqObj "list" #[] 0)).update s2.heap.objs.size (Obj.mapSeq (· ++its.toArray))=g1
 have k1:∀b o,s2.heap.get? b=some o->g1.get? b=some o:=λb o q=>by
  rw[<-hg1,Heap.get?_update_ne _ _ _ _ (Zk (Ze q)),Heap.get?_push_ne _ _ _ (Zk (Ze q))]
  exact q
 have z1:g1.objs.size=s2.heap.objs.size+1:=by rw[<-hg1,Heap.size_update,size_push']
 have k2:∀b o,s2.heap.get? b=some o->(g1.push (seqObj "list" its.toArray 0)).get? b=some o:=λb o q=>Zb _ (k1 b o q)
 have o2:(g1.push (seqObj "list" its.toArray 0)).get? g1.objs.size=some (seqObj "list" its.toArray 0):=Zf _ rfl
 show wpAny _ _ _ _ _ { s2 with heap:=g1.push (seqObj "list" its.toArray 0) }
 have hle:s2.heap.objs.size<=g1.objs.size:=by omega
 generalize g1.push (seqObj "list" its.toArray 0)=g2 at *
 generalize g1.objs.size=D at *
 have I3:=I2.kept (t':=s2.toks) k2
 refine wpAny_bind (wpAny_holding (wpAny_call_entry_kw slot_list_sort ⟨_,o2,rfl⟩ entry_list_sort ?body (ksk_l1 _ _)))
 case body=>
  show wpAny (model X.prog X.w) X.A.in1.in1 (Builtin.«list.sort» ⟨[.ref D],[(Str.ofString "key",.ref f)]⟩) _ _ _
  rw[ksk_t1]
  refine CP (W:=W) rfl I3 (I2.newA hle) o2 (I2.hok.fresh hle) r h64 w0 (λi y u kz Hi s' own hy ry w J=>?_) λkz H' s' w hD J=>⟨_,rfl,?_⟩
  .obtain⟨hfz,hte⟩:=wt i kz Hi w
   obtain⟨c',oc,vs',w',e1,e2,e3⟩:=id hcv
   exact Ks hr hc L (λq f code s H=>he q f code s H GQ) J (J.pin (f,uR X (X.env.qual++"<lambda>") params body scope pm cv ct) (by simp)).1 ⟨c',oc,vs',w',e1,hfz _ _ e2,e3⟩ ry (hte y hy)
  .exact wpAny_pure ⟨_,rfl,.ref D,_,J.unpinned,rfl,wf kz H' w D hD⟩
end L2
namespace L3
open PySem PySem.Spec PyProof.Rows L2
def qx:List iz->Mu->Option (List Int×Mu)
 | [],μ=>some ([],μ)
 |t::r,μ=>(t μ).bind λx=>match x.1 with
  | .int j=>(qx r x.2).map λq=>(j::q.1,q.2)
  |_=>none
def oK(kz:List Int)(ds:List D):List D:=(lz (λi j=>decide (kz.getD i 0<kz.getD j 0)) ds.length).map λi=>ds.getD i .non
def ql(own:List Str)(capI:List Nat)(f fe:EF):LF:=λδ μ=>(f δ μ).bind λr=>(vq r.1 r.2).bind λds=>if ds.length<64 then(qx (ds.map (thG (hName 0) fe (cW own δ capI))) r.2).map λq=>(oK q.1 ds,q.2)else none
theorem wX{X:Cx}{tb:List Addr}{x:Str}{cap:List Str}{capI:List Nat}{scope:Scope}{params:Arguments}{body e:Expr}{f fe:EF}{k:Nat}{P:Addr}{p pos lpos kpos:Pos}(hc:X.calm=true)(hr:fu (k+1) X.A)(hm:X.mg "sorted"=none)(L:Em X x cap capI scope params body)(hP:P∈tb)(htb:∃c,X.env.code= .ref c/\PySem.W.CodeHd X.base c P)(ha:PD X tb e f)
  (he:∀q f code s H,(∀k,fu (k+1) X.A->fu k (qK X X.A.in1.in1 x cap scope q f code s H).A)->PD (qK X X.A.in1.in1 x cap scope q f code s H) tb body fe) (hg:Gl X "sorted":=by rfl) (hs:starEach [e] X.env=(false,eval e X.env)::starEach [] X.env:=by rfl):
  PDN X tb (.Call (.Name "sorted" p) [e] [⟨some "key",.Lambda params body scope lpos,kpos⟩] pos) (ql [x] capI f fe):=
 dO (JQ (te:=tD X.K tb fe) hc hr hm L htb ha he hg hs) λσ H Q zq1=>by
  obtain⟨W,δ,ds,μ',e,ok,hd,hf,kk⟩:=zq1
  unfold ql at hf
  obtain⟨⟨v0,μ1⟩,e1,hf⟩:=Za.mp hf
  obtain⟨es,e2,hf⟩:=Za.mp hf
  split at hf
  .rename_i h64
   obtain⟨⟨kz,μ2⟩,e3,e4⟩:=Zp.mp hf
   cases e4
   refine⟨W,δ,v0,μ1,e,ok,hd,e1,λv W1 ok1 l1 m1 d1=>?_⟩
   obtain⟨a,xs,rfl,q,r⟩:=wV ok1 d1 (by rw[m1];exact e2)
   have hlen:=aD.length r
   obtain⟨ps,ep,tp⟩:=ok1.tab P hP
   refine⟨a,xs,ps,rfl,q,by omega,ep,tp,λlo H2 ps' hG=>?_⟩
   obtain⟨ok2,l2⟩:=ok1.tbl hP ep hG
   refine⟨λi zs Hi=>∃W3,W3.H=Hi/\WOk X.K tb W3/\Le tb ⟨H2,W1.ad,W1.mu⟩ W3/\∃rest,qx ((es.drop i).map (thG (hName 0) fe (cW [x] δ capI))) W3.mu=some (rest,μ2)/\zs++rest=kz,⟨⟨H2,W1.ad,W1.mu⟩,rfl,ok2,Le.refl _,kz,by rw[List.drop_zero,<-e3,<-m1],rfl⟩,?_,?_⟩
   .rintro i zs Hi ⟨W3,rfl,ok3,l3,rest,ek,hz⟩
    refine⟨λc o hco=>?_,λy hy=>?_⟩
    .have nl:¬nu W1.ad W1.mu c:=λz=>by
      obtain⟨ys,e⟩:=ok2.live z
      have e:H2 c=some (.lst ys):=e
      rw[hco]at e;cases e
     have nt:c∉tb:=λz=>by
      obtain⟨qs,e,_⟩:=ok2.tab c z
      have e:H2 c=some (.tbl qs):=e
      rw[hco]at e;cases e
     have q1:Wd.fz tb ⟨H2,W1.ad,W1.mu⟩ c=some (.frz o (.own 0)):=(pH (W:=⟨H2,W1.ad,W1.mu⟩) nl nt).trans hco
     exact(dB (l3.same c _ q1)).1
    .obtain⟨d0,ed,dd⟩:=aD.get' r hy
     have hi:i<es.length:=(Zh.mp ed).1
     have ed':es[i]=d0:=(Zh.mp ed).2
     rw[List.drop_eq_getElem_cons hi,Zj,ed']at ek
     unfold qx at ek
     obtain⟨⟨w,μ3⟩,e5,e6⟩:=Za.mp ek
     unfold thG at e5
     obtain⟨δ1,e7,e8⟩:=Za.mp e5
     cases e7
     cases w with
     |int j=>
      obtain⟨⟨rs,μ4⟩,e9,e10⟩:=Zp.mp (show(qx _ μ3).map (λq=>(j::q.1,q.2))=some (rest,μ2)from e6)
      cases e10
      have l13:Le tb W1 W3:=l2.trans l3
      refine⟨W3,(cW [x] δ capI).set 0 (some d0),.int j,μ3,rfl,ok3,((ug (own:=[x]) (capI:=capI) hd).mono' (l1.trans l13)).set (i:=0) (Den.mono' dd l13),e8,λv W4 ok4 l4 m4 d4=>⟨j,bx d4,W4,rfl,ok4,l3.trans l4,rs,by rw[m4];exact e9,by rw[List.append_assoc];exact hz⟩⟩
     |_=>cases e6
   .rintro zs Hi ⟨W3,rfl,ok3,l3,rest,ek,hz⟩ p hp
    rw[List.drop_of_length_le (by omega)]at ek
    cases ek
    rw[List.append_nil]at hz
    subst hz
    have l13:Le tb W1 W3:=l2.trans l3
    have hb:cJ X.K tb W3 (oK zs es) (BP zs xs):=by
     unfold oK BP
     rw[hlen]
     exact uH (cJ.mono' r l13) _
    exact kk p _ W3 ok3 (l1.trans l13) rfl hp hb
  .cases hf
end L3
namespace PySem
open Sem (wp)
open AutoSeq1 (wpAny_loadPart')
section
variable {prog:Program} {w:World} {A:Around} {E:Value->Shared->Prop} {s:Shared}
theorem Bv{Q:List Value->Shared->Prop}{r:Addr}{a b c:Int}{t u v:Tok}{n:Nat}(hh:A.handled=none)(hr:IsRange s.heap r a b c t u v)(hsmall:Builtin.Range.small a b c=true)
  (hn:Builtin.Range.rangeSize a b c=n) (hlen:n<=2 ^ 24)
  (hQ:∀h' tk acc,(∀b o,s.heap.get? b=some o->h'.get? b=some o)->ItemsOf (λi v=>∃t,v= .int (a+i*c) t) acc n->Q acc.toList { s with heap:=h',toks:=tk}):
  wpAny (model prog w) A (collect (.ref r)) Q E s:=by
 unfold collect
 refine wpAny_bind (wpAny_runValue (codeAny_builtin F.entry_proto_collect ?_))
 rw[Around.under_plainId F.plain_proto_collect _]
 show wpAny _ A.in1 (newList [] >>= λl=>again (.builtin "list.__iadd__" ⟨[l,.ref r],[]⟩)) _ _ s
 refine wpAny_bind (wpAny_newObj_type ?_)
 refine wpAny_pure ⟨plainId_quiet F.plain_list_iadd _,codeAny_builtin F.entry_list_iadd ?_⟩
 rw[Around.under_plainId F.plain_list_iadd _]
 show wpAny _ A.in1 (Builtin.List.listExtendWith (.ref s.heap.objs.size) (.ref r) (.ref s.heap.objs.size)) _ _ _
 have hS:(s.heap.push { cls:=.type "list",data:=.seq ([]:List Value).toArray}).get? s.heap.objs.size=some { cls:=.type "list",data:=.seq #[] 0}:=Zf _ rfl
 refine wpAny_mono (wpAny_extend_range (A:=A) (R:=λr s'=>r= .ok (.ret (.ref s.heap.objs.size))/\∃h' tk acc' c',(∀b o,s.heap.get? b=some o->h'.get? b=some o)/\h'.get? s.heap.objs.size=some { cls:=.type "list",dict:=none,data:=.seq acc' c',slots:= #[] }/\ItemsOf (λi v=>∃t,v= .int (a+i*c) t) acc' n/\s'={ s with heap:=h',toks:=tk})
  (s:={ s with heap:=s.heap.push { cls:=.type "list",data:=.seq ([]:List Value).toArray} }) hh (Zb _ hr) hsmall hn hlen _ _ 0 hS λh' tk acc' c' hk hS' hacc=>⟨rfl,h',tk,acc',c',λb o e=>hk b o (Zk (Ze e)) (Zb _ e),hS',hacc,rfl⟩) (λfin s' h=>?_) (λe s' h=>?_)
 .have fin':∀(r':Result)(s':Shared),(r'= .ok (.ret (.ref s.heap.objs.size))/\∃h' tk acc' c',(∀b o,s.heap.get? b=some o->h'.get? b=some o)/\h'.get? s.heap.objs.size=some { cls:=.type "list",dict:=none,data:=.seq acc' c',slots:= #[] }/\ItemsOf (λi v=>∃t,v= .int (a+i*c) t) acc' n/\s'={ s with heap:=h',toks:=tk})->wpAny (model prog w) A (match Value.ref s.heap.objs.size with
   |Value.ref a=>do
    match(<-load a).data with
     |Data.seq xs _=>pure xs.toList
     |_=>unsupported "internal:collect"
   |_=>unsupported "internal:collect") Q E s':=by
   rintro r' s' ⟨_,h',tk,acc',c',h1,h2,h3,rfl⟩
   show wpAny _ A (load s.heap.objs.size >>= _) _ _ _
   refine wpAny_bind (wpAny_load h2 ?_)
   exact wpAny_pure (hQ h' tk acc' h1 h3)
  cases fin with
  |done f=>
   have e:=h.1
   cases e
   exact fin' _ _ h
  |again c'=>exact⟨h.1,codeAny_mono h.2 λr s'' hr=>by
   have e:=hr.1
   subst e
   exact fin' _ _ hr⟩
 .exact absurd h.1 (by simp)
end
theorem tK(r:Addr)(a b c:Int)(t u v:Tok)(n:Nat)(hsmall:Builtin.Range.small a b c=true)(hn:Builtin.Range.rangeSize a b c=n)(hlen:n<=2 ^ 24):
  Meets (Builtin.«tuple.__new__» ⟨[.type "tuple",.ref r],[]⟩)
   (λA R s=>A.handled=none/\IsRange s.heap r a b c t u v/\∀(h':Heap)(tk:Nat)(acc:Array Value),(∀b o',s.heap.get? b=some o'->h'.get? b=some o')->ItemsOf (λi v=>∃t,v= .int (a+i*c) t) acc n->R (.ok (.ret (.ref h'.objs.size))) { s with heap:=h'.push { cls:=.type "tuple",data:=.seq acc},toks:=tk}):=
 .of_wp λprog w A R s h=>by
  obtain⟨hp,g,d,tk,os⟩:=s;obtain⟨hh,hr,h⟩:=h
  have hsub:=sub_tuple_self
  have hinit:=init_tuple_lookup
  have hmh:=madeHere_tuple
  have hT:Shared.TypeIs ⟨hp,g,d,tk,os⟩ (.ref r) "range":=⟨_,hr,rfl⟩
  have hh1:A.in1.handled=none:=hh
  wp_walk using wpAny_loadPart' hr,wpAny_typeOf hT,Bv hh1 hr hsmall hn hlen
  intro h' tk acc hk hacc
  show wpAny _ _ (Builtin.Tuple.tupleExact acc.toList.toArray >>= λv=>ret v) _ _ _
  unfold Builtin.Tuple.tupleExact
  refine wpAny_bind (wpAny_newObj_type ?_ (show acc.toList.toArray.size<=sizeLine by simp only[Array.toArray_toList];rw[hacc.1,sizeLine_eq];exact hlen))
  refine wpAny_pure ⟨_,rfl,?_⟩
  have e:acc.toList.toArray=acc:=by simp
  rw[e]
  exact h h' tk acc hk hacc
theorem uF{prog:Program}{w:World}{A:Around}{E:Value->Shared->Prop}{s:Shared}{Q:Value->Shared->Prop}{r:Addr}{a b c:Int}{t u v:Tok}{n:Nat}(hh:A.handled=none)(hr:IsRange s.heap r a b c t u v)(hsmall:Builtin.Range.small a b c=true)
  (hn:Builtin.Range.rangeSize a b c=n) (hlen:n<=2 ^ 24)
  (h:∀(h':Heap)(tk:Nat)(acc:Array Value),(∀b o',s.heap.get? b=some o'->h'.get? b=some o')->ItemsOf (λi v=>∃t,v= .int (a+i*c) t) acc n->Q (.ref h'.objs.size) { s with heap:=h'.push { cls:=.type "tuple",data:=.seq acc},toks:=tk}):
  wpAny (model prog w) A (call (.type "tuple") [.ref r]) Q E s:=
 callType_new F.called_tuple (by decide) (F.typeCall_tuple_1 _) (F.newCall_tuple_1 _) (λobj=>F.args_object_init_2 obj _) F.entry_tuple_new
  (tK r a b c t u v n hsmall hn hlen) ⟨hh,hr,λh' tk acc hk hacc=>⟨⟨_,Zf _ rfl,rfl⟩,h h' tk acc hk hacc⟩⟩
end PySem
namespace L3
open PySem PySem.Spec PyProof.Rows L2
theorem qJ{X:Cx}(hc:X.calm=true):je X (.type "tuple") (λxs H Q=>∃p i j,xs=[.ref p]/\H p=some (.rng i j)/\(-(2 ^ 62)<=i/\i<2 ^ 62/\ -(2 ^ 62)<=j/\j<2 ^ 62)/\(j-i).toNat<=sizeLine/\∀l,H l=none->Q (.ref l) (upd H l (.tup (wA i (j-i).toNat)))):=by
 intro pins s σ H xs us Q I r h
 obtain⟨p,i,j,rfl,hp,⟨h1,h2,h3,h4⟩,hz,q⟩:=h
 obtain⟨u,rfl,rx⟩:=vals1 r
 cases rx
 obtain⟨t,u,v,ho⟩:=I.hok p _ hp
 have hn:Builtin.Range.rangeSize i j 1=((j-i).toNat:Nat):=by rw[rangeSize_one];split<;>omega
 refine uF (I.ok.hd hc) ho (small_one h1 h2 h3 h4) hn (by rw[sizeLine_eq]at hz;omega) λh' tk acc' kp it=>?_
 obtain⟨e1,e2⟩:=it
 have hv:Vals (wA i (j-i).toNat) acc'.toList:=by
  unfold wA
  rw[List.range_eq_range']
  refine rT (by simpa using e1) λk v hk=>?_
  obtain⟨t,q⟩:=e2 k v (by simpa using hk)
  exact⟨t,by rw[q];congr 1;first|done|omega⟩
 have I1:Inv X pins σ H { s with heap:=h',toks:=tk}:=I.kept (t':=tk) kp
 have I2:Inv X pins σ (upd H h'.objs.size (.tup (wA i (j-i).toNat))) { s with heap:=h'.push { cls:=.type "tuple",data:=.seq acc'},toks:=tk}:=
  I1.laid (t':=tk) (λb o e=>Zb _ e) (Zg _) (show iD X.prog X.w _ _ _ (.tup _)from⟨by rw[hv.length];simpa[e1]using hz,acc'.toList,hv,by simpa using IsTup.new (h:=h') (items:=acc')⟩)
 exact⟨.ref h'.objs.size,_,I2,rfl,q _ (I1.hok.fresh (Zg _))⟩
def yD(fs:AF):EF:=λδ μ=>(fs δ μ).bind λr=>match r.1 with
 | [.int j]=>if -(2 ^ 62)<=j/\j<2 ^ 62/\j.toNat<=sizeLine then some (.tup (cL 0 j.toNat),r.2)else none
 |_=>none
def yp(fs:AF):EF:=λδ μ=>(fs δ μ).bind λr=>match r.1 with
 | [.int i,.int j]=>if(-(2 ^ 62)<=i/\i<2 ^ 62/\ -(2 ^ 62)<=j/\j<2 ^ 62)/\(j-i).toNat<=sizeLine then some (.tup (cL i (j-i).toNat),r.2)else none
 |_=>none
section
variable {X:Cx} {tb:List Addr} {a b:Expr} {fs:AF} {p p2 pos pos2:Pos}
theorem Jl(hc:X.calm=true)(hm:X.mg "tuple"=none)(hm2:X.mg "range"=none)(ha:PAD X tb [a] fs)(hg:Gl X "tuple":=by rfl)(hg2:Gl X "range":=by rfl)(he:starEach [a] X.env=(false,eval a X.env)::starEach [] X.env:=by rfl)
  (he2:starEach [.Call (.Name "range" p2) [a] [] pos2] X.env=(false,eval (.Call (.Name "range" p2) [a] [] pos2) X.env)::starEach [] X.env:=by rfl):
  PD X tb (.Call (.Name "tuple" p) [.Call (.Name "range" p2) [a] [] pos2] [] pos) (yD fs):=
 dO (iJ (qJ hc) hg hm PyProof.Rows.boot_tuple (mG (iJ wM hg2 hm2 PyProof.Rows.boot_range ha (by decide) (by decide) he (by rfl)) rE he2) (by decide) (by decide) he2 (by rfl)) λσ H Q zq3=>by
  obtain⟨W,δ,d,μ',e,ok,hd,hf,k⟩:=zq3
  unfold yD at hf
  obtain⟨⟨xs,μ1⟩,e1,e2⟩:=Za.mp hf
  match xs,e1,e2 with
  | [.int j],e1,e2=>
   have e2':(if -(2 ^ 62)<=j/\j<2 ^ 62/\j.toNat<=sizeLine then some (D.tup (cL 0 j.toNat),μ1)else none)=some (d,μ'):=e2
   split at e2'
   .rename_i hj
    cases e2'
    refine⟨W,δ,[.int j],_,e,ok,hd,e1,λvs W1 ok1 l1 m1 d1=>?_⟩
    obtain⟨v,rfl,dv⟩:=aD.one d1
    rw[bx dv]
    refine⟨j,rfl,λq hq=>?_⟩
    obtain⟨ok2,l2,eq⟩:=ok1.alloc (o:=.rng 0 j) hq
    refine⟨q,0,j,rfl,cX,⟨by omega,by omega,by omega,by omega⟩,by simpa using hj.2.2,λl hl=>?_⟩
    exact lD ok2 (λv W' ok' l' m' d'=>k v W' ok' ((l1.trans l2).trans l') (m'.trans m1) d') (by simpa[cL,wA]using uc (List.range j.toNat) (lo:=0)) hl
   .cases e2'
theorem Ht(hc:X.calm=true)(hm:X.mg "tuple"=none)(hm2:X.mg "range"=none)(ha:PAD X tb [a,b] fs)(hg:Gl X "tuple":=by rfl)(hg2:Gl X "range":=by rfl)(he:starEach [a,b] X.env=(false,eval a X.env)::starEach [b] X.env:=by rfl)(hpl:(backTo pos2 (starEach [b] X.env)).any (·.1)=false:=by rfl)
  (he2:starEach [.Call (.Name "range" p2) [a,b] [] pos2] X.env=(false,eval (.Call (.Name "range" p2) [a,b] [] pos2) X.env)::starEach [] X.env:=by rfl):
  PD X tb (.Call (.Name "tuple" p) [.Call (.Name "range" p2) [a,b] [] pos2] [] pos) (yp fs):=
 dO (iJ (qJ hc) hg hm PyProof.Rows.boot_tuple (mG (iJ Fq hg2 hm2 PyProof.Rows.boot_range ha (by decide) (by decide) he hpl) rE he2) (by decide) (by decide) he2 (by rfl)) λσ H Q zq4=>by
  obtain⟨W,δ,d,μ',e,ok,hd,hf,k⟩:=zq4
  unfold yp at hf
  obtain⟨⟨xs,μ1⟩,e1,e2⟩:=Za.mp hf
  match xs,e1,e2 with
  | [.int i,.int j],e1,e2=>
   have e2':(if(-(2 ^ 62)<=i/\i<2 ^ 62/\ -(2 ^ 62)<=j/\j<2 ^ 62)/\(j-i).toNat<=sizeLine then some (D.tup (cL i (j-i).toNat),μ1)else none)=some (d,μ'):=e2
   split at e2'
   .rename_i hj
    cases e2'
    refine⟨W,δ,[.int i,.int j],_,e,ok,hd,e1,λvs W1 ok1 l1 m1 d1=>?_⟩
    obtain⟨v,v',rfl,dv,dv'⟩:=aD.two d1
    rw[bx dv,bx dv']
    refine⟨i,j,rfl,λq hq=>?_⟩
    obtain⟨ok2,l2,eq⟩:=ok1.alloc (o:=.rng i j) hq
    exact⟨q,i,j,rfl,cX,hj.1,hj.2,λl hl=>lD ok2 (λv W' ok' l' m' d'=>k v W' ok' ((l1.trans l2).trans l') (m'.trans m1) d') (uc (List.range (j-i).toNat)) hl⟩
   .cases e2'
end
end L3
set_option maxHeartbeats 4000000
namespace LG
open PySem PySem.Spec PyProof.Rows L2 L3
noncomputable def gD:SF:=bG (mX (M1 (aq 0) (jY "int")) (wK (M1 (aq 0) (jY "bool"))))
noncomputable def dM(dJ:FF):SF:=bG (mX (M1 (aq 0) (jY "tuple")) (yj (lU ["part"] [] (dC (aq 0)) (hName 0) (MC (ao (aq 0) (aC)) dJ))))
noncomputable def cO:SF:=aO (tL 0 1 (ao (MC (ao (aq 0) (aC)) (bu pY)) (ao (MC (ao (aq 1) (aC)) (bu pY)) (aC)))) (aO (mj (toB (M2 (aq 1) (mC (.int 0)) oNe)) (tL 0 1 (ao (aq 1) (ao (M2 (aq 0) (aq 1) oMod) (aC))))) (bG (aq 0)))
noncomputable def dm(bf:FF):SF:=aO (aV 1 (mC (.int 0))) (aO (fV (dC (aq 0)) (hName 2) (aO (aV 1 (MC (ao (aq 1) (ao (aq 2) (aC))) bf)) (sIf (toB (M2 (aq 1) (mC (.int 1)) oEq)) (uy) (bO)))) (bG (aq 1)))
noncomputable def jb:SF:=aO (aV 2 (M2 (M2 (M2 (M2 (M2 (aq 0) (mC (.int 2147483647)) oMod) (mC (.int 48271)) cu) (M2 (M2 (mC (.int 7919)) (aq 1) cu) (aq 1) cu) bL) (mC (.int 104729)) bL) (mC (.int 2147483647)) oMod)) (bG (M2 (M2 (aq 2) (aq 2) cu) (mC (.int 2147483629)) oMod))
noncomputable def nJ(aZ:FF):SF:=aO (aV 1 (nq (rN (aC)))) (aO (fV (bK (ao (MC (ao (MC (ao (aq 0) (aC)) (bu cj)) (ao (mC (.int 63)) (aC))) (mW mV)) (aC))) (hName 2) (aO (aV 3 (MC (ao (M2 (aq 0) (aq 2) oIx) (aC)) (bu pY))) (aO (sIf (toB (M2 (aq 3) (M2 (mC (.int 10)) (mC (.int 18)) zE) oLt)) (fV (bK (ao (mC (.int 12)) (aC))) (hName 4) (eG (fQ (aq 1) (ao (MC (ao (MC (ao (aq 3) (ao (M2 (M2 (mC (.int 3)) (aq 4) cu) (mC (.int 1)) bL) (aC))) aZ) (ao (M2 (M2 (aq 4) (aq 2) bL) (mC (.int 2)) bL) (aC))) aZ) (aC))))) (bO)) (aO (mj (mU (toB (M2 (aq 3) (M2 (mC (.int 10)) (mC (.int 18)) zE) oGe)) (toB (M2 (MC (ao (aq 1) (aC)) (bu cj)) (mC (.int 900)) oLt))) (aO (eG (fQ (aq 1) (ao (M2 (aq 3) (mC (.int 2147483629)) oMod) (aC)))) (aV 3 (M2 (aq 3) (mC (.int 2147483629)) oDiv)))) (sIf (toB (M2 (aq 3) (mC (.int 2147483629)) oGe)) (eG (fQ (aq 1) (ao (M2 (aq 3) (mC (.int 2147483629)) oMod) (aC)))) (bO)))))) (bG (aq 1)))
noncomputable def gU:SF:=aO (sIf (toB (M2 (aq 0) (MC (aC) oLst) oEq)) (bG (mC (.int 0))) (bO)) (bG (Dz (aq 0)))
noncomputable def qg:SF:=aO (mj (toB (M2 (aq 1) (mC (.int 0)) oNe)) (tL 0 1 (ao (aq 1) (ao (M2 (aq 0) (aq 1) oMod) (aC))))) (bG (MC (ao (aq 0) (aC)) (bu pY)))
noncomputable def gP(dw:FF):SF:=aO (aV 2 (aq 1)) (aO (fV (dC (aq 0)) (hName 3) (aV 2 (MC (ao (aq 2) (ao (aq 3) (aC))) dw))) (aO (sIf (toB (M2 (aq 1) (mC (.int 0)) oLt)) (aV 2 (M2 (mC (.int 0)) (MC (ao (aq 2) (aC)) (bu pY)) gh)) (bO)) (bG (M2 (MC (ao (mFz (lLC ["_law_number"] [2] (dC (aq 0)) (hName 0) (cN) (M2 (aq 0) (aq 1) oDiv))) (aC)) gW) (MC (ao (M2 (aq 1) (aq 2) oDiv) (aC)) oTup) bL))))
noncomputable def nG:SF:=bG (mX (M1 (aq 0) (jY "int")) (wK (M1 (aq 0) (jY "bool"))))
noncomputable def oM:SF:=bG (mX (M1 (aq 0) (jY "bool")) (M2 (aq 0) (aq 1) oEq))
noncomputable def ie:SF:=aO (sIf (toB (M2 (aq 1) (mC (.int 0)) oEq)) (bG (MC (ao (M2 (M2 (aq 0) (mC (.int 20001)) oMod) (mC (.int 10000)) gh) (ao (M2 (mC (.int 1)) (M2 (M2 (aq 0) (mC (.int 20001)) oDiv) (mC (.int 60)) oMod) bL) (aC))) oTup)) (bO)) (aO (sIf (toB (M2 (aq 1) (mC (.int 1)) oEq)) (bG (MC (ao (M2 (M2 (aq 0) (mC (.int 5)) oMod) (mC (.int 2)) gh) (ao (mC (.int 1)) (aC))) oTup)) (bO)) (aO (sIf (toB (M2 (aq 1) (mC (.int 2)) oEq)) (bG (MC (ao (M2 (M2 (aq 0) (mC (.int 11)) oMod) (mC (.int 5)) gh) (ao (M2 (mC (.int 1)) (M2 (M2 (aq 0) (mC (.int 11)) oDiv) (mC (.int 3)) oMod) bL) (aC))) oTup)) (bO)) (aO (sIf (toB (M2 (aq 1) (mC (.int 3)) oEq)) (bG (MC (ao (M2 (aq 2) (M2 (MC (ao (mC (.int 0)) (ao (mC (.int 0)) (ao (mC (.int 1)) (ao (mC (.int 40)) (aC))))) oLst) (M2 (aq 0) (mC (.int 4)) oMod) oIx) bL) (ao (mC (.int 1)) (aC))) oTup)) (bO)) (bG (MC (ao (M2 (M2 (aq 0) (mC (.int 2)) oMod) (M2 (mC (.int 1)) (M2 (aq 2) (mC (.int 7)) oMod) bL) cu) (ao (mC (.int 1)) (aC))) oTup)))))
noncomputable def kW(aZ jm aW:FF):SF:=aO (aV 4 (nq (rN (aC)))) (aO (aV 5 (mC (.int 1))) (aO (fV (bK (ao (aq 1) (aC))) (hName 6) (aO (yZ (MC (ao (MC (ao (aq 0) (ao (M2 (aq 6) (mC (.int 1)) bL) (aC))) aZ) (ao (aq 2) (ao (M2 (aq 3) (aq 6) bL) (aC)))) jm) (iu 2 (bz (hName 7) (bz (hName 8) (ir))))) (aO (sIf (toB (M2 (aq 6) (mC (.int 0)) oEq)) (aV 5 (aq 8)) (bO)) (eG (fQ (aq 4) (ao (aq 7) (aC))))))) (bG (MC (ao (rC (aq 4)) (ao (aq 5) (aC))) aW))))
noncomputable def jq(aJ aW:FF):SF:=aO (aV 3 (mFz (lLC ["_law_k"] [0] (bK (ao (aq 1) (aC))) (hName 0) (cN) (M2 (M2 (MC (ao (aq 1) (aC)) aJ) (mC (.int 41)) oMod) (mC (.int 20)) gh)))) (aO (aV 4 (mFz (lLC ["_law_k"] [0] (bK (ao (aq 1) (aC))) (hName 0) (cN) (M2 (M2 (MC (ao (aq 1) (aC)) aJ) (mC (.int 7)) oMod) (mC (.int 3)) gh)))) (aO (aV 5 (nq (rN (aC)))) (aO (fV (bK (ao (aq 2) (aC))) (hName 6) (aO (aV 7 (M2 (M2 (MC (ao (aq 0) (aC)) aJ) (mC (.int 13)) oMod) (mC (.int 6)) gh)) (eG (fQ (aq 5) (ao (MC (ao (mFz (lLC ["_law_k"] [3,7,4] (bK (ao (aq 1) (aC))) (hName 0) (cN) (M2 (M2 (aq 1) (aq 0) oIx) (M2 (aq 2) (M2 (aq 3) (aq 0) oIx) cu) bL))) (ao (mC (.int 1)) (aC))) aW) (aC)))))) (bG (rC (aq 5))))))
noncomputable def oH(aJ aW:FF):SF:=aO (tL 3 4 (ao (M2 (M2 (MC (ao (aq 0) (aC)) aJ) (mC (.int 5)) oMod) (mC (.int 2)) gh) (ao (M2 (M2 (MC (ao (aq 0) (aC)) aJ) (mC (.int 5)) oMod) (mC (.int 2)) gh) (aC)))) (aO (aV 5 (nq (rN (aC)))) (aO (fV (bK (ao (aq 2) (aC))) (hName 6) (aO (aV 7 (MC (ao (aq 0) (aC)) aJ)) (aO (aV 8 (nq (lSl (MC (ao (M2 (M2 (aq 7) (mC (.int 9)) oMod) (mC (.int 4)) gh) (ao (M2 (M2 (M2 (aq 7) (mC (.int 9)) oDiv) (mC (.int 9)) oMod) (mC (.int 4)) gh) (ao (M2 (M2 (M2 (aq 7) (mC (.int 81)) oDiv) (mC (.int 9)) oMod) (mC (.int 4)) gh) (aC)))) oLst) (fNo) (fAt (aq 1))))) (aO (sIf (toB (M2 (aq 1) (mC (.int 1)) oGt)) (zT (M2 (M2 (aq 3) (M2 (aq 8) (mC (.int 0)) oIx) cu) (M2 (aq 4) (M2 (aq 8) (M2 (aq 1) (mC (.int 2)) gh) oIx) cu) bL) (aq 8) (M1 (mC (.int 1)) gR)) (bO)) (eG (fQ (aq 5) (ao (MC (ao (rC (aq 8)) (ao (mC (.int 1)) (aC))) aW) (aC)))))))) (bG (rC (aq 5)))))
noncomputable def jU(aJ gF kY bY:FF):SF:=aO (aV 3 (MC (ao (aq 0) (aC)) aJ)) (aO (aV 4 (M2 (M2 (aq 3) (mC (.int 9)) oDiv) (M2 (aq 2) (mC (.int 1)) bL) oMod)) (aO (aV 5 (M2 (aq 3) (mC (.int 9)) oMod)) (aO (sIf (toB (M2 (aq 5) (mC (.int 5)) oEq)) (bG (MC (ao (aq 0) (ao (aq 1) (ao (aq 4) (aC)))) gF)) (bO)) (aO (sIf (toB (M2 (aq 5) (mC (.int 6)) oEq)) (bG (MC (ao (aq 0) (ao (aq 1) (ao (aq 4) (aC)))) kY)) (bO)) (aO (sIf (toB (M2 (aq 5) (mC (.int 7)) oEq)) (bG (M2 (MC (ao (MC (ao (aq 3) (ao (aq 1) (ao (mC (.int 2)) (ao (mC (.int 0)) (aC))))) bY) (aC)) oLst) (aq 4) cu)) (bO)) (aO (aV 6 (nq (rN (aC)))) (aO (fV (bK (ao (aq 4) (aC))) (hName 7) (aO (aV 8 (MC (ao (aq 0) (aC)) aJ)) (sIf (mU (toB (M2 (aq 5) (mC (.int 8)) oEq)) (mU (toB (M2 (aq 6) (MC (aC) oLst) yt)) (toB (M2 (M2 (aq 8) (mC (.int 3)) oMod) (mC (.int 0)) oEq)))) (eG (fQ (aq 6) (ao (M2 (aq 6) (M2 (M2 (aq 8) (mC (.int 3)) oDiv) (MC (ao (aq 6) (aC)) (bu cj)) oMod) oIx) (aC)))) (eG (fQ (aq 6) (ao (MC (ao (M2 (aq 8) (mC (.int 7)) oDiv) (ao (aq 1) (ao (M2 (M2 (aq 5) (mC (.int 8)) oMod) (mC (.int 5)) oMod) (ao (M2 (M2 (aq 8) (mC (.int 5)) oMod) (mC (.int 30)) cu) (aC))))) bY) (aC))))))) (bG (rC (aq 6))))))))))
noncomputable def jo(bU:FF):SF:=aO (aV 1 (MC (ao (aq 0) (aC)) bU)) (bG (xq (lU ["number"] [1] (dC (aq 0)) (hName 0) (M2 (aq 0) (aq 1) oDiv))))
noncomputable def dU(dg:FF):SF:=aO (sIf (qP (ji (ni (MC (ao (aq 1) (aC)) dg))) (toB (M2 (MC (ao (aq 1) (aC)) (bu cj)) (mC (.int 2)) oNe))) (bG (mC (.bl false))) (bO)) (bG (mX (MCh (mC (.int 0)) (M2 (aq 1) (mC (.int 0)) oIx) (aq 0) oLe oLt) (M2 (M2 (aq 1) (mC (.int 1)) oIx) (mC (.int 1)) oGe)))
noncomputable def di(fB:FF):SF:=aO (sIf (qP (ji (ni (M1 (aq 1) (jY "tuple")))) (toB (M2 (MC (ao (aq 1) (aC)) (bu cj)) (mC (.int 0)) oEq))) (bG (mC (.bl false))) (bO)) (aO (sIf (ji (ni (yj (lU ["part"] [0] (dC (aq 1)) (hName 0) (MC (ao (aq 1) (ao (aq 0) (aC))) fB))))) (bG (mC (.bl false))) (bO)) (bG (yj (lU ["one","other"] [] (uD (ao (aq 1) (ao (mSl (aq 1) (fAt (mC (.int 1))) (fNo)) (aC)))) (iu 2 (bz (hName 0) (bz (hName 1) (ir)))) (M2 (M2 (aq 0) (mC (.int 0)) oIx) (M2 (aq 1) (mC (.int 0)) oIx) oLt)))))
noncomputable def wI(aJ aZ:FF):SF:=aO (aV 2 (MC (ao (aq 0) (aC)) aJ)) (aO (aV 3 (mFz (ql ["_law_k"] [2] (aq 1) (MC (ao (aq 1) (ao (M2 (aq 0) (mC (.int 3)) bL) (aC))) aZ)))) (aO (aV 4 (mFz (uA (ao (mSl (aq 3) (fNo) (fAt (M2 (mC (.int 1)) (M2 (aq 2) (MC (ao (mC (.int 4)) (ao (MC (ao (aq 3) (aC)) (bu cj)) (aC))) (mW mV)) oMod) bL))) (aC))))) (bG (MC (ao (mFz (lLC ["_law_k"] [2] (dC (aq 4)) (hName 0) (cN) (MC (ao (aq 0) (ao (M2 (mC (.int 1)) (M2 (MC (ao (aq 1) (ao (M2 (aq 0) (mC (.int 60)) bL) (aC))) aZ) (M2 (MC (ao (mC (.int 3)) (ao (mC (.int 7)) (ao (mC (.int 1000)) (aC)))) oLst) (M2 (M2 (aq 1) (mC (.int 4)) oDiv) (mC (.int 3)) oMod) oIx) oMod) bL) (aC))) oTup))) (aC)) gW))))
noncomputable def bM(bf:FF):SF:=aO (aV 1 (mC (.int 1))) (aO (fV (dC (aq 0)) (hName 2) (Cr 1 (M2 (aq 2) (MC (ao (aq 1) (ao (aq 2) (aC))) bf) oDiv) Fe)) (bG (aq 1)))
noncomputable def aX:SF:=bG (KY (lU ["one","other"] [] (uD (ao (aq 0) (ao (aq 1) (aC)))) (iu 2 (bz (hName 0) (bz (hName 1) (ir)))) (M2 (aq 0) (aq 1) cu)))
noncomputable def jX(aY:FF):SF:=bG (mFz (lLC ["at"] [1,0] (bK (ao (MC (ao (M2 (aq 0) (mC (.int 0)) oIx) (aC)) (bu cj)) (aC))) (hName 0) (cN) (MC (ao (aq 1) (ao (mFz (lLC ["row"] [0] (dC (aq 2)) (hName 0) (cN) (M2 (aq 0) (aq 1) oIx))) (aC))) aY)))
noncomputable def eY(bj:FF):SF:=aO (aV 2 (MC (ao (mFz (lLC ["point"] [] (dC (aq 0)) (hName 0) (cN) (M2 (aq 0) (M1 (mC (.int 1)) gR) oIx))) (aC)) bj)) (bG (mFz (lLC ["number","point"] [2] (uD (ao (aq 1) (ao (aq 0) (aC)))) (iu 2 (bz (hName 0) (bz (hName 1) (ir)))) (cN) (M2 (aq 0) (M2 (aq 2) (M2 (aq 1) (M1 (mC (.int 1)) gR) oIx) oDiv) cu))))
noncomputable def oN(cU iy fD:FF):SF:=aO (aV 2 (mFz (lLC ["k","share"] [0] (dC (aq 1)) (iu 2 (bz (hName 0) (bz (hName 1) (ir)))) (cN) (M2 (aq 2) (aq 0) oIx)))) (aO (aV 3 (MC (ao (aq 2) (ao (mFz (lLC ["k","share"] [] (dC (aq 1)) (iu 2 (bz (hName 0) (bz (hName 1) (ir)))) (cN) (aq 1))) (aC))) cU)) (bG (MC (ao (MC (ao (aq 2) (ao (aq 3) (aC))) iy) (aC)) fD)))
noncomputable def Ju(dw aW:FF):SF:=aO (aV 2 (mC (.int 1))) (aO (fV (dC (aq 1)) (iu 2 (bz (hName 3) (bz (hName 4) (ir)))) (aV 2 (M2 (M2 (aq 2) (M2 (M2 (aq 0) (aq 3) oIx) (M1 (mC (.int 1)) gR) oIx) cu) (MC (ao (aq 2) (ao (M2 (M2 (aq 0) (aq 3) oIx) (M1 (mC (.int 1)) gR) oIx) (aC))) dw) oDiv))) (aO (aV 5 (nq (zQ (MC (ao (mC (.int 0)) (aC)) oLst) (M2 (MC (ao (M2 (aq 0) (M2 (M2 (aq 1) (mC (.int 0)) oIx) (mC (.int 0)) oIx) oIx) (aC)) (bu cj)) (mC (.int 1)) gh)))) (aO (aV 6 (mC (.int 0))) (aO (fV (dC (aq 1)) (iu 2 (bz (hName 3) (bz (hName 4) (ir)))) (aO (aV 6 (M2 (aq 6) (aq 4) bL)) (fV (bK (ao (MC (ao (aq 5) (aC)) (bu cj)) (aC))) (hName 7) (aO (aV 8 (M2 (M2 (aq 4) (M2 (M2 (aq 0) (aq 3) oIx) (aq 7) oIx) cu) (M2 (aq 2) (M2 (M2 (aq 0) (aq 3) oIx) (M1 (mC (.int 1)) gR) oIx) oDiv) cu)) (zT (M2 (M2 (aq 5) (aq 7) oIx) (aq 8) bL) (aq 5) (aq 7)))))) (bG (MC (ao (rC (aq 5)) (ao (M2 (aq 2) (aq 6) cu) (aC))) aW))))))
noncomputable def Ez(aJ aZ:FF):SF:=aO (aV 3 (MC (ao (aq 0) (aC)) aJ)) (bG (mSl (mFz (ql ["_law_k"] [3] (mFz (Af (ao (aq 1) (aC)))) (MC (ao (aq 1) (ao (M2 (aq 0) (mC (.int 5)) bL) (aC))) aZ))) (fNo) (fAt (aq 2))))
noncomputable def kj:SF:=bG (mX (M1 (aq 1) (jY "tuple")) (M2 (MC (ao (aq 1) (aC)) (bu cj)) (aq 0) oEq))
noncomputable def gJ(bj:FF):SF:=bG (MC (ao (MC (ao (M2 (aq 0) (M1 (mC (.int 1)) gR) oIx) (ao (M2 (aq 1) (M1 (mC (.int 1)) gR) oIx) (aC))) oLst) (aC)) bj)
noncomputable def jl(gG:FF):SF:=aO (aV 2 (MC (ao (aq 0) (ao (aq 1) (aC))) gG)) (aO (yZ (MC (ao (M2 (aq 2) (M2 (aq 0) (M1 (mC (.int 1)) gR) oIx) oDiv) (ao (M2 (aq 2) (M2 (aq 1) (M1 (mC (.int 1)) gR) oIx) oDiv) (aC))) oTup) (iu 2 (bz (hName 3) (bz (hName 4) (ir))))) (bG (xq (lU ["end","start"] [3,4] (uD (ao (mSl (aq 0) (fNo) (fAt (M1 (mC (.int 1)) gR))) (ao (mSl (aq 1) (fNo) (fAt (M1 (mC (.int 1)) gR))) (aC)))) (iu 2 (bz (hName 0) (bz (hName 1) (ir)))) (M2 (M2 (aq 2) (aq 0) cu) (M2 (aq 3) (aq 1) cu) gh)))))
noncomputable def cC(dF:FF):SF:=bG (mX (MC (ao (MC (ao (aq 0) (aC)) (bu cj)) (ao (aq 2) (aC))) dF) (yj (lU ["k","share"] [1] (dC (aq 2)) (iu 2 (bz (hName 0) (bz (hName 1) (ir)))) (M2 (aq 0) (aq 2) (oIn false)))))
noncomputable def iQ(iC bN jc dh aY:FF):SF:=aO (sIf (ji (ni (MC (ao (mC (.int 2)) (ao (aq 3) (aC))) iC))) (bG (mC (.bl false))) (bO)) (aO (sIf (qP (ji (ni (MC (ao (aq 0) (ao (aq 1) (ao (M2 (aq 3) (mC (.int 0)) oIx) (aC)))) bN))) (ji (ni (MC (ao (aq 0) (ao (aq 2) (ao (M2 (aq 3) (mC (.int 1)) oIx) (aC)))) bN)))) (bG (mC (.bl false))) (bO)) (aO (yZ (MC (ao (MC (ao (aq 0) (ao (M2 (aq 3) (mC (.int 0)) oIx) (aC))) jc) (ao (MC (ao (aq 0) (ao (M2 (aq 3) (mC (.int 1)) oIx) (aC))) jc) (aC))) oTup) (iu 2 (bz (hName 4) (bz (hName 5) (ir))))) (aO (aV 6 (MC (ao (aq 4) (ao (aq 5) (aC))) dh)) (bG (mX (yj (lU ["k"] [6,0,4] (dC (aq 1)) (hName 0) (M2 (MC (ao (aq 1) (ao (MC (ao (M2 (aq 2) (aq 0) oIx) (ao (aq 3) (aC))) dh) (aC))) aY) (mC (.int 0)) oGe))) (yj (lU ["k"] [6,0,5] (dC (aq 2)) (hName 0) (M2 (MC (ao (aq 1) (ao (MC (ao (M2 (aq 2) (aq 0) oIx) (ao (aq 3) (aC))) dh) (aC))) aY) (mC (.int 0)) oLe))))))))
noncomputable def vP(φ_Lis_rows φ_Larrow_mix φ_Ldot:FF):SF:=aO (sIf (ji (ni (MC (ao (MC (ao (aq 0) (aC)) (bu cj)) (ao (aq 1) (aC))) φ_Lis_rows))) (bG (mC (.bl false))) (bO)) (aO (aV 2 (MC (ao (aq 0) (ao (aq 1) (aC))) φ_Larrow_mix)) (aO (aV 3 (MC (ao (aq 2) (ao (mSl (aq 2) (fNo) (fAt (M1 (mC (.int 1)) gR))) (aC))) φ_Ldot)) (bG (M2 (mFz (lLC ["_law_arrow_here"] [2,3] (dC (aq 0)) (hName 0) (toB (M2 (M2 (MC (ao (aq 1) (ao (aq 0) (aC))) φ_Ldot) (M2 (aq 1) (M1 (mC (.int 1)) gR) oIx) cu) (aq 2) oLt)) (aq 0))) (MC (aC) oLst) oEq))))
noncomputable def zU(aJ φ_Lshuffled:FF):SF:=aO (aV 2 (M2 (mC (.int 1)) (M2 (MC (ao (aq 0) (aC)) aJ) (mC (.int 9)) oMod) bL)) (aO (aV 3 (M2 (MC (ao (aq 2) (aC)) oTup) (M2 (MC (ao (mC (.int 0)) (aC)) oTup) (M2 (aq 1) (mC (.int 1)) gh) cu) bL)) (aO (aV 4 (M2 (MC (ao (mC (.int 0)) (aC)) oTup) (MC (ao (mFz (lLC ["_law_k"] [0] (bK (ao (M2 (aq 1) (mC (.int 1)) gh) (aC))) (hName 0) (cN) (M2 (M2 (MC (ao (aq 1) (aC)) aJ) (mC (.int 5)) oMod) (mC (.int 2)) gh))) (aC)) gW) bL)) (aO (aV 5 (mFz (uA (ao (mFz (lLC ["_law_k"] [0] (bK (ao (mC (.int 5)) (aC))) (hName 0) (cN) (M2 (M2 (MC (ao (aq 1) (aC)) aJ) (mC (.int 13)) oMod) (mC (.int 6)) gh))) (aC))))) (aO (aV 6 (mFz (lLC ["_law_turn"] [1,3,4] (dC (aq 5)) (hName 0) (cN) (MC (ao (mFz (lLC ["_law_k"] [2,0,3] (bK (ao (aq 1) (aC))) (hName 0) (cN) (M2 (M2 (aq 1) (aq 0) oIx) (M2 (aq 2) (M2 (aq 3) (aq 0) oIx) cu) bL))) (aC)) gW)))) (aO (aV 7 (mC (.int 0))) (aO (sIf (toB (M2 (M2 (aq 5) (mC (.int 0)) oIx) (mC (.int 0)) oGt)) (aV 7 (M2 (aq 5) (mC (.int 0)) oIx)) (bO)) (aO (sIf (toB (M2 (M2 (aq 5) (M1 (mC (.int 1)) gR) oIx) (mC (.int 0)) oLt)) (aV 7 (M2 (aq 5) (M1 (mC (.int 1)) gR) oIx)) (bO)) (aO (aV 8 (MC (ao (mFz (lLC ["_law_k"] [3,7,4] (bK (ao (aq 1) (aC))) (hName 0) (cN) (M2 (M2 (aq 1) (aq 0) oIx) (M2 (aq 2) (M2 (aq 3) (aq 0) oIx) cu) bL))) (aC)) gW)) (bG (MC (ao (MC (ao (aq 0) (ao (aq 6) (aC))) φ_Lshuffled) (ao (M2 (aq 8) (MC (ao (mC (.int 1)) (aC)) oTup) bL) (aC))) oTup))))))))))
noncomputable def uG(dw aW:FF):SF:=aO (aV 2 (mC (.int 1))) (aO (fV (dC (aq 1)) (iu 2 (bz (hName 3) (bz (hName 4) (ir)))) (aV 2 (M2 (M2 (aq 2) (M2 (M2 (aq 0) (aq 3) oIx) (M1 (mC (.int 1)) gR) oIx) cu) (MC (ao (aq 2) (ao (M2 (M2 (aq 0) (aq 3) oIx) (M1 (mC (.int 1)) gR) oIx) (aC))) dw) oDiv))) (aO (aV 5 (nq (zQ (MC (ao (mC (.int 0)) (aC)) oLst) (M2 (MC (ao (M2 (aq 0) (M2 (M2 (aq 1) (mC (.int 0)) oIx) (mC (.int 0)) oIx) oIx) (aC)) (bu cj)) (mC (.int 1)) gh)))) (aO (aV 6 (mC (.int 0))) (aO (fV (dC (aq 1)) (iu 2 (bz (hName 3) (bz (hName 4) (ir)))) (aO (aV 6 (M2 (aq 6) (aq 4) bL)) (fV (bK (ao (MC (ao (aq 5) (aC)) (bu cj)) (aC))) (hName 7) (aO (aV 8 (M2 (aq 4) (M2 (M2 (aq 0) (aq 3) oIx) (aq 7) oIx) cu)) (zT (M2 (M2 (aq 5) (aq 7) oIx) (M2 (aq 8) (M2 (aq 2) (M2 (M2 (aq 0) (aq 3) oIx) (M1 (mC (.int 1)) gR) oIx) oDiv) cu) bL) (aq 5) (aq 7)))))) (bG (MC (ao (rC (aq 5)) (ao (M2 (aq 2) (aq 6) cu) (aC))) aW))))))
noncomputable def qm(dw aW:FF):SF:=aO (aV 2 (mC (.int 1))) (aO (fV (dC (aq 1)) (iu 2 (bz (hName 3) (bz (hName 4) (ir)))) (aV 2 (M2 (M2 (aq 2) (M2 (M2 (aq 0) (aq 3) oIx) (M1 (mC (.int 1)) gR) oIx) cu) (MC (ao (aq 2) (ao (M2 (M2 (aq 0) (aq 3) oIx) (M1 (mC (.int 1)) gR) oIx) (aC))) dw) oDiv))) (aO (aV 5 (nq (zQ (MC (ao (mC (.int 0)) (aC)) oLst) (M2 (MC (ao (M2 (aq 0) (M2 (M2 (aq 1) (mC (.int 0)) oIx) (mC (.int 0)) oIx) oIx) (aC)) (bu cj)) (mC (.int 1)) gh)))) (aO (aV 6 (mC (.int 0))) (aO (fV (dC (aq 1)) (iu 2 (bz (hName 3) (bz (hName 4) (ir)))) (aO (aV 6 (M2 (aq 6) (aq 4) bL)) (fV (bK (ao (MC (ao (aq 5) (aC)) (bu cj)) (aC))) (hName 7) (aO (aV 8 (M2 (aq 4) (M2 (M2 (aq 0) (aq 3) oIx) (aq 7) oIx) cu)) (zT (M2 (M2 (aq 5) (aq 7) oIx) (M2 (aq 8) (M2 (aq 2) (M2 (M2 (aq 0) (aq 3) oIx) (M1 (mC (.int 1)) gR) oIx) oDiv) cu) bL) (aq 5) (aq 7)))))) (bG (MC (ao (rC (aq 5)) (ao (M2 (aq 2) (aq 6) cu) (aC))) aW))))))
noncomputable def Ei(aJ φ_Lround cV φ_Lspot:FF):SF:=aO (sIf (toB (M2 (M2 (MC (ao (aq 0) (aC)) aJ) (mC (.int 2)) oMod) (mC (.int 0)) oEq)) (aO (yZ (MC (ao (aq 0) (ao (aq 1) (aC))) φ_Lround) (iu 2 (bz (hName 3) (bz (hName 4) (ir))))) (bG (MC (ao (mSl (aq 3) (fNo) (fAt (aq 2))) (ao (aq 4) (aC))) oTup))) (bO)) (aO (aV 3 (MC (ao (aq 0) (ao (aq 1) (ao (aq 2) (aC)))) cV)) (bG (MC (ao (aq 3) (ao (MC (ao (aq 0) (ao (aq 3) (ao (aq 1) (aC)))) φ_Lspot) (aC))) oTup)))
noncomputable def wL(φ_Lcuts aJ φ_Lshows φ_Lcut:FF):SF:=aO (aV 4 (MC (ao (aq 1) (ao (aq 2) (aC))) φ_Lcuts)) (aO (aV 5 (M2 (mSl (aq 4) (fNo) (fAt (mC (.int 2)))) (mFz (lLC ["_law_k"] [4,0] (bK (ao (mC (.int 4)) (aC))) (hName 0) (cN) (M2 (aq 1) (M2 (MC (ao (aq 2) (aC)) aJ) (MC (ao (aq 1) (aC)) (bu cj)) oMod) oIx))) bL)) (aO (aV 5 (M2 (aq 5) (mSl (mFz (lLC ["_law_cut_here"] [1,2,3] (dC (aq 4)) (hName 0) (toB (M2 (MC (ao (aq 1) (ao (aq 2) (ao (aq 0) (aC)))) φ_Lshows) (aq 3) oEq)) (aq 0))) (fNo) (fAt (mC (.int 2)))) bL)) (aO (aV 5 (M2 (aq 5) (mFz (lLC ["_law_k"] [0,2] (bK (ao (mC (.int 3)) (aC))) (hName 0) (cN) (MC (ao (aq 1) (ao (M2 (MC (ao (aq 2) (aC)) (bu cj)) (mC (.int 1)) gh) (aC))) φ_Lcut))) bL)) (aO (aV 5 (M2 (aq 5) (mFz (lLC ["_law_cut_here"] [] (dC (mSl (aq 5) (fAt (M1 (mC (.int 3)) gR)) (fNo))) (hName 0) (cN) (MC (ao (mFz (lLC ["_law_one"] [] (dC (aq 0)) (hName 0) (cN) (M2 (aq 0) (mC (.int 1000003)) cu))) (aC)) gW))) bL)) (aO (aV 5 (M2 (aq 5) (mFz (lLC ["_law_cut_here"] [] (dC (mSl (aq 5) (fAt (M1 (mC (.int 6)) gR)) (fNo))) (hName 0) (cN) (MC (ao (mFz (lLC ["_law_one"] [] (dC (aq 0)) (hName 0) (cN) (M2 (mC (.int 0)) (aq 0) gh))) (aC)) gW))) bL)) (aO (aV 6 (nq (rN (aC)))) (aO (fV (dC (aq 5)) (hName 7) (aO (aV 8 (MC (ao (aq 1) (ao (aq 2) (ao (aq 7) (aC)))) φ_Lshows)) (aO (eG (fQ (aq 6) (ao (MC (ao (MC (ao (aq 8) (ao (aq 7) (aC))) oTup) (ao (M2 (aq 8) (aq 3) oEq) (aC))) oTup) (aC)))) (aO (eG (fQ (aq 6) (ao (MC (ao (MC (ao (aq 3) (ao (aq 7) (aC))) oTup) (ao (M2 (aq 8) (aq 3) oEq) (aC))) oTup) (aC)))) (eG (fQ (aq 6) (ao (MC (ao (MC (ao (M2 (aq 3) (mC (.int 1)) bL) (ao (aq 7) (aC))) oTup) (ao (mC (.bl false)) (aC))) oTup) (aC)))))))) (bG (rC (aq 6))))))))))
noncomputable def gZ(aJ aZ:FF):SF:=aO (aV 2 (MC (ao (aq 0) (aC)) aJ)) (aO (aV 3 (mFz (ql ["_law_k"] [2] (aq 1) (MC (ao (aq 1) (ao (M2 (aq 0) (mC (.int 3)) bL) (aC))) aZ)))) (aO (aV 4 (mFz (uA (ao (mSl (aq 3) (fNo) (fAt (M2 (mC (.int 1)) (M2 (aq 2) (MC (ao (mC (.int 4)) (ao (MC (ao (aq 3) (aC)) (bu cj)) (aC))) (mW mV)) oMod) bL))) (aC))))) (aO (aV 5 (M2 (MC (ao (mC (.int 3)) (ao (mC (.int 7)) (ao (mC (.int 1000)) (aC)))) oLst) (M2 (M2 (aq 2) (mC (.int 4)) oDiv) (mC (.int 3)) oMod) oIx)) (bG (MC (ao (mFz (lLC ["_law_k"] [2,5] (dC (aq 4)) (hName 0) (cN) (MC (ao (aq 0) (ao (M2 (mC (.int 1)) (M2 (MC (ao (aq 1) (ao (M2 (aq 0) (mC (.int 60)) bL) (aC))) aZ) (aq 2) oMod) bL) (aC))) oTup))) (aC)) gW)))))
noncomputable def iM(cV aJ bY:FF):SF:=aO (aV 3 (MC (ao (aq 0) (ao (aq 1) (ao (aq 2) (aC)))) cV)) (aO (sIf (toB (M2 (aq 3) (MC (aC) oLst) oEq)) (aV 3 (MC (ao (MC (ao (MC (ao (aq 0) (aC)) aJ) (ao (aq 1) (ao (mC (.int 1)) (ao (mC (.int 0)) (aC))))) bY) (aC)) oLst)) (bO)) (bG (aq 3)))
noncomputable def lw(aJ aZ:FF):SF:=aO (aV 3 (MC (ao (aq 0) (aC)) aJ)) (aO (aV 4 (mFz (ql ["_law_k"] [3] (mFz (Af (ao (aq 1) (aC)))) (MC (ao (aq 1) (ao (M2 (aq 0) (mC (.int 5)) bL) (aC))) aZ)))) (bG (MC (ao (mFz (uA (ao (mSl (aq 4) (fNo) (fAt (M2 (mC (.int 1)) (M2 (aq 3) (MC (ao (aq 2) (ao (aq 1) (aC))) (mW mV)) oMod) bL))) (aC)))) (aC)) gW)))
noncomputable def iG(aJ ik fj:FF):SF:=aO (aV 1 (MC (ao (aq 0) (aC)) aJ)) (aO (aV 2 (M2 (mC (.int 1)) (M2 (aq 1) (mC (.int 3)) oMod) bL)) (aO (aV 3 (MC (ao (aq 0) (ao (aq 2) (ao (mC (.int 14)) (aC)))) ik)) (aO (aV 4 (MC (ao (aq 0) (ao (MC (ao (aq 3) (aC)) (bu cj)) (ao (mC (.int 7)) (aC)))) fj)) (aO (aV 5 (MC (ao (aq 0) (ao (MC (ao (aq 3) (aC)) (bu cj)) (ao (mC (.int 7)) (aC)))) fj)) (aO (sIf (mU (toB (M2 (M2 (M2 (aq 1) (mC (.int 3)) oDiv) (mC (.int 4)) oMod) (mC (.int 0)) oEq)) (toB (M2 (MC (ao (aq 3) (aC)) (bu cj)) (mC (.int 1)) oGt))) (aO (aV 6 (M2 (mC (.int 1)) (M2 (M2 (aq 1) (mC (.int 12)) oDiv) (M2 (MC (ao (aq 3) (aC)) (bu cj)) (mC (.int 1)) gh) oMod) bL)) (tL 4 5 (ao (yD (ao (aq 6) (aC))) (ao (yp (ao (aq 6) (ao (MC (ao (aq 3) (aC)) (bu cj)) (aC)))) (aC))))) (bO)) (bG (MC (ao (aq 3) (ao (aq 4) (ao (aq 5) (aC)))) oTup)))))))
noncomputable def lR(gQ:FF):SF:=aO (sIf (qP (ji (ni (M1 (aq 1) (jY "tuple")))) (toB (M2 (MC (ao (aq 1) (aC)) (bu cj)) (mC (.int 0)) oEq))) (bG (mC (.bl false))) (bO)) (aO (aV 2 (M1 (mC (.int 1)) gR)) (aO (fV (dC (aq 1)) (hName 3) (aO (sIf (qP (ji (ni (M1 (aq 3) (jY "tuple")))) (toB (M2 (MC (ao (aq 3) (aC)) (bu cj)) (mC (.int 2)) oNe))) (bG (mC (.bl false))) (bO)) (aO (sIf (qP (ji (ni (MC (ao (M2 (aq 3) (mC (.int 0)) oIx) (aC)) gQ))) (ji (ni (MC (ao (M2 (aq 3) (mC (.int 1)) oIx) (aC)) gQ)))) (bG (mC (.bl false))) (bO)) (aO (sIf (qP (toB (M2 (M2 (aq 3) (mC (.int 0)) oIx) (aq 2) oLe)) (qP (toB (M2 (M2 (aq 3) (mC (.int 0)) oIx) (aq 0) (oIn true))) (toB (M2 (M2 (aq 3) (mC (.int 1)) oIx) (mC (.int 1)) oLt)))) (bG (mC (.bl false))) (bO)) (aV 2 (M2 (aq 3) (mC (.int 0)) oIx)))))) (bG (mC (.bl true)))))
noncomputable def jR:SF:=aO (aV 4 (mC (.int 0))) (aO (fV (bK (ao (M2 (MC (ao (aq 2) (aC)) (bu cj)) (mC (.int 1)) gh) (aC))) (hName 5) (aO (aV 6 (M2 (M2 (M2 (aq 0) (aq 5) oIx) (M2 (aq 1) (M1 (mC (.int 1)) gR) oIx) cu) (M2 (M2 (aq 1) (aq 5) oIx) (M2 (aq 0) (M1 (mC (.int 1)) gR) oIx) cu) gh)) (aO (aV 7 (M2 (M2 (M2 (aq 3) (aq 5) oIx) (M2 (aq 2) (M1 (mC (.int 1)) gR) oIx) cu) (M2 (M2 (aq 2) (aq 5) oIx) (M2 (aq 3) (M1 (mC (.int 1)) gR) oIx) cu) gh)) (aV 4 (M2 (aq 4) (M2 (aq 6) (aq 7) cu) bL))))) (bG (aq 4)))
noncomputable def jf(iB jN iI:FF):SF:=aO (sIf (qP (ji (ni (M1 (aq 3) (jY "tuple")))) (toB (M2 (MC (ao (aq 3) (aC)) (bu cj)) (mC (.int 2)) oNe))) (bG (mC (.bl false))) (bO)) (aO (sIf (qP (ji (ni (MC (ao (aq 1) (ao (M2 (aq 3) (mC (.int 0)) oIx) (aC))) iB))) (ji (ni (MC (ao (aq 2) (ao (M2 (aq 3) (mC (.int 1)) oIx) (aC))) iB)))) (bG (mC (.bl false))) (bO)) (aO (yZ (MC (ao (MC (ao (aq 0) (ao (M2 (aq 3) (mC (.int 0)) oIx) (aC))) jN) (ao (MC (ao (aq 0) (ao (M2 (aq 3) (mC (.int 1)) oIx) (aC))) jN) (aC))) oTup) (iu 2 (bz (hName 4) (bz (hName 5) (ir))))) (aO (sIf (toB (M2 (mFz (lLC ["_law_k"] [4,5,0] (dC (aq 1)) (hName 0) (toB (M2 (MC (ao (aq 1) (ao (aq 2) (ao (aq 1) (ao (M2 (aq 3) (aq 0) oIx) (aC))))) iI) (mC (.int 0)) oLt)) (aq 0))) (MC (aC) oLst) yt)) (bG (mC (.bl false))) (bO)) (bG (M2 (mFz (lLC ["_law_k"] [4,5,0] (dC (aq 2)) (hName 0) (toB (M2 (MC (ao (aq 1) (ao (aq 2) (ao (aq 2) (ao (M2 (aq 3) (aq 0) oIx) (aC))))) iI) (mC (.int 0)) oGt)) (aq 0))) (MC (aC) oLst) oEq)))))
noncomputable def jW:SF:=bG (MC (ao (mFz (lLC ["_law_k","_law_share"] [1] (dC (aq 0)) (iu 2 (bz (hName 0) (bz (hName 1) (ir)))) (cN) (MC (ao (aq 0) (ao (M2 (aq 1) (aq 2) cu) (aC))) oTup))) (aC)) gW)
noncomputable def lM(aJ dY gw:FF):SF:=aO (aV 3 (nq (rN (aC)))) (aO (fV (dC (mSl (aq 1) (fNo) (fAt (mC (.int 4))))) (hName 4) (fV (dC (mSl (aq 2) (fNo) (fAt (mC (.int 4))))) (hName 5) (eG (fQ (aq 3) (ao (MC (ao (MC (ao (MC (ao (aq 4) (ao (M2 (mC (.int 1)) (M2 (MC (ao (aq 0) (aC)) aJ) (mC (.int 3)) oMod) bL) (aC))) oTup) (aC)) oTup) (ao (MC (ao (MC (ao (aq 5) (ao (mC (.int 1)) (aC))) oTup) (aC)) oTup) (aC))) oTup) (aC)))))) (aO (fV (bK (ao (mC (.int 4)) (aC))) (hName 6) (aO (tL 7 8 (ao (MC (ao (aq 0) (ao (mFz (lOf (ao (aq 1) (aC)))) (aC))) dY) (ao (MC (ao (aq 0) (ao (mFz (lOf (ao (aq 2) (aC)))) (aC))) dY) (aC)))) (aO (eG (fQ (aq 3) (ao (MC (ao (aq 7) (ao (aq 8) (aC))) oTup) (aC)))) (aO (eG (fQ (aq 3) (ao (MC (ao (MC (ao (aq 7) (ao (M2 (mC (.int 2)) (aq 6) bL) (aC))) gw) (ao (aq 8) (aC))) oTup) (aC)))) (eG (fQ (aq 3) (ao (MC (ao (aq 8) (ao (aq 7) (aC))) oTup) (aC)))))))) (bG (rC (aq 3)))))
noncomputable def qZ(gM jA dZ fJ dR jF:FF):SF:=aO (aV 1 (MC (ao (aq 0) (aC)) gM)) (aO (yZ (MC (ao (aq 1) (aC)) jA) (iu 3 (bz (hName 2) (bz (hName 3) (bz (hName 4) (ir)))))) (aO (aV 5 (mFz (lOf (ao (aq 2) (aC))))) (aO (fV (dC (MC (ao (aq 1) (ao (aq 3) (ao (aq 4) (aC)))) dZ)) (hName 6) (aO (aV 7 (MC (ao (aq 2) (ao (aq 3) (ao (aq 4) (ao (aq 6) (aC))))) fJ)) (fV (bK (ao (mC (.int 2)) (aC))) (hName 8) (sIf (ji (ni (MC (ao (MC (ao (aq 2) (ao (aq 3) (ao (aq 4) (ao (aq 6) (aC))))) dR) (ao (aq 7) (aC))) jF))) (bG (mC (.bl false))) (bO))))) (bG (M2 (aq 2) (aq 5) oEq)))))
end LG
namespace Lk75
open PySem PySem.Spec PyProof.Rows L2 L3 LG
def top(i:Nat):Stmt:=PySem.Challenge.pw_heapsmeet_k75_gap_papers.main.body.getD i (.Pass ⟨0,0,0,0⟩)
structure BI(K:PySem.W.Frag)(mg:Str->Option Value):Prop where
 b_abs:mg "abs"=none
 b_all:mg "all"=none
 b_bool:mg "bool"=none
 b_int:mg "int"=none
 b_isinstance:mg "isinstance"=none
 b_len:mg "len"=none
 b_list:mg "list"=none
 b_min:mg "min"=none
 b_range:mg "range"=none
 b_sorted:mg "sorted"=none
 b_sum:mg "sum"=none
 b_tuple:mg "tuple"=none
 b_zip:mg "zip"=none
variable {P:Program} {w:World} {K:PySem.W.Frag} {mg:Str->Option Value} {base:Heap} {tb:List Addr} {f Tb:Addr} {fd:FuncData}
abbrev um:Stmt:=top 23
theorem xy:bc ["_law_cell","_law_k","_law_number"] ["_law_cell","_law_k"] (aP um):=⟨rfl,rfl,rfl,by decide +kernel,rfl,by decide +kernel,by decide +kernel⟩
theorem GC(T:BI K mg)(F:dG K "_law_mixed" "_law_mixed" um f fd Tb)(KB:K.In base)(hmg:mg "_law_mixed"=some (.ref f)):FI P w K mg base tb "_law_mixed" 2 (0+1) (aH 3 (jb)):=
 cG F KB hmg xy rfl (λ_ _ _ _ _ _=>us2 λ_ _=>rfl) λc A outer s H E hcd hr=>by
  have nd:=xy.nd
  refine aB ?_ (aF (aQ (aG bJ (aG cT (pdv 2) (pdv 2)) aA)))
  refine aR (i:=2) nd ?_
  refine aG bJ ?_ aA
  refine aG cI ?_ aA
  exact aG cI (aG cT (aG bJ (pdv 0) aA) aA) (aG cT (aG cT aA (pdv 1)) (pdv 1))
abbrev uV:Stmt:=top 24
theorem xU:bc ["_law_script","_law_drawn","_law_k","_law_cell","_law_j"] ["_law_script"] (aP uV):=⟨rfl,rfl,rfl,by decide +kernel,rfl,by decide +kernel,by decide +kernel⟩
theorem Gm{aZ:FF}(T:BI K mg)(F:dG K "_law_draws" "_law_draws" uV f fd Tb)(KB:K.In base)(hmg:mg "_law_draws"=some (.ref f))(F_Lmixed:FI P w K mg base tb "_law_mixed" 2 1 aZ):FI P w K mg base tb "_law_draws" 1 (1+1) (aH 5 (nJ aZ)):=
 cG F KB hmg xU rfl (λ_ _ _ _ _ _=>us1 λ_=>rfl) λc A outer s H E hcd hr=>by
  have nd:=xU.nd
  refine aB (aR (i:=1) nd (lF (oU au))) ?_
  refine aB ?_ (aF (aQ (pdv 1)))
  refine cY (ts:=[2]) PassesOwn.never rfl ?_ (aM (i:=2) nd) ?_
  refine cA T.b_range ?_
  refine aa ?_ au
  refine zx rfl T.b_min ?_
  exact aa (eO T.b_len (aa (pdv 0) au)) (aa aA au)
  refine aB (aR (i:=3) nd (vO T.b_abs (aa (bF (pdv 0) (pdv 2)) au))) ?_
  refine aB ?_ ?_
  refine cg (bB vH (pdv 3) (aG HN aA aA)) ?_ bC
  refine aF ?_
  refine cY (ts:=[4]) PassesOwn.never rfl (cA T.b_range (aa aA au)) (aM (i:=4) nd) ?_
  refine aF ?_
  refine fW ?_
  refine dD (pdv 1) ?_
  refine aa ?_ au
  refine aL F_Lmixed (hr.mono (by decide)) ?_ (az (az aK))
  refine aa ?_ (aa (aG cI (aG cI (pdv 4) (pdv 2)) aA) au)
  refine aL F_Lmixed (hr.mono (by decide)) ?_ (az (az aK))
  exact aa (pdv 3) (aa (aG cI (aG cT aA (pdv 4)) aA) au)
  refine aB ?_ ?_
  refine sr PassesOwn.never ?_ ?_
  refine jG ?_
  exact ul (bB Ef (pdv 3) (aG HN aA aA)) (uo (bB vH (eO T.b_len (aa (pdv 1) au)) aA))
  refine aB ?_ (aF (aR (i:=3) nd (aG eU (pdv 3) aA)))
  exact fW (dD (pdv 1) (aa (aG bJ (pdv 3) aA) au))
  refine aF ?_
  refine cg (bB Ef (pdv 3) aA) ?_ bC
  refine aF ?_
  exact fW (dD (pdv 1) (aa (aG bJ (pdv 3) aA) au))
abbrev zm:Stmt:=top 25
theorem Ay:bc ["_law_drawn"] ["_law_drawn"] (aP zm):=⟨rfl,rfl,rfl,by decide +kernel,rfl,by decide +kernel,by decide +kernel⟩
theorem JV(T:BI K mg)(F:dG K "_law_next" "_law_next" zm f fd Tb)(KB:K.In base)(hmg:mg "_law_next"=some (.ref f)):FI P w K mg base tb "_law_next" 1 (0+1) (aH 1 (gU)):=
 cG F KB hmg Ay rfl (λ_ _ _ _ _ _=>us1 λ_=>rfl) λc A outer s H E hcd hr=>by
  have nd:=Ay.nd
  refine aB ?_ (aF (aQ (Og (pdv 0))))
  exact cg (bB (iK hr) (pdv 0) (jJ au)) (aF (aQ aA)) bC
abbrev CJ:Stmt:=top 26
theorem DP:bc ["_law_one","_law_other"] ["_law_one","_law_other"] (aP CJ):=⟨rfl,rfl,rfl,by decide +kernel,rfl,by decide +kernel,by decide +kernel⟩
theorem Kr(T:BI K mg)(F:dG K "_law_gcd" "_law_gcd" CJ f fd Tb)(KB:K.In base)(hmg:mg "_law_gcd"=some (.ref f)):FI P w K mg base tb "_law_gcd" 2 (0+1) (aH 2 (qg)):=
 cG F KB hmg DP rfl (λ_ _ _ _ _ _=>us2 λ_ _=>rfl) λc A outer s H E hcd hr=>by
  have nd:=DP.nd
  refine aB ?_ (aF (aQ (vO T.b_abs (aa (pdv 0) au))))
  refine sr PassesOwn.never (bB (zF hr) (pdv 1) aA) ?_
  refine aF ?_
  exact oR (i:=0) (j:=1) rfl nd (aa (pdv 1) (aa (aG bJ (pdv 0) (pdv 1)) au))
abbrev rD:Stmt:=top 27
theorem uE:bc ["_law_numbers","_law_bottom","_law_common","_law_number"] ["_law_numbers","_law_bottom"] (aP rD):=⟨rfl,rfl,rfl,by decide +kernel,rfl,by decide +kernel,by decide +kernel⟩
theorem Di{dw:FF}(T:BI K mg)(F:dG K "_law_lowest" "_law_lowest" rD f fd Tb)(KB:K.In base)(hmg:mg "_law_lowest"=some (.ref f))(F_Lgcd:FI P w K mg base tb "_law_gcd" 2 1 dw):FI P w K mg base tb "_law_lowest" 2 (1+1) (aH 4 (gP dw)):=
 cG F KB hmg uE rfl (λ_ _ _ _ _ _=>us2 λ_ _=>rfl) λc A outer s H E hcd hr=>by
  have nd:=uE.nd
  refine aB (aR (i:=2) nd (pdv 1)) ?_
  refine aB ?_ ?_
  refine cY (ts:=[3]) PassesOwn.never rfl (bZ (pdv 0)) (aM (i:=3) nd) ?_
  refine aF ?_
  exact aR (i:=2) nd (aL F_Lgcd (hr.mono (by decide)) (aa (pdv 2) (aa (pdv 3) au)) (az (az aK)))
  refine aB ?_ ?_
  refine cg (bB vH (pdv 1) aA) ?_ bC
  exact aF (aR (i:=2) nd (aG fK aA (vO T.b_abs (aa (pdv 2) au))))
  refine aF ?_
  refine aQ ?_
  refine aG cI ?_ (eQ (aa (aG eU (pdv 1) (pdv 2)) au))
  refine qW T.b_tuple ?_
  refine aa ?_ au
  refine dX ?_
  refine jk (own:=["_law_number"]) (cap:=["_law_common"]) (capI:=[2]) (ts:=[0]) rfl ⟨rfl,by decide +kernel,⟨⟨rfl,by first|exact Or.inl rfl|exact Or.inr rfl⟩,trivial⟩,by decide +kernel,by decide +kernel⟩ (by decide +kernel) (bZ (pdv 0)) (λcs C fp s2 H2=>aM (i:=0) (show(["_law_number","_law_common"]:List Str).Nodup by decide +kernel)) ?_ ?_
  intro cs C fp s2 H2
  exact fZ
  intro cs C fp s2 H2
  exact aG eU (pdv 0) (pdv 1)
abbrev qd:Stmt:=top 30
theorem sV:bc ["_law_drawn","_law_directions","_law_many","_law_start","_law_step","_law_found","_law_j","_law_turn"] ["_law_drawn","_law_directions","_law_many"] (aP qd):=⟨rfl,rfl,rfl,by decide +kernel,rfl,by decide +kernel,by decide +kernel⟩
theorem Ah{aJ aW:FF}(T:BI K mg)(F:dG K "_law_on_line" "_law_on_line" qd f fd Tb)(KB:K.In base)(hmg:mg "_law_on_line"=some (.ref f))(F_Lnext:FI P w K mg base tb "_law_next" 1 1 aJ)(F_Llowest:FI P w K mg base tb "_law_lowest" 2 2 aW):FI P w K mg base tb "_law_on_line" 3 (2+1) (aH 8 (jq aJ aW)):=
 cG F KB hmg sV rfl (λ_ _ _ _ _ _=>us3 λ_ _ _=>rfl) λc A outer s H E hcd hr=>by
  have nd:=sV.nd
  refine aB ?_ ?_
  refine aR (i:=3) nd ?_
  refine dX ?_
  refine jk (own:=["_law_k"]) (cap:=["_law_drawn"]) (capI:=[0]) (ts:=[0]) rfl ⟨rfl,by decide +kernel,⟨⟨rfl,by first|exact Or.inl rfl|exact Or.inr rfl⟩,trivial⟩,by decide +kernel,by decide +kernel⟩ (by decide +kernel) (cA T.b_range (aa (pdv 1) au)) (λcs C fp s2 H2=>aM (i:=0) (show(["_law_k","_law_drawn"]:List Str).Nodup by decide +kernel)) ?_ ?_
  intro cs C fp s2 H2
  exact fZ
  intro cs C fp s2 H2
  refine aG fK ?_ aA
  exact aG bJ (aL F_Lnext (hr.mono (by decide)) (aa (pdv 1) au) (az aK)) aA
  refine aB ?_ ?_
  refine aR (i:=4) nd ?_
  refine dX ?_
  refine jk (own:=["_law_k"]) (cap:=["_law_drawn"]) (capI:=[0]) (ts:=[0]) rfl ⟨rfl,by decide +kernel,⟨⟨rfl,by first|exact Or.inl rfl|exact Or.inr rfl⟩,trivial⟩,by decide +kernel,by decide +kernel⟩ (by decide +kernel) (cA T.b_range (aa (pdv 1) au)) (λcs C fp s2 H2=>aM (i:=0) (show(["_law_k","_law_drawn"]:List Str).Nodup by decide +kernel)) ?_ ?_
  intro cs C fp s2 H2
  exact fZ
  intro cs C fp s2 H2
  refine aG fK ?_ aA
  exact aG bJ (aL F_Lnext (hr.mono (by decide)) (aa (pdv 1) au) (az aK)) aA
  refine aB (aR (i:=5) nd (lF (oU au))) ?_
  refine aB ?_ (aF (aQ (pZ (pdv 5))))
  refine cY (ts:=[6]) PassesOwn.never rfl (cA T.b_range (aa (pdv 2) au)) (aM (i:=6) nd) ?_
  refine aB ?_ ?_
  refine aR (i:=7) nd ?_
  refine aG fK ?_ aA
  exact aG bJ (aL F_Lnext (hr.mono (by decide)) (aa (pdv 0) au) (az aK)) aA
  refine aF ?_
  refine fW ?_
  refine dD (pdv 5) ?_
  refine aa ?_ au
  refine aL F_Llowest (hr.mono (by decide)) ?_ (az (az aK))
  refine aa ?_ (aa aA au)
  refine dX ?_
  refine jk (own:=["_law_k"]) (cap:=["_law_start","_law_turn","_law_step"]) (capI:=[3,7,4]) (ts:=[0]) rfl ⟨rfl,by decide +kernel,⟨⟨rfl,by first|exact Or.inl rfl|exact Or.inr rfl⟩,⟨⟨rfl,by first|exact Or.inl rfl|exact Or.inr rfl⟩,⟨⟨rfl,by first|exact Or.inl rfl|exact Or.inr rfl⟩,trivial⟩⟩⟩,by decide +kernel,by decide +kernel⟩ (by decide +kernel) (cA T.b_range (aa (pdv 1) au)) (λcs C fp s2 H2=>aM (i:=0) (show(["_law_k","_law_start","_law_turn","_law_step"]:List Str).Nodup by decide +kernel)) ?_ ?_
  intro cs C fp s2 H2
  exact fZ
  intro cs C fp s2 H2
  exact aG cI (bF (pdv 1) (pdv 0)) (aG cT (pdv 2) (bF (pdv 3) (pdv 0)))
abbrev yX:Stmt:=top 31
theorem Ar:bc ["_law_drawn","_law_directions","_law_many","_law_first","_law_second","_law_found","_law_j","_law_number","_law_row"] ["_law_drawn","_law_directions","_law_many"] (aP yX):=⟨rfl,rfl,rfl,by decide +kernel,rfl,by decide +kernel,by decide +kernel⟩
theorem GP{aJ aW:FF}(T:BI K mg)(F:dG K "_law_flat" "_law_flat" yX f fd Tb)(KB:K.In base)(hmg:mg "_law_flat"=some (.ref f))(F_Lnext:FI P w K mg base tb "_law_next" 1 1 aJ)(F_Llowest:FI P w K mg base tb "_law_lowest" 2 2 aW):FI P w K mg base tb "_law_flat" 3 (2+1) (aH 9 (oH aJ aW)):=
 cG F KB hmg Ar rfl (λ_ _ _ _ _ _=>us3 λ_ _ _=>rfl) λc A outer s H E hcd hr=>by
  have nd:=Ar.nd
  refine aB ?_ ?_
  refine oR (i:=3) (j:=4) rfl nd ?_
  refine aa ?_ ?_
  refine aG fK ?_ aA
  exact aG bJ (aL F_Lnext (hr.mono (by decide)) (aa (pdv 0) au) (az aK)) aA
  refine aa ?_ au
  refine aG fK ?_ aA
  exact aG bJ (aL F_Lnext (hr.mono (by decide)) (aa (pdv 0) au) (az aK)) aA
  refine aB (aR (i:=5) nd (lF (oU au))) ?_
  refine aB ?_ (aF (aQ (pZ (pdv 5))))
  refine cY (ts:=[6]) PassesOwn.never rfl (cA T.b_range (aa (pdv 2) au)) (aM (i:=6) nd) ?_
  refine aB ?_ ?_
  exact aR (i:=7) nd (aL F_Lnext (hr.mono (by decide)) (aa (pdv 0) au) (az aK))
  refine aB ?_ ?_
  refine aR (i:=8) nd ?_
  refine lF ?_
  refine Gs ?_ jz (jy (pdv 1))
  refine jJ ?_
  refine aa (aG fK (aG bJ (pdv 7) aA) aA) ?_
  refine aa (aG fK (aG bJ (aG eU (pdv 7) aA) aA) aA) ?_
  exact aa (aG fK (aG bJ (aG eU (pdv 7) aA) aA) aA) au
  refine aB ?_ ?_
  refine cg (bB HD (pdv 1) aA) ?_ bC
  refine aF ?_
  refine Ff ?_ (pdv 8) (gC aA)
  exact aG cI (aG cT (pdv 3) (bF (pdv 8) aA)) (aG cT (pdv 4) (bF (pdv 8) (aG fK (pdv 1) aA)))
  refine aF ?_
  refine fW ?_
  refine dD (pdv 5) ?_
  exact aa (aL F_Llowest (hr.mono (by decide)) (aa (pZ (pdv 8)) (aa aA au)) (az (az aK))) au
abbrev vX:Stmt:=top 28
theorem xf:bc ["_law_number","_law_kind","_law_base"] ["_law_number","_law_kind","_law_base"] (aP vX):=⟨rfl,rfl,rfl,by decide +kernel,rfl,by decide +kernel,by decide +kernel⟩
theorem Gb(T:BI K mg)(F:dG K "_law_place" "_law_place" vX f fd Tb)(KB:K.In base)(hmg:mg "_law_place"=some (.ref f)):FI P w K mg base tb "_law_place" 3 (0+1) (aH 3 (ie)):=
 cG F KB hmg xf rfl (λ_ _ _ _ _ _=>us3 λ_ _ _=>rfl) λc A outer s H E hcd hr=>by
  have nd:=xf.nd
  refine aB ?_ ?_
  refine cg (bB (iK hr) (pdv 1) aA) ?_ bC
  refine aF ?_
  refine aQ ?_
  refine eQ ?_
  refine aa (aG fK (aG bJ (pdv 0) aA) aA) ?_
  exact aa (aG cI aA (aG bJ (aG eU (pdv 0) aA) aA)) au
  refine aB ?_ ?_
  refine cg (bB (iK hr) (pdv 1) aA) ?_ bC
  refine aF ?_
  refine aQ ?_
  refine eQ ?_
  exact aa (aG fK (aG bJ (pdv 0) aA) aA) (aa aA au)
  refine aB ?_ ?_
  refine cg (bB (iK hr) (pdv 1) aA) ?_ bC
  refine aF ?_
  refine aQ ?_
  refine eQ ?_
  refine aa (aG fK (aG bJ (pdv 0) aA) aA) ?_
  exact aa (aG cI aA (aG bJ (aG eU (pdv 0) aA) aA)) au
  refine aB ?_ ?_
  refine cg (bB (iK hr) (pdv 1) aA) ?_ bC
  refine aF ?_
  refine aQ ?_
  refine eQ ?_
  refine aa ?_ (aa aA au)
  refine aG cI (pdv 2) ?_
  refine bF ?_ (aG bJ (pdv 0) aA)
  refine jJ ?_
  exact aa aA (aa aA (aa aA (aa aA au)))
  refine aF ?_
  refine aQ ?_
  refine eQ ?_
  refine aa ?_ (aa aA au)
  exact aG cT (aG bJ (pdv 0) aA) (aG cI aA (aG bJ (pdv 2) aA))
abbrev ut:Stmt:=top 29
theorem xH:bc ["_law_number","_law_directions","_law_kind","_law_base","_law_numbers","_law_bottom","_law_k","_law_top","_law_under"] ["_law_number","_law_directions","_law_kind","_law_base"] (aP ut):=⟨rfl,rfl,rfl,by decide +kernel,rfl,by decide +kernel,by decide +kernel⟩
theorem Fz{aZ jm aW:FF}(T:BI K mg)(F:dG K "_law_point" "_law_point" ut f fd Tb)(KB:K.In base)(hmg:mg "_law_point"=some (.ref f))(F_Lmixed:FI P w K mg base tb "_law_mixed" 2 1 aZ)(F_Lplace:FI P w K mg base tb "_law_place" 3 1 jm)(F_Llowest:FI P w K mg base tb "_law_lowest" 2 2 aW):FI P w K mg base tb "_law_point" 4 (2+1) (aH 9 (kW aZ jm aW)):=
 cG F KB hmg xH rfl (λ_ _ _ _ _ _=>us4 λ_ _ _ _=>rfl) λc A outer s H E hcd hr=>by
  have nd:=xH.nd
  refine aB (aR (i:=4) nd (lF (oU au))) ?_
  refine aB (aR (i:=5) nd aA) ?_
  refine aB ?_ ?_
  refine cY (ts:=[6]) PassesOwn.never rfl (cA T.b_range (aa (pdv 1) au)) (aM (i:=6) nd) ?_
  refine aB ?_ ?_
  refine qU (ts:=[7,8]) ?_ (fL rfl (bh (aM (i:=7) nd) (bh (aM (i:=8) nd) dq)))
  refine aL F_Lplace (hr.mono (by decide)) ?_ (az (az (az aK)))
  refine aa ?_ (aa (pdv 2) (aa (aG cI (pdv 3) (pdv 6)) au))
  exact aL F_Lmixed (hr.mono (by decide)) (aa (pdv 0) (aa (aG cI (pdv 6) aA) au)) (az (az aK))
  refine aB ?_ (aF (fW (dD (pdv 4) (aa (pdv 7) au))))
  exact cg (bB (iK hr) (pdv 6) aA) (aF (aR (i:=5) nd (pdv 8))) bC
  refine aF ?_
  exact aQ (aL F_Llowest (hr.mono (by decide)) (aa (pZ (pdv 4)) (aa (pdv 5) au)) (az (az aK)))
abbrev qX:Stmt:=top 32
theorem vm:bc ["_law_drawn","_law_directions","_law_most","_law_number","_law_many","_law_kind","_law_found","_law_j","_law_one"] ["_law_drawn","_law_directions","_law_most"] (aP qX):=⟨rfl,rfl,rfl,by decide +kernel,rfl,by decide +kernel,by decide +kernel⟩
theorem Cw{aJ gF kY bY:FF}(T:BI K mg)(F:dG K "_law_points" "_law_points" qX f fd Tb)(KB:K.In base)(hmg:mg "_law_points"=some (.ref f))(F_Lnext:FI P w K mg base tb "_law_next" 1 1 aJ)(F_Lon_line:FI P w K mg base tb "_law_on_line" 3 3 gF)(F_Lflat:FI P w K mg base tb "_law_flat" 3 3 kY)(F_Lpoint:FI P w K mg base tb "_law_point" 4 3 bY):FI P w K mg base tb "_law_points" 3 (3+1) (aH 9 (jU aJ gF kY bY)):=
 cG F KB hmg vm rfl (λ_ _ _ _ _ _=>us3 λ_ _ _=>rfl) λc A outer s H E hcd hr=>by
  have nd:=vm.nd
  refine aB ?_ ?_
  exact aR (i:=3) nd (aL F_Lnext (hr.mono (by decide)) (aa (pdv 0) au) (az aK))
  refine aB ?_ ?_
  exact aR (i:=4) nd (aG bJ (aG eU (pdv 3) aA) (aG cI (pdv 2) aA))
  refine aB (aR (i:=5) nd (aG bJ (pdv 3) aA)) ?_
  refine aB ?_ ?_
  refine cg (bB (iK hr) (pdv 5) aA) ?_ bC
  refine aF ?_
  refine aQ ?_
  exact aL F_Lon_line (hr.mono (by decide)) (aa (pdv 0) (aa (pdv 1) (aa (pdv 4) au))) (az (az (az aK)))
  refine aB ?_ ?_
  refine cg (bB (iK hr) (pdv 5) aA) ?_ bC
  refine aF ?_
  refine aQ ?_
  exact aL F_Lflat (hr.mono (by decide)) (aa (pdv 0) (aa (pdv 1) (aa (pdv 4) au))) (az (az (az aK)))
  refine aB ?_ ?_
  refine cg (bB (iK hr) (pdv 5) aA) ?_ bC
  refine aF ?_
  refine aQ ?_
  refine aG cT ?_ (pdv 4)
  refine jJ ?_
  refine aa ?_ au
  refine aL F_Lpoint (hr.mono (by decide)) ?_ (az (az (az (az aK))))
  exact aa (pdv 3) (aa (pdv 1) (aa aA (aa aA au)))
  refine aB (aR (i:=6) nd (lF (oU au))) ?_
  refine aB ?_ (aF (aQ (pZ (pdv 6))))
  refine cY (ts:=[7]) PassesOwn.never rfl (cA T.b_range (aa (pdv 4) au)) (aM (i:=7) nd) ?_
  refine aB ?_ ?_
  exact aR (i:=8) nd (aL F_Lnext (hr.mono (by decide)) (aa (pdv 0) au) (az aK))
  refine aF ?_
  refine cg ?_ ?_ ?_
  refine jG ?_
  refine ul (bB (iK hr) (pdv 5) aA) ?_
  exact ul (bB (Iz hr) (pdv 6) (jJ au)) (uo (bB (iK hr) (aG bJ (pdv 8) aA) aA))
  refine aF ?_
  refine fW ?_
  refine dD (pdv 6) ?_
  refine aa ?_ au
  refine bF (pdv 6) ?_
  exact aG bJ (aG eU (pdv 8) aA) (eO T.b_len (aa (pdv 6) au))
  refine aF ?_
  refine fW ?_
  refine dD (pdv 6) ?_
  refine aa ?_ au
  refine aL F_Lpoint (hr.mono (by decide)) ?_ (az (az (az (az aK))))
  refine aa (aG eU (pdv 8) aA) ?_
  refine aa (pdv 1) ?_
  exact aa (aG bJ (aG bJ (pdv 5) aA) aA) (aa (aG cT (aG bJ (pdv 8) aA) aA) au)
abbrev zu:Stmt:=top 37
theorem Bu:bc ["_law_drawn","_law_directions","_law_most","_law_found"] ["_law_drawn","_law_directions","_law_most"] (aP zu):=⟨rfl,rfl,rfl,by decide +kernel,rfl,by decide +kernel,by decide +kernel⟩
theorem Ka{cV aJ bY:FF}(T:BI K mg)(F:dG K "_law_some" "_law_some" zu f fd Tb)(KB:K.In base)(hmg:mg "_law_some"=some (.ref f))(F_Lpoints:FI P w K mg base tb "_law_points" 3 4 cV)(F_Lnext:FI P w K mg base tb "_law_next" 1 1 aJ)(F_Lpoint:FI P w K mg base tb "_law_point" 4 3 bY):FI P w K mg base tb "_law_some" 3 (4+1) (aH 4 (iM cV aJ bY)):=
 cG F KB hmg Bu rfl (λ_ _ _ _ _ _=>us3 λ_ _ _=>rfl) λc A outer s H E hcd hr=>by
  have nd:=Bu.nd
  refine aB ?_ ?_
  refine aR (i:=3) nd ?_
  exact aL F_Lpoints (hr.mono (by decide)) (aa (pdv 0) (aa (pdv 1) (aa (pdv 2) au))) (az (az (az aK)))
  refine aB ?_ (aF (aQ (pdv 3)))
  refine cg (bB (iK hr) (pdv 3) (jJ au)) ?_ bC
  refine aF ?_
  refine aR (i:=3) nd ?_
  refine jJ ?_
  refine aa ?_ au
  refine aL F_Lpoint (hr.mono (by decide)) ?_ (az (az (az (az aK))))
  exact aa (aL F_Lnext (hr.mono (by decide)) (aa (pdv 0) au) (az aK)) (aa (pdv 1) (aa aA (aa aA au)))
abbrev vJ:Stmt:=top 38
theorem xN:bc ["_law_drawn","_law_many","_law_most","_law_number","_law_turn"] ["_law_drawn","_law_many","_law_most"] (aP vJ):=⟨rfl,rfl,rfl,by decide +kernel,rfl,by decide +kernel,by decide +kernel⟩
theorem Ft{aJ aZ:FF}(T:BI K mg)(F:dG K "_law_group" "_law_group" vJ f fd Tb)(KB:K.In base)(hmg:mg "_law_group"=some (.ref f))(F_Lnext:FI P w K mg base tb "_law_next" 1 1 aJ)(F_Lmixed:FI P w K mg base tb "_law_mixed" 2 1 aZ)(hT:Tb∈tb):FI P w K mg base tb "_law_group" 3 (2+1) (aH 5 (lw aJ aZ)):=
 cG F KB hmg xN rfl (λ_ _ _ _ _ _=>us3 λ_ _ _=>rfl) λc A outer s H E hcd hr=>by
  have nd:=xN.nd
  refine aB ?_ ?_
  exact aR (i:=3) nd (aL F_Lnext (hr.mono (by decide)) (aa (pdv 0) au) (az aK))
  refine aB ?_ ?_
  refine aR (i:=4) nd ?_
  refine dX ?_
  refine wX (x:="_law_k") (cap:=["_law_number"]) (capI:=[3]) rfl hr T.b_sorted ⟨⟨rfl,by decide +kernel,⟨⟨rfl,by first|exact Or.inl rfl|exact Or.inr rfl⟩,trivial⟩,by decide +kernel,by decide +kernel⟩,rfl,by decide +kernel,by decide +kernel,by decide +kernel,rfl,rfl,rfl,λ_ _ _ _ _ _=>rfl⟩ hT ⟨c,rfl,hcd⟩ (dX (Hd rfl T.b_list T.b_range (aa (pdv 1) au))) ?_
  intro q f code s H hm
  have hg1:=hm _ hr
  exact aL F_Lmixed (hg1.mono (by decide)) (aa (pdv 1) (aa (aG cI (pdv 0) aA) au)) (az (az aK))
  refine aF ?_
  refine aQ ?_
  refine qW T.b_tuple ?_
  refine aa ?_ au
  refine dX ?_
  refine Bm T.b_sorted ?_
  refine aa ?_ au
  refine jZ (pdv 4) jz ?_
  refine jy ?_
  refine aG cI aA ?_
  exact aG bJ (pdv 3) (zx rfl T.b_min (aa (pdv 2) (aa (pdv 1) au)))
abbrev yF:Stmt:=top 39
theorem zL:bc ["_law_drawn","_law_number","_law_directions","_law_points_here","_law_one","_law_other","_law_cut"] ["_law_drawn"] (aP yF):=⟨rfl,rfl,rfl,by decide +kernel,rfl,by decide +kernel,by decide +kernel⟩
theorem Km{aJ ik fj:FF}(T:BI K mg)(F:dG K "_law_case" "_law_case" yF f fd Tb)(KB:K.In base)(hmg:mg "_law_case"=some (.ref f))(F_Lnext:FI P w K mg base tb "_law_next" 1 1 aJ)(F_Lsome:FI P w K mg base tb "_law_some" 3 5 ik)(F_Lgroup:FI P w K mg base tb "_law_group" 3 3 fj):FI P w K mg base tb "_law_case" 1 (5+1) (aH 7 (iG aJ ik fj)):=
 cG F KB hmg zL rfl (λ_ _ _ _ _ _=>us1 λ_=>rfl) λc A outer s H E hcd hr=>by
  have nd:=zL.nd
  refine aB ?_ ?_
  exact aR (i:=1) nd (aL F_Lnext (hr.mono (by decide)) (aa (pdv 0) au) (az aK))
  refine aB (aR (i:=2) nd (aG cI aA (aG bJ (pdv 1) aA))) ?_
  refine aB ?_ ?_
  refine aR (i:=3) nd ?_
  exact aL F_Lsome (hr.mono (by decide)) (aa (pdv 0) (aa (pdv 2) (aa aA au))) (az (az (az aK)))
  refine aB ?_ ?_
  refine aR (i:=4) nd ?_
  refine aL F_Lgroup (hr.mono (by decide)) ?_ (az (az (az aK)))
  refine aa (pdv 0) ?_
  exact aa (eO T.b_len (aa (pdv 3) au)) (aa aA au)
  refine aB ?_ ?_
  refine aR (i:=5) nd ?_
  refine aL F_Lgroup (hr.mono (by decide)) ?_ (az (az (az aK)))
  refine aa (pdv 0) ?_
  exact aa (eO T.b_len (aa (pdv 3) au)) (aa aA au)
  refine aB ?_ ?_
  refine cg ?_ ?_ bC
  refine jG ?_
  exact ul (bB (iK hr) (aG bJ (aG eU (pdv 1) aA) aA) aA) (uo (bB HD (eO T.b_len (aa (pdv 3) au)) aA))
  refine aB ?_ ?_
  refine aR (i:=6) nd ?_
  refine aG cI aA ?_
  exact aG bJ (aG eU (pdv 1) aA) (aG fK (eO T.b_len (aa (pdv 3) au)) aA)
  refine aF ?_
  refine oR (i:=4) (j:=5) rfl nd ?_
  refine aa (Jl rfl T.b_tuple T.b_range (aa (pdv 6) au)) ?_
  refine aa ?_ au
  refine Ht rfl T.b_tuple T.b_range ?_
  exact aa (pdv 6) (aa (eO T.b_len (aa (pdv 3) au)) au)
  refine aF ?_
  refine aQ ?_
  exact eQ (aa (pdv 3) (aa (pdv 4) (aa (pdv 5) au)))
abbrev rm:Stmt:=top 34
theorem uK:bc ["_law_drawn","_law_numbers","_law_number","_law_turn","_law_some_here","_law_size"] ["_law_drawn","_law_numbers"] (aP rm):=⟨rfl,rfl,rfl,by decide +kernel,rfl,by decide +kernel,by decide +kernel⟩
theorem BL{aJ aZ:FF}(T:BI K mg)(F:dG K "_law_shares" "_law_shares" rm f fd Tb)(KB:K.In base)(hmg:mg "_law_shares"=some (.ref f))(F_Lnext:FI P w K mg base tb "_law_next" 1 1 aJ)(F_Lmixed:FI P w K mg base tb "_law_mixed" 2 1 aZ)(hT:Tb∈tb):FI P w K mg base tb "_law_shares" 2 (2+1) (aH 6 (gZ aJ aZ)):=
 cG F KB hmg uK rfl (λ_ _ _ _ _ _=>us2 λ_ _=>rfl) λc A outer s H E hcd hr=>by
  have nd:=uK.nd
  refine aB ?_ ?_
  exact aR (i:=2) nd (aL F_Lnext (hr.mono (by decide)) (aa (pdv 0) au) (az aK))
  refine aB ?_ ?_
  refine aR (i:=3) nd ?_
  refine dX ?_
  refine wX (x:="_law_k") (cap:=["_law_number"]) (capI:=[2]) rfl hr T.b_sorted ⟨⟨rfl,by decide +kernel,⟨⟨rfl,by first|exact Or.inl rfl|exact Or.inr rfl⟩,trivial⟩,by decide +kernel,by decide +kernel⟩,rfl,by decide +kernel,by decide +kernel,by decide +kernel,rfl,rfl,rfl,λ_ _ _ _ _ _=>rfl⟩ hT ⟨c,rfl,hcd⟩ (pdv 1) ?_
  intro q f code s H hm
  have hg1:=hm _ hr
  exact aL F_Lmixed (hg1.mono (by decide)) (aa (pdv 1) (aa (aG cI (pdv 0) aA) au)) (az (az aK))
  refine aB ?_ ?_
  refine aR (i:=4) nd ?_
  refine dX ?_
  refine Bm T.b_sorted ?_
  refine aa ?_ au
  refine jZ (pdv 3) jz ?_
  refine jy ?_
  refine aG cI aA ?_
  refine aG bJ (pdv 2) ?_
  refine zx rfl T.b_min ?_
  exact aa aA (aa (eO T.b_len (aa (pdv 3) au)) au)
  refine aB ?_ ?_
  refine aR (i:=5) nd ?_
  refine bF ?_ (aG bJ (aG eU (pdv 2) aA) aA)
  exact jJ (aa aA (aa aA (aa aA au)))
  refine aF ?_
  refine aQ ?_
  refine qW T.b_tuple ?_
  refine aa ?_ au
  refine dX ?_
  refine jk (own:=["_law_k"]) (cap:=["_law_number","_law_size"]) (capI:=[2,5]) (ts:=[0]) rfl ⟨rfl,by decide +kernel,⟨⟨rfl,by first|exact Or.inl rfl|exact Or.inr rfl⟩,⟨⟨rfl,by first|exact Or.inl rfl|exact Or.inr rfl⟩,trivial⟩⟩,by decide +kernel,by decide +kernel⟩ (by decide +kernel) (bZ (pdv 4)) (λcs C fp s2 H2=>aM (i:=0) (show(["_law_k","_law_number","_law_size"]:List Str).Nodup by decide +kernel)) ?_ ?_
  intro cs C fp s2 H2
  exact fZ
  intro cs C fp s2 H2
  refine eQ ?_
  refine aa (pdv 0) ?_
  refine aa ?_ au
  refine aG cI aA ?_
  refine aG bJ ?_ (pdv 2)
  exact aL F_Lmixed (hr.mono (by decide)) (aa (pdv 1) (aa (aG cI (pdv 0) aA) au)) (az (az aK))
abbrev rR:Stmt:=top 43
theorem vC:bc ["_law_shares_here","_law_factor"] ["_law_shares_here","_law_factor"] (aP rR):=⟨rfl,rfl,rfl,by decide +kernel,rfl,by decide +kernel,by decide +kernel⟩
theorem CG(T:BI K mg)(F:dG K "_law_scaled" "_law_scaled" rR f fd Tb)(KB:K.In base)(hmg:mg "_law_scaled"=some (.ref f)):FI P w K mg base tb "_law_scaled" 2 (0+1) (aH 2 (jW)):=
 cG F KB hmg vC rfl (λ_ _ _ _ _ _=>us2 λ_ _=>rfl) λc A outer s H E hcd hr=>by
  have nd:=vC.nd
  refine aF ?_
  refine aQ ?_
  refine qW T.b_tuple ?_
  refine aa ?_ au
  refine dX ?_
  refine jk (own:=["_law_k","_law_share"]) (cap:=["_law_factor"]) (capI:=[1]) (ts:=[0,1]) rfl ⟨rfl,by decide +kernel,⟨⟨rfl,by first|exact Or.inl rfl|exact Or.inr rfl⟩,trivial⟩,by decide +kernel,by decide +kernel⟩ (by decide +kernel) (bZ (pdv 0)) (λcs C fp s2 H2=>fL rfl (bh (aM (i:=0) (show(["_law_k","_law_share","_law_factor"]:List Str).Nodup by decide +kernel)) (bh (aM (i:=1) (show(["_law_k","_law_share","_law_factor"]:List Str).Nodup by decide +kernel)) dq))) ?_ ?_
  intro cs C fp s2 H2
  exact fZ
  intro cs C fp s2 H2
  exact eQ (aa (pdv 0) (aa (aG cT (pdv 1) (pdv 2)) au))
abbrev rB:Stmt:=top 44
theorem uC:bc ["_law_drawn","_law_one","_law_other","_law_found","_law_k","_law_j","_law_turn","_law_first","_law_second"] ["_law_drawn","_law_one","_law_other"] (aP rB):=⟨rfl,rfl,rfl,by decide +kernel,rfl,by decide +kernel,by decide +kernel⟩
theorem Cv{aJ dY gw:FF}(T:BI K mg)(F:dG K "_law_papers" "_law_papers" rB f fd Tb)(KB:K.In base)(hmg:mg "_law_papers"=some (.ref f))(F_Lnext:FI P w K mg base tb "_law_next" 1 1 aJ)(F_Lshares:FI P w K mg base tb "_law_shares" 2 3 dY)(F_Lscaled:FI P w K mg base tb "_law_scaled" 2 1 gw):FI P w K mg base tb "_law_papers" 3 (3+1) (aH 9 (lM aJ dY gw)):=
 cG F KB hmg uC rfl (λ_ _ _ _ _ _=>us3 λ_ _ _=>rfl) λc A outer s H E hcd hr=>by
  have nd:=uC.nd
  refine aB (aR (i:=3) nd (lF (oU au))) ?_
  refine aB ?_ ?_
  refine cY (ts:=[4]) PassesOwn.never rfl (bZ (jZ (pdv 1) jz (jy aA))) (aM (i:=4) nd) ?_
  refine aF ?_
  refine cY (ts:=[5]) PassesOwn.never rfl (bZ (jZ (pdv 2) jz (jy aA))) (aM (i:=5) nd) ?_
  refine aF ?_
  refine fW ?_
  refine dD (pdv 3) ?_
  refine aa ?_ au
  refine eQ ?_
  refine aa ?_ ?_
  refine eQ ?_
  refine aa ?_ au
  refine eQ ?_
  refine aa (pdv 4) ?_
  refine aa ?_ au
  refine aG cI aA ?_
  exact aG bJ (aL F_Lnext (hr.mono (by decide)) (aa (pdv 0) au) (az aK)) aA
  refine aa ?_ au
  refine eQ ?_
  exact aa (eQ (aa (pdv 5) (aa aA au))) au
  refine aB ?_ (aF (aQ (pZ (pdv 3))))
  refine cY (ts:=[6]) PassesOwn.never rfl (cA T.b_range (aa aA au)) (aM (i:=6) nd) ?_
  refine aB ?_ ?_
  refine oR (i:=7) (j:=8) rfl nd ?_
  refine aa ?_ ?_
  refine aL F_Lshares (hr.mono (by decide)) ?_ (az (az aK))
  exact aa (pdv 0) (aa (dX (uY T.b_list (aa (pdv 1) au))) au)
  refine aa ?_ au
  refine aL F_Lshares (hr.mono (by decide)) ?_ (az (az aK))
  exact aa (pdv 0) (aa (dX (uY T.b_list (aa (pdv 2) au))) au)
  refine aB ?_ ?_
  refine fW ?_
  refine dD (pdv 3) ?_
  exact aa (eQ (aa (pdv 7) (aa (pdv 8) au))) au
  refine aB ?_ ?_
  refine fW ?_
  refine dD (pdv 3) ?_
  refine aa ?_ au
  refine eQ ?_
  refine aa ?_ (aa (pdv 8) au)
  exact aL F_Lscaled (hr.mono (by decide)) (aa (pdv 7) (aa (aG cI aA (pdv 6)) au)) (az (az aK))
  refine aF ?_
  refine fW ?_
  refine dD (pdv 3) ?_
  exact aa (eQ (aa (pdv 8) (aa (pdv 7) au))) au
abbrev uL:Stmt:=top 35
theorem xQ:bc ["_law_thing"] ["_law_thing"] (aP uL):=⟨rfl,rfl,rfl,by decide +kernel,rfl,by decide +kernel,by decide +kernel⟩
theorem FP(T:BI K mg)(F:dG K "_law_whole" "_law_whole" uL f fd Tb)(KB:K.In base)(hmg:mg "_law_whole"=some (.ref f)):FI P w K mg base tb "_law_whole" 1 (0+1) (aH 1 (nG)):=
 cG F KB hmg xQ rfl (λ_ _ _ _ _ _=>us1 λ_=>rfl) λc A outer s H E hcd hr=>by
  have nd:=xQ.nd
  refine aF ?_
  refine aQ ?_
  refine nj ?_ ?_
  exact lu T.b_isinstance T.b_int PyProof.Rows.boot_int (by decide) (pdv 0)
  refine lE ?_
  refine Jx ?_
  exact lu T.b_isinstance T.b_bool PyProof.Rows.boot_bool (by decide) (pdv 0)
abbrev vA:Stmt:=top 40
theorem wY:bc ["_law_group_here","_law_thing","_law_last","_law_row"] ["_law_group_here","_law_thing"] (aP vA):=⟨rfl,rfl,rfl,by decide +kernel,rfl,by decide +kernel,by decide +kernel⟩
theorem Ge{gQ:FF}(T:BI K mg)(F:dG K "_law_is_of" "_law_is_of" vA f fd Tb)(KB:K.In base)(hmg:mg "_law_is_of"=some (.ref f))(F_Lwhole:FI P w K mg base tb "_law_whole" 1 1 gQ):FI P w K mg base tb "_law_is_of" 2 (1+1) (aH 4 (lR gQ)):=
 cG F KB hmg wY rfl (λ_ _ _ _ _ _=>us2 λ_ _=>rfl) λc A outer s H E hcd hr=>by
  have nd:=wY.nd
  refine aB ?_ ?_
  refine cg ?_ (aF (aQ lK)) bC
  refine jG ?_
  refine lL ?_ (jQ (bB (iK hr) (eO T.b_len (aa (pdv 1) au)) aA))
  refine gj ?_
  refine gk ?_
  exact lu T.b_isinstance T.b_tuple PyProof.Rows.boot_tuple (by decide) (pdv 1)
  refine aB (aR (i:=2) nd (gC aA)) ?_
  refine aB ?_ (aF (aQ lK))
  refine cY (ts:=[3]) PassesOwn.never rfl (bZ (pdv 1)) (aM (i:=3) nd) ?_
  refine aB ?_ ?_
  refine cg ?_ (aF (aQ lK)) bC
  refine jG ?_
  refine lL ?_ (jQ (bB (zF hr) (eO T.b_len (aa (pdv 3) au)) aA))
  refine gj ?_
  refine gk ?_
  exact lu T.b_isinstance T.b_tuple PyProof.Rows.boot_tuple (by decide) (pdv 3)
  refine aB ?_ ?_
  refine cg ?_ (aF (aQ lK)) bC
  refine jG ?_
  refine lL ?_ ?_
  refine gj ?_
  exact gk (aL F_Lwhole (hr.mono (by decide)) (aa (bF (pdv 3) aA) au) (az aK))
  refine jQ ?_
  refine gj ?_
  exact gk (aL F_Lwhole (hr.mono (by decide)) (aa (bF (pdv 3) aA) au) (az aK))
  refine aB ?_ (aF (aR (i:=2) nd (bF (pdv 3) aA)))
  refine cg ?_ (aF (aQ lK)) bC
  refine jG ?_
  refine lL (bB Jo (bF (pdv 3) aA) (pdv 2)) ?_
  exact lL (bB Jy (bF (pdv 3) aA) (pdv 0)) (jQ (bB vH (bF (pdv 3) aA) aA))
abbrev Dh:Stmt:=top 33
theorem DW:bc ["_law_points_here","_law_shares_here","_law_bottom","_law_k","_law_share","_law_numbers","_law_total","_law_i","_law_more"] ["_law_points_here","_law_shares_here"] (aP Dh):=⟨rfl,rfl,rfl,by decide +kernel,rfl,by decide +kernel,by decide +kernel⟩
theorem Nu{dw aW:FF}(T:BI K mg)(F:dG K "_law_mix" "_law_mix" Dh f fd Tb)(KB:K.In base)(hmg:mg "_law_mix"=some (.ref f))(F_Lgcd:FI P w K mg base tb "_law_gcd" 2 1 dw)(F_Llowest:FI P w K mg base tb "_law_lowest" 2 2 aW):FI P w K mg base tb "_law_mix" 2 (2+1) (aH 9 (uG dw aW)):=
 cG F KB hmg DW rfl (λ_ _ _ _ _ _=>us2 λ_ _=>rfl) λc A outer s H E hcd hr=>by
  have nd:=DW.nd
  refine aB (aR (i:=2) nd aA) ?_
  refine aB ?_ ?_
  refine cY (ts:=[3,4]) PassesOwn.never rfl (bZ (pdv 1)) (fL rfl (bh (aM (i:=3) nd) (bh (aM (i:=4) nd) dq))) ?_
  refine aF ?_
  refine aR (i:=2) nd ?_
  refine aG eU ?_ ?_
  exact aG cT (pdv 2) (bF (bF (pdv 0) (pdv 3)) (gC aA))
  refine aL F_Lgcd (hr.mono (by decide)) ?_ (az (az aK))
  refine aa (pdv 2) ?_
  exact aa (bF (bF (pdv 0) (pdv 3)) (gC aA)) au
  refine aB ?_ ?_
  refine aR (i:=5) nd ?_
  refine lF ?_
  refine Oe (jJ (aa aA au)) ?_
  refine aG fK ?_ aA
  refine eO T.b_len ?_
  exact aa (bF (pdv 0) (bF (bF (pdv 1) aA) aA)) au
  refine aB (aR (i:=6) nd aA) ?_
  refine aB ?_ ?_
  refine cY (ts:=[3,4]) PassesOwn.never rfl (bZ (pdv 1)) (fL rfl (bh (aM (i:=3) nd) (bh (aM (i:=4) nd) dq))) ?_
  refine aB (aR (i:=6) nd (aG cI (pdv 6) (pdv 4))) ?_
  refine aF ?_
  refine cY (ts:=[7]) PassesOwn.never rfl (cA T.b_range (aa (eO T.b_len (aa (pdv 5) au)) au)) (aM (i:=7) nd) ?_
  refine aB ?_ ?_
  exact aR (i:=8) nd (aG cT (pdv 4) (bF (bF (pdv 0) (pdv 3)) (pdv 7)))
  refine aF ?_
  refine Ff ?_ (pdv 5) (pdv 7)
  refine aG cI (bF (pdv 5) (pdv 7)) ?_
  refine aG cT (pdv 8) ?_
  exact aG eU (pdv 2) (bF (bF (pdv 0) (pdv 3)) (gC aA))
  refine aF ?_
  refine aQ ?_
  refine aL F_Llowest (hr.mono (by decide)) ?_ (az (az aK))
  exact aa (pZ (pdv 5)) (aa (aG cT (pdv 2) (pdv 6)) au)
abbrev vG:Stmt:=top 41
theorem xj:bc ["_law_first","_law_second","_law_spot","_law_point_here","_law_found","_law_i","_law_way","_law_ahead"] ["_law_first","_law_second","_law_spot","_law_point_here"] (aP vG):=⟨rfl,rfl,rfl,by decide +kernel,rfl,by decide +kernel,by decide +kernel⟩
theorem Fj(T:BI K mg)(F:dG K "_law_along" "_law_along" vG f fd Tb)(KB:K.In base)(hmg:mg "_law_along"=some (.ref f)):FI P w K mg base tb "_law_along" 4 (0+1) (aH 8 (jR)):=
 cG F KB hmg xj rfl (λ_ _ _ _ _ _=>us4 λ_ _ _ _=>rfl) λc A outer s H E hcd hr=>by
  have nd:=xj.nd
  refine aB (aR (i:=4) nd aA) ?_
  refine aB ?_ (aF (aQ (pdv 4)))
  refine cY (ts:=[5]) PassesOwn.never rfl ?_ (aM (i:=5) nd) ?_
  refine cA T.b_range ?_
  exact aa (aG fK (eO T.b_len (aa (pdv 2) au)) aA) au
  refine aB ?_ ?_
  refine aR (i:=6) nd ?_
  refine aG fK ?_ ?_
  exact aG cT (bF (pdv 0) (pdv 5)) (bF (pdv 1) (gC aA))
  exact aG cT (bF (pdv 1) (pdv 5)) (bF (pdv 0) (gC aA))
  refine aB ?_ (aF (aR (i:=4) nd (aG cI (pdv 4) (aG cT (pdv 6) (pdv 7)))))
  refine aR (i:=7) nd ?_
  refine aG fK ?_ ?_
  exact aG cT (bF (pdv 3) (pdv 5)) (bF (pdv 2) (gC aA))
  exact aG cT (bF (pdv 2) (pdv 5)) (bF (pdv 3) (gC aA))
abbrev qe:Stmt:=top 42
theorem tE:bc ["_law_points_here","_law_one","_law_other","_law_thing","_law_first","_law_second"] ["_law_points_here","_law_one","_law_other","_law_thing"] (aP qe):=⟨rfl,rfl,rfl,by decide +kernel,rfl,by decide +kernel,by decide +kernel⟩
theorem Bt{iB jN iI:FF}(T:BI K mg)(F:dG K "_law_is_near" "_law_is_near" qe f fd Tb)(KB:K.In base)(hmg:mg "_law_is_near"=some (.ref f))(F_Lis_of:FI P w K mg base tb "_law_is_of" 2 2 iB)(F_Lmix:FI P w K mg base tb "_law_mix" 2 3 jN)(F_Lalong:FI P w K mg base tb "_law_along" 4 1 iI):FI P w K mg base tb "_law_is_near" 4 (3+1) (aH 6 (jf iB jN iI)):=
 cG F KB hmg tE rfl (λ_ _ _ _ _ _=>us4 λ_ _ _ _=>rfl) λc A outer s H E hcd hr=>by
  have nd:=tE.nd
  refine aB ?_ ?_
  refine cg ?_ (aF (aQ lK)) bC
  refine jG ?_
  refine lL ?_ (jQ (bB (zF hr) (eO T.b_len (aa (pdv 3) au)) aA))
  refine gj ?_
  refine gk ?_
  exact lu T.b_isinstance T.b_tuple PyProof.Rows.boot_tuple (by decide) (pdv 3)
  refine aB ?_ ?_
  refine cg ?_ (aF (aQ lK)) bC
  refine jG ?_
  refine lL ?_ ?_
  refine gj ?_
  refine gk ?_
  exact aL F_Lis_of (hr.mono (by decide)) (aa (pdv 1) (aa (bF (pdv 3) aA) au)) (az (az aK))
  refine jQ ?_
  refine gj ?_
  refine gk ?_
  exact aL F_Lis_of (hr.mono (by decide)) (aa (pdv 2) (aa (bF (pdv 3) aA) au)) (az (az aK))
  refine aB ?_ ?_
  refine qU (ts:=[4,5]) ?_ (fL rfl (bh (aM (i:=4) nd) (bh (aM (i:=5) nd) dq)))
  refine eQ ?_
  refine aa ?_ ?_
  exact aL F_Lmix (hr.mono (by decide)) (aa (pdv 0) (aa (bF (pdv 3) aA) au)) (az (az aK))
  refine aa ?_ au
  exact aL F_Lmix (hr.mono (by decide)) (aa (pdv 0) (aa (bF (pdv 3) aA) au)) (az (az aK))
  refine aB ?_ ?_
  refine cg ?_ (aF (aQ lK)) bC
  refine bB (Iz hr) ?_ (jJ au)
  refine dX ?_
  refine jk (own:=["_law_k"]) (cap:=["_law_first","_law_second","_law_points_here"]) (capI:=[4,5,0]) (ts:=[0]) rfl ⟨rfl,by decide +kernel,⟨⟨rfl,by first|exact Or.inl rfl|exact Or.inr rfl⟩,⟨⟨rfl,by first|exact Or.inl rfl|exact Or.inr rfl⟩,⟨⟨rfl,by first|exact Or.inl rfl|exact Or.inr rfl⟩,trivial⟩⟩⟩,by decide +kernel,by decide +kernel⟩ (by decide +kernel) (bZ (pdv 1)) (λcs C fp s2 H2=>aM (i:=0) (show(["_law_k","_law_first","_law_second","_law_points_here"]:List Str).Nodup by decide +kernel)) ?_ ?_
  intro cs C fp s2 H2
  refine Bh ?_
  refine bB vH ?_ aA
  refine aL F_Lalong (hr.mono (by decide)) ?_ (az (az (az (az aK))))
  refine aa (pdv 1) ?_
  exact aa (pdv 2) (aa (pdv 1) (aa (bF (pdv 3) (pdv 0)) au))
  intro cs C fp s2 H2
  exact pdv 0
  refine aF ?_
  refine aQ ?_
  refine mz (iK hr) ?_ (jJ au)
  refine dX ?_
  refine jk (own:=["_law_k"]) (cap:=["_law_first","_law_second","_law_points_here"]) (capI:=[4,5,0]) (ts:=[0]) rfl ⟨rfl,by decide +kernel,⟨⟨rfl,by first|exact Or.inl rfl|exact Or.inr rfl⟩,⟨⟨rfl,by first|exact Or.inl rfl|exact Or.inr rfl⟩,⟨⟨rfl,by first|exact Or.inl rfl|exact Or.inr rfl⟩,trivial⟩⟩⟩,by decide +kernel,by decide +kernel⟩ (by decide +kernel) (bZ (pdv 2)) (λcs C fp s2 H2=>aM (i:=0) (show(["_law_k","_law_first","_law_second","_law_points_here"]:List Str).Nodup by decide +kernel)) ?_ ?_
  intro cs C fp s2 H2
  refine Bh ?_
  refine bB HD ?_ aA
  refine aL F_Lalong (hr.mono (by decide)) ?_ (az (az (az (az aK))))
  refine aa (pdv 1) ?_
  exact aa (pdv 2) (aa (pdv 2) (aa (bF (pdv 3) (pdv 0)) au))
  intro cs C fp s2 H2
  exact pdv 0
abbrev ur:Stmt:=top 2
theorem wO:bc ["many","thing"] ["many","thing"] (aP ur):=⟨rfl,rfl,rfl,by decide +kernel,rfl,by decide +kernel,by decide +kernel⟩
theorem Gd(T:BI K mg)(F:dG K "is_row" "is_row" ur f fd Tb)(KB:K.In base)(hmg:mg "is_row"=some (.ref f)):FI P w K mg base tb "is_row" 2 (0+1) (aH 2 (kj)):=
 cG F KB hmg wO rfl (λ_ _ _ _ _ _=>us2 λ_ _=>rfl) λc A outer s H E hcd hr=>by
  have nd:=wO.nd
  refine aF ?_
  refine aQ ?_
  refine nj ?_ (lE (mz (iK hr) (eO T.b_len (aa (pdv 1) au)) (pdv 0)))
  exact lu T.b_isinstance T.b_tuple PyProof.Rows.boot_tuple (by decide) (pdv 1)
abbrev nH:Stmt:=top 1
theorem qN:bc ["thing"] ["thing"] (aP nH):=⟨rfl,rfl,rfl,by decide +kernel,rfl,by decide +kernel,by decide +kernel⟩
theorem yJ(T:BI K mg)(F:dG K "is_number" "is_number" nH f fd Tb)(KB:K.In base)(hmg:mg "is_number"=some (.ref f)):FI P w K mg base tb "is_number" 1 (0+1) (aH 1 (gD)):=
 cG F KB hmg qN rfl (λ_ _ _ _ _ _=>us1 λ_=>rfl) λc A outer s H E hcd hr=>by
  have nd:=qN.nd
  refine aF ?_
  refine aQ ?_
  refine nj ?_ ?_
  exact lu T.b_isinstance T.b_int PyProof.Rows.boot_int (by decide) (pdv 0)
  refine lE ?_
  refine Jx ?_
  exact lu T.b_isinstance T.b_bool PyProof.Rows.boot_bool (by decide) (pdv 0)
abbrev mH:Stmt:=top 3
theorem pJ:bc ["thing"] ["thing"] (aP mH):=⟨rfl,rfl,rfl,by decide +kernel,rfl,by decide +kernel,by decide +kernel⟩
theorem wj{dJ:FF}(T:BI K mg)(F:dG K "is_numbers" "is_numbers" mH f fd Tb)(KB:K.In base)(hmg:mg "is_numbers"=some (.ref f))(F_is_number:FI P w K mg base tb "is_number" 1 1 dJ)(hT:Tb∈tb):FI P w K mg base tb "is_numbers" 1 (2+1) (aH 1 (dM dJ)):=
 cG F KB hmg pJ rfl (λ_ _ _ _ _ _=>us1 λ_=>rfl) λc A outer s H E hcd hr=>by
  have nd:=pJ.nd
  refine aF ?_
  refine aQ ?_
  refine nj ?_ ?_
  exact lu T.b_isinstance T.b_tuple PyProof.Rows.boot_tuple (by decide) (pdv 0)
  refine lE ?_
  refine rJ rfl T.b_all ?_
  refine lq ?_
  refine gO (own:=["part"]) (cap:=[]) (capI:=[]) (ts:=[0]) rfl hr ⟨rfl,by decide +kernel,trivial,by decide +kernel,by decide +kernel⟩ (by decide +kernel) (by decide +kernel) hT ⟨c,rfl,hcd⟩ (bZ (pdv 0)) (λAG cs C code fp s2 H2=>aM (i:=0) (show(["part"]:List Str).Nodup by decide +kernel)) ?_
  intro AG cs C code fp s2 H2 hm
  have hg1:=hm _ hr
  exact aL F_is_number (hg1.mono (by decide)) (aa (pdv 0) au) (az aK)
abbrev pQ:Stmt:=top 11
theorem tG:bc ["many","thing"] ["many","thing"] (aP pQ):=⟨rfl,rfl,rfl,by decide +kernel,rfl,by decide +kernel,by decide +kernel⟩
theorem Bs{dg:FF}(T:BI K mg)(F:dG K "is_share" "is_share" pQ f fd Tb)(KB:K.In base)(hmg:mg "is_share"=some (.ref f))(F_is_numbers:FI P w K mg base tb "is_numbers" 1 3 dg):FI P w K mg base tb "is_share" 2 (3+1) (aH 2 (dU dg)):=
 cG F KB hmg tG rfl (λ_ _ _ _ _ _=>us2 λ_ _=>rfl) λc A outer s H E hcd hr=>by
  have nd:=tG.nd
  refine aB ?_ ?_
  refine cg ?_ (aF (aQ lK)) bC
  refine jG ?_
  refine lL ?_ (jQ (bB (zF hr) (eO T.b_len (aa (pdv 1) au)) aA))
  refine gj ?_
  exact gk (aL F_is_numbers (hr.mono (by decide)) (aa (pdv 1) au) (az aK))
  refine aF ?_
  refine aQ ?_
  exact nj (Il Jo vH aA (bF (pdv 1) aA) (pdv 0)) (lE (mz Ef (bF (pdv 1) aA) aA))
abbrev nF:Stmt:=top 12
theorem qM:bc ["many","thing"] ["many","thing"] (aP nF):=⟨rfl,rfl,rfl,by decide +kernel,rfl,by decide +kernel,by decide +kernel⟩
theorem zf{fB:FF}(T:BI K mg)(F:dG K "is_shares" "is_shares" nF f fd Tb)(KB:K.In base)(hmg:mg "is_shares"=some (.ref f))(F_is_share:FI P w K mg base tb "is_share" 2 4 fB)(hT:Tb∈tb):FI P w K mg base tb "is_shares" 2 (5+1) (aH 2 (di fB)):=
 cG F KB hmg qM rfl (λ_ _ _ _ _ _=>us2 λ_ _=>rfl) λc A outer s H E hcd hr=>by
  have nd:=qM.nd
  refine aB ?_ ?_
  refine cg ?_ (aF (aQ lK)) bC
  refine jG ?_
  refine lL ?_ (jQ (bB (iK hr) (eO T.b_len (aa (pdv 1) au)) aA))
  refine gj ?_
  refine gk ?_
  exact lu T.b_isinstance T.b_tuple PyProof.Rows.boot_tuple (by decide) (pdv 1)
  refine aB ?_ ?_
  refine cg ?_ (aF (aQ lK)) bC
  refine gj ?_
  refine gk ?_
  refine rJ rfl T.b_all ?_
  refine lq ?_
  refine gO (own:=["part"]) (cap:=["many"]) (capI:=[0]) (ts:=[0]) rfl hr ⟨rfl,by decide +kernel,⟨⟨rfl,by first|exact Or.inl rfl|exact Or.inr rfl⟩,trivial⟩,by decide +kernel,by decide +kernel⟩ (by decide +kernel) (by decide +kernel) hT ⟨c,rfl,hcd⟩ (bZ (pdv 1)) (λAG cs C code fp s2 H2=>aM (i:=0) (show(["part","many"]:List Str).Nodup by decide +kernel)) ?_
  intro AG cs C code fp s2 H2 hm
  have hg1:=hm _ hr
  exact aL F_is_share (hg1.mono (by decide)) (aa (pdv 1) (aa (pdv 0) au)) (az (az aK))
  refine aF ?_
  refine aQ ?_
  refine rJ rfl T.b_all ?_
  refine lq ?_
  refine gO (own:=["one","other"]) (cap:=[]) (capI:=[]) (ts:=[0,1]) rfl hr ⟨rfl,by decide +kernel,trivial,by decide +kernel,by decide +kernel⟩ (by decide +kernel) (by decide +kernel) hT ⟨c,rfl,hcd⟩ ?_ (λAG cs C code fp s2 H2=>fL rfl (bh (aM (i:=0) (show(["one","other"]:List Str).Nodup by decide +kernel)) (bh (aM (i:=1) (show(["one","other"]:List Str).Nodup by decide +kernel)) dq))) ?_
  refine uh T.b_zip ?_
  exact aa (pdv 1) (aa (jZ (pdv 1) (jy aA) jz) au)
  intro AG cs C code fp s2 H2 hm
  have hg1:=hm _ hr
  exact mz vH (bF (pdv 0) aA) (bF (pdv 1) aA)
abbrev iZ:Stmt:=top 16
theorem kh:bc ["points","group","thing"] ["points","group","thing"] (aP iZ):=⟨rfl,rfl,rfl,by decide +kernel,rfl,by decide +kernel,by decide +kernel⟩
theorem pW{dF:FF}(T:BI K mg)(F:dG K "is_group_shares" "is_group_shares" iZ f fd Tb)(KB:K.In base)(hmg:mg "is_group_shares"=some (.ref f))(F_is_shares:FI P w K mg base tb "is_shares" 2 6 dF)(hT:Tb∈tb):FI P w K mg base tb "is_group_shares" 3 (7+1) (aH 3 (cC dF)):=
 cG F KB hmg kh rfl (λ_ _ _ _ _ _=>us3 λ_ _ _=>rfl) λc A outer s H E hcd hr=>by
  have nd:=kh.nd
  refine aF ?_
  refine aQ ?_
  refine nj ?_ ?_
  refine aL F_is_shares (hr.mono (by decide)) ?_ (az (az aK))
  exact aa (eO T.b_len (aa (pdv 0) au)) (aa (pdv 2) au)
  refine lE ?_
  refine rJ rfl T.b_all ?_
  refine lq ?_
  refine gO (own:=["k","share"]) (cap:=["group"]) (capI:=[1]) (ts:=[0,1]) rfl hr ⟨rfl,by decide +kernel,⟨⟨rfl,by first|exact Or.inl rfl|exact Or.inr rfl⟩,trivial⟩,by decide +kernel,by decide +kernel⟩ (by decide +kernel) (by decide +kernel) hT ⟨c,rfl,hcd⟩ (bZ (pdv 2)) (λAG cs C code fp s2 H2=>fL rfl (bh (aM (i:=0) (show(["k","share","group"]:List Str).Nodup by decide +kernel)) (bh (aM (i:=1) (show(["k","share","group"]:List Str).Nodup by decide +kernel)) dq))) ?_
  intro AG cs C code fp s2 H2 hm
  have hg1:=hm _ hr
  exact mz Ur (pdv 0) (pdv 2)
abbrev jt:Stmt:=top 4
theorem lC:bc ["one","other"] ["one","other"] (aP jt):=⟨rfl,rfl,rfl,by decide +kernel,rfl,by decide +kernel,by decide +kernel⟩
theorem qL(T:BI K mg)(F:dG K "divisor_of_two" "divisor_of_two" jt f fd Tb)(KB:K.In base)(hmg:mg "divisor_of_two"=some (.ref f)):FI P w K mg base tb "divisor_of_two" 2 (0+1) (aH 2 (cO)):=
 cG F KB hmg lC rfl (λ_ _ _ _ _ _=>us2 λ_ _=>rfl) λc A outer s H E hcd hr=>by
  have nd:=lC.nd
  refine aB ?_ ?_
  refine oR (i:=0) (j:=1) rfl nd ?_
  exact aa (vO T.b_abs (aa (pdv 0) au)) (aa (vO T.b_abs (aa (pdv 1) au)) au)
  refine aB ?_ (aF (aQ (pdv 0)))
  refine sr PassesOwn.never (bB (zF hr) (pdv 1) aA) ?_
  refine aF ?_
  exact oR (i:=0) (j:=1) rfl nd (aa (pdv 1) (aa (aG bJ (pdv 0) (pdv 1)) au))
abbrev iY:Stmt:=top 6
theorem kE:bc ["numbers","found","number"] ["numbers"] (aP iY):=⟨rfl,rfl,rfl,by decide +kernel,rfl,by decide +kernel,by decide +kernel⟩
theorem qi{bf:FF}(T:BI K mg)(F:dG K "common_multiple" "common_multiple" iY f fd Tb)(KB:K.In base)(hmg:mg "common_multiple"=some (.ref f))(F_divisor_of_two:FI P w K mg base tb "divisor_of_two" 2 1 bf):FI P w K mg base tb "common_multiple" 1 (1+1) (aH 3 (bM bf)):=
 cG F KB hmg kE rfl (λ_ _ _ _ _ _=>us1 λ_=>rfl) λc A outer s H E hcd hr=>by
  have nd:=kE.nd
  refine aB (aR (i:=1) nd aA) ?_
  refine aB ?_ (aF (aQ (pdv 1)))
  refine cY (ts:=[2]) PassesOwn.never rfl (bZ (pdv 0)) (aM (i:=2) nd) ?_
  refine aF ?_
  refine Ci (i:=1) nd ?_
  exact aG eU (pdv 2) (aL F_divisor_of_two (hr.mono (by decide)) (aa (pdv 1) (aa (pdv 2) au)) (az (az aK)))
abbrev kI:Stmt:=top 13
theorem mY:bc ["points","numbers","whole"] ["points","numbers"] (aP kI):=⟨rfl,rfl,rfl,by decide +kernel,rfl,by decide +kernel,by decide +kernel⟩
theorem tO{bj:FF}(T:BI K mg)(F:dG K "over_bottoms" "over_bottoms" kI f fd Tb)(KB:K.In base)(hmg:mg "over_bottoms"=some (.ref f))(F_common_multiple:FI P w K mg base tb "common_multiple" 1 2 bj):FI P w K mg base tb "over_bottoms" 2 (2+1) (aH 3 (eY bj)):=
 cG F KB hmg mY rfl (λ_ _ _ _ _ _=>us2 λ_ _=>rfl) λc A outer s H E hcd hr=>by
  have nd:=mY.nd
  refine aB ?_ ?_
  refine aR (i:=2) nd ?_
  refine aL F_common_multiple (hr.mono (by decide)) ?_ (az aK)
  refine aa ?_ au
  refine dX ?_
  refine jk (own:=["point"]) (cap:=[]) (capI:=[]) (ts:=[0]) rfl ⟨rfl,by decide +kernel,trivial,by decide +kernel,by decide +kernel⟩ (by decide +kernel) (bZ (pdv 0)) (λcs C fp s2 H2=>aM (i:=0) (show(["point"]:List Str).Nodup by decide +kernel)) ?_ ?_
  intro cs C fp s2 H2
  exact fZ
  intro cs C fp s2 H2
  exact bF (pdv 0) (gC aA)
  refine aF ?_
  refine aQ ?_
  refine dX ?_
  refine jk (own:=["number","point"]) (cap:=["whole"]) (capI:=[2]) (ts:=[0,1]) rfl ⟨rfl,by decide +kernel,⟨⟨rfl,by first|exact Or.inl rfl|exact Or.inr rfl⟩,trivial⟩,by decide +kernel,by decide +kernel⟩ (by decide +kernel) (uh T.b_zip (aa (pdv 1) (aa (pdv 0) au))) (λcs C fp s2 H2=>fL rfl (bh (aM (i:=0) (show(["number","point","whole"]:List Str).Nodup by decide +kernel)) (bh (aM (i:=1) (show(["number","point","whole"]:List Str).Nodup by decide +kernel)) dq))) ?_ ?_
  intro cs C fp s2 H2
  exact fZ
  intro cs C fp s2 H2
  exact aG cT (pdv 0) (aG eU (pdv 2) (bF (pdv 1) (gC aA)))
abbrev jg:Stmt:=top 8
theorem lr:bc ["ones","others"] ["ones","others"] (aP jg):=⟨rfl,rfl,rfl,by decide +kernel,rfl,by decide +kernel,by decide +kernel⟩
theorem qj(T:BI K mg)(F:dG K "sum_of_products" "sum_of_products" jg f fd Tb)(KB:K.In base)(hmg:mg "sum_of_products"=some (.ref f))(hT:Tb∈tb):FI P w K mg base tb "sum_of_products" 2 (1+1) (aH 2 (aX)):=
 cG F KB hmg lr rfl (λ_ _ _ _ _ _=>us2 λ_ _=>rfl) λc A outer s H E hcd hr=>by
  have nd:=lr.nd
  refine aF ?_
  refine aQ ?_
  refine Rg rfl T.b_sum ?_
  refine lq ?_
  refine gO (own:=["one","other"]) (cap:=[]) (capI:=[]) (ts:=[0,1]) rfl hr ⟨rfl,by decide +kernel,trivial,by decide +kernel,by decide +kernel⟩ (by decide +kernel) (by decide +kernel) hT ⟨c,rfl,hcd⟩ (uh T.b_zip (aa (pdv 0) (aa (pdv 1) au))) (λAG cs C code fp s2 H2=>fL rfl (bh (aM (i:=0) (show(["one","other"]:List Str).Nodup by decide +kernel)) (bh (aM (i:=1) (show(["one","other"]:List Str).Nodup by decide +kernel)) dq))) ?_
  intro AG cs C code fp s2 H2 hm
  have hg1:=hm _ hr
  exact aG cT (pdv 0) (pdv 1)
abbrev rY:Stmt:=top 9
theorem ux:bc ["rows","weights"] ["rows","weights"] (aP rY):=⟨rfl,rfl,rfl,by decide +kernel,rfl,by decide +kernel,by decide +kernel⟩
theorem Cq{aY:FF}(T:BI K mg)(F:dG K "weighed" "weighed" rY f fd Tb)(KB:K.In base)(hmg:mg "weighed"=some (.ref f))(F_sum_of_products:FI P w K mg base tb "sum_of_products" 2 2 aY):FI P w K mg base tb "weighed" 2 (2+1) (aH 2 (jX aY)):=
 cG F KB hmg ux rfl (λ_ _ _ _ _ _=>us2 λ_ _=>rfl) λc A outer s H E hcd hr=>by
  have nd:=ux.nd
  refine aF ?_
  refine aQ ?_
  refine dX ?_
  refine jk (own:=["at"]) (cap:=["weights","rows"]) (capI:=[1,0]) (ts:=[0]) rfl ⟨rfl,by decide +kernel,⟨⟨rfl,by first|exact Or.inl rfl|exact Or.inr rfl⟩,⟨⟨rfl,by first|exact Or.inl rfl|exact Or.inr rfl⟩,trivial⟩⟩,by decide +kernel,by decide +kernel⟩ (by decide +kernel) ?_ (λcs C fp s2 H2=>aM (i:=0) (show(["at","weights","rows"]:List Str).Nodup by decide +kernel)) ?_ ?_
  refine cA T.b_range ?_
  exact aa (eO T.b_len (aa (bF (pdv 0) aA) au)) au
  intro cs C fp s2 H2
  exact fZ
  intro cs C fp s2 H2
  refine aL F_sum_of_products (hr.mono (by decide)) ?_ (az (az aK))
  refine aa (pdv 1) ?_
  refine aa ?_ au
  refine dX ?_
  refine jk (own:=["row"]) (cap:=["at"]) (capI:=[0]) (ts:=[0]) rfl ⟨rfl,by decide +kernel,⟨⟨rfl,by first|exact Or.inl rfl|exact Or.inr rfl⟩,trivial⟩,by decide +kernel,by decide +kernel⟩ (by decide +kernel) (bZ (pdv 2)) (λcs C fp s2 H2=>aM (i:=0) (show(["row","at"]:List Str).Nodup by decide +kernel)) ?_ ?_
  intro cs C fp s2 H2
  exact fZ
  intro cs C fp s2 H2
  exact bF (pdv 0) (pdv 1)
abbrev jr:Stmt:=top 5
theorem lG:bc ["numbers","found","number"] ["numbers"] (aP jr):=⟨rfl,rfl,rfl,by decide +kernel,rfl,by decide +kernel,by decide +kernel⟩
theorem qG{bf:FF}(T:BI K mg)(F:dG K "common_divisor" "common_divisor" jr f fd Tb)(KB:K.In base)(hmg:mg "common_divisor"=some (.ref f))(F_divisor_of_two:FI P w K mg base tb "divisor_of_two" 2 1 bf):FI P w K mg base tb "common_divisor" 1 (1+1) (aH 3 (dm bf)):=
 cG F KB hmg lG rfl (λ_ _ _ _ _ _=>us1 λ_=>rfl) λc A outer s H E hcd hr=>by
  have nd:=lG.nd
  refine aB (aR (i:=1) nd aA) ?_
  refine aB ?_ (aF (aQ (pdv 1)))
  refine cY (ts:=[2]) PassesOwn.never rfl (bZ (pdv 0)) (aM (i:=2) nd) ?_
  refine aB ?_ ?_
  exact aR (i:=1) nd (aL F_divisor_of_two (hr.mono (by decide)) (aa (pdv 1) (aa (pdv 2) au)) (az (az aK)))
  exact aF (cg (bB (iK hr) (pdv 1) aA) (aF Gn) bC)
abbrev pU:Stmt:=top 7
theorem tB:bc ["numbers","common"] ["numbers"] (aP pU):=⟨rfl,rfl,rfl,by decide +kernel,rfl,by decide +kernel,by decide +kernel⟩
theorem Ad{bU:FF}(T:BI K mg)(F:dG K "lessened" "lessened" pU f fd Tb)(KB:K.In base)(hmg:mg "lessened"=some (.ref f))(F_common_divisor:FI P w K mg base tb "common_divisor" 1 2 bU)(hT:Tb∈tb):FI P w K mg base tb "lessened" 1 (3+1) (aH 2 (jo bU)):=
 cG F KB hmg tB rfl (λ_ _ _ _ _ _=>us1 λ_=>rfl) λc A outer s H E hcd hr=>by
  have nd:=tB.nd
  refine aB ?_ ?_
  exact aR (i:=1) nd (aL F_common_divisor (hr.mono (by decide)) (aa (pdv 0) au) (az aK))
  refine aF ?_
  refine aQ ?_
  refine EY rfl T.b_tuple ?_
  refine gO (own:=["number"]) (cap:=["common"]) (capI:=[1]) (ts:=[0]) rfl hr ⟨rfl,by decide +kernel,⟨⟨rfl,by first|exact Or.inl rfl|exact Or.inr rfl⟩,trivial⟩,by decide +kernel,by decide +kernel⟩ (by decide +kernel) (by decide +kernel) hT ⟨c,rfl,hcd⟩ (bZ (pdv 0)) (λAG cs C code fp s2 H2=>aM (i:=0) (show(["number","common"]:List Str).Nodup by decide +kernel)) ?_
  intro AG cs C code fp s2 H2 hm
  have hg1:=hm _ hr
  exact aG eU (pdv 0) (pdv 1)
abbrev zq:Stmt:=top 14
theorem zH:bc ["points","shares","shared","weights"] ["points","shares"] (aP zq):=⟨rfl,rfl,rfl,by decide +kernel,rfl,by decide +kernel,by decide +kernel⟩
theorem Hu{cU iy fD:FF}(T:BI K mg)(F:dG K "mixed" "mixed" zq f fd Tb)(KB:K.In base)(hmg:mg "mixed"=some (.ref f))(F_over_bottoms:FI P w K mg base tb "over_bottoms" 2 3 cU)(F_weighed:FI P w K mg base tb "weighed" 2 3 iy)(F_lessened:FI P w K mg base tb "lessened" 1 4 fD):FI P w K mg base tb "mixed" 2 (4+1) (aH 4 (oN cU iy fD)):=
 cG F KB hmg zH rfl (λ_ _ _ _ _ _=>us2 λ_ _=>rfl) λc A outer s H E hcd hr=>by
  have nd:=zH.nd
  refine aB ?_ ?_
  refine Nv (i:=2) nd (own:=["k","share"]) (cap:=["points"]) (capI:=[0]) (ts:=[0,1]) rfl ⟨rfl,by decide +kernel,⟨⟨rfl,by first|exact Or.inl rfl|exact Or.inr rfl⟩,trivial⟩,by decide +kernel,by decide +kernel⟩ (by decide +kernel) (bZ (pdv 1)) (λcs C fp s2 H2=>fL rfl (bh (aM (i:=0) (show(["k","share","points"]:List Str).Nodup by decide +kernel)) (bh (aM (i:=1) (show(["k","share","points"]:List Str).Nodup by decide +kernel)) dq))) ?_ ?_
  intro cs C fp s2 H2
  exact fZ
  intro cs C fp s2 H2
  exact bF (pdv 2) (pdv 0)
  refine aB ?_ ?_
  refine aR (i:=3) nd ?_
  refine aL F_over_bottoms (hr.mono (by decide)) ?_ (az (az aK))
  refine aa (pdv 2) ?_
  refine aa ?_ au
  refine dX ?_
  refine jk (own:=["k","share"]) (cap:=[]) (capI:=[]) (ts:=[0,1]) rfl ⟨rfl,by decide +kernel,trivial,by decide +kernel,by decide +kernel⟩ (by decide +kernel) (bZ (pdv 1)) (λcs C fp s2 H2=>fL rfl (bh (aM (i:=0) (show(["k","share"]:List Str).Nodup by decide +kernel)) (bh (aM (i:=1) (show(["k","share"]:List Str).Nodup by decide +kernel)) dq))) ?_ ?_
  intro cs C fp s2 H2
  exact fZ
  intro cs C fp s2 H2
  exact pdv 1
  refine aF ?_
  refine aQ ?_
  refine aL F_lessened (hr.mono (by decide)) ?_ (az aK)
  exact aa (aL F_weighed (hr.mono (by decide)) (aa (pdv 2) (aa (pdv 3) au)) (az (az aK))) au
abbrev pN:Stmt:=top 18
theorem sY:bc ["point","spot"] ["point","spot"] (aP pN):=⟨rfl,rfl,rfl,by decide +kernel,rfl,by decide +kernel,by decide +kernel⟩
theorem Bk{bj:FF}(T:BI K mg)(F:dG K "scale_to" "scale_to" pN f fd Tb)(KB:K.In base)(hmg:mg "scale_to"=some (.ref f))(F_common_multiple:FI P w K mg base tb "common_multiple" 1 2 bj):FI P w K mg base tb "scale_to" 2 (2+1) (aH 2 (gJ bj)):=
 cG F KB hmg sY rfl (λ_ _ _ _ _ _=>us2 λ_ _=>rfl) λc A outer s H E hcd hr=>by
  have nd:=sY.nd
  refine aF ?_
  refine aQ ?_
  refine aL F_common_multiple (hr.mono (by decide)) ?_ (az aK)
  refine aa ?_ au
  refine jJ ?_
  exact aa (bF (pdv 0) (gC aA)) (aa (bF (pdv 1) (gC aA)) au)
abbrev pL:Stmt:=top 19
theorem sZ:bc ["point","spot","scale","mine","its"] ["point","spot"] (aP pL):=⟨rfl,rfl,rfl,by decide +kernel,rfl,by decide +kernel,by decide +kernel⟩
theorem zK{gG:FF}(T:BI K mg)(F:dG K "arrow_to" "arrow_to" pL f fd Tb)(KB:K.In base)(hmg:mg "arrow_to"=some (.ref f))(F_scale_to:FI P w K mg base tb "scale_to" 2 3 gG)(hT:Tb∈tb):FI P w K mg base tb "arrow_to" 2 (4+1) (aH 5 (jl gG)):=
 cG F KB hmg sZ rfl (λ_ _ _ _ _ _=>us2 λ_ _=>rfl) λc A outer s H E hcd hr=>by
  have nd:=sZ.nd
  refine aB ?_ ?_
  exact aR (i:=2) nd (aL F_scale_to (hr.mono (by decide)) (aa (pdv 0) (aa (pdv 1) au)) (az (az aK)))
  refine aB ?_ ?_
  refine qU (ts:=[3,4]) ?_ (fL rfl (bh (aM (i:=3) nd) (bh (aM (i:=4) nd) dq)))
  refine eQ ?_
  refine aa (aG eU (pdv 2) (bF (pdv 0) (gC aA))) ?_
  exact aa (aG eU (pdv 2) (bF (pdv 1) (gC aA))) au
  refine aF ?_
  refine aQ ?_
  refine EY rfl T.b_tuple ?_
  refine gO (own:=["end","start"]) (cap:=["mine","its"]) (capI:=[3,4]) (ts:=[0,1]) rfl hr ⟨rfl,by decide +kernel,⟨⟨rfl,by first|exact Or.inl rfl|exact Or.inr rfl⟩,⟨⟨rfl,by first|exact Or.inl rfl|exact Or.inr rfl⟩,trivial⟩⟩,by decide +kernel,by decide +kernel⟩ (by decide +kernel) (by decide +kernel) hT ⟨c,rfl,hcd⟩ ?_ (λAG cs C code fp s2 H2=>fL rfl (bh (aM (i:=0) (show(["end","start","mine","its"]:List Str).Nodup by decide +kernel)) (bh (aM (i:=1) (show(["end","start","mine","its"]:List Str).Nodup by decide +kernel)) dq))) ?_
  refine uh T.b_zip ?_
  refine aa (jZ (pdv 0) jz (jy (gC aA))) ?_
  exact aa (jZ (pdv 1) jz (jy (gC aA))) au
  intro AG cs C code fp s2 H2 hm
  have hg1:=hm _ hr
  exact aG fK (aG cT (pdv 2) (pdv 0)) (aG cT (pdv 3) (pdv 1))
abbrev nQ:Stmt:=top 21
theorem qw:bc ["points","one","other","thing","end","start","between"] ["points","one","other","thing"] (aP nQ):=⟨rfl,rfl,rfl,by decide +kernel,rfl,by decide +kernel,by decide +kernel⟩
theorem yu{iC bN jc dh aY:FF}(T:BI K mg)(F:dG K "gap_holds" "gap_holds" nQ f fd Tb)(KB:K.In base)(hmg:mg "gap_holds"=some (.ref f))(F_is_row:FI P w K mg base tb "is_row" 2 1 iC)(F_is_group_shares:FI P w K mg base tb "is_group_shares" 3 8 bN)(F_mixed:FI P w K mg base tb "mixed" 2 5 jc)(F_arrow_to:FI P w K mg base tb "arrow_to" 2 5 dh)(F_sum_of_products:FI P w K mg base tb "sum_of_products" 2 2 aY)(hT:Tb∈tb):FI P w K mg base tb "gap_holds" 4 (9+1) (aH 7 (iQ iC bN jc dh aY)):=
 cG F KB hmg qw rfl (λ_ _ _ _ _ _=>us4 λ_ _ _ _=>rfl) λc A outer s H E hcd hr=>by
  have nd:=qw.nd
  refine aB ?_ ?_
  refine cg ?_ (aF (aQ lK)) bC
  refine gj ?_
  exact gk (aL F_is_row (hr.mono (by decide)) (aa aA (aa (pdv 3) au)) (az (az aK)))
  refine aB ?_ ?_
  refine cg ?_ (aF (aQ lK)) bC
  refine jG ?_
  refine lL ?_ ?_
  refine gj ?_
  refine gk ?_
  refine aL F_is_group_shares (hr.mono (by decide)) ?_ (az (az (az aK)))
  exact aa (pdv 0) (aa (pdv 1) (aa (bF (pdv 3) aA) au))
  refine jQ ?_
  refine gj ?_
  refine gk ?_
  refine aL F_is_group_shares (hr.mono (by decide)) ?_ (az (az (az aK)))
  exact aa (pdv 0) (aa (pdv 2) (aa (bF (pdv 3) aA) au))
  refine aB ?_ ?_
  refine qU (ts:=[4,5]) ?_ (fL rfl (bh (aM (i:=4) nd) (bh (aM (i:=5) nd) dq)))
  refine eQ ?_
  refine aa ?_ ?_
  exact aL F_mixed (hr.mono (by decide)) (aa (pdv 0) (aa (bF (pdv 3) aA) au)) (az (az aK))
  refine aa ?_ au
  exact aL F_mixed (hr.mono (by decide)) (aa (pdv 0) (aa (bF (pdv 3) aA) au)) (az (az aK))
  refine aB ?_ ?_
  exact aR (i:=6) nd (aL F_arrow_to (hr.mono (by decide)) (aa (pdv 4) (aa (pdv 5) au)) (az (az aK)))
  refine aF ?_
  refine aQ ?_
  refine nj ?_ ?_
  refine rJ rfl T.b_all ?_
  refine lq ?_
  refine gO (own:=["k"]) (cap:=["between","points","end"]) (capI:=[6,0,4]) (ts:=[0]) rfl hr ⟨rfl,by decide +kernel,⟨⟨rfl,by first|exact Or.inl rfl|exact Or.inr rfl⟩,⟨⟨rfl,by first|exact Or.inl rfl|exact Or.inr rfl⟩,⟨⟨rfl,by first|exact Or.inl rfl|exact Or.inr rfl⟩,trivial⟩⟩⟩,by decide +kernel,by decide +kernel⟩ (by decide +kernel) (by decide +kernel) hT ⟨c,rfl,hcd⟩ (bZ (pdv 1)) (λAG cs C code fp s2 H2=>aM (i:=0) (show(["k","between","points","end"]:List Str).Nodup by decide +kernel)) ?_
  intro AG cs C code fp s2 H2 hm
  have hg1:=hm _ hr
  refine mz Ef ?_ aA
  refine aL F_sum_of_products (hg1.mono (by decide)) ?_ (az (az aK))
  refine aa (pdv 1) ?_
  refine aa ?_ au
  exact aL F_arrow_to (hg1.mono (by decide)) (aa (bF (pdv 2) (pdv 0)) (aa (pdv 3) au)) (az (az aK))
  refine lE ?_
  refine rJ rfl T.b_all ?_
  refine lq ?_
  refine gO (own:=["k"]) (cap:=["between","points","start"]) (capI:=[6,0,5]) (ts:=[0]) rfl hr ⟨rfl,by decide +kernel,⟨⟨rfl,by first|exact Or.inl rfl|exact Or.inr rfl⟩,⟨⟨rfl,by first|exact Or.inl rfl|exact Or.inr rfl⟩,⟨⟨rfl,by first|exact Or.inl rfl|exact Or.inr rfl⟩,trivial⟩⟩⟩,by decide +kernel,by decide +kernel⟩ (by decide +kernel) (by decide +kernel) hT ⟨c,rfl,hcd⟩ (bZ (pdv 2)) (λAG cs C code fp s2 H2=>aM (i:=0) (show(["k","between","points","start"]:List Str).Nodup by decide +kernel)) ?_
  intro AG cs C code fp s2 H2 hm
  have hg1:=hm _ hr
  refine mz Jo ?_ aA
  refine aL F_sum_of_products (hg1.mono (by decide)) ?_ (az (az aK))
  refine aa (pdv 1) ?_
  refine aa ?_ au
  exact aL F_arrow_to (hg1.mono (by decide)) (aa (bF (pdv 2) (pdv 0)) (aa (pdv 3) au)) (az (az aK))
abbrev xY:Stmt:=top 36
theorem Ba:bc ["_law_found","_law_due"] ["_law_found","_law_due"] (aP xY):=⟨rfl,rfl,rfl,by decide +kernel,rfl,by decide +kernel,by decide +kernel⟩
theorem Kc(T:BI K mg)(F:dG K "_law_says" "_law_says" xY f fd Tb)(KB:K.In base)(hmg:mg "_law_says"=some (.ref f)):FI P w K mg base tb "_law_says" 2 (0+1) (aH 2 (oM)):=
 cG F KB hmg Ba rfl (λ_ _ _ _ _ _=>us2 λ_ _=>rfl) λc A outer s H E hcd hr=>by
  have nd:=Ba.nd
  refine aF ?_
  refine aQ ?_
  refine nj ?_ (lE (mz (iK hr) (pdv 0) (pdv 1)))
  exact lu T.b_isinstance T.b_bool PyProof.Rows.boot_bool (by decide) (pdv 0)
abbrev wJ:Stmt:=top 45
theorem Jk:bc ["_law_script","_law_drawn","_law_points_here","_law_one","_law_other","_law_kept","_law_paper","_law_due","_law_turn"] ["_law_script"] (aP wJ):=⟨rfl,rfl,rfl,by decide +kernel,rfl,by decide +kernel,by decide +kernel⟩
theorem Rr{gM jA dZ fJ dR jF:FF}(T:BI K mg)(F:dG K "law" "law" wJ f fd Tb)(KB:K.In base)(F_Ldraws:FI P w K mg base tb "_law_draws" 1 2 gM)(F_Lcase:FI P w K mg base tb "_law_case" 1 6 jA)(F_Lpapers:FI P w K mg base tb "_law_papers" 3 4 dZ)(F_Lis_near:FI P w K mg base tb "_law_is_near" 4 4 fJ)(F_gap_holds:FI P w K mg base tb "gap_holds" 4 10 dR)(F_Lsays:FI P w K mg base tb "_law_says" 2 1 jF):tR P w K mg base CX0 (10+1) f fd ["_law_script"] (spD K tb 1 (aH 9 (qZ gM jA dZ fJ dR jF))):=
 Ml F KB Jk rfl λc A outer s H E hcd hr=>by
  have nd:=Jk.nd
  refine aB ?_ ?_
  exact aR (i:=1) nd (aL F_Ldraws (hr.mono (by decide)) (aa (pdv 0) au) (az aK))
  refine aB ?_ ?_
  exact qU (ts:=[2,3,4]) (aL F_Lcase (hr.mono (by decide)) (aa (pdv 1) au) (az aK)) (fL rfl (bh (aM (i:=2) nd) (bh (aM (i:=3) nd) (bh (aM (i:=4) nd) dq))))
  refine aB (aR (i:=5) nd (dX (uY T.b_list (aa (pdv 2) au)))) ?_
  refine aB ?_ (aF (aQ (mz (iK hr) (pdv 2) (pdv 5))))
  refine cY (ts:=[6]) PassesOwn.never rfl ?_ (aM (i:=6) nd) ?_
  refine bZ ?_
  exact aL F_Lpapers (hr.mono (by decide)) (aa (pdv 1) (aa (pdv 3) (aa (pdv 4) au))) (az (az (az aK)))
  refine aB ?_ ?_
  refine aR (i:=7) nd ?_
  refine aL F_Lis_near (hr.mono (by decide)) ?_ (az (az (az (az aK))))
  exact aa (pdv 2) (aa (pdv 3) (aa (pdv 4) (aa (pdv 6) au)))
  refine aF ?_
  refine cY (ts:=[8]) PassesOwn.never rfl (cA T.b_range (aa aA au)) (aM (i:=8) nd) ?_
  refine aF ?_
  refine cg ?_ (aF (aQ lK)) bC
  refine gj ?_
  refine gk ?_
  refine aL F_Lsays (hr.mono (by decide)) ?_ (az (az aK))
  refine aa ?_ (aa (pdv 7) au)
  refine aL F_gap_holds (hr.mono (by decide)) ?_ (az (az (az (az aK))))
  exact aa (pdv 2) (aa (pdv 3) (aa (pdv 4) (aa (pdv 6) au)))
noncomputable def aZ:FF:=trunc (aH 3 (jb))
noncomputable def gM:FF:=aH 5 (nJ aZ)
noncomputable def aJ:FF:=trunc (aH 1 (gU))
noncomputable def dw:FF:=trunc (aH 2 (qg))
noncomputable def aW:FF:=trunc (aH 4 (gP dw))
noncomputable def gF:FF:=trunc (aH 8 (jq aJ aW))
noncomputable def kY:FF:=trunc (aH 9 (oH aJ aW))
noncomputable def jm:FF:=trunc (aH 3 (ie))
noncomputable def bY:FF:=trunc (aH 9 (kW aZ jm aW))
noncomputable def cV:FF:=trunc (aH 9 (jU aJ gF kY bY))
noncomputable def ik:FF:=trunc (aH 4 (iM cV aJ bY))
noncomputable def fj:FF:=trunc (aH 5 (lw aJ aZ))
noncomputable def jA:FF:=trunc (aH 7 (iG aJ ik fj))
noncomputable def dY:FF:=trunc (aH 6 (gZ aJ aZ))
noncomputable def gw:FF:=trunc (aH 2 (jW))
noncomputable def dZ:FF:=trunc (aH 9 (lM aJ dY gw))
noncomputable def gQ:FF:=trunc (aH 1 (nG))
noncomputable def iB:FF:=trunc (aH 4 (lR gQ))
noncomputable def jN:FF:=trunc (aH 9 (uG dw aW))
noncomputable def iI:FF:=trunc (aH 8 (jR))
noncomputable def fJ:FF:=trunc (aH 6 (jf iB jN iI))
noncomputable def iC:FF:=trunc (aH 2 (kj))
noncomputable def dJ:FF:=trunc (aH 1 (gD))
noncomputable def dg:FF:=trunc (aH 1 (dM dJ))
noncomputable def fB:FF:=trunc (aH 2 (dU dg))
noncomputable def dF:FF:=trunc (aH 2 (di fB))
noncomputable def bN:FF:=trunc (aH 3 (cC dF))
noncomputable def bf:FF:=trunc (aH 2 (cO))
noncomputable def bj:FF:=trunc (aH 3 (bM bf))
noncomputable def cU:FF:=trunc (aH 3 (eY bj))
noncomputable def aY:FF:=trunc (aH 2 (aX))
noncomputable def iy:FF:=trunc (aH 2 (jX aY))
noncomputable def bU:FF:=trunc (aH 3 (dm bf))
noncomputable def fD:FF:=trunc (aH 2 (jo bU))
noncomputable def jc:FF:=trunc (aH 4 (oN cU iy fD))
noncomputable def gG:FF:=trunc (aH 2 (gJ bj))
noncomputable def dh:FF:=trunc (aH 5 (jl gG))
noncomputable def dR:FF:=trunc (aH 7 (iQ iC bN jc dh aY))
noncomputable def jF:FF:=trunc (aH 2 (oM))
noncomputable def Ce:FF:=aH 9 (qZ gM jA dZ fJ dR jF)
abbrev Gt(K:PySem.W.Frag)(x:Str)(s:Stmt):Prop:=∃f c P fd,Got K x s f c P fd
abbrev Nn(K:PySem.W.Frag)(x:Str):Prop:=PySem.W.nsIn K mainGlobals x=some none
abbrev Rq(q:Program)(x:Str):Prop:=((recsOf q).find? (λe=>e.name==x)).isSome=true
theorem PX{l:PySem.W.OpenLaw}{q:Program}{lo:List Str}{mean:ExcName->Option Value}{w:World}{K:PySem.W.Frag}{h:Heap}{mg mb:Str->Option Value}{fa:Addr}
  (X:K.In h) (G:Top q lo mean mg mb h) (hfa:mg "law"=some (.ref fa))
  (d0:Gt K "_law_mixed" um)
  (d1:Gt K "_law_draws" uV)
  (d2:Gt K "_law_next" zm)
  (d3:Gt K "_law_gcd" CJ)
  (d4:Gt K "_law_lowest" rD)
  (d5:Gt K "_law_on_line" qd)
  (d6:Gt K "_law_flat" yX)
  (d7:Gt K "_law_place" vX)
  (d8:Gt K "_law_point" ut)
  (d9:Gt K "_law_points" qX)
  (d10:Gt K "_law_some" zu)
  (d11:Gt K "_law_group" vJ)
  (d12:Gt K "_law_case" yF)
  (d13:Gt K "_law_shares" rm)
  (d14:Gt K "_law_scaled" rR)
  (d15:Gt K "_law_papers" rB)
  (d16:Gt K "_law_whole" uL)
  (d17:Gt K "_law_is_of" vA)
  (d18:Gt K "_law_mix" Dh)
  (d19:Gt K "_law_along" vG)
  (d20:Gt K "_law_is_near" qe)
  (d21:Gt K "is_row" ur)
  (d22:Gt K "is_number" nH)
  (d23:Gt K "is_numbers" mH)
  (d24:Gt K "is_share" pQ)
  (d25:Gt K "is_shares" nF)
  (d26:Gt K "is_group_shares" iZ)
  (d27:Gt K "divisor_of_two" jt)
  (d28:Gt K "common_multiple" iY)
  (d29:Gt K "over_bottoms" kI)
  (d30:Gt K "sum_of_products" jg)
  (d31:Gt K "weighed" rY)
  (d32:Gt K "common_divisor" jr)
  (d33:Gt K "lessened" pU)
  (d34:Gt K "mixed" zq)
  (d35:Gt K "scale_to" pN)
  (d36:Gt K "arrow_to" pL)
  (d37:Gt K "gap_holds" nQ)
  (d38:Gt K "_law_says" xY)
  (d39:Gt K "law" wJ)
  (z_abs:Nn K "abs")
  (z_all:Nn K "all")
  (z_bool:Nn K "bool")
  (z_int:Nn K "int")
  (z_isinstance:Nn K "isinstance")
  (z_len:Nn K "len")
  (z_list:Nn K "list")
  (z_min:Nn K "min")
  (z_range:Nn K "range")
  (z_sorted:Nn K "sorted")
  (z_sum:Nn K "sum")
  (z_tuple:Nn K "tuple")
  (z_zip:Nn K "zip")
  (r_Lgroup:Rq q "_law_group")
  (r_Lshares:Rq q "_law_shares")
  (r_is_numbers:Rq q "is_numbers")
  (r_is_shares:Rq q "is_shares")
  (r_is_group_shares:Rq q "is_group_shares")
  (r_sum_of_products:Rq q "sum_of_products")
  (r_lessened:Rq q "lessened")
  (r_arrow_to:Rq q "arrow_to")
  (r_gap_holds:Rq q "gap_holds")
  (hnt:PySem.W.noTabs K=true):
  ∃(fd:FuncData)(tb:List Addr),(∀(s:Shared)(u:Value),BindsTo s fd ⟨[u],[]⟩ [("_law_script",u)])/\(∀P∈tb,∃c,PySem.W.CodeHd h c P/\h.get? P=some (PySem.W.tabObj #[]))/\PySem.W.noTabs K=true/\
   ∀base:Heap,K.In base->base.Ns mainGlobals mg->tR l.prog w K mg base CX0 11 fa fd ["_law_script"] (spD K tb 1 Ce):=by
 have N:=λ{n:Str}(h:Nn K n)=>PySem.W.mg_none_of X G.g h
 have M:=λ{n:Str}{v:Value}(e:PySem.W.nsIn K mainGlobals n=some (some v))=>PySem.W.mg_of X G.g e
 have T:BI K mg:=⟨N z_abs,N z_all,N z_bool,N z_int,N z_isinstance,N z_len,N z_list,N z_min,N z_range,N z_sorted,N z_sum,N z_tuple,N z_zip⟩
 obtain⟨f0,c0,P0,_,G0⟩:=d0
 obtain⟨f1,c1,P1,_,G1⟩:=d1
 obtain⟨f2,c2,P2,_,G2⟩:=d2
 obtain⟨f3,c3,P3,_,G3⟩:=d3
 obtain⟨f4,c4,P4,_,G4⟩:=d4
 obtain⟨f5,c5,P5,_,G5⟩:=d5
 obtain⟨f6,c6,P6,_,G6⟩:=d6
 obtain⟨f7,c7,P7,_,G7⟩:=d7
 obtain⟨f8,c8,P8,_,G8⟩:=d8
 obtain⟨f9,c9,P9,_,G9⟩:=d9
 obtain⟨f10,c10,P10,_,G10⟩:=d10
 obtain⟨f11,c11,P11,_,G11⟩:=d11
 obtain⟨f12,c12,P12,_,G12⟩:=d12
 obtain⟨f13,c13,P13,_,G13⟩:=d13
 obtain⟨f14,c14,P14,_,G14⟩:=d14
 obtain⟨f15,c15,P15,_,G15⟩:=d15
 obtain⟨f16,c16,P16,_,G16⟩:=d16
 obtain⟨f17,c17,P17,_,G17⟩:=d17
 obtain⟨f18,c18,P18,_,G18⟩:=d18
 obtain⟨f19,c19,P19,_,G19⟩:=d19
 obtain⟨f20,c20,P20,_,G20⟩:=d20
 obtain⟨f21,c21,P21,_,G21⟩:=d21
 obtain⟨f22,c22,P22,_,G22⟩:=d22
 obtain⟨f23,c23,P23,_,G23⟩:=d23
 obtain⟨f24,c24,P24,_,G24⟩:=d24
 obtain⟨f25,c25,P25,_,G25⟩:=d25
 obtain⟨f26,c26,P26,_,G26⟩:=d26
 obtain⟨f27,c27,P27,_,G27⟩:=d27
 obtain⟨f28,c28,P28,_,G28⟩:=d28
 obtain⟨f29,c29,P29,_,G29⟩:=d29
 obtain⟨f30,c30,P30,_,G30⟩:=d30
 obtain⟨f31,c31,P31,_,G31⟩:=d31
 obtain⟨f32,c32,P32,_,G32⟩:=d32
 obtain⟨f33,c33,P33,_,G33⟩:=d33
 obtain⟨f34,c34,P34,_,G34⟩:=d34
 obtain⟨f35,c35,P35,_,G35⟩:=d35
 obtain⟨f36,c36,P36,_,G36⟩:=d36
 obtain⟨f37,c37,P37,_,G37⟩:=d37
 obtain⟨f38,c38,P38,_,G38⟩:=d38
 obtain⟨f39,c39,P39,_,G39⟩:=d39
 have m_law:=M G39.m
 have e:=hfa.symm.trans m_law
 cases e
 obtain⟨kV,dc,pm,an,ct,rfl⟩:=G39.e
 refine⟨PySem.W.fnOf "law" "law" (mD wJ) (jO wJ) (aP wJ) .none kV dc pm an (.ref c39) ct,[P11,P13,P23,P25,P26,P30,P33,P36,P37],λs u=>.of_eq rfl,λP hP=>?_,hnt,λbase kb nb=>?_⟩
 .have hP:P=P11∨P=P13∨P=P23∨P=P25∨P=P26∨P=P30∨P=P33∨P=P36∨P=P37:=by simpa using hP
  rcases hP with rfl|rfl|rfl|rfl|rfl|rfl|rfl|rfl|rfl
  .exact⟨c11,mQ G X r_Lgroup G11.t⟩
  .exact⟨c13,mQ G X r_Lshares G13.t⟩
  .exact⟨c23,mQ G X r_is_numbers G23.t⟩
  .exact⟨c25,mQ G X r_is_shares G25.t⟩
  .exact⟨c26,mQ G X r_is_group_shares G26.t⟩
  .exact⟨c30,mQ G X r_sum_of_products G30.t⟩
  .exact⟨c33,mQ G X r_lessened G33.t⟩
  .exact⟨c36,mQ G X r_arrow_to G36.t⟩
  .exact⟨c37,mQ G X r_gap_holds G37.t⟩
 .have U {φ nm n k} (h:FI l.prog w K mg base [P11,P13,P23,P25,P26,P30,P33,P36,P37] nm n k φ):=h
  have jb:=U (φ:=aZ) (GC T G0.F kb (M G0.m)).trunc
  have nJ:=U (φ:=gM) (Gm T G1.F kb (M G1.m) jb)
  have gU:=U (φ:=aJ) (JV T G2.F kb (M G2.m)).trunc
  have qg:=U (φ:=dw) (Kr T G3.F kb (M G3.m)).trunc
  have gP:=U (φ:=aW) (Di T G4.F kb (M G4.m) qg).trunc
  have jq:=U (φ:=gF) (Ah T G5.F kb (M G5.m) gU gP).trunc
  have oH:=U (φ:=kY) (GP T G6.F kb (M G6.m) gU gP).trunc
  have ie:=U (φ:=jm) (Gb T G7.F kb (M G7.m)).trunc
  have kW:=U (φ:=bY) (Fz T G8.F kb (M G8.m) jb ie gP).trunc
  have jU:=U (φ:=cV) (Cw T G9.F kb (M G9.m) gU jq oH kW).trunc
  have Ez:=U (φ:=ik) (Ka T G10.F kb (M G10.m) jU gU kW).trunc
  have lw:=U (φ:=fj) (Ft T G11.F kb (M G11.m) gU jb (by simp)).trunc
  have Ei:=U (φ:=jA) (Km T G12.F kb (M G12.m) gU Ez lw).trunc
  have wI:=U (φ:=dY) (BL T G13.F kb (M G13.m) gU jb (by simp)).trunc
  have jW:=U (φ:=gw) (CG T G14.F kb (M G14.m)).trunc
  have wL:=U (φ:=dZ) (Cv T G15.F kb (M G15.m) gU wI jW).trunc
  have nG:=U (φ:=gQ) (FP T G16.F kb (M G16.m)).trunc
  have lR:=U (φ:=iB) (Ge T G17.F kb (M G17.m) nG).trunc
  have Ju:=U (φ:=jN) (Nu T G18.F kb (M G18.m) qg gP).trunc
  have zU:=U (φ:=iI) (Fj T G19.F kb (M G19.m)).trunc
  have vP:=U (φ:=fJ) (Bt T G20.F kb (M G20.m) lR Ju zU).trunc
  have kj:=U (φ:=iC) (Gd T G21.F kb (M G21.m)).trunc
  have gD:=U (φ:=dJ) (yJ T G22.F kb (M G22.m)).trunc
  have dM:=U (φ:=dg) (wj T G23.F kb (M G23.m) gD (by simp)).trunc
  have dU:=U (φ:=fB) (Bs T G24.F kb (M G24.m) dM).trunc
  have di:=U (φ:=dF) (zf T G25.F kb (M G25.m) dU (by simp)).trunc
  have cC:=U (φ:=bN) (pW T G26.F kb (M G26.m) di (by simp)).trunc
  have cO:=U (φ:=bf) (qL T G27.F kb (M G27.m)).trunc
  have bM:=U (φ:=bj) (qi T G28.F kb (M G28.m) cO).trunc
  have eY:=U (φ:=cU) (tO T G29.F kb (M G29.m) bM).trunc
  have aX:=U (φ:=aY) (qj T G30.F kb (M G30.m) (by simp)).trunc
  have jX:=U (φ:=iy) (Cq T G31.F kb (M G31.m) aX).trunc
  have dm:=U (φ:=bU) (qG T G32.F kb (M G32.m) cO).trunc
  have jo:=U (φ:=fD) (Ad T G33.F kb (M G33.m) dm (by simp)).trunc
  have oN:=U (φ:=jc) (Hu T G34.F kb (M G34.m) eY jX jo).trunc
  have gJ:=U (φ:=gG) (Bk T G35.F kb (M G35.m) bM).trunc
  have jl:=U (φ:=dh) (zK T G36.F kb (M G36.m) gJ (by simp)).trunc
  have iQ:=U (φ:=dR) (yu T G37.F kb (M G37.m) kj cC oN jl aX (by simp)).trunc
  have oM:=U (φ:=jF) (Kc T G38.F kb (M G38.m)).trunc
  exact Rr T G39.F kb nJ Ei wL vP iQ oM
end Lk75
namespace LG
open PySem PySem.Spec PyProof.Rows L2 L3
theorem Hr(a b:Int):Int.gcd b (a.fmod b)=Int.gcd a b:=by
 have h:a.fmod b=a-b*a.fdiv b:=by have:=Int.mul_fdiv_add_fmod a b;omega
 rw[h,Int.gcd_comm]
 have:a-b*a.fdiv b=a+b*(- a.fdiv b):=by rw[Int.mul_neg];omega
 rw[this,Int.gcd_add_mul_left_left]
theorem MJ(a b:Int)(h:b≠0):(a.fmod b).natAbs<b.natAbs:=by
 rw[Int.fmod_eq_emod]
 have h1:=Int.emod_nonneg a h
 have h2:=Int.emod_lt a h
 by_cases hd:0<=b∨b ∣ a
 .rw[if_pos hd];omega
 .rw[if_neg hd]
  have h3:a % b≠0:=λz=>hd (.inr (Int.dvd_of_emod_eq_zero z))
  omega
abbrev eucC:TF:=toB (M2 (aq 1) (mC (.int 0)) oNe)
abbrev eucB:SF:=tL 0 1 (ao (aq 1) (ao (M2 (aq 0) (aq 1) oMod) (aC)))
theorem ne_int(a b:Int)(μ:Mu):oNe (.int a) (.int b) μ=some (.bl (!(a==b)),μ):=by
 unfold oNe rsv
 simp[bV,fM,eqD]
theorem Es(a b:Int)(μ:Mu):oEq (.int a) (.int b) μ=some (.bl (a==b),μ):=by
 unfold oEq rsv
 simp[bV,fM,eqD]
theorem euc:∀(n:Nat)(a b:Int)(μ:Mu),b.natAbs<=n->∃a',gb eucC eucB (n+1) [some (.int a),some (.int b)] μ=some (.nx,[some (.int a'),some (.int 0)],μ)/\a'.natAbs=Int.gcd a b/\(0<=a->0<=b->0<=a')
 |n,a,b,μ,h=>by
  by_cases hb:b=0
  .subst hb
   refine⟨a,?_,by simp,λh _=>h⟩
   unfold gb
   simp[toB,M2,aq,mC,ne_int]
  .cases n with
   |zero=>omega
   |succ n=>
    obtain⟨a',e,hg,hs⟩:=euc n b (a.fmod b) μ (by have:=MJ a b hb;omega)
    refine⟨a',?_,by rw[hg,Hr],λh0 h1=>hs h1 (Int.fmod_nonneg_of_pos a (by omega))⟩
    unfold gb
    simp[toB,M2,aq,mC,ne_int,hb,tL,ao,aC,oMod,e]
def nW(φ:FF):Prop:=∀(a b:Int)(μ:Mu),φ [.int a,.int b] μ=some (.int (Int.gcd a b),μ)
theorem LQ:nW (aH 2 cO):=λa b μ=>by
 obtain⟨a',e,hg,hs⟩:=euc _ (if a<0 then -a else a) (if b<0 then -b else b) μ (Zg _)
 have ea:(0:Int)<=if a<0 then -a else a:=by split<;>omega
 have eb:(0:Int)<=if b<0 then -b else b:=by split<;>omega
 have h0:=hs ea eb
 have hga:Int.gcd (if a<0 then -a else a) (if b<0 then -b else b)=Int.gcd a b:=by split<;>split<;>simp
 rw[hga]at hg
 have hv:a'=(Int.gcd a b:Int):=by omega
 subst hv
 have ew:=rO e
 unfold aH cO
 simp[aO,tL,ao,aC,MC,aq,bu,pY,ew,bG]
theorem Mt:nW (aH 2 qg):=λa b μ=>by
 obtain⟨a',e,hg,hs⟩:=euc _ a b μ (Zg _)
 have ew:=rO e
 unfold aH qg
 have hv:(if a'<0 then -a' else a')=(Int.gcd a b:Int):=by split<;>omega
 simp[aO,ew,bG,ao,aC,MC,aq,bu,pY,hv]
def bT(g:Nat)(ns:List Int):Nat:=ns.foldl (λg n=>Int.gcd g n) g
theorem zJ:∀ns:List Int,bT 1 ns=1
 | []=>rfl
 |n::ns=>by
  show bT (Int.gcd (1:Nat) n) ns=1
  have:Int.gcd ((1:Nat):Int) n=1:=by simp
  rw[this];exact zJ ns
theorem cB(items:List D)(μ:Mu):Src.ok ⟨items,none⟩ μ:=λn e=>by cases e
theorem Ew{φ:FF}(hφ:nW φ)(x:D)(all:List D):∀(ns:List Int)(g:Nat)(o:Option D)(μ:Mu),∃o',
  forL ⟨all,none⟩ (hName 2) (aO (aV 1 (MC (ao (aq 1) (ao (aq 2) (aC))) φ)) (sIf (toB (M2 (aq 1) (mC (.int 1)) oEq)) (uy) (bO))) (ns.map D.int) [some x,some (.int g),o] μ=some (.nx,[some x,some (.int (bT g ns:Nat)),o'],μ)
 | [],g,o,μ=>⟨o,by unfold forL;simp[cB,bT]⟩
 |n::ns,g,o,μ=>by
  by_cases h1:Int.gcd g n=1
  .refine⟨some (.int n),?_⟩
   rw[Zj]
   unfold forL
   have h2:bT g (n::ns)=1:=by show bT (Int.gcd g n) ns=1;rw[h1];exact zJ ns
   simp[cB,hName,aO,aV,MC,ao,aC,aq,hφ g n,h1,h2,sIf,toB,M2,mC,Es,uy]
  .obtain⟨o',e⟩:=Ew hφ x all ns (Int.gcd g n) (some (.int n)) μ
   refine⟨o',?_⟩
   rw[Zj]
   unfold forL
   have h3:((Int.gcd g n:Nat):Int)≠1:=by omega
   have h2:bT g (n::ns)=bT (Int.gcd g n) ns:=rfl
   simp[cB,hName,aO,aV,MC,ao,aC,aq,hφ g n,h3,sIf,toB,M2,mC,Es,bO,e,h2]
def uO(φ:FF):Prop:=∀(ns:List Int)(μ:Mu),φ [.lst (ns.map .int)] μ=some (.int (bT 0 ns:Nat),μ)
theorem CT{φ:FF}(hφ:nW φ):uO (aH 3 (dm φ)):=λns μ=>by
 obtain⟨o',e⟩:=Ew hφ (.lst (ns.map .int)) (ns.map .int) ns 0 none μ
 unfold aH dm
 have e':=e
 simp at e'
 simp[aO,aV,mC,fV,dC,aq,srcOf,e',bG]
theorem Be{th:D->iz}{f:D->D}{μ:Mu}:∀(items:List D),(∀d∈items,th d μ=some (f d,μ))->wk (items.map th) μ=some (items.map f,μ)
 | [],_=>rfl
 |d::r,h=>by
  have h1:=h d (by simp)
  have h2:=Be r λx hx=>h x (by simp[hx])
  rw[Zj,Zj]
  unfold wk
  simp[h1,h2]
theorem xZ{all:List D}{h:GF}{fe:EF}{δb:En}{f:D->D}{μ:Mu}:∀(items:List D),(∀d∈items,∃δ1,h d δb μ=some δ1/\fe δ1 μ=some (f d,μ))->lcL ⟨all,none⟩ h cN fe δb items μ=some (items.map f,μ)
 | [],_=>by unfold lcL;simp[cB]
 |d::r,hd=>by
  obtain⟨δ1,h1,h2⟩:=hd d (by simp)
  have h3:=xZ (all:=all) r λx hx=>hd x (by simp[hx])
  unfold lcL
  simp[cB,h1,cN,h2,h3]
def Sm(b:Nat)(n:Int):Prop:=n.natAbs<2 ^ b
theorem bits_le{b:Nat}{n:Int}(h:Sm b n):Builtin.Int.intBits n<=b+1:=by
 unfold Builtin.Int.intBits
 split
 .exact Nat.zero_le _
 .rename_i h'
  have hz:n≠0:=by simpa using h'
  have hn:n.natAbs≠0:=by omega
  have:=(Nat.log2_lt hn).mpr h
  omega
theorem JX{b:Nat}{n:Int}(h:Sm b n):n.natAbs.log2<b+1:=by
 by_cases h0:n.natAbs=0
 .rw[h0];simp
 .have:=(Nat.log2_lt h0).mpr h
  omega
theorem vV{a b:Nat}{x y:Int}(hx:Sm a x)(hy:Sm b y)(h:a+b+2<=134217728):jT x y<=134217728:=by
 have:=bits_le hx
 have:=bits_le hy
 unfold jT
 omega
theorem bH{a b:Nat}{x y:Int}(μ:Mu)(hx:Sm a x)(hy:Sm b y)(h:a+b+2<=134217728):cu (.int x) (.int y) μ=some (.int (x*y),μ):=by
 unfold cu
 simp[vV hx hy h]
theorem fU{b:Nat}{x y:Int}(μ:Mu)(h0:y≠0)(hy:Sm b y)(h:b+1<=9000):oDiv (.int x) (.int y) μ=some (.int (x.fdiv y),μ):=by
 unfold oDiv
 have:=JX hy
 simp[h0,show y.natAbs.log2<9000 by omega]
theorem gq{x y:Int}(μ:Mu)(h0:y≠0):oMod (.int x) (.int y) μ=some (.int (x.fmod y),μ):=by
 unfold oMod
 simp[h0]
theorem oA:∀(ns:List Int)(g:Nat),(∀n∈ns,((bT g ns:Nat):Int) ∣ n)/\bT g ns ∣ g
 | [],g=>⟨λn h=>by simp at h,Nat.dvd_refl _⟩
 |n::ns,g=>by
  obtain⟨h1,h2⟩:=oA ns (Int.gcd g n)
  have e:bT g (n::ns)=bT (Int.gcd g n) ns:=rfl
  rw[e]
  refine⟨λm hm=>?_,?_⟩
  .rcases Zi.mp hm with z|z
   .subst z
    exact Int.dvd_trans (Int.ofNat_dvd.mpr h2) (Int.gcd_dvd_right _ _)
   .exact h1 m z
  .refine Nat.dvd_trans h2 ?_
   have:=Int.gcd_dvd_left (g:Int) n
   exact Int.ofNat_dvd.mp this
theorem qT{ns:List Int}{g:Nat}(h:g≠0∨∃n∈ns,n≠0):bT g ns≠0:=λz=>by
 obtain⟨h1,h2⟩:=oA ns g
 rw[z]at h1 h2
 rcases h with h|⟨n,hn,h⟩
 .exact h (Nat.eq_zero_of_zero_dvd h2)
 .have:=h1 n hn
  exact h (by simpa using this)
theorem Ng{ns:List Int}{g:Nat}{n:Int}(hn:n∈ns)(h:n≠0):bT g ns<=n.natAbs:=by
 have h1:=(oA ns g).1 n hn
 have h2:bT g ns ∣ n.natAbs:=by
  have:=Int.natAbs_dvd_natAbs.mpr h1
  simpa using this
 exact Nat.le_of_dvd (by omega) h2
def Dt(φ:FF):Prop:=∀(ns:List Int)(μ:Mu),bT 0 ns≠0->Sm 8000 (bT 0 ns:Nat)->ns.length<=100->φ [.lst (ns.map .int)] μ=some (.tup (ns.map λn=>.int (n.fdiv (bT 0 ns:Nat))),μ)
theorem Od{φ:FF}(hφ:uO φ):Dt (aH 2 (jo φ)):=λns μ h0 hs hl=>by
 have e:wk ((ns.map D.int).map (thG (hName 0) (M2 (aq 0) (aq 1) oDiv) (cW ["number"] [some (.lst (ns.map .int)),some (.int (bT 0 ns:Nat))] [1]))) μ=some ((ns.map D.int).map (λd=>match d with| .int n=>.int (n.fdiv (bT 0 ns:Nat))|_=>.non),μ):=by
  refine Be _ λd hd=>?_
  obtain⟨n,_,rfl⟩:=Zq.mp hd
  have:=fU (x:=n) μ (show((bT 0 ns:Nat):Int)≠0 by omega) hs (by decide)
  simp[thG,hName,cW,M2,aq,this]
 unfold aH jo
 have hz:ns.length<=sizeLine:=Zl hl (by decide)
 rw[List.map_map,List.map_map]at e
 simp[aO,aV,MC,ao,aC,aq,hφ ns μ,bG,xq,lU,dC,srcOf,hz,e]
def sgn(b:Int):Int:=if b>0 then 1 else -1
theorem Qi{b:Nat}{n s:Int}(hs:s=1∨s= -1)(h:Sm b n):Sm b (s*n):=by
 unfold Sm at *
 rw[Int.natAbs_mul]
 rcases hs with rfl|rfl<;>simpa using h
theorem Qs(b:Int):sgn b=1∨sgn b= -1:=by unfold sgn;split<;>simp
theorem zZ{φ:FF}(hφ:nW φ)(x y:D)(all:List D):∀(ns:List Int)(c:Int)(o:Option D)(μ:Mu),∃(c':Int)(o':Option D),
  forL ⟨all,none⟩ (hName 3) (aV 2 (MC (ao (aq 2) (ao (aq 3) (aC))) φ)) (ns.map D.int) [some x,some y,some (.int c),o] μ=some (.nx,[some x,some y,some (.int c'),o'],μ)/\c'.natAbs=bT c.natAbs ns/\(0<=c∨ns≠[]->0<=c')
 | [],c,o,μ=>⟨c,o,by unfold forL;simp[cB],rfl,λh=>h.elim id λz=>absurd rfl z⟩
 |n::ns,c,o,μ=>by
  obtain⟨c',o',e,hc,hn0⟩:=zZ hφ x y all ns (Int.gcd c n) (some (.int n)) μ
  refine⟨c',o',?_,?_,λ_=>hn0 (.inl (Int.natCast_nonneg _))⟩
  .rw[Zj]
   unfold forL
   simp[cB,hName,aV,MC,ao,aC,aq,hφ c n,e]
  .rw[hc]
   show _=bT (Int.gcd (c.natAbs:Nat) n) ns
   congr 1
def vY(φ:FF):Prop:=∀(ns:List Int)(b:Int)(μ:Mu),b≠0->Sm 4000 b->ns.length<=50->ns≠[]->
 φ [.lst (ns.map .int),.int b] μ=some (.tup ((ns++[b]).map λn=>.int (n.fdiv (sgn b*(bT b.natAbs ns:Nat)))),μ)
theorem Qz{φ:FF}(hφ:nW φ):vY (aH 4 (gP φ)):=λns b μ hb hs hl hne=>by
 obtain⟨c',o',e,hc,hc0⟩:=zZ hφ (.lst (ns.map .int)) (.int b) (ns.map .int) ns b none μ
 have hsg:=Qs b
 have hg0:bT b.natAbs ns≠0:=qT (.inl (by omega))
 have hgle:bT b.natAbs ns<=b.natAbs:=Nat.le_of_dvd (by omega) (oA ns b.natAbs).2
 have hdiv:∀δo,∃δ',sIf (toB (M2 (aq 1) (mC (.int 0)) oLt)) (aV 2 (M2 (mC (.int 0)) (MC (ao (aq 2) (aC)) (bu pY)) gh)) bO [some (.lst (ns.map .int)),some (.int b),some (.int c'),δo] μ=some (.nx,δ',μ)/\(0<=c'->δ'=[some (.lst (ns.map .int)),some (.int b),some (.int (sgn b*(bT b.natAbs ns:Nat))),δo]):=λδo=>by
  by_cases hn:b<0
  .refine⟨[some (.lst (ns.map .int)),some (.int b),some (.int (0-if c'<0 then -c' else c')),δo],by simp[sIf,toB,M2,aq,mC,oLt,hn,aV,MC,ao,aC,bu,pY,gh],λhc0=>?_⟩
   have h1:sgn b= -1:=by unfold sgn;rw[if_neg (by omega)]
   rw[h1,if_neg (by omega)]
   have:c'=(bT b.natAbs ns:Nat):=by omega
   rw[this]
   simp
  .refine⟨[some (.lst (ns.map .int)),some (.int b),some (.int c'),δo],by simp[sIf,toB,M2,aq,mC,oLt,hn,bO],λhc0=>?_⟩
   have h1:sgn b=1:=by unfold sgn;rw[if_pos (by omega)]
   have:c'=(bT b.natAbs ns:Nat):=by omega
   rw[h1,this]
   simp
 obtain⟨δ',e3,e4⟩:=hdiv o'
 have e5:=e4 (hc0 (.inr hne))
 subst e5
 have hd0:sgn b*((bT b.natAbs ns:Nat):Int)≠0:=by rcases hsg with h|h<;>rw[h]<;>omega
 have hds:Sm 4000 (sgn b*((bT b.natAbs ns:Nat):Int)):=Qi hsg (by unfold Sm at *;simp only[Int.natAbs_natCast];omega)
 have eL:lcL ⟨ns.map D.int,none⟩ (hName 0) cN (M2 (aq 0) (aq 1) oDiv) (cW ["_law_number"] [some (.lst (ns.map .int)),some (.int b),some (.int (sgn b*(bT b.natAbs ns:Nat))),o'] [2]) (ns.map D.int) μ=some ((ns.map D.int).map (λd=>match d with| .int n=>.int (n.fdiv (sgn b*(bT b.natAbs ns:Nat)))|_=>.non),μ):=by
  refine xZ _ λd hd=>?_
  obtain⟨n,_,rfl⟩:=Zq.mp hd
  have:=fU (x:=n) μ hd0 hds (by decide)
  exact⟨_,rfl,by simp[hName,cW,M2,aq,this]⟩
 rw[List.map_map]at eL
 have eL2:lcL ⟨ns.map D.int,none⟩ (hName 0) cN (M2 (aq 0) (aq 1) oDiv) (cW ["_law_number"] [some (.lst (ns.map .int)),some (.int b),some (.int (sgn b*(bT b.natAbs ns:Nat))),o'] [2]) (ns.map D.int) μ=some (ns.map (λn=>D.int (n.fdiv (sgn b*(bT b.natAbs ns:Nat)))),μ):=eL
 have eD:=fU (x:=b) μ hd0 hds (by decide)
 have hz:ns.length<=sizeLine:=Zl hl (by decide)
 have hz2:ns.length+1<=sizeLine:=Zl (by omega:ns.length+1<=100) (by decide)
 have h1s:1<=sizeLine:=by decide
 unfold aH gP
 simp[aO,aV,aq,fV,dC,srcOf,e,e3,bG,M2,MC,ao,aC,mFz,lLC,hz,eL2,gW,bI,eD,oTup,h1s,bL,hz2]
theorem cZ{a b:Nat}{x:Int}(h:Sm a x)(hab:a<=b):Sm b x:=Zc h (Nat.pow_le_pow_right (by decide) hab)
theorem gV{a b:Nat}{x y:Int}(hx:Sm a x)(hy:Sm b y):Sm (a+b) (x*y):=by
 unfold Sm at *
 rw[Int.natAbs_mul,Nat.pow_add]
 exact Nat.mul_lt_mul'' hx hy
theorem Qq{a:Nat}{x y:Int}(hx:Sm a x)(hy:Sm a y):Sm (a+1) (x+y):=by
 unfold Sm at *
 rw[Nat.pow_succ]
 have:=Int.natAbs_add_le x y
 omega
theorem Ld{a:Nat}{x y:Int}(hx:Sm a x)(h0:0<=x)(hy:0<y):Sm a (x.fdiv y)/\0<=x.fdiv y:=by
 rw[Int.fdiv_eq_ediv_of_nonneg x (by omega)]
 have h1:0<=x / y:=Int.ediv_nonneg h0 (by omega)
 have h2:x / y<=x:=Int.ediv_le_self y h0
 unfold Sm at *
 omega
def Dr(x:Int):Prop:=0<=x/\x<2147483648
theorem Dr.sm{x:Int}(h:Dr x):Sm 31 x:=by
 unfold Sm
 have:=h.1
 have:=h.2
 have e:(2:Nat) ^ 31=2147483648:=by decide
 omega
theorem oZ:∀(L:List Int),cF (L.map D.int)=true
 | []=>by unfold cF;rfl
 |x::L=>by
  rw[Zj]
  unfold cF
  rw[oZ L]
  simp[bV]
theorem qC:∀(L:List Int),fH (L.map D.int)=0
 | []=>by unfold fH;rfl
 |x::L=>by
  rw[Zj]
  unfold fH
  rw[qC L]
  simp[fM]
theorem yS{ds:List D}{i:Int}(h0:0<=i)(h1:i<ds.length):∃d,d∈ds/\atI ds i=some d:=by
 have hi:i.toNat<ds.length:=by omega
 refine⟨ds[i.toNat],List.getElem_mem hi,?_⟩
 unfold atI ixN
 rw[if_pos h0,if_pos h1]
 simp[hi]
theorem bw{x m:Int}(hm:0<m):0<=x.fmod m/\x.fmod m<m:=⟨Int.fmod_nonneg_of_pos x hm,Int.fmod_lt_of_pos x hm⟩
def oh(φ:FF):Prop:=∀(x k:Int)(μ:Mu),0<=k->k<1000->∃r,φ [.int x,.int k] μ=some (.int r,μ)/\Dr r
theorem RL:oh (aH 3 jb):=λx k μ h0 h1=>by
 obtain⟨a0,a1⟩:=bw (x:=x) (m:=2147483647) (by decide)
 have w1:=gq (x:=x) (y:=2147483647) μ (by decide)
 have sa:Sm 31 (x.fmod 2147483647):=by unfold Sm;have e:(2:Nat) ^ 31=2147483648:=by decide
                                       omega
 have m1:=bH (x:=x.fmod 2147483647) (y:=48271) μ sa (show Sm 16 48271 by unfold Sm;decide) (by decide)
 have sk:Sm 10 k:=by unfold Sm;have e:(2:Nat) ^ 10=1024:=by decide
                     omega
 have m2:=bH (x:=7919) (y:=k) μ (show Sm 13 7919 by unfold Sm;decide) sk (by decide)
 have m3:=bH (x:=7919*k) (y:=k) μ (gV (show Sm 13 7919 by unfold Sm;decide) sk) sk (by decide)
 have w2:=gq (x:=x.fmod 2147483647*48271+7919*k*k+104729) (y:=2147483647) μ (by decide)
 obtain⟨b0,b1⟩:=bw (x:=x.fmod 2147483647*48271+7919*k*k+104729) (m:=2147483647) (by decide)
 generalize hn:(x.fmod 2147483647*48271+7919*k*k+104729).fmod 2147483647=n at *
 have sn:Sm 31 n:=by unfold Sm;have e:(2:Nat) ^ 31=2147483648:=by decide
                     omega
 have m4:=bH (x:=n) (y:=n) μ sn sn (by decide)
 have w3:=gq (x:=n*n) (y:=2147483629) μ (by decide)
 obtain⟨c0,c1⟩:=bw (x:=n*n) (m:=2147483629) (by decide)
 refine⟨(n*n).fmod 2147483629,?_,c0,by omega⟩
 unfold aH jb
 simp[aO,aV,M2,aq,mC,w1,m1,m2,m3,bL,w2,bG,m4,w3]
theorem ye{δ:En}{L:List Int}{y:Int}{fs:AF}(h1:δ[1]? =some (some (.cell 0)))(h2:fs δ [some (L.map .int)]=some ([.int y],[some (L.map .int)]))(hl:L.length<10000):
  fQ (aq 1) fs δ [some (L.map .int)]=some (.non,[some ((L++[y]).map .int)]):=by
 have hz:L.length<sizeLine:=Zc hl (by decide)
 unfold fQ
 simp[aq,h1,h2,gA,hz]
theorem UW{φ:FF}(hφ:oh φ)(s:D)(k c:Int)(hk:0<=k/\k<100)(all:List D):∀(js:List Int),(∀j∈js,0<=j/\j<12)->∀(L:List Int)(o:Option D),(∀x∈L,Dr x)->L.length+js.length<10000->∃(L':List Int)(o':Option D),
  forL ⟨all,none⟩ (hName 4) (eG (fQ (aq 1) (ao (MC (ao (MC (ao (aq 3) (ao (M2 (M2 (mC (.int 3)) (aq 4) cu) (mC (.int 1)) bL) (aC))) φ) (ao (M2 (M2 (aq 4) (aq 2) bL) (mC (.int 2)) bL) (aC))) φ) (aC)))) (js.map D.int)
   [some s,some (.cell 0),some (.int k),some (.int c),o] [some (L.map .int)]=some (.nx,[some s,some (.cell 0),some (.int k),some (.int c),o'],[some (L'.map .int)])/\(∀x∈L',Dr x)/\L'.length=L.length+js.length
 | [],_,L,o,hL,_=>⟨L,o,by unfold forL;simp[cB],hL,rfl⟩
 |j::js,hj,L,o,hL,hlen=>by
  have hj0:=hj j (by simp)
  obtain⟨r1,e1,d1⟩:=hφ c (3*j+1) [some (L.map .int)] (by omega) (by omega)
  obtain⟨r2,e2,d2⟩:=hφ r1 (j+k+2) [some (L.map .int)] (by omega) (by omega)
  have m1:=bH (x:=3) (y:=j) [some (L.map D.int)] (show Sm 2 3 by unfold Sm;decide) (show Sm 4 j by unfold Sm;omega) (by decide)
  obtain⟨L',o',e,hd,hl⟩:=UW hφ s k c hk all js (λx hx=>hj x (by simp[hx])) (L++[r2]) (some (.int j)) (λx hx=>by
   rcases Zm.mp hx with z|z
   .exact hL x z
   .simp at z;subst z;exact d2) (by simp at hlen ⊢;omega)
  refine⟨L',o',?_,hd,by rw[hl];simp;omega⟩
  rw[Zj]
  unfold forL
  have ea:=ye (δ:=[some s,some (.cell 0),some (.int k),some (.int c),some (.int j)]) (L:=L) (y:=r2) (fs:=ao (MC (ao (MC (ao (aq 3) (ao (M2 (M2 (mC (.int 3)) (aq 4) cu) (mC (.int 1)) bL) (aC))) φ) (ao (M2 (M2 (aq 4) (aq 2) bL) (mC (.int 2)) bL) (aC))) φ) (aC)) rfl
   (by simp[ao,aC,MC,M2,aq,mC,m1,bL,e1,e2]) (by simp at hlen;omega)
  simp only[List.map_append,Zj,List.map_nil]at ea e
  simp[cB,hName,eG,ea,e]
abbrev drC:TF:=mU (toB (M2 (aq 3) (M2 (mC (.int 10)) (mC (.int 18)) zE) oGe)) (toB (M2 (MC (ao (aq 1) (aC)) (bu cj)) (mC (.int 900)) oLt))
abbrev drB:SF:=aO (eG (fQ (aq 1) (ao (M2 (aq 3) (mC (.int 2147483629)) oMod) (aC)))) (aV 3 (M2 (aq 3) (mC (.int 2147483629)) oDiv))
theorem Az(s k o:Option D):∀(n:Nat)(c:Int)(L:List Int),0<=c->(∀x∈L,Dr x)->900-L.length<=n->∃(c':Int)(L':List Int),
  gb drC drB (n+1) [s,some (.cell 0),k,some (.int c),o] [some (L.map .int)]=some (.nx,[s,some (.cell 0),k,some (.int c'),o],[some (L'.map .int)])/\0<=c'/\(∀x∈L',Dr x)/\L'.length<=max L.length 900
 |n,c,L,hc,hL,hn=>by
  have ep:zE (.int 10) (.int 18) [some (L.map D.int)]=some (.int 1000000000000000000,[some (L.map .int)]):=rfl
  by_cases ht:(1000000000000000000:Int)<=c/\L.length<900
  .cases n with
   |zero=>omega
   |succ n=>
    obtain⟨m0,m1⟩:=bw (x:=c) (m:=2147483629) (by decide)
    have w1:=gq (x:=c) (y:=2147483629) [some (L.map D.int)] (by decide)
    have w2:=fU (x:=c) (y:=2147483629) [some ((L++[c.fmod 2147483629]).map D.int)] (by decide) (show Sm 31 2147483629 by unfold Sm;decide) (by decide)
    have q0:0<=c.fdiv 2147483629:=by rw[Int.fdiv_eq_ediv_of_nonneg c (by decide)];exact Int.ediv_nonneg hc (by decide)
    obtain⟨c',L',e,h1,h2,h3⟩:=Az s k o n (c.fdiv 2147483629) (L++[c.fmod 2147483629]) q0 (λx hx=>by
     rcases Zm.mp hx with z|z
     .exact hL x z
     .simp at z;subst z;exact⟨m0,by omega⟩) (by simp;omega)
    refine⟨c',L',?_,h1,h2,by simp at h3;omega⟩
    unfold gb
    have ea:=ye (δ:=[s,some (.cell 0),k,some (.int c),o]) (L:=L) (y:=c.fmod 2147483629) (fs:=ao (M2 (aq 3) (mC (.int 2147483629)) oMod) (aC)) rfl (by simp[ao,aC,M2,aq,mC,w1]) (by omega)
    simp only[List.map_append,Zj,List.map_nil]at ea e w2
    have hlen:((L.length:Nat):Int)<900:=by omega
    have ht1:=ht.1
    simp[mU,toB,M2,aq,mC,ep,oGe,ht1,MC,ao,aC,bu,cj,bI,oLt,hlen,aO,eG]at ea ⊢
    simp[ea,aV,M2,aq,mC,w2,e]
  .refine⟨c,L,?_,hc,hL,by omega⟩
   unfold gb
   by_cases h1:(1000000000000000000:Int)<=c
   .have h2:¬((L.length:Nat):Int)<900:=by omega
    simp[mU,toB,M2,aq,mC,ep,oGe,h1,MC,ao,aC,bu,cj,bI,oLt,h2]
   .simp[mU,toB,M2,aq,mC,ep,oGe,h1]
theorem An(n:Nat):cL 0 n=((List.range n).map λ(k:Nat)=>(k:Int)).map D.int:=by
 unfold cL
 rw[List.map_map]
 apply List.map_congr_left
 intro k _
 simp
noncomputable abbrev xT(φ:FF):SF:=(aO (aV 3 (MC (ao (M2 (aq 0) (aq 2) oIx) (aC)) (bu pY))) (aO (sIf (toB (M2 (aq 3) (M2 (mC (.int 10)) (mC (.int 18)) zE) oLt)) (fV (bK (ao (mC (.int 12)) (aC))) (hName 4) (eG (fQ (aq 1) (ao (MC (ao (MC (ao (aq 3) (ao (M2 (M2 (mC (.int 3)) (aq 4) cu) (mC (.int 1)) bL) (aC))) φ) (ao (M2 (M2 (aq 4) (aq 2) bL) (mC (.int 2)) bL) (aC))) φ) (aC))))) (bO)) (aO (mj drC drB) (sIf (toB (M2 (aq 3) (mC (.int 2147483629)) oGe)) (eG (fQ (aq 1) (ao (M2 (aq 3) (mC (.int 2147483629)) oMod) (aC)))) (bO)))))
theorem Oi{φ:FF}(hφ:oh φ)(ns:List Int)(k:Nat)(hk:k<ns.length)(hk2:k<100)(L:List Int)(o3 o4:Option D)(hL:∀x∈L,Dr x)(hlen:L.length<9000):∃(L':List Int)(o3' o4':Option D),
  xT φ [some (.ro (ns.map .int)),some (.cell 0),some (.int k),o3,o4] [some (L.map .int)]=some (.nx,[some (.ro (ns.map .int)),some (.cell 0),some (.int k),o3',o4'],[some (L'.map .int)])/\(∀x∈L',Dr x)/\L'.length<=max (L.length+12) 900+1:=by
 have hat:atI (ns.map D.int) (k:Int)=some (.int ns[k]):=Ls (by simp[hk])
 generalize hc:(if ns[k]<0 then -ns[k]else ns[k])=c
 have hc0:0<=c:=by rw[<-hc];split<;>omega
 have ep:zE (.int 10) (.int 18) [some (L.map D.int)]=some (.int 1000000000000000000,[some (L.map .int)]):=rfl
 obtain⟨L1,o1,e1,h1,l1⟩:∃(L1:List Int)(o1:Option D),sIf (toB (M2 (aq 3) (M2 (mC (.int 10)) (mC (.int 18)) zE) oLt)) (fV (bK (ao (mC (.int 12)) (aC))) (hName 4) (eG (fQ (aq 1) (ao (MC (ao (MC (ao (aq 3) (ao (M2 (M2 (mC (.int 3)) (aq 4) cu) (mC (.int 1)) bL) (aC))) φ) (ao (M2 (M2 (aq 4) (aq 2) bL) (mC (.int 2)) bL) (aC))) φ) (aC))))) (bO)
   [some (.ro (ns.map .int)),some (.cell 0),some (.int k),some (.int c),o4] [some (L.map .int)]=some (.nx,[some (.ro (ns.map .int)),some (.cell 0),some (.int k),some (.int c),o1],[some (L1.map .int)])/\(∀x∈L1,Dr x)/\L1.length<=L.length+12:=by
  by_cases hs:c<1000000000000000000
  .obtain⟨L1,o1,e,h,l⟩:=UW hφ (.ro (ns.map .int)) k c (by omega) (cL 0 12) ((List.range 12).map λ(k:Nat)=>(k:Int)) (λj hj=>by simp at hj;omega) L o4 hL (by simp;omega)
   refine⟨L1,o1,?_,h,by rw[l];simp⟩
   rw[<-An]at e
   simp[sIf,toB,M2,aq,mC,ep,oLt,hs,fV,bK,ao,aC]
   exact e
  .exact⟨L,o4,by simp[sIf,toB,M2,aq,mC,ep,oLt,hs,bO],hL,by omega⟩
 obtain⟨c',L2,e2,hc',h2,l2⟩:=Az (some (.ro (ns.map .int))) (some (.int k)) o1 _ c L1 hc0 h1 (Zg _)
 have ew:=rO e2
 have hab:pY (.int ns[k]) [some (L.map D.int)]=some (.int c,[some (L.map D.int)]):=by rw[<-hc];rfl
 by_cases hb:(2147483629:Int)<=c'
 .obtain⟨m0,m1⟩:=bw (x:=c') (m:=2147483629) (by decide)
  have w1:=gq (x:=c') (y:=2147483629) [some (L2.map D.int)] (by decide)
  have ea:=ye (δ:=[some (.ro (ns.map .int)),some (.cell 0),some (.int k),some (.int c'),o1]) (L:=L2) (y:=c'.fmod 2147483629) (fs:=ao (M2 (aq 3) (mC (.int 2147483629)) oMod) (aC)) rfl (by simp[ao,aC,M2,aq,mC,w1]) (by omega)
  refine⟨L2++[c'.fmod 2147483629],some (.int c'),o1,?_,λx hx=>by
   rcases Zm.mp hx with z|z
   .exact h2 x z
   .simp at z;subst z;exact⟨m0,by omega⟩,by simp;omega⟩
  have e0:aV 3 (MC (ao (M2 (aq 0) (aq 2) oIx) (aC)) (bu pY)) [some (.ro (ns.map .int)),some (.cell 0),some (.int k),o3,o4] [some (L.map .int)]=some (.nx,[some (.ro (ns.map .int)),some (.cell 0),some (.int k),some (.int c),o4],[some (L.map .int)]):=by
   simp[aV,MC,ao,aC,M2,aq,oIx,bI,hat,bu,hab]
  have e3:sIf (toB (M2 (aq 3) (mC (.int 2147483629)) oGe)) (eG (fQ (aq 1) (ao (M2 (aq 3) (mC (.int 2147483629)) oMod) (aC)))) (bO) [some (.ro (ns.map .int)),some (.cell 0),some (.int k),some (.int c'),o1] [some (L2.map .int)]=some (.nx,[some (.ro (ns.map .int)),some (.cell 0),some (.int k),some (.int c'),o1],[some ((L2++[c'.fmod 2147483629]).map .int)]):=by
   simp only[sIf,toB,M2,aq,mC,oGe,eG]at ea ⊢
   simp[hb]at ea ⊢
   simp[ea]
  unfold xT aO
  rw[e0]
  simp only[Option.bind_some]
  rw[e1]
  simp only[Option.bind_some]
  rw[ew]
  simp only[Option.bind_some]
  exact e3
 .refine⟨L2,some (.int c'),o1,?_,h2,by omega⟩
  have e0:aV 3 (MC (ao (M2 (aq 0) (aq 2) oIx) (aC)) (bu pY)) [some (.ro (ns.map .int)),some (.cell 0),some (.int k),o3,o4] [some (L.map .int)]=some (.nx,[some (.ro (ns.map .int)),some (.cell 0),some (.int k),some (.int c),o4],[some (L.map .int)]):=by
   simp[aV,MC,ao,aC,M2,aq,oIx,bI,hat,bu,hab]
  have e3:sIf (toB (M2 (aq 3) (mC (.int 2147483629)) oGe)) (eG (fQ (aq 1) (ao (M2 (aq 3) (mC (.int 2147483629)) oMod) (aC)))) (bO) [some (.ro (ns.map .int)),some (.cell 0),some (.int k),some (.int c'),o1] [some (L2.map .int)]=some (.nx,[some (.ro (ns.map .int)),some (.cell 0),some (.int k),some (.int c'),o1],[some (L2.map .int)]):=by
   simp[sIf,toB,M2,aq,mC,oGe,hb,bO]
  unfold xT aO
  rw[e0]
  simp only[Option.bind_some]
  rw[e1]
  simp only[Option.bind_some]
  rw[ew]
  simp only[Option.bind_some]
  exact e3
theorem Ek{φ:FF}(hφ:oh φ)(ns:List Int)(all:List D):∀(ks:List Nat),(∀k∈ks,k<ns.length/\k<100)->∀(L:List Int)(o2 o3 o4:Option D),(∀x∈L,Dr x)->max L.length 900+13*ks.length<=5000->∃(L':List Int)(o2' o3' o4':Option D),
  forL ⟨all,none⟩ (hName 2) (xT φ) ((ks.map λ(k:Nat)=>(k:Int)).map D.int) [some (.ro (ns.map .int)),some (.cell 0),o2,o3,o4] [some (L.map .int)]=some (.nx,[some (.ro (ns.map .int)),some (.cell 0),o2',o3',o4'],[some (L'.map .int)])/\(∀x∈L',Dr x)
 | [],_,L,o2,o3,o4,hL,_=>⟨L,o2,o3,o4,by simp only[List.map_nil];unfold forL;simp[cB],hL⟩
 |k::ks,hk,L,o2,o3,o4,hL,hlen=>by
  have hk0:=hk k (by simp)
  simp only[List.length_cons]at hlen
  obtain⟨L1,a3,a4,e1,h1,l1⟩:=Oi hφ ns k hk0.1 hk0.2 L o3 o4 hL (by omega)
  obtain⟨L',b2,b3,b4,e,h⟩:=Ek hφ ns all ks (λx hx=>hk x (by simp[hx])) L1 (some (.int k)) a3 a4 h1 (by omega)
  refine⟨L',b2,b3,b4,?_,h⟩
  rw[Zj,Zj]
  unfold forL
  simp only[hName,List.set_cons_succ,List.set_cons_zero,Option.bind_some]
  rw[if_pos (cB _ _),e1]
  exact e
def yQ(φ:FF):Prop:=∀(ns:List Int),ns.length<=63->∃L:List Int,φ [.ro (ns.map .int)] []=some (.cell 0,[some (L.map .int)])/\∀x∈L,Dr x
theorem Ie{φ:FF}(hφ:oh φ):yQ (aH 5 (nJ φ)):=λns hn=>by
 obtain⟨L,o2,o3,o4,e,h⟩:=Ek hφ ns (cL 0 ns.length) (List.range ns.length) (λk hk=>by simp at hk;omega) [] none none none (λx hx=>by simp at hx) (by simp;omega)
 refine⟨L,?_,h⟩
 rw[<-An]at e
 have hmin:(if(63:Int)<(ns.length:Int)then(63:Int)else(ns.length:Int))=(ns.length:Int):=by rw[if_neg (by omega)]
 have hr:(-(2 ^ 62)<=(ns.length:Int)/\(ns.length:Int)<2 ^ 62):=by omega
 have hz:0<=sizeLine:=Nat.zero_le _
 have eS:∀δ:En,δ[0]? =some (some (.ro (ns.map .int)))->∀μ,bK (ao (MC (ao (MC (ao (aq 0) (aC)) (bu cj)) (ao (mC (.int 63)) (aC))) (mW mV)) (aC)) δ μ=some (⟨cL 0 ns.length,none⟩,μ):=λδ h0 μ=>by
  simp only[bK,ao,MC,aq,h0,aC,bu,cj,bI,mC,mW,mV,Option.bind_some,Option.map_some,Zu]
  rw[hmin]
  rw[if_pos hr]
  simp
 have e0:aV 1 (nq (rN aC)) [some (.ro (ns.map .int)),none,none,none,none] []=some (.nx,[some (.ro (ns.map .int)),some (.cell 0),none,none,none],[some []]):=by
  simp[aV,nq,rN,aC]
 have e1:fV (bK (ao (MC (ao (MC (ao (aq 0) (aC)) (bu cj)) (ao (mC (.int 63)) (aC))) (mW mV)) (aC))) (hName 2) (xT φ) [some (.ro (ns.map .int)),some (.cell 0),none,none,none] [some []]=some (.nx,[some (.ro (ns.map .int)),some (.cell 0),o2,o3,o4],[some (L.map .int)]):=by
  unfold fV
  rw[eS _ rfl]
  exact e
 show(aO (aV 1 (nq (rN aC))) (aO (fV (bK (ao (MC (ao (MC (ao (aq 0) (aC)) (bu cj)) (ao (mC (.int 63)) (aC))) (mW mV)) (aC))) (hName 2) (xT φ)) (bG (aq 1))) [some (.ro (ns.map .int)),none,none,none,none] []).bind _=_
 unfold aO
 rw[e0]
 simp only[Option.bind_some]
 rw[e1]
 simp[bG,aq]
theorem kO:∀(ns:List Int)(g d:Nat),d ∣ bT g ns↔d ∣ g/\∀n∈ns,d ∣ n.natAbs
 | [],g,d=>by simp[bT]
 |n::ns,g,d=>by
  have e:bT g (n::ns)=bT (Int.gcd g n) ns:=rfl
  rw[e,kO ns (Int.gcd g n) d]
  have h:d ∣ Int.gcd g n↔d ∣ g/\d ∣ n.natAbs:=by
   show d ∣ Nat.gcd (Int.natAbs g) (Int.natAbs n)↔_
   rw[Nat.dvd_gcd_iff]
   simp
  rw[h]
  simp only[Zi,forall_eq_or_imp]
  constructor
  .rintro⟨⟨h1,h2⟩,h3⟩;exact⟨h1,h2,h3⟩
  .rintro⟨h1,h2,h3⟩;exact⟨⟨h1,h2⟩,h3⟩
theorem Ko{s b:Int}{ns:List Int}(hs:s=1∨s= -1):bT 0 ((ns++[b]).map (s * ·))=bT b.natAbs ns:=by
 have hab:∀n:Int,(s*n).natAbs=n.natAbs:=λn=>by rw[Int.natAbs_mul];rcases hs with h|h<;>rw[h]<;>simp
 apply Nat.dvd_antisymm
 .have h:=(kO ((ns++[b]).map (s * ·)) 0 _).mp (Nat.dvd_refl _)
  refine(kO ns b.natAbs _).mpr ⟨?_,λn hn=>?_⟩
  .have:=h.2 (s*b) (Zq.mpr ⟨b,by simp,rfl⟩)
   rwa[hab]at this
  .have:=h.2 (s*n) (Zq.mpr ⟨n,by simp[hn],rfl⟩)
   rwa[hab]at this
 .have h:=(kO ns b.natAbs _).mp (Nat.dvd_refl _)
  refine(kO _ 0 _).mpr ⟨Nat.dvd_zero _,λm hm=>?_⟩
  obtain⟨n,hn,rfl⟩:=Zq.mp hm
  rw[hab]
  rcases Zm.mp hn with z|z
  .exact h.2 n z
  .simp at z;subst z;exact h.1
theorem vR(f:Int):∀(ns:List Int)(g:Nat),bT (f.natAbs*g) (ns.map (f * ·))=f.natAbs*bT g ns
 | [],g=>rfl
 |n::ns,g=>by
  show bT (Int.gcd ((f.natAbs*g:Nat):Int) (f*n)) (ns.map (f * ·))=f.natAbs*bT (Int.gcd g n) ns
  have:Int.gcd ((f.natAbs*g:Nat):Int) (f*n)=f.natAbs*Int.gcd g n:=by
   show Nat.gcd (Int.natAbs ((f.natAbs*g:Nat):Int)) (Int.natAbs (f*n))=_
   rw[Int.natAbs_natCast,Int.natAbs_mul,Nat.gcd_mul_left]
   rfl
  rw[this,vR f ns]
end LG
namespace L3
open PySem PySem.Spec PyProof.Rows L2
class Post (α:Type) where
 run:α->Prop
@[simp] theorem uQ{α:Type}{f:α->Prop}{r:α}:@Post.run α ⟨f⟩ r=f r:=rfl
def OkI{α:Type}(o:Option α)[Q:Post α]:Prop:=∃r,o=some r/\Q.run r
abbrev Ok{α:Type}(o:Option α)(Q:α->Prop):Prop:=@OkI α o ⟨Q⟩
section
variable {α β:Type} {Q:Post α}
@[simp] theorem tV{r:α}:OkI (some r) (Q:=Q)=Q.run r:=by
 apply propext
 exact⟨λ⟨q,e,h⟩=>by cases e;exact h,λh=>⟨r,rfl,h⟩⟩
@[simp] theorem Vt:OkI (none:Option α) (Q:=Q)=False:=by
 apply propext
 exact⟨λ⟨q,e,h⟩=>(by cases e),λh=>h.elim⟩
@[simp] theorem gK{o:Option β}{k:β->Option α}:OkI (o.bind k) (Q:=Q)=OkI o (Q:=⟨λr=>OkI (k r) (Q:=Q)⟩):=by
 apply propext
 constructor
 .rintro⟨q,e,h⟩
  obtain⟨r,e1,e2⟩:=Za.mp e
  exact⟨r,e1,q,e2,h⟩
 .rintro⟨r,e1,q,e2,h⟩
  exact⟨q,by rw[e1];exact e2,h⟩
@[simp] theorem Wq{o:Option β}{k:β->α}:OkI (o.map k) (Q:=Q)=OkI o (Q:=⟨λr=>Q.run (k r)⟩):=by
 apply propext
 constructor
 .rintro⟨q,e,h⟩
  obtain⟨r,e1,e2⟩:=Zp.mp e
  exact⟨r,e1,by subst e2;exact h⟩
 .rintro⟨r,e1,h⟩
  exact⟨_,by rw[e1];rfl,h⟩
theorem OkI.mono{o:Option α}{Q':Post α}(h:OkI o (Q:=Q))(k:∀r,Q.run r->Q'.run r):OkI o (Q:=Q'):=let⟨r,e,q⟩:=h;⟨r,e,k r q⟩
end
class Two where
 t:Prop
 f:Prop
def wF(b:Bool)[T:Two]:Prop:=if b=true then T.t else T.f
@[simp] theorem Sq{P R:Prop}:wF true (T:=⟨P,R⟩)=P:=rfl
@[simp] theorem Sd{P R:Prop}:wF false (T:=⟨P,R⟩)=R:=rfl
def asB(r:D×Mu):Option (Bool×Mu):=match r.1 with
 | .bl k=>some (k,r.2)
 |_=>none
@[simp] theorem Wg{k:Bool}{μ:Mu}:asB (.bl k,μ)=some (k,μ):=rfl
def Kg(r:List D×Mu):Option (Src×Mu):=match r.1 with
 | [.int j]=>if -(2 ^ 62)<=j/\j<2 ^ 62 then some (⟨cL 0 j.toNat,none⟩,r.2)else none
 |_=>none
def GJ(r:List D×Mu):Option (List D×Mu):=match r.1 with
 | [.int j]=>if -(2 ^ 62)<=j/\j<2 ^ 62/\j.toNat<=sizeLine then some (cL 0 j.toNat,r.2)else none
 |_=>none
theorem wG{j:Int}{μ:Mu}(h0: -(2 ^ 62)<=j)(h1:j<2 ^ 62):Kg ([.int j],μ)=some (⟨cL 0 j.toNat,none⟩,μ):=if_pos ⟨h0,h1⟩
theorem Uv{j:Int}{μ:Mu}(h0: -(2 ^ 62)<=j)(h1:j.toNat<=sizeLine)(h2:j<2 ^ 62):GJ ([.int j],μ)=some (cL 0 j.toNat,μ):=if_pos ⟨h0,h2,h1⟩
def Uq(r:List D×Mu):Option (Src×Mu):=match r.1 with
 | [x,y]=>(fO x).bind λxs=>(fO y).map λys=>(⟨jE xs ys,none⟩,r.2)
 |_=>none
@[simp] theorem SJ{x y:D}{μ:Mu}:Uq ([x,y],μ)=(fO x).bind λxs=>(fO y).map λys=>(⟨jE xs ys,none⟩,μ):=rfl
@[simp] theorem Vy{ds:List D}:fO (.tup ds)=some ds:=rfl
@[simp] theorem Vv{ds:List D}:fO (.lst ds)=some ds:=rfl
def Tn(th:D->iz)(r:Src×Mu):Option (List iz×Mu):=match r.1.cel with
 |none=>some (r.1.items.map th,r.2)
 |some _=>none
@[simp] theorem Sx{th:D->iz}{items:List D}{μ:Mu}:Tn th (⟨items,none⟩,μ)=some (items.map th,μ):=rfl
def Vh(r:D×Mu):Option (D×Mu):=match r.1 with
 | .cell n=>(r.2.getD n none).map λds=>(.lst ds,r.2.set n none)
 |d=>some (d,r.2)
@[simp] theorem Su{n:Nat}{μ:Mu}:Vh (.cell n,μ)=(μ.getD n none).map λds=>(.lst ds,μ.set n none):=rfl
section
variable {Q:Post (D×Mu)} {QT:Post (Bool×Mu)} {QS:Post (Fl×En×Mu)} {δ:En} {μ:Mu} {f fa fb fc:EF} {fs:AF} {t ta tc:TF} {g h:SF} {op op':O2}
@[simp] theorem yR{d:D}:aq 0 (some d::δ) μ=some (d,μ):=rfl
@[simp] theorem yq{i:Nat}{o:Option D}:aq (i+1) (o::δ) μ=aq i δ μ:=rfl
@[simp] theorem w_c{d:D}:mC d δ μ=some (d,μ):=rfl
@[simp] theorem w_m1{op:O1'}:M1 fa op δ μ=(fa δ μ).bind λr=>op r.1 r.2:=rfl
@[simp] theorem TQ:M2 fa fb op δ μ=(fa δ μ).bind λr=>(fb δ r.2).bind λq=>op r.1 q.1 q.2:=rfl
@[simp] theorem Jc:aC δ μ=some ([],μ):=rfl
@[simp] theorem BR:ao f fs δ μ=(f δ μ).bind λr=>(fs δ r.2).bind λq=>some (r.1::q.1,q.2):=rfl
@[simp] theorem Vj{op:ON}:MC fs op δ μ=(fs δ μ).bind λr=>op r.1 r.2:=rfl
@[simp] theorem Wj:ni f δ μ=(f δ μ).bind λr=>(Ab r.1 r.2).map λk=>(k,r.2):=rfl
@[simp] theorem w_toB:toB f δ μ=(f δ μ).bind asB:=rfl
@[simp] theorem w_ch:OkI (MCh fa fb fc op op' δ μ) (Q:=Q)=OkI (fa δ μ) (Q:=⟨λr=>OkI (fb δ r.2) (Q:=⟨λq=>OkI ((op r.1 q.1 q.2).bind asB) (Q:=⟨λz=>wF z.1 (T:=⟨OkI ((fc δ z.2).bind λt=>op' q.1 t.1 t.2) (Q:=Q),Q.run (.bl false,z.2)⟩)⟩)⟩)⟩):=by
 unfold MCh;rw[gK];congr 2;funext r;rw[gK];congr 2;funext q;rw[gK,gK];congr 2;funext z;obtain⟨d,μ'⟩:=z
 cases d<;>simp[asB]
 rename_i b
 cases b<;>simp
@[simp] theorem w_and:OkI (mU ta tc δ μ) (Q:=QT)=OkI (ta δ μ) (Q:=⟨λr=>wF r.1 (T:=⟨OkI (tc δ r.2) (Q:=QT),QT.run (false,r.2)⟩)⟩):=by
 unfold mU;rw[gK];congr 2;funext r;unfold wF;split<;>simp[*]
@[simp] theorem w_or:OkI (qP ta tc δ μ) (Q:=QT)=OkI (ta δ μ) (Q:=⟨λr=>wF r.1 (T:=⟨QT.run (true,r.2),OkI (tc δ r.2) (Q:=QT)⟩)⟩):=by
 unfold qP;rw[gK];congr 2;funext r;unfold wF;split<;>simp[*]
@[simp] theorem w_not:ji ta δ μ=(ta δ μ).bind λr=>some (!r.1,r.2):=rfl
@[simp] theorem Wn:OkI (mX fa fb δ μ) (Q:=Q)=OkI ((fa δ μ).bind asB) (Q:=⟨λk=>wF k.1 (T:=⟨OkI (fb δ k.2) (Q:=Q),Q.run (.bl false,k.2)⟩)⟩):=by
 unfold mX;rw[gK,gK];congr 2;funext r;obtain⟨d,μ'⟩:=r
 cases d<;>simp[asB]
 rename_i b
 cases b<;>simp
@[simp] theorem Wh:wK fa δ μ=((fa δ μ).bind asB).bind λr=>some (.bl !r.1,r.2):=by
 unfold wK
 cases fa δ μ with
 |none=>rfl
 |some r=>obtain⟨d,μ'⟩:=r;cases d<;>rfl
@[simp] theorem w_next:bO δ μ=some (.nx,δ,μ):=rfl
@[simp] theorem VM:uy δ μ=some (.bk,δ,μ):=rfl
@[simp] theorem w_ret:bG f δ μ=(f δ μ).bind λr=>some (.rt r.1,δ,r.2):=rfl
@[simp] theorem Wa:eG f δ μ=(f δ μ).bind λr=>some (.nx,δ,r.2):=rfl
@[simp] theorem Io{i:Nat}:aV i f δ μ=(f δ μ).bind λr=>some (.nx,δ.set i (some r.1),r.2):=rfl
@[simp] theorem w_if:OkI (sIf t g h δ μ) (Q:=QS)=OkI (t δ μ) (Q:=⟨λr=>wF r.1 (T:=⟨OkI (g δ r.2) (Q:=QS),OkI (h δ r.2) (Q:=QS)⟩)⟩):=by
 unfold sIf;rw[gK];congr 2;funext r;unfold wF;split<;>simp[*]
def wR(h:SF)(QS:Post (Fl×En×Mu))(r:Fl×En×Mu):Prop:=match r.1 with
 | .nx=>OkI (h r.2.1 r.2.2) (Q:=QS)
 |_=>QS.run r
@[simp] theorem Hq:OkI (aO g h δ μ) (Q:=QS)=OkI (g δ μ) (Q:=⟨wR h QS⟩):=by
 unfold aO
 rw[gK]
 congr 2
 funext r
 obtain⟨fl,δ',μ'⟩:=r
 cases fl<;>simp[wR]
@[simp] theorem yE{δ':En}{μ':Mu}:wR h QS (.nx,δ',μ')=OkI (h δ' μ') (Q:=QS):=rfl
@[simp] theorem Vo{d:D}{δ':En}{μ':Mu}:wR h QS (.rt d,δ',μ')=QS.run (.rt d,δ',μ'):=rfl
@[simp] theorem Vr{δ':En}{μ':Mu}:wR h QS (.bk,δ',μ')=QS.run (.bk,δ',μ'):=rfl
@[simp] theorem Vq{δ':En}{μ':Mu}:wR h QS (.ct,δ',μ')=QS.run (.ct,δ',μ'):=rfl
@[simp] theorem w_asg{hh:GF}:yZ f hh δ μ=(f δ μ).bind λr=>(hh r.1 δ r.2).bind λδ'=>some (.nx,δ',r.2):=rfl
@[simp] theorem w_par{i j:Nat}:tL i j fs δ μ=(fs δ μ).bind λr=>match r.1 with
 | [x,y]=>some (.nx,(δ.set i (some x)).set j (some y),r.2)
 |_=>none:=rfl
@[simp] theorem JW{fi:IF}{hh:GF}:fV fi hh g δ μ=(fi δ μ).bind λr=>forL r.1 hh g r.1.items δ r.2:=rfl
@[simp] theorem w_fz{lf:LF}:mFz lf δ μ=(lf δ μ).bind λr=>some (.lst r.1,r.2):=rfl
@[simp] theorem Tj{lf:LF}:nq lf δ μ=(lf δ μ).bind λr=>some (.cell r.2.length,r.2++[some r.1]):=rfl
@[simp] theorem Wf:rN fs δ μ=(fs δ μ).bind λr=>if r.1.length<=sizeLine then some r else none:=rfl
@[simp] theorem Rh{i:Nat}{d:D}:hName i d δ μ=some (δ.set i (some d)):=rfl
@[simp] theorem Ut{n:Nat}{hs:GsF}{ds:List D}:iu n hs (.tup ds) δ μ=if ds.length=n then hs ds δ μ else none:=rfl
@[simp] theorem RJ:ir [] δ μ=some δ:=rfl
@[simp] theorem Nz{hh:GF}{hs:GsF}{d:D}{ds:List D}:bz hh hs (d::ds) δ μ=(hh d δ μ).bind λδ1=>hs ds δ1 μ:=rfl
@[simp] theorem Kh:dC f δ μ=(f δ μ).bind λr=>(srcOf r.1 r.2).map λS=>(S,r.2):=rfl
@[simp] theorem Fb{ds:List D}:srcOf (.tup ds) μ=some ⟨ds,none⟩:=rfl
@[simp] theorem VL{ds:List D}:srcOf (.lst ds) μ=some ⟨ds,none⟩:=rfl
@[simp] theorem Vz{fl fh:PF}:mSl f fl fh δ μ=(f δ μ).bind λr=>(fl δ r.2).bind λl=>(fh δ l.2).bind λu=>oSl r.1 l.1 u.1 u.2:=rfl
@[simp] theorem Tw{fl fh:PF}:lSl f fl fh δ μ=(f δ μ).bind λr=>(fl δ r.2).bind λl=>(fh δ l.2).bind λu=>match r.1 with
 | .lst ds=>some (L3.cutD ds l.1 u.1,u.2)
 | .ro ds=>some (L3.cutD ds l.1 u.1,u.2)
 |_=>none:=rfl
@[simp] theorem Sy{ds:List D}:vq (.lst ds) μ=some ds:=rfl
@[simp] theorem w_fno:fNo δ μ=some (none,μ):=rfl
@[simp] theorem w_fat:fAt f δ μ=(f δ μ).bind λr=>match r.1 with
 | .int i=>some (some i,r.2)
 |_=>none:=rfl
@[simp] theorem Oq{op:O1'}{x:D}:bu op [x] μ=op x μ:=rfl
@[simp] theorem w_two{x y:D}:mW op [x,y] μ=op x y μ:=rfl
variable {i j:Int} {ds es:List D} {k:Bool}
@[simp] theorem UJ:bL (.int i) (.int j) μ=some (.int (i+j),μ):=rfl
@[simp] theorem Wr:bL (.tup ds) (.tup es) μ=if ds.length+es.length<=sizeLine then some (.tup (ds++es),μ)else none:=rfl
@[simp] theorem We:bL (.lst ds) (.lst es) μ=if ds.length+es.length<=sizeLine then some (.lst (ds++es),μ)else none:=rfl
@[simp] theorem a_sub:gh (.int i) (.int j) μ=some (.int (i-j),μ):=rfl
theorem Ud(h:jT i j<=134217728):cu (.int i) (.int j) μ=some (.int (i*j),μ):=if_pos h
@[simp] theorem a_mod(h:j≠0):oMod (.int i) (.int j) μ=some (.int (i.fmod j),μ):=if_pos h
theorem pD(h:j≠0)(h2:j.natAbs.log2<9000):oDiv (.int i) (.int j) μ=some (.int (i.fdiv j),μ):=if_pos ⟨h,h2⟩
@[simp] theorem a_lt:oLt (.int i) (.int j) μ=some (.bl (decide (i<j)),μ):=rfl
@[simp] theorem a_le:oLe (.int i) (.int j) μ=some (.bl (decide (i<=j)),μ):=rfl
@[simp] theorem a_gt:oGt (.int i) (.int j) μ=some (.bl (decide (j<i)),μ):=rfl
@[simp] theorem a_ge:oGe (.int i) (.int j) μ=some (.bl (decide (j<=i)),μ):=rfl
@[simp] theorem a_neg:gR (.int i) μ=some (.int (-i),μ):=rfl
@[simp] theorem a_abs:pY (.int i) μ=some (.int (i.natAbs),μ):=by
 show some (D.int (if i<0 then -i else i),μ)=_
 congr 3
 split<;>omega
@[simp] theorem Eh:mV (.int i) (.int j) μ=some (.int (min i j),μ):=by
 show some (D.int (if j<i then j else i),μ)=_
 congr 3
 split<;>omega
@[simp] theorem a_eq:oEq (.int i) (.int j) μ=some (.bl (i==j),μ):=by unfold oEq rsv;simp[bV,fM,eqD]
@[simp] theorem a_ne:oNe (.int i) (.int j) μ=some (.bl (!(i==j)),μ):=by unfold oNe rsv;simp[bV,fM,eqD]
@[simp] theorem Tp:yt (.lst ds) (.lst []) μ=some (.bl (!ds.isEmpty),μ):=rfl
@[simp] theorem a_eqB{k l:Bool}:oEq (.bl k) (.bl l) μ=some (.bl (k==l),μ):=by unfold oEq rsv;simp[bV,fM,eqD]
@[simp] theorem a_neB{k l:Bool}:oNe (.bl k) (.bl l) μ=some (.bl (!(k==l)),μ):=by unfold oNe rsv;simp[bV,fM,eqD]
@[simp] theorem a_tup:oTup ds μ=if ds.length<=sizeLine then some (.tup ds,μ)else none:=rfl
@[simp] theorem a_lst:oLst ds μ=if ds.length<=sizeLine then some (.lst ds,μ)else none:=rfl
@[simp] theorem JG{d:D}:oIx d (.int i) μ=(bI d μ).bind λds=>(atI ds i).map λd=>(d,μ):=rfl
@[simp] theorem Oz:bI (.tup ds) μ=some ds:=rfl
@[simp] theorem i_lst:bI (.lst ds) μ=some ds:=rfl
@[simp] theorem i_ro:bI (.ro ds) μ=some ds:=rfl
@[simp] theorem Rx:cj (.tup ds) μ=some (.int ds.length,μ):=rfl
@[simp] theorem su:cj (.lst ds) μ=some (.int ds.length,μ):=rfl
@[simp] theorem Wo:cj (.ro ds) μ=some (.int ds.length,μ):=rfl
@[simp] theorem Vn{d:D}:gW [d] μ=(bI d μ).map λds=>(.tup ds,μ):=rfl
@[simp] theorem w_lOf:lOf fs δ μ=(fs δ μ).bind λr=>match r.1 with
 | [x]=>(bI x r.2).map λds=>(ds,r.2)
 |_=>none:=rfl
@[simp] theorem Ua{own:List Str}{capI:List Nat}{f fe:EF}:ql own capI f fe δ μ=(f δ μ).bind λr=>(vq r.1 r.2).bind λds=>if ds.length<64 then(qx (ds.map (thG (hName 0) fe (cW own δ capI))) r.2).map λq=>(oK q.1 ds,q.2)else none:=rfl
@[simp] theorem VF:uA fs δ μ=(fs δ μ).bind λr=>match r.1 with
 | [x]=>(vq x r.2).bind λds=>(sJ ds).map λes=>(es,r.2)
 |_=>none:=rfl
@[simp] theorem t_bl:Ab (.bl k) μ=some k:=rfl
@[simp] theorem t_int:Ab (.int i) μ=some (i != 0):=rfl
@[simp] theorem t_tup:Ab (.tup ds) μ=some !ds.isEmpty:=rfl
@[simp] theorem t_lst:Ab (.lst ds) μ=some !ds.isEmpty:=rfl
@[simp] theorem t_non:Ab .non μ=some false:=rfl
@[simp] theorem VG{T:String}:jY T (.int i) μ=some (.bl (T=="int"),μ):=rfl
@[simp] theorem Wb{T:String}:jY T (.bl k) μ=some (.bl (T=="bool"||T=="int"),μ):=rfl
@[simp] theorem Vu{T:String}:jY T (.tup ds) μ=some (.bl (T=="tuple"),μ):=rfl
@[simp] theorem VJ{T:String}:jY T (.lst ds) μ=some (.bl (T=="list"),μ):=rfl
@[simp] theorem VR{T:String}{x:Str}:jY T (.str x) μ=some (.bl (T=="str"),μ):=rfl
@[simp] theorem VD{T:String}:jY T .non μ=some (.bl false,μ):=rfl
@[simp] theorem Vp{T:String}{x}:jY T (.dic x) μ=some (.bl (T=="dict"),μ):=rfl
@[simp] theorem Qk:bK fs δ μ=(fs δ μ).bind Kg:=rfl
@[simp] theorem VH:Af fs δ μ=(fs δ μ).bind GJ:=rfl
@[simp] theorem w_zip:uD fs δ μ=(fs δ μ).bind Uq:=rfl
@[simp] theorem w_lc{own:List Str}{capI:List Nat}{fi:IF}{hh:GF}:lLC own capI fi hh t f δ μ=(fi δ μ).bind λr=>if r.1.items.length<=sizeLine then lcL r.1 hh t f (cW own δ capI) r.1.items r.2 else none:=rfl
@[simp] theorem w_all{st:StF}:yj st δ μ=(st δ μ).bind λr=>(yz r.1 r.2).bind λq=>some (.bl q.1,q.2):=rfl
@[simp] theorem Wk{st:StF}:xq st δ μ=(st δ μ).bind λr=>if r.1.length<=sizeLine then(wk r.1 r.2).bind λq=>some (.tup q.1,q.2)else none:=rfl
@[simp] theorem w_sum{st:StF}:KY st δ μ=(st δ μ).bind λr=>(Ao 0 r.1 r.2).bind λq=>some (.int q.1,q.2):=rfl
@[simp] theorem w_gen{own:List Str}{capI:List Nat}{fi:IF}{hh:GF}:lU own capI fi hh f δ μ=(fi δ μ).bind λr=>Tn (thG hh f (cW own δ capI)) r:=rfl
@[simp] theorem w_put{fo fi:EF}:zT f fo fi δ μ=(f δ μ).bind λr=>(fo δ r.2).bind λo=>(fi δ o.2).bind λi=>(Cm r.1 o.1 i.1 i.2).map λμ'=>(.nx,δ,μ'):=rfl
@[simp] theorem Wi{x:D}:Cr 0 f op (some x::δ) μ=(f (some x::δ) μ).bind λr=>(op x r.1 r.2).map λz=>(.nx,(some x::δ).set 0 (some z.1),z.2):=rfl
@[simp] theorem Wl:Tc (.int i) (.int j) μ=some (.int (i+j),μ):=rfl
theorem By(h:jT i j<=134217728):Fe (.int i) (.int j) μ=some (.int (i*j),μ):=if_pos h
@[simp] theorem w_frz:rC f δ μ=(f δ μ).bind Vh:=rfl
end
theorem GZ{items:List D}{μ:Mu}:Src.ok ⟨items,none⟩ μ:=λn e=>by cases e
def zY(I:En->Mu->Prop)(QS:Post (Fl×En×Mu))(r:Fl×En×Mu):Prop:=match r.1 with
 | .nx=>I r.2.1 r.2.2
 | .ct=>I r.2.1 r.2.2
 | .bk=>QS.run (.nx,r.2)
 | .rt d=>QS.run (.rt d,r.2)
section
variable {I:En->Mu->Prop} {QS:Post (Fl×En×Mu)} {δ:En} {μ:Mu}
@[simp] theorem Nj:zY I QS (.nx,δ,μ)=I δ μ:=rfl
@[simp] theorem VB:zY I QS (.ct,δ,μ)=I δ μ:=rfl
@[simp] theorem Vm:zY I QS (.bk,δ,μ)=QS.run (.nx,δ,μ):=rfl
@[simp] theorem VN{d:D}:zY I QS (.rt d,δ,μ)=QS.run (.rt d,δ,μ):=rfl
end
theorem dH{all:List D}{h:GF}{b:SF}{QS:Post (Fl×En×Mu)}(I:List D->En->Mu->Prop)
  (turn:∀d r δ μ,I (d::r) δ μ->OkI (h d δ μ) (Q:=⟨λδ1=>OkI (b δ1 μ) (Q:=⟨zY (I r) QS⟩)⟩)) (fin:∀δ μ,I [] δ μ->QS.run (.nx,δ,μ)):
  ∀(its:List D)(δ:En)(μ:Mu),I its δ μ->OkI (forL ⟨all,none⟩ h b its δ μ) (Q:=QS)
 | [],δ,μ,hI=>by unfold forL;rw[if_pos GZ,tV];exact fin δ μ hI
 |d::r,δ,μ,hI=>by
  unfold forL
  rw[if_pos GZ,gK]
  refine(turn d r δ μ hI).mono λδ1 h1=>?_
  rw[uQ]at h1 ⊢
  rw[gK]
  refine h1.mono λq h2=>?_
  rw[uQ]at h2 ⊢
  obtain⟨fl,δ',μ'⟩:=q
  cases fl with
  |nx=>exact dH (all:=all) I turn fin r δ' μ' h2
  |ct=>exact dH (all:=all) I turn fin r δ' μ' h2
  |bk=>exact⟨_,rfl,h2⟩
  |rt d=>exact⟨_,rfl,h2⟩
def retS(R:Post (D×Mu))(r:Fl×En×Mu):Prop:=match r.1 with
 | .rt d=>R.run (d,r.2.2)
 | .nx=>R.run (.non,r.2.2)
 |_=>False
@[simp] theorem Wm{R:Post (D×Mu)}{d:D}{δ:En}{μ:Mu}:retS R (.rt d,δ,μ)=R.run (d,μ):=rfl
@[simp] theorem Wc{R:Post (D×Mu)}{δ:En}{μ:Mu}:retS R (.nx,δ,μ)=R.run (.non,μ):=rfl
theorem iW{m:Nat}{g:SF}{ds:List D}{μ:Mu}{R:Post (D×Mu)}(h:OkI (g (ds.map some++List.replicate (m-ds.length) none) μ) (Q:=⟨retS R⟩)):OkI (aH m g ds μ) (Q:=R):=by
 unfold aH
 rw[gK]
 refine h.mono λr hr=>?_
 obtain⟨fl,δ,μ'⟩:=r
 cases fl with
 |rt d=>exact⟨_,rfl,hr⟩
 |nx=>exact⟨_,rfl,hr⟩
 |bk=>exact hr.elim
 |ct=>exact hr.elim
end L3
namespace LG
open PySem PySem.Spec PyProof.Rows L2 L3
theorem vW{α:Type}{o:Option α}{x:α}(h:Ok o (λr=>r=x)):o=some x:=by
 obtain⟨r,e,h⟩:=h
 have h:r=x:=h
 rw[e,h]
theorem bW{m:Nat}{g:SF}{ds:List D}{μ:Mu}{d:D}(h:OkI (g (ds.map some++List.replicate (m-ds.length) none) μ) (Q:=⟨retS ⟨λr=>r=(d,μ)⟩⟩)):trunc (aH m g) ds μ=some (d,μ):=
 il (vW (iW h))
@[simp] theorem sz{n:Nat}(h:n<=1000):(n<=sizeLine)=True:=eq_true (Zl h (by decide))
abbrev nc(d:D):Prop:=cLt 0 d=true
theorem uf:∀{ds:List D},oG 0 ds=true↔∀d∈ds,nc d
 | []=>by unfold oG;simp
 |d::ds=>by unfold oG;simp[uf (ds:=ds)]
theorem qp{ds:List D}:nc (.tup ds)↔∀d∈ds,nc d:=by
 have e:cLt 0 (.tup ds)=oG 0 ds:=by rw[cLt]
 unfold nc
 rw[e]
 exact uf
theorem BV{ds:List D}:nc (.lst ds)↔∀d∈ds,nc d:=by
 have e:cLt 0 (.lst ds)=oG 0 ds:=by rw[cLt]
 unfold nc
 rw[e]
 exact uf
theorem Dl{i:Int}:nc (.int i):=by unfold nc cLt;rfl
theorem yU{ns:List Int}:∀d∈ns.map D.int,nc d:=λd h=>by
 obtain⟨n,_,rfl⟩:=Zq.mp h
 exact Dl
def isInt:D->Bool
 | .int _=>true
 |_=>false
def intOf:D->Int
 | .int i=>i
 |_=>0
@[simp] theorem Sh{i:Int}:isInt (.int i)=true:=rfl
@[simp] theorem wW{i:Int}:intOf (.int i)=i:=rfl
theorem ints_of:∀{ds:List D},ds.all isInt=true->ds=(ds.map intOf).map D.int
 | [],_=>rfl
 |d::ds,h=>by
  rw[List.all_cons,Zo]at h
  cases d with
  |int i=>rw[Zj,Zj,<-ints_of h.2];rfl
  |_=>exact absurd h.1 (by simp[isInt])
theorem Hg(d:D)(μ:Mu)(h:nc d):trunc (aH 1 gD) [d] μ=some (.bl (isInt d),μ):=by
 apply bW
 cases d with
 |cell n=>simp[nc,cLt]at h
 |ro ds=>simp[gD,isInt,jY,Js]
 |_=>simp[gD,isInt]
theorem Ho(d:D)(μ:Mu)(h:nc d):trunc (aH 1 nG) [d] μ=some (.bl (isInt d),μ):=Hg d μ h
theorem nA{th:D->iz}{p:D->Bool}{μ:Mu}:∀(ds:List D),(∀d∈ds,th d μ=some (.bl (p d),μ))->yz (ds.map th) μ=some (ds.all p,μ)
 | [],_=>rfl
 |d::ds,h=>by
  rw[Zj]
  unfold yz
  rw[h d (by simp)]
  have ih:=nA ds λx hx=>h x (by simp[hx])
  cases hp:p d<;>simp[hp,Mq,ih]
theorem pX{all:List D}{h:GF}{tt:TF}{fe:EF}{δb:En}{p:D->Bool}{f:D->D}{μ:Mu}:∀(items:List D),(∀d∈items,∃δ1,h d δb μ=some δ1/\tt δ1 μ=some (p d,μ)/\(p d=true->fe δ1 μ=some (f d,μ)))->lcL ⟨all,none⟩ h tt fe δb items μ=some ((items.filter p).map f,μ)
 | [],_=>by unfold lcL;simp[cB]
 |d::r,hd=>by
  obtain⟨δ1,h1,h2,h3⟩:=hd d (by simp)
  have ih:=pX (all:=all) r λx hx=>hd x (by simp[hx])
  unfold lcL
  cases hp:p d with
  |false=>simp[cB,h1,h2,hp,ih]
  |true=>simp[cB,h1,h2,hp,h3 hp,ih]
def uN:D->Bool
 | .tup ds=>ds.all isInt
 |_=>false
def DY(φ:FF):Prop:=∀d μ,nc d->φ [d] μ=some (.bl (isInt d),μ)
theorem Ca{φ:FF}(hφ:DY φ)(d:D)(μ:Mu)(h:nc d):trunc (aH 1 (dM φ)) [d] μ=some (.bl (uN d),μ):=by
 apply bW
 cases d with
 |cell n=>simp[nc,cLt]at h
 |ro ds=>simp[dM,uN,jY,Js]
 |tup ds=>
  have e:=nA (th:=thG (hName 0) (MC (ao (aq 0) aC) φ) (cW ["part"] [some (D.tup ds)] [])) (p:=isInt) (μ:=μ) ds λx hx=>by
   simp[thG,cW,hφ x μ (qp.mp h x hx)]
  simp[dM,uN,e]
 |_=>simp[dM,uN]
theorem Aw{ds:List D}(h:ds≠[]):atI ds (-1)=some (ds.getLast h):=by
 have hl:0<ds.length:=List.length_pos_iff.mpr h
 unfold atI ixN
 rw[if_neg (by omega),if_pos (by omega)]
 have:((-1:Int)+ds.length).toNat=ds.length-1:=by omega
 simp only[Option.bind_some,this]
 rw[List.getLast_eq_getElem]
 simp[hl]
theorem wH{ns:List Int}(h:ns≠[]):atI (ns.map D.int) (-1)=some (.int (ns.getLastD 0)):=by
 rw[Aw (by simpa using h)]
 simp[List.getLastD_eq_getLast?,List.getLast?_eq_some_getLast h]
def Kd(φ:FF):Prop:=∀d μ,nc d->φ [d] μ=some (.bl (uN d),μ)
theorem MT(k l:Bool)(μ:Mu):trunc (aH 2 oM) [.bl k,.bl l] μ=some (.bl (k==l),μ):=by
 apply bW
 simp[oM]
theorem Eo{n d:Nat}{i:Int}(h:0<=i):HT.sIx n d (some i)=min i.toNat n:=if_neg (by omega)
theorem Lq{ds:List D}{i:Int}{μ:Mu}(h0:0<i)(h1:i<=ds.length):oSl (.tup ds) (some i) none μ=some (.tup (ds.drop i.toNat),μ):=by
 have h0':0<=i:=by omega
 have e:HT.sIx ds.length 0 (some i)=i.toNat:=by rw[Eo h0'];omega
 have e0:HT.sIx ds.length ds.length none=ds.length:=rfl
 unfold oSl L3.cutD
 simp only[e,e0]
 simp[List.take_of_length_le]
theorem Nm{ds:List D}{μ:Mu}(h:ds≠[]):oSl (.tup ds) none (some (-1)) μ=some (.tup ds.dropLast,μ):=by
 have hl:0<ds.length:=List.length_pos_iff.mpr h
 have e:HT.sIx ds.length ds.length (some (-1))=ds.length-1:=by show(if(-1:Int)<0 then((-1:Int)+ds.length).toNat else min (-1:Int).toNat ds.length)=_;rw[if_pos (by decide)];omega
 have e0:HT.sIx ds.length 0 none=0:=rfl
 unfold oSl L3.cutD
 simp only[e,e0]
 simp[List.dropLast_eq_take]
theorem HJ{ds:List D}{i:Int}{μ:Mu}(h0:0<=i):oSl (.lst ds) none (some i) μ=some (.lst (ds.take i.toNat),μ):=by
 have h0':0<=i:=by omega
 have e:HT.sIx ds.length ds.length (some i)=min i.toNat ds.length:=by rw[Eo h0']
 have e0:HT.sIx ds.length 0 none=0:=rfl
 unfold oSl L3.cutD
 simp only[e,e0]
 simp[List.take_eq_take_iff]
def muD(L:List Int):Mu:=[some (L.map .int)]
def DlD(L:List Int):Prop:=∀x∈L,Dr x
theorem fP{a:Nat}{x y:Int}(hx:Sm a x)(hy:0<y):Sm a (x.fdiv y):=by
 rw[Int.fdiv_eq_ediv_of_nonneg x (by omega)]
 unfold Sm at *
 have:=Int.natAbs_ediv_le_natAbs x y
 omega
theorem jd{a:Int}{n:Nat}:(cL a n).length=n:=by unfold cL;simp
theorem IV{φ:FF}(h:yQ φ)(ns:List Int)(hn:ns.length<=63):∃L,φ [.ro (ns.map .int)] []=some (.cell 0,muD L)/\DlD L:=h ns hn
theorem My{φ:FF}{ns:List Int}(h:Ok (φ [.ro (ns.map .int)] []) (λr=>r.1= .bl true)):∃μ',φ [.ro (ns.map .int)] []=some (.bl true,μ'):=by
 obtain⟨⟨d,μ'⟩,e,h⟩:=h
 have h:d= .bl true:=h
 subst h
 exact⟨μ',e⟩
@[simp] theorem Tv{α:Type}{l:List α}{x y:α}:(l++[x]).set l.length y=l++[y]:=by simp[List.set_append]
mutual
theorem vL{m:Nat}:∀{d:D},cLt 0 d=true->cLt m d=true
 | .non,_=>by simp[cLt]
 | .bl _,_=>by simp[cLt]
 | .int _,_=>by simp[cLt]
 | .str _,_=>by simp[cLt]
 | .tup ds,h=>by rw[cLt]at h ⊢;exact lO h
 | .lst ds,h=>by rw[cLt]at h ⊢;exact lO h
 | .ro ds,h=>by rw[cLt]at h ⊢;exact lO h
 | .dic ds,h=>by rw[cLt]at h ⊢;exact wQ h
 | .cell n,h=>by rw[cLt]at h;simp at h
theorem lO{m:Nat}:∀{ds:List D},oG 0 ds=true->oG m ds=true
 | [],_=>by rw[oG]
 |d::ds,h=>by
  rw[oG,Zo]at h ⊢
  exact⟨vL h.1,lO h.2⟩
theorem wQ{m:Nat}:∀{ds:List (Key×D)},zN 0 ds=true->zN m ds=true
 | [],_=>by rw[zN]
 |d::ds,h=>by
  rw[zN,Zo]at h ⊢
  exact⟨vL h.1,wQ h.2⟩
end
def jC(μ:Mu):Prop:=∀ds,some ds∈μ->∀d∈ds,nc d
theorem jC.c{μ:Mu}(h:jC μ)(m:Nat):cOk m μ=true:=by
 unfold cOk
 rw[List.all_eq_true]
 intro o ho
 cases o with
 |none=>rfl
 |some ds=>exact lO (uf.mpr (h ds ho))
theorem jC.nil:jC []:=λds h=>by simp at h
theorem jC.cons{ds:List D}{μ:Mu}(h1:∀d∈ds,nc d)(h2:jC μ):jC (some ds::μ):=λes h=>by
 rcases Zi.mp h with z|z
 .cases z;exact h1
 .exact h2 es z
theorem jC.dr{L:List Int}{μ:Mu}(h:jC μ):jC (some (L.map .int)::μ):=jC.cons yU h
theorem qO{φ:FF}{ds:List D}{μ μ' junk:Mu}{d:D}(h:φ ds μ=some (d,μ'++junk))(hl:μ'.length=μ.length)(hd:nc d)(hm:jC μ'):trunc φ ds μ=some (d,μ'):=by
 unfold trunc
 rw[h]
 simp only[Option.bind_some]
 have e:(μ'++junk).take μ.length=μ':=by rw[<-hl];simp
 rw[e,vL hd,hm.c]
 rfl
theorem KZ{φ:FF}{ds:List D}{μ:Mu}{P:D->Prop}(hm:jC μ)(h:Ok (φ ds μ) (λr=>∃junk,r.2=μ++junk/\nc r.1/\P r.1)):∃d,trunc φ ds μ=some (d,μ)/\P d:=by
 obtain⟨⟨d,μ1⟩,e,junk,h1,h4,h5⟩:=h
 have h1:μ1=μ++junk:=h1
 subst h1
 exact⟨d,qO e rfl h4 hm,h5⟩
def jM(φ:FF):Prop:=∀(L:List Int)(rest:Mu),φ [.cell 0] (some (L.map .int)::rest)=some (.int (L.headD 0),some (L.tail.map .int)::rest)
theorem HQ:jM (trunc (aH 1 gU)):=λL rest=>by
 have h1:oEq (.cell 0) (.lst []) (some (L.map D.int)::rest)=some (.bl L.isEmpty,some (L.map D.int)::rest):=by
  unfold oEq rsv
  simp[bV,oZ,fM,qC,eqD,cF]
  cases L<;>simp[iR]
 refine iH ?_ (by simp)
 unfold aH gU
 have hz:0<=sizeLine:=Nat.zero_le _
 cases L with
 |nil=>
  simp at h1
  simp[aO,sIf,toB,M2,aq,MC,aC,oLst,hz,h1,bG,mC]
 |cons x t=>
  simp at h1
  simp[aO,sIf,toB,M2,aq,MC,aC,oLst,hz,h1,bG,mC,bO,Dz]
theorem fX{φ:FF}(h:jM φ){L:List Int}(hL:DlD L)(rest:Mu):∃x L',φ [.cell 0] (some (L.map .int)::rest)=some (.int x,some (L'.map .int)::rest)/\Dr x/\DlD L':=by
 refine⟨L.headD 0,L.tail,h L rest,?_,λx hx=>hL x (List.mem_of_mem_tail hx)⟩
 cases L with
 |nil=>exact⟨by decide,by decide⟩
 |cons a b=>exact hL a (by simp)
def PtL(d:Nat)(ns:List Int)(b:Int):Prop:=ns.length=d/\(∀n∈ns,n.natAbs<=10000)/\1<=b/\b<=60
def ou(d:Nat)(p:D):Prop:=∃ns b,p= .tup ((ns++[b]).map .int)/\PtL d ns b/\bT b.natAbs ns=1
theorem ou.nc{d:Nat}{p:D}(h:ou d p):nc p:=by
 obtain⟨ns,b,rfl,_⟩:=h
 exact qp.mpr yU
theorem nR{x y:Int}(hy:0<y):(x.fdiv y).natAbs<=x.natAbs:=by
 rw[Int.fdiv_eq_ediv_of_nonneg x (by omega)]
 exact Int.natAbs_ediv_le_natAbs x y
theorem NQ{ns:List Int}{b:Int}(hb:0<b):bT (b.fdiv (bT b.natAbs ns:Nat)).natAbs (ns.map λn=>n.fdiv (bT b.natAbs ns:Nat))=1:=by
 have h:=(kO ns b.natAbs _).mp (Nat.dvd_refl _)
 have g0:bT b.natAbs ns≠0:=qT (.inl (by omega))
 obtain⟨g,hg⟩:∃g,bT b.natAbs ns=g:=⟨_,rfl⟩
 rw[hg]at h g0 ⊢
 have hm:∀n:Int,g ∣ n.natAbs->(g:Int)*n.fdiv (g:Nat)=n:=λn hn=>by
  rw[Int.fdiv_eq_ediv_of_nonneg n (by omega)]
  exact Int.mul_ediv_cancel' (Int.ofNat_dvd_left.mpr hn)
 have hs:=vR (g:Int) (ns.map λn=>n.fdiv (g:Nat)) (b.fdiv (g:Nat)).natAbs
 have e1:((g:Int)).natAbs*(b.fdiv (g:Nat)).natAbs=b.natAbs:=by rw[<-Int.natAbs_mul,hm b h.1]
 have e2:(ns.map λn=>n.fdiv (g:Nat)).map ((g:Int) * ·)=ns:=by
  rw[List.map_map]
  conv=>rhs;rw[<-List.map_id ns]
  apply List.map_congr_left
  intro n hn
  exact hm n (h.2 n hn)
 rw[e1,e2,hg,Int.natAbs_natCast]at hs
 exact Nat.eq_of_mul_eq_mul_left (show 0<g by omega) (by rw[Nat.mul_one];exact hs.symm)
theorem vZ{φ:FF}(h:vY φ){d:Nat}{ns:List Int}{b:Int}(μ:Mu)(hd:1<=d)(hd3:d<=3)(hp:PtL d ns b):∃p,φ [.lst (ns.map .int),.int b] μ=some (p,μ)/\ou d p:=by
 obtain⟨hl,hn,b0,b1⟩:=hp
 have e:=h ns b μ (by omega) (by unfold Sm;have:(2:Nat) ^ 4000>=2 ^ 7:=Nat.pow_le_pow_right (by decide) (by decide);omega) (by omega) (λz=>by rw[z]at hl;simp at hl;omega)
 have e1:sgn b=1:=if_pos (by omega)
 rw[e1,Int.one_mul]at e
 have g0:bT b.natAbs ns≠0:=qT (.inl (by omega))
 have gd:=(oA ns b.natAbs).2
 have gle:=Nat.le_of_dvd (by omega) gd
 refine⟨_,e,ns.map (λn=>n.fdiv (bT b.natAbs ns:Nat)),b.fdiv (bT b.natAbs ns:Nat),by simp[List.map_append],⟨by simp[hl],λm hm=>?_,?_,?_⟩,NQ (by omega)⟩
 .obtain⟨n,hn',rfl⟩:=Zq.mp hm
  have:=nR (x:=n) (y:=(bT b.natAbs ns:Nat)) (by omega)
  have:=hn n hn'
  omega
 .rw[Int.fdiv_eq_ediv_of_nonneg b (by omega)]
  exact(Int.le_ediv_iff_mul_le (by omega)).mpr (by omega)
 .have:=nR (x:=b) (y:=(bT b.natAbs ns:Nat)) (by omega)
  omega
def isPlace(φ:FF):Prop:=∀(x k b:Int)(μ:Mu),Dr x->0<=k->k<=4->0<=b->b<=500->∃t u:Int,φ [.int x,.int k,.int b] μ=some (.tup [.int t,.int u],μ)/\t.natAbs<=10000/\1<=u/\u<=60
theorem HX:isPlace (trunc (aH 3 ie)):=λx k b μ hx k0 k4 b0 b5=>by
 have q1:=bw (x:=x) (m:=20001) (by decide)
 have q2:=bw (x:=x.fdiv 20001) (m:=60) (by decide)
 have q3:=bw (x:=x) (m:=5) (by decide)
 have q4:=bw (x:=x) (m:=11) (by decide)
 have q5:=bw (x:=x.fdiv 11) (m:=3) (by decide)
 have q6:=bw (x:=x) (m:=4) (by decide)
 have q7:=bw (x:=x) (m:=2) (by decide)
 have q8:=bw (x:=b) (m:=7) (by decide)
 have d1:=pD (i:=x) (j:=20001) (μ:=μ) (by decide) (by decide)
 have d2:=pD (i:=x) (j:=11) (μ:=μ) (by decide) (by decide)
 have hk:k=0∨k=1∨k=2∨k=3∨k=4:=by omega
 rcases hk with rfl|rfl|rfl|rfl|rfl
 .refine⟨x.fmod 20001-10000,1+(x.fdiv 20001).fmod 60,bW ?_,by omega,by omega,by omega⟩
  simp[ie,d1]
 .refine⟨x.fmod 5-2,1,bW ?_,by omega,by omega,by omega⟩
  simp[ie]
 .refine⟨x.fmod 11-5,1+(x.fdiv 11).fmod 3,bW ?_,by omega,by omega,by omega⟩
  simp[ie,d2]
 .obtain⟨y,hy,e⟩:=yS (ds:=[D.int 0,.int 0,.int 1,.int 40]) q6.1 q6.2
  have hy:∃z:Int,y= .int z/\0<=z/\z<=40:=by
   simp only[Zi,List.not_mem_nil,or_false]at hy
   rcases hy with rfl|rfl|rfl|rfl<;>exact⟨_,rfl,by decide,by decide⟩
  obtain⟨z,rfl,z0,z1⟩:=hy
  refine⟨b+z,1,bW ?_,by omega,by omega,by omega⟩
  simp[ie,e]
 .have s1:Sm 10 (x.fmod 2):=by
   unfold Sm
   have:(2:Nat) ^ 10=1024:=by decide
   omega
  have s2:Sm 10 (1+b.fmod 7):=by
   unfold Sm
   have:(2:Nat) ^ 10=1024:=by decide
   omega
  have m:=Ud (μ:=μ) (vV s1 s2 (by decide))
  have hb:(x.fmod 2*(1+b.fmod 7)).natAbs<=10000:=by
   have h2:x.fmod 2=0∨x.fmod 2=1:=by omega
   rcases h2 with h2|h2<;>rw[h2]<;>omega
  refine⟨x.fmod 2*(1+b.fmod 7),1,bW ?_,hb,by omega,by omega⟩
  simp[ie,m]
theorem ud{a:Int}{n:Nat}{d:D}(h:d∈cL a n):∃k:Int,d= .int k/\a<=k/\k<a+n:=by
 unfold cL at h
 obtain⟨k,hk,rfl⟩:=Zq.mp h
 have:=List.mem_range.mp hk
 exact⟨_,rfl,by omega,by omega⟩
def zg(φ:FF):Prop:=∀(x d k b:Int)(μ:Mu),jC μ->Dr x->1<=d->d<=3->0<=k->k<=4->0<=b->b<=400->∃p,φ [.int x,.int d,.int k,.int b] μ=some (p,μ)/\ou d.toNat p
theorem Ig{φ1 φ2 φ3:FF}(h1:oh φ1)(h2:isPlace φ2)(h3:vY φ3):zg (trunc (aH 9 (kW φ1 φ2 φ3))):=λx d k b μ hm hx d1 d3 k0 k4 b0 b4=>by
 apply KZ hm
 apply iW
 unfold kW
 simp[wG (j:=d) (by omega) (by omega)]
 refine dH (λits δ μ'=>∃(acc:List Int)(bot:Int)(o6 o7 o8:Option D),μ'=μ++[some (acc.map .int)]/\acc.length+its.length=d.toNat/\(∀n∈acc,n.natAbs<=10000)/\(1<=bot/\bot<=60)/\(∀i∈its,∃k:Int,i= .int k/\0<=k/\k<3)/\
  δ=[some (.int x),some (.int d),some (.int k),some (.int b),some (.cell μ.length),some (.int bot),o6,o7,o8]) ?_ ?_ _ _ _ ⟨[],1,none,none,none,rfl,by simp[jd],by simp,by omega,λi hi=>by
   obtain⟨k,rfl,h0,h1⟩:=ud hi
   exact⟨k,rfl,by omega,by omega⟩,rfl⟩
 .rintro i rest δ μ' ⟨acc,bot,o6,o7,o8,rfl,hl,ha,hb,hi,rfl⟩
  obtain⟨j,rfl,j0,j1⟩:=hi i (by simp)
  obtain⟨y,ey,hy⟩:=h1 x (j+1) (μ++[some (acc.map .int)]) (by omega) (by omega)
  obtain⟨t,u,et,ht,u0,u1⟩:=h2 y k (b+j) (μ++[some (acc.map .int)]) hy k0 k4 (by omega) (by omega)
  have hz:acc.length<sizeLine:=Zc (by omega:acc.length<1000) (by decide)
  have fin:∀bot',1<=bot'->bot'<=60->∃(acc':List Int)(bot:Int)(o6 o7 o8:Option D),μ++[some (acc.map D.int++[.int t])]=μ++[some (acc'.map .int)]/\acc'.length+rest.length=d.toNat/\(∀n∈acc',n.natAbs<=10000)/\(1<=bot/\bot<=60)/\(∀i∈rest,∃k:Int,i= .int k/\0<=k/\k<3)/\
    ([some (.int x),some (.int d),some (.int k),some (.int b),some (.cell μ.length),some (.int bot'),some (.int j),some (.int t),some (.int u)]:En)=[some (.int x),some (.int d),some (.int k),some (.int b),some (.cell μ.length),some (.int bot),o6,o7,o8]:=λbot' q1 q2=>
   ⟨acc++[t],bot',_,_,_,by simp,by simp at hl ⊢;omega,λn hn=>by
    rcases Zm.mp hn with z|z
    .exact ha n z
    .rw[List.mem_singleton.mp z];exact ht,⟨q1,q2⟩,λi h=>hi i (by simp[h]),rfl⟩
  by_cases hj:j=0
  .subst hj
   rw[show(0:Int)+1=1 from rfl]at ey
   rw[show b+(0:Int)=b by omega]at et
   simp[ey,et,fQ,gA,hz]
   simpa using fin u u0 u1
  .have hjb:(j==0)=false:=by simpa using hj
   simp[ey,et,hjb,fQ,gA,hz]
   simpa using fin bot hb.1 hb.2
 .rintro δ μ' ⟨acc,bot,o6,o7,o8,rfl,hl,ha,hb,hi,rfl⟩
  obtain⟨p,ep,hp⟩:=vZ h3 (d:=d.toNat) (ns:=acc) (b:=bot) (μ++[none]) (by omega) (by omega) ⟨by simpa using hl,ha,hb⟩
  simp[ep]
  exact⟨hp.nc,hp⟩
section
variable {α:Type} {r j:List α} {x y z:α}
@[simp] theorem Vs:(r++x::j)[r.length]? =some x:=by simp
@[simp] theorem VP:(r++x::j).set r.length y=r++y::j:=by simp[List.set_append]
@[simp] theorem Vx:(r++x::(j++[y]))[r.length+(j.length+1)]? =some y:=by
 rw[List.getElem?_append_right (by omega)]
 have:r.length+(j.length+1)-r.length=j.length+1:=by omega
 rw[this]
 simp
@[simp] theorem VV:(r++x::(j++[y])).set (r.length+(j.length+1)) z=r++x::(j++[z]):=by
 rw[List.set_append_right _ _ (by omega)]
 have:r.length+(j.length+1)-r.length=j.length+1:=by omega
 rw[this]
 simp
end
theorem ju{ys:List Int}{k:Int}(h0:0<=k)(h1:k<ys.length):atI (ys.map D.int) k=some (.int (ys.getD k.toNat 0))/\ys.getD k.toNat 0∈ys:=by
 have hk:k.toNat<ys.length:=by omega
 have e:ys.getD k.toNat 0=ys[k.toNat]:=by simp[List.getD,hk]
 refine⟨?_,by rw[e];exact List.getElem_mem hk⟩
 unfold atI ixN
 rw[if_pos h0,if_pos (by simpa using h1),e]
 simp[hk]
theorem yH{φ:FF}(h:jM φ)(a c:Int)(ha:0<a)(all:List D)(rest:Mu):∀(its:List D)(L:List Int),DlD L->∃ys L':List Int,
  lcL ⟨all,none⟩ (hName 0) cN (M2 (M2 (MC (ao (aq 1) aC) φ) (mC (.int a)) oMod) (mC (.int c)) gh) [none,some (.cell 0)] its (some (L.map .int)::rest)=some (ys.map .int,some (L'.map .int)::rest)/\DlD L'/\ys.length=its.length/\∀y∈ys,-c<=y/\y<a-c
 | [],L,hL=>⟨[],L,by unfold lcL;simp[cB],hL,rfl,by simp⟩
 |d::its,L,hL=>by
  obtain⟨x,L1,e1,hx,hL1⟩:=fX h hL rest
  obtain⟨ys,L',e,hL',hl,hs⟩:=yH h a c ha all rest its L1 hL1
  obtain⟨q0,q1⟩:=bw (x:=x) (m:=a) ha
  have ha':a≠0:=by omega
  refine⟨(x.fmod a-c)::ys,L',?_,hL',by simp[hl],λn hn=>?_⟩
  .unfold lcL
   simp[cB,cN,e1,ha',e]
  .rcases Zi.mp hn with z|z
   .rw[z];omega
   .exact hs n z
def yx(φ:FF):Prop:=∀(L:List Int)(rest:Mu)(d many:Int),DlD L->jC rest->1<=d->d<=3->0<=many->many<=40->
 ∃ps L',φ [.cell 0,.int d,.int many] (some (L.map .int)::rest)=some (.lst ps,some (L'.map .int)::rest)/\DlD L'/\ps.length=many.toNat/\∀p∈ps,ou d.toNat p
theorem Do{φ:FF}{as:List D}{μ:Mu}{P:List D->List Int->Prop}{rest:Mu}(hl:μ.length=rest.length+1)(hm:jC rest)(h:Ok (φ as μ) (λr=>∃ps L junk,r=(.lst ps,some (L.map .int)::(rest++junk))/\(∀p∈ps,nc p)/\P ps L)):
  ∃ps L',trunc φ as μ=some (.lst ps,some (L'.map .int)::rest)/\P ps L':=by
 obtain⟨r,e,ps,L,junk,h1,h2,h3⟩:=h
 have h1:r=(.lst ps,some (L.map .int)::(rest++junk)):=h1
 rw[h1]at e
 exact⟨ps,L,qO (junk:=junk) (by rw[e];rfl) (by simp[hl]) (BV.mpr h2) hm.dr,h3⟩
theorem Cz{φ1 φ2:FF}(h1:jM φ1)(h2:vY φ2):yx (trunc (aH 8 (jq φ1 φ2))):=λL rest d many hL hm d1 d3 m0 m40=>by
 apply Do (by simp) hm
 apply iW
 unfold jq
 obtain⟨ys,L1,e1,hL1,hl1,hs1⟩:=yH h1 41 20 (by decide) (cL 0 d.toNat) rest (cL 0 d.toNat) L hL
 obtain⟨zs,L2,e2,hL2,hl2,hs2⟩:=yH h1 7 3 (by decide) (cL 0 d.toNat) rest (cL 0 d.toNat) L1 hL1
 rw[jd]at hl1 hl2
 have zd:d.toNat<=1000:=by omega
 simp[wG (j:=d) (by omega) (by omega),wG (j:=many) (by omega) (by omega),jd,zd,cW,e1,e2]
 refine dH (λits δ μ'=>∃(L:List Int)(acc:List D)(o6 o7:Option D),μ'=some (L.map .int)::(rest++[some acc])/\DlD L/\(∀p∈acc,ou d.toNat p)/\acc.length+its.length=many.toNat/\
  δ=[some (.cell 0),some (.int d),some (.int many),some (.lst (ys.map .int)),some (.lst (zs.map .int)),some (.cell (rest.length+1)),o6,o7]) ?_ ?_ _ _ _ ⟨L2,[],none,none,rfl,hL2,by simp,by simp[jd],rfl⟩
 .rintro i its δ μ' ⟨L,acc,o6,o7,rfl,hL,ha,hl,rfl⟩
  obtain⟨x,L3,e3,hx,hL3⟩:=fX h1 hL (rest++[some acc])
  obtain⟨q0,q1⟩:=bw (x:=x) (m:=13) (by decide)
  generalize ht:x.fmod 13-6=t
  have ht1:t.natAbs<=6:=by omega
  have ec:=xZ (all:=cL 0 d.toNat) (h:=hName 0) (fe:=M2 (M2 (aq 1) (aq 0) oIx) (M2 (aq 2) (M2 (aq 3) (aq 0) oIx) cu) bL) (δb:=[none,some (.lst (ys.map .int)),some (.int t),some (.lst (zs.map .int))])
   (f:=λi=>.int (ys.getD (intOf i).toNat 0+t*zs.getD (intOf i).toNat 0)) (μ:=some (L3.map .int)::(rest++[some acc])) (cL 0 d.toNat) λi hi=>by
    obtain⟨k,rfl,k0,k1⟩:=ud hi
    obtain⟨a1,_⟩:=ju (ys:=ys) (k:=k) (by omega) (by omega)
    obtain⟨a2,b2⟩:=ju (ys:=zs) (k:=k) (by omega) (by omega)
    have b3:=hs2 _ b2
    have mm:=bH (x:=t) (y:=zs.getD k.toNat 0) (some (L3.map .int)::(rest++[some acc])) (a:=3) (b:=3) (by unfold Sm;omega) (by unfold Sm;omega) (by decide)
    refine⟨_,rfl,?_⟩
    simp only[wW]
    generalize zs.getD k.toNat 0=c2 at *
    generalize ys.getD k.toNat 0=c1 at *
    simp[a1,a2,mm]
  have ep:(cL 0 d.toNat).map (λi=>D.int (ys.getD (intOf i).toNat 0+t*zs.getD (intOf i).toNat 0))=((cL 0 d.toNat).map (λi=>ys.getD (intOf i).toNat 0+t*zs.getD (intOf i).toNat 0)).map D.int:=by simp
  rw[ep]at ec
  obtain⟨p,e4,hp⟩:=vZ h2 (d:=d.toNat) (ns:=(cL 0 d.toNat).map (λi=>ys.getD (intOf i).toNat 0+t*zs.getD (intOf i).toNat 0)) (b:=1) (some (L3.map .int)::(rest++[some acc])) (by omega) (by omega) ⟨by simp[jd],λn hn=>by
   obtain⟨i,hi,rfl⟩:=Zq.mp hn
   obtain⟨k,rfl,k0,k1⟩:=ud hi
   obtain⟨_,b1⟩:=ju (ys:=ys) (k:=k) (by omega) (by omega)
   obtain⟨_,b2⟩:=ju (ys:=zs) (k:=k) (by omega) (by omega)
   have b3:=hs1 _ b1
   have b4:=hs2 _ b2
   simp only[wW]
   generalize zs.getD k.toNat 0=c2 at *
   generalize ys.getD k.toNat 0=c1 at *
   have h1:(t*c2).natAbs<=6*3:=by rw[Int.natAbs_mul];exact Nat.mul_le_mul ht1 (by omega)
   omega,by decide,by decide⟩
  have hz:acc.length<sizeLine:=Zc (by omega:acc.length<1000) (by decide)
  generalize ((cL 0 d.toNat).map (λi=>ys.getD (intOf i).toNat 0+t*zs.getD (intOf i).toNat 0))=ms at *
  simp[e3,ht,wG (j:=d) (by omega) (by omega),jd,zd,cW,ec,e4,fQ,gA,hz]
  refine⟨L3,acc++[p],by simp,hL3,λq hq=>?_,by simp at hl ⊢;omega⟩
  rcases Zm.mp hq with z|z
  .exact ha q z
  .rw[List.mem_singleton.mp z];exact hp
 .rintro δ μ' ⟨L,acc,o6,o7,rfl,hL,ha,hl,rfl⟩
  simp
  exact⟨acc,L,⟨rfl,rfl⟩,λp hp=>(ha p hp).nc,hL,by simpa using hl,ha⟩
theorem Mp{φ1 φ2:FF}(h1:jM φ1)(h2:vY φ2):yx (trunc (aH 9 (oH φ1 φ2))):=λL rest d many hL hm d1 d3 m0 m40=>by
 apply Do (by simp) hm
 apply iW
 unfold oH
 obtain⟨x1,L1,e1,hx1,hL1⟩:=fX h1 hL rest
 obtain⟨x2,L2,e2,hx2,hL2⟩:=fX h1 hL1 rest
 obtain⟨q0,q1⟩:=bw (x:=x1) (m:=5) (by decide)
 obtain⟨q2,q3⟩:=bw (x:=x2) (m:=5) (by decide)
 generalize hf:x1.fmod 5-2=f
 generalize hs:x2.fmod 5-2=s
 have f1:f.natAbs<=2:=by omega
 have s1:s.natAbs<=2:=by omega
 simp[e1,e2,hf,hs,wG (j:=many) (by omega) (by omega)]
 refine dH (λits δ μ'=>∃(L:List Int)(acc:List D)(junk:Mu)(o6 o7 o8:Option D),μ'=some (L.map .int)::(rest++some acc::junk)/\DlD L/\(∀p∈acc,ou d.toNat p)/\acc.length+its.length=many.toNat/\
  δ=[some (.cell 0),some (.int d),some (.int many),some (.int f),some (.int s),some (.cell (rest.length+1)),o6,o7,o8]) ?_ ?_ _ _ _ ⟨L2,[],[],none,none,none,rfl,hL2,by simp,by simp[jd],rfl⟩
 .rintro i its δ μ' ⟨L,acc,junk,o6,o7,o8,rfl,hL,ha,hl,rfl⟩
  obtain⟨x,M3,e3,hx,hM3⟩:=fX h1 hL (rest++some acc::junk)
  have b1:=bw (x:=x) (m:=9) (by decide)
  have b2:=bw (x:=x.fdiv 9) (m:=9) (by decide)
  have b3:=bw (x:=x.fdiv 81) (m:=9) (by decide)
  have v1:=pD (i:=x) (j:=9) (μ:=some (M3.map .int)::(rest++some acc::junk)) (by decide) (by decide)
  have v2:=pD (i:=x) (j:=81) (μ:=some (M3.map .int)::(rest++some acc::junk)) (by decide) (by decide)
  generalize ha1:x.fmod 9-4=a1
  generalize ha2:(x.fdiv 9).fmod 9-4=a2
  generalize ha3:(x.fdiv 81).fmod 9-4=a3
  have hz:acc.length<sizeLine:=Zc (by omega:acc.length<1000) (by decide)
  have fin:∀p,ou d.toNat p->∀(j':Mu),∃(L:List Int)(acc':List D)(junk:Mu),some (M3.map D.int)::(rest++some (acc++[p])::j')=some (L.map .int)::(rest++some acc'::junk)/\DlD L/\(∀p∈acc',ou d.toNat p)/\acc'.length+its.length=many.toNat:=λp hp j'=>by
   refine⟨M3,acc++[p],j',rfl,hM3,λq hq=>?_,by simp at hl ⊢;omega⟩
   rcases Zm.mp hq with z|z
   .exact ha q z
   .rw[List.mem_singleton.mp z];exact hp
  have hdd:d=1∨d=2∨d=3:=by omega
  rcases hdd with rfl|rfl|rfl
  .obtain⟨p,e4,hp⟩:=vZ h2 (d:=1) (ns:=[a1]) (b:=1) (some (M3.map .int)::(rest++some acc::(junk++[none]))) (by decide) (by decide) ⟨rfl,by simp;omega,by decide,by decide⟩
   simp at e4
   have ec:L3.cutD [D.int a1,D.int a2,D.int a3] none (some 1)=[.int a1]:=rfl
   simp[e3,v1,v2,ha1,ha2,ha3,ec,e4,fQ,gA,hz]
   simpa using fin p hp (junk++[none])
  .have m1:=bH (x:=f) (y:=a1) (some (M3.map .int)::(rest++some acc::(junk++[some [D.int a1,.int a2]]))) (a:=5) (b:=5) (by unfold Sm;omega) (by unfold Sm;omega) (by decide)
   have m2:=bH (x:=s) (y:=a1) (some (M3.map .int)::(rest++some acc::(junk++[some [D.int a1,.int a2]]))) (a:=5) (b:=5) (by unfold Sm;omega) (by unfold Sm;omega) (by decide)
   have bd:(f*a1+s*a1).natAbs<=10000:=by
    have c1:(f*a1).natAbs<=2*4:=by rw[Int.natAbs_mul];exact Nat.mul_le_mul f1 (by omega)
    have c2:(s*a1).natAbs<=2*4:=by rw[Int.natAbs_mul];exact Nat.mul_le_mul s1 (by omega)
    omega
   obtain⟨p,e4,hp⟩:=vZ h2 (d:=2) (ns:=[a1,f*a1+s*a1]) (b:=1) (some (M3.map .int)::(rest++some acc::(junk++[none]))) (by decide) (by decide) ⟨rfl,λn hn=>by
    simp at hn
    rcases hn with rfl|rfl
    .omega
    .exact bd,by decide,by decide⟩
   simp at e4
   have ec:L3.cutD [D.int a1,D.int a2,D.int a3] none (some 2)=[.int a1,.int a2]:=rfl
   have at0:atI [D.int a1,.int a2] 0=some (.int a1):=rfl
   simp[e3,v1,v2,ha1,ha2,ha3,ec,bI,at0,m1,m2,L3.Cm,ixN,e4,fQ,gA,hz]
   simpa using fin p hp (junk++[none])
  .have m1:=bH (x:=f) (y:=a1) (some (M3.map .int)::(rest++some acc::(junk++[some [D.int a1,.int a2,.int a3]]))) (a:=5) (b:=5) (by unfold Sm;omega) (by unfold Sm;omega) (by decide)
   have m2:=bH (x:=s) (y:=a2) (some (M3.map .int)::(rest++some acc::(junk++[some [D.int a1,.int a2,.int a3]]))) (a:=5) (b:=5) (by unfold Sm;omega) (by unfold Sm;omega) (by decide)
   have bd:(f*a1+s*a2).natAbs<=10000:=by
    have c1:(f*a1).natAbs<=2*4:=by rw[Int.natAbs_mul];exact Nat.mul_le_mul f1 (by omega)
    have c2:(s*a2).natAbs<=2*4:=by rw[Int.natAbs_mul];exact Nat.mul_le_mul s1 (by omega)
    omega
   obtain⟨p,e4,hp⟩:=vZ h2 (d:=3) (ns:=[a1,a2,f*a1+s*a2]) (b:=1) (some (M3.map .int)::(rest++some acc::(junk++[none]))) (by decide) (by decide) ⟨rfl,λn hn=>by
    simp at hn
    rcases hn with rfl|rfl|rfl
    .omega
    .omega
    .exact bd,by decide,by decide⟩
   simp at e4
   have ec:L3.cutD [D.int a1,D.int a2,D.int a3] none (some 3)=[.int a1,.int a2,.int a3]:=rfl
   have at0:atI [D.int a1,.int a2,.int a3] 0=some (.int a1):=rfl
   have at1:atI [D.int a1,.int a2,.int a3] 1=some (.int a2):=rfl
   simp[e3,v1,v2,ha1,ha2,ha3,ec,bI,at0,at1,m1,m2,L3.Cm,ixN,e4,fQ,gA,hz]
   simpa using fin p hp (junk++[none])
 .rintro δ μ' ⟨L,acc,junk,o6,o7,o8,rfl,hL,ha,hl,rfl⟩
  simp
  exact⟨acc,L,⟨rfl,rfl⟩,λp hp=>(ha p hp).nc,hL,by simpa using hl,ha⟩
theorem ym{d:Nat}:∀{ps:List D},(∀p∈ps,ou d p)->cF ps=true/\fH ps<=1
 | [],_=>⟨by rw[cF],by rw[fH];decide⟩
 |p::ps,h=>by
  obtain⟨ns,b,rfl,_⟩:=h p (by simp)
  obtain⟨i1,i2⟩:=ym (ps:=ps) λq hq=>h q (by simp[hq])
  refine⟨?_,?_⟩
  .rw[cF,i1,bV,oZ];rfl
  .rw[fH,fM,qC];omega
theorem Py{n:Nat}{ps:List D}{μ:Mu}(h:μ[n]? =some (some ps))(h1:cF ps=true)(h2:fH ps<90):yt (.cell n) (.lst []) μ=some (.bl (!ps.isEmpty),μ):=by
 show oNe (.cell n) (.lst []) μ=_
 have e1:rsv (.cell n) μ= .lst ps:=by
  show(match μ[n]? with|some (some ds)=>D.lst ds|_=>D.cell n)=_
  rw[h]
 have e2:rsv (.lst []) μ= .lst []:=rfl
 unfold oNe
 rw[e1,e2]
 have e3:bV (.lst ps)=true:=by rw[bV];exact h1
 have e4:bV (.lst [])=true:=by rw[bV,cF]
 have e5:fM (.lst ps)<100:=by rw[fM];omega
 have e6:eqD (.lst ps) (.lst [])=ps.isEmpty:=by cases ps<;>rw[eqD]<;>simp[iR]
 rw[e3,e4,e6,if_pos ⟨rfl,e5⟩]
def Ak(φ:FF):Prop:=∀(L:List Int)(rest:Mu)(d most:Int),DlD L->jC rest->1<=d->d<=3->0<=most->most<=40->
 ∃ps L',φ [.cell 0,.int d,.int most] (some (L.map .int)::rest)=some (.lst ps,some (L'.map .int)::rest)/\DlD L'/\ps.length<=most.toNat/\∀p∈ps,ou d.toNat p
theorem Gj{φ1 φ2 φ3 φ4:FF}(h1:jM φ1)(h2:yx φ2)(h3:yx φ3)(h4:zg φ4):Ak (trunc (aH 9 (jU φ1 φ2 φ3 φ4))):=λL rest d most hL hm d1 d3 m0 m40=>by
 apply Do (by simp) hm
 apply iW
 unfold jU
 obtain⟨x,L1,e1,hx,hL1⟩:=fX h1 hL rest
 obtain⟨q0,q1⟩:=bw (x:=x.fdiv 9) (m:=most+1) (by omega)
 obtain⟨k0,k1⟩:=bw (x:=x) (m:=9) (by decide)
 have v1:=pD (i:=x) (j:=9) (μ:=some (L1.map .int)::rest) (by decide) (by decide)
 have w1:=gq (x:=x.fdiv 9) (y:=most+1) (some (L1.map .int)::rest) (by omega)
 generalize (x.fdiv 9).fmod (most+1)=many at *
 generalize hk:x.fmod 9=kind at *
 by_cases c5:kind=5
 .subst c5
  obtain⟨ps,L2,e2,hL2,hl2,hp2⟩:=h2 L1 rest d many hL1 hm d1 d3 q0 (by omega)
  simp[e1,v1,w1,hk,e2]
  exact⟨ps,L2,⟨rfl,rfl⟩,λp hp=>(hp2 p hp).nc,hL2,by omega,hp2⟩
 .have c5b:(kind==5)=false:=by simpa using c5
  by_cases c6:kind=6
  .subst c6
   obtain⟨ps,L2,e2,hL2,hl2,hp2⟩:=h3 L1 rest d many hL1 hm d1 d3 q0 (by omega)
   simp[e1,v1,w1,hk,e2]
   exact⟨ps,L2,⟨rfl,rfl⟩,λp hp=>(hp2 p hp).nc,hL2,by omega,hp2⟩
  .have c6b:(kind==6)=false:=by simpa using c6
   by_cases c7:kind=7
   .subst c7
    obtain⟨p,e2,hp⟩:=h4 x d 2 0 (some (L1.map .int)::rest) hm.dr hx d1 d3 (by decide) (by decide) (by decide) (by decide)
    have em:cu (.lst [p]) (.int many) (some (L1.map .int)::rest)=some (.lst (List.replicate many.toNat [p]).flatten,some (L1.map .int)::rest):=if_pos ⟨by omega,by omega,by
     simp only[List.length_cons,List.length_nil]
     exact Zl (by omega:_<=1000) (by decide)⟩
    simp[e1,v1,w1,hk,e2,em]
    have hps:∀q∈List.replicate many.toNat p,ou d.toNat q:=λq hq=>by rw[(List.mem_replicate.mp hq).2];exact hp
    exact⟨_,L1,⟨rfl,rfl⟩,λq hq=>(hps q hq).nc,hL1,by simp;omega,hps⟩
   .have c7b:(kind==7)=false:=by simpa using c7
    simp[e1,v1,w1,hk,c5b,c6b,c7b,wG (j:=many) (by omega) (by omega)]
    refine dH (λits δ μ'=>∃(L:List Int)(acc:List D)(o7 o8:Option D),μ'=some (L.map .int)::(rest++[some acc])/\DlD L/\(∀p∈acc,ou d.toNat p)/\acc.length+its.length=many.toNat/\
     δ=[some (.cell 0),some (.int d),some (.int most),some (.int x),some (.int many),some (.int kind),some (.cell (rest.length+1)),o7,o8]) ?_ ?_ _ _ _ ⟨L1,[],none,none,rfl,hL1,by simp,by simp[jd],rfl⟩
    .rintro i its δ μ' ⟨L,acc,o7,o8,rfl,hL,ha,hl,rfl⟩
     obtain⟨y,M3,e3,hy,hM3⟩:=fX h1 hL (rest++[some acc])
     have hz:acc.length<sizeLine:=Zc (by omega:acc.length<1000) (by decide)
     have fin:∀p,ou d.toNat p->∃(L:List Int)(acc':List D),some (M3.map D.int)::(rest++[some (acc++[p])])=some (L.map .int)::(rest++[some acc'])/\DlD L/\(∀p∈acc',ou d.toNat p)/\acc'.length+its.length=many.toNat:=λp hp=>by
      refine⟨M3,acc++[p],rfl,hM3,λq hq=>?_,by simp at hl ⊢;omega⟩
      rcases Zm.mp hq with z|z
      .exact ha q z
      .rw[List.mem_singleton.mp z];exact hp
     obtain⟨pu,pd⟩:=ym ha
     have en:=Py (n:=rest.length+1) (ps:=acc) (μ:=some (M3.map .int)::(rest++[some acc])) (by simp) pu (by omega)
     have t3:=bw (x:=y) (m:=3) (by decide)
     have t5:=bw (x:=y) (m:=5) (by decide)
     have dv3:=pD (i:=y) (j:=3) (μ:=some (M3.map .int)::(rest++[some acc])) (by decide) (by decide)
     have dv7:=pD (i:=y) (j:=7) (μ:=some (M3.map .int)::(rest++[some acc])) (by decide) (by decide)
     have mm:=bH (x:=y.fmod 5) (y:=30) (some (M3.map .int)::(rest++[some acc])) (a:=5) (b:=5) (by unfold Sm;omega) (by unfold Sm;decide) (by decide)
     have kk:0<=(kind.fmod 8).fmod 5/\(kind.fmod 8).fmod 5<=4:=by have:=bw (x:=kind.fmod 8) (m:=5) (by decide);omega
     obtain⟨p,e4,hp⟩:=h4 (y.fdiv 7) d ((kind.fmod 8).fmod 5) (y.fmod 5*30) (some (M3.map .int)::(rest++[some acc])) (jC.dr (λds hd=>by
       rcases Zm.mp hd with z|z
       .exact hm ds z
       .simp at z;subst z;exactλq hq=>(ha q hq).nc)) (by
        have:=hy.1
        have:=hy.2
        refine⟨?_,?_⟩
        .exact(Ld hy.sm hy.1 (by decide)).2
        .have:=nR (x:=y) (y:=7) (by decide);omega) d1 d3 kk.1 kk.2 (by omega) (by omega)
     by_cases ctest:kind=8/\acc≠[]/\y.fmod 3=0
     .obtain⟨k8,hne,y3⟩:=ctest
      subst k8
      have hpos:0<acc.length:=List.length_pos_iff.mpr hne
      obtain⟨i0,i1⟩:=bw (x:=y.fdiv 3) (m:=acc.length) (by omega)
      obtain⟨q,hq,eq⟩:=yS i0 i1
      have wl:=gq (x:=y.fdiv 3) (y:=(acc.length:Int)) (some (M3.map .int)::(rest++[some acc])) (by omega)
      have hemp:acc.isEmpty=false:=by cases acc<;>simp_all
      have olen:cj (.cell (rest.length+1)) (some (M3.map .int)::(rest++[some acc]))=some (.int acc.length,some (M3.map .int)::(rest++[some acc])):=by simp[cj,bI]
      simp[e3,en,hemp,y3,dv3,olen,wl,bI,eq,fQ,gA,hz]
      simpa using fin q (ha q hq)
     .simp[e3]
      by_cases k8:kind=8
      .subst k8
       rw[show((8:Int).fmod 8).fmod 5=0 from rfl]at e4
       simp[en]
       cases hac:acc.isEmpty with
       |true=>
        simp[dv7,mm,e4,fQ,gA,hz]
        simpa using fin p hp
       |false=>
        have y3:¬y.fmod 3=0:=λz=>ctest ⟨rfl,(λz2=>by rw[z2]at hac;cases hac),z⟩
        have y3b:(y.fmod 3==0)=false:=by simpa using y3
        simp[y3b,dv7,mm,e4,fQ,gA,hz]
        simpa using fin p hp
      .have k8b:(kind==8)=false:=by simpa using k8
       simp[k8b,dv7,mm,e4,fQ,gA,hz]
       simpa using fin p hp
    .rintro δ μ' ⟨L,acc,o7,o8,rfl,hL,ha,hl,rfl⟩
     simp
     exact⟨acc,L,⟨rfl,rfl⟩,λp hp=>(ha p hp).nc,hL,by simp at hl;omega,ha⟩
theorem Hn{ps:List D}{μ:Mu}(h1:cF ps=true)(h2:fH ps<90):oEq (.lst ps) (.lst []) μ=some (.bl ps.isEmpty,μ):=by
 unfold oEq
 have e1:rsv (.lst ps) μ= .lst ps:=rfl
 have e2:rsv (.lst []) μ= .lst []:=rfl
 rw[e1,e2]
 have e3:bV (.lst ps)=true:=by rw[bV];exact h1
 have e4:bV (.lst [])=true:=by rw[bV,cF]
 have e5:fM (.lst ps)<100:=by rw[fM];omega
 have e6:eqD (.lst ps) (.lst [])=ps.isEmpty:=by cases ps<;>rw[eqD]<;>simp[iR]
 rw[e3,e4,e6,if_pos ⟨rfl,e5⟩]
theorem lA{b:Nat}{x:Int}(n:Nat)(h:x.natAbs<n)(hn:n<=2 ^ b):Sm b x:=Zc h hn
def aN(r:List Int):D:=.tup (r.map .int)
@[simp] theorem Sw{r:List Int}{μ:Mu}:bI (aN r) μ=some (r.map .int):=rfl
@[simp] theorem Ma{r:List Int}{μ:Mu}:cj (aN r) μ=some (.int r.length,μ):=by simp[aN]
def pairD(p:Int×Int):D:=.tup [.int p.1,.int p.2]
theorem lY{α:Type}{F:α->D}{l:List α}{k:Int}{z:α}(h0:0<=k)(h1:k<l.length):atI (l.map F) k=some (F (l.getD k.toNat z))/\l.getD k.toNat z∈l:=by
 have hk:k.toNat<l.length:=by omega
 have e:l.getD k.toNat z=l[k.toNat]:=by simp[List.getD,hk]
 refine⟨?_,by rw[e];exact List.getElem_mem hk⟩
 unfold atI ixN
 rw[if_pos h0,if_pos (by simpa using h1),e]
 simp[hk]
theorem lQ{α β:Type}{F:α->D}{G:β->D}:∀(a:List α)(b:List β),jE (a.map F) (b.map G)=(a.zip b).map λp=>.tup [F p.1,G p.2]
 | [],_=>by simp[jE]
 |a::as,[]=>by simp[jE]
 |a::as,b::bs=>by simp[jE,lQ as bs]
theorem vB{α:Type}{th:D->iz}{F:α->D}{g:α->Int}{μ:Mu}:∀(l:List α)(a:Int),(∀x∈l,th (F x) μ=some (.int (g x),μ))->Ao a ((l.map F).map th) μ=some (a+(l.map g).sum,μ)
 | [],a,_=>by simp[Ao]
 |x::l,a,h=>by
  have h1:=h x (by simp)
  have ih:=vB l (a+g x) λy hy=>h y (by simp[hy])
  rw[Zj,Zj]
  unfold Ao
  rw[h1]
  simp only[Option.bind_some]
  rw[ih]
  simp
  omega
theorem jD{α:Type}{all:List D}{h:GF}{fe:EF}{δb:En}{F:α->D}{f:α->D}{μ:Mu}:∀(l:List α),(∀x∈l,∃δ1,h (F x) δb μ=some δ1/\fe δ1 μ=some (f x,μ))->lcL ⟨all,none⟩ h cN fe δb (l.map F) μ=some (l.map f,μ)
 | [],_=>by simp only[List.map_nil];unfold lcL;simp[cB]
 |d::r,hd=>by
  obtain⟨δ1,h1,h2⟩:=hd d (by simp)
  have h3:=jD (all:=all) r λx hx=>hd x (by simp[hx])
  rw[Zj]
  unfold lcL
  simp[cB,h1,cN,h2,h3]
def pM:Int->List Int->Int
 |m,[]=>m
 |m,b::bs=>pM (m*b.fdiv (Int.gcd m b)) bs
theorem oJ{m b:Int}(hm:1<=m)(hb:1<=b):1<=(Int.gcd m b:Int)/\((Int.gcd m b:Int) ∣ b)/\((Int.gcd m b:Int) ∣ m)/\(Int.gcd m b:Int)<=b:=by
 have h0:Int.gcd m b≠0:=by
  intro z
  rw[Int.gcd_eq_zero_iff]at z
  omega
 refine⟨by omega,Int.gcd_dvd_right _ _,Int.gcd_dvd_left _ _,Int.le_of_dvd (by omega) (Int.gcd_dvd_right _ _)⟩
theorem qQ{m b:Int}(hm:1<=m)(hb:1<=b):1<=b.fdiv (Int.gcd m b)/\b.fdiv (Int.gcd m b)<=b/\(m*b).fdiv (Int.gcd m b)=m*b.fdiv (Int.gcd m b)/\b ∣ m*b.fdiv (Int.gcd m b):=by
 obtain⟨g1,g2,g3,g4⟩:=oJ hm hb
 generalize (Int.gcd m b:Int)=g at *
 rw[Int.fdiv_eq_ediv_of_nonneg b (by omega),Int.fdiv_eq_ediv_of_nonneg (m*b) (by omega)]
 refine⟨(Int.le_ediv_iff_mul_le (by omega)).mpr (by omega),Int.ediv_le_self _ (by omega),Int.mul_ediv_assoc m g2,?_⟩
 obtain⟨c,hc⟩:=g3
 obtain⟨e,he⟩:=g2
 have:b / g=e:=by rw[he];exact Int.mul_ediv_cancel_left e (by omega)
 rw[this,hc,he]
 exact⟨c,by rw[Int.mul_assoc,Int.mul_comm c e,<-Int.mul_assoc]⟩
theorem JN:∀(bs:List Int)(m:Int),1<=m->(∀b∈bs,1<=b/\b<64)->1<=pM m bs/\(m ∣ pM m bs)/\(∀b∈bs,b ∣ pM m bs)/\∀k,Sm k m->Sm (k+6*bs.length) (pM m bs)
 | [],m,hm,_=>⟨hm,Int.dvd_refl _,by simp,λk h=>h⟩
 |b::bs,m,hm,hb=>by
  obtain⟨b1,b2⟩:=hb b (by simp)
  obtain⟨f1,f2,f3,f4⟩:=qQ hm b1
  have hm':1<=m*b.fdiv (Int.gcd m b):=by
   have:=Int.mul_le_mul hm f1 (by decide) (by omega)
   omega
  obtain⟨h1,h2,h3,h4⟩:=JN bs (m*b.fdiv (Int.gcd m b)) hm' λc hc=>hb c (by simp[hc])
  show 1<=pM (m*b.fdiv (Int.gcd m b)) bs/\_
  refine⟨h1,Int.dvd_trans (Int.dvd_mul_right _ _) h2,λc hc=>?_,λk hk=>?_⟩
  .rcases Zi.mp hc with z|z
   .rw[z];exact Int.dvd_trans f4 h2
   .exact h3 c z
  .have:=h4 (k+6) (gV hk (lA 64 (by omega) (by decide)))
   refine cZ this ?_
   simp only[List.length_cons]
   omega
def Ip(φ:FF):Prop:=∀(bs:List Int)(μ:Mu),(∀b∈bs,1<=b/\b<64)->bs.length<=100->φ [.lst (bs.map .int)] μ=some (.int (pM 1 bs),μ)
theorem Mi{φ:FF}(hφ:nW φ):Ip (trunc (aH 3 (bM φ))):=λbs μ hb hl=>by
 apply bW
 unfold bM
 simp
 refine dH (λits δ μ'=>∃(ms:List Int)(m:Int)(o:Option D)(k:Nat),its=ms.map .int/\μ'=μ/\pM m ms=pM 1 bs/\1<=m/\Sm k m/\k+6*ms.length<=700/\(∀b∈ms,1<=b/\b<64)/\δ=[some (.lst (bs.map .int)),some (.int m),o]) ?_ ?_ _ _ _ ⟨bs,1,none,1,rfl,rfl,rfl,by decide,by unfold Sm;decide,by omega,hb,rfl⟩
 .rintro d rest δ μ' ⟨ms,m,o,k,hi,rfl,hm,m1,hk,hkl,hb,rfl⟩
  cases ms with
  |nil=>cases hi
  |cons b ms=>
   cases hi
   obtain⟨b1,b2⟩:=hb b (by simp)
   obtain⟨g1,g2,g3,g4⟩:=oJ m1 b1
   obtain⟨f1,f2,f3,f4⟩:=qQ m1 b1
   have sb:Sm 6 (b.fdiv (Int.gcd m b)):=lA 64 (by omega) (by decide)
   have eg:=hφ m b μ'
   have ed:=fU (x:=b) (y:=(Int.gcd m b:Int)) (b:=6) μ' (by omega) (lA 64 (by omega) (by decide)) (by decide)
   have em:=By (i:=m) (j:=b.fdiv (Int.gcd m b)) (μ:=μ') (vV hk sb (by simp at hkl;omega))
   simp only[List.length_cons]at hkl
   simp[Cr,eg,ed,em]
   refine⟨ms,rfl,_,hm,?_,_,k+6,gV hk sb,by omega,λc hc=>hb c (List.mem_cons_of_mem _ hc),rfl,rfl⟩
   have:=Int.mul_le_mul m1 f1 (by decide) (by omega)
   omega
 .rintro δ μ' ⟨ms,m,o,k,hi,rfl,hm,m1,hk,hkl,hb,rfl⟩
  cases ms with
  |nil=>
   have hm:m=pM 1 bs:=hm
   subst hm
   simp
  |cons b ms=>cases hi
def dot(ws cs:List Int):Int:=((ws.zip cs).map λp=>p.1*p.2).sum
def JS(φ:FF):Prop:=∀(ws cs:List Int)(μ:Mu),(∀w∈ws,Sm 9000 w)->(∀c∈cs,Sm 9000 c)->φ [.lst (ws.map .int),.lst (cs.map .int)] μ=some (.int (dot ws cs),μ)
theorem RV:JS (trunc (aH 2 aX)):=λws cs μ hw hc=>by
 apply bW
 have e:=vB (th:=thG (iu 2 (bz (hName 0) (bz (hName 1) ir))) (M2 (aq 0) (aq 1) cu) (cW ["one","other"] [some (.lst (ws.map .int)),some (.lst (cs.map .int))] [])) (F:=λp:Int×Int=>.tup [D.int p.1,.int p.2]) (g:=λp=>p.1*p.2) (μ:=μ) (ws.zip cs) 0 λp hp=>by
  obtain⟨p1,p2⟩:=p
  have hm:=List.of_mem_zip hp
  have:=bH (x:=p1) (y:=p2) μ (hw _ hm.1) (hc _ hm.2) (by decide)
  simp[thG,cW,this]
 have ez:=lQ (F:=D.int) (G:=D.int) ws cs
 unfold dot
 simp[aX,ez]
 rw[List.map_map]at e
 rw[e]
 simp
def bQ(r:List Int):Int:=r.getLastD 0
def wts(M:Int)(rs:List (List Int))(ss:List Int):List Int:=(ss.zip rs).map λp=>p.1*M.fdiv (bQ p.2)
def col(rs:List (List Int))(i:Nat):List Int:=rs.map λr=>r.getD i 0
def gH(rs:List (List Int)):Int:=pM 1 (rs.map bQ)
def jn(d1:Nat)(rs:List (List Int))(ss:List Int):List Int:=(List.range d1).map λi=>dot (wts (gH rs) rs ss) (col rs i)
def tM(v:List Int):List Int:=v.map λn=>n.fdiv (bT 0 v:Nat)
structure fG(d1:Nat)(r:List Int):Prop where
 len:r.length=d1
 sm:∀n∈r,n.natAbs<=10000
 b1:1<=bQ r
 b2:bQ r<64
theorem PtL.row{d:Nat}{ns:List Int}{b:Int}(h:PtL d ns b):fG (d+1) (ns++[b]):=⟨by simp[h.1],λn hn=>by
 rcases Zm.mp hn with z|z
 .exact h.2.1 n z
 .rw[List.mem_singleton.mp z];have:=h.2.2;omega,by unfold bQ;simp;exact h.2.2.1,by unfold bQ;simp;have:=h.2.2.2;omega⟩
theorem qF{d1:Nat}{r:List Int}(h:fG d1 r)(hd:1<=d1):atI (r.map D.int) (-1)=some (.int (bQ r)):=wH (λz=>by have:=h.len;rw[z]at this;simp at this;omega)
theorem qH{d1:Nat}{rs:List (List Int)}(h:∀r∈rs,fG d1 r):1<=gH rs/\(∀r∈rs,bQ r ∣ gH rs)/\Sm (1+6*rs.length) (gH rs):=by
 obtain⟨h1,_,h3,h4⟩:=JN (rs.map bQ) 1 (by decide) λb hb=>by
  obtain⟨r,hr,rfl⟩:=Zq.mp hb
  exact⟨(h r hr).b1,(h r hr).b2⟩
 refine⟨h1,λr hr=>h3 _ (Zq.mpr ⟨r,hr,rfl⟩),?_⟩
 have:=h4 1 (by unfold Sm;decide)
 rw[Zu]at this
 exact this
def Hv(φ:FF):Prop:=∀(d1:Nat)(rs:List (List Int))(ss:List Int)(μ:Mu),1<=d1->(∀r∈rs,fG d1 r)->rs.length<=60->ss.length<=60->(∀s∈ss,Sm 3000 s)->φ [.lst (rs.map aN),.lst (ss.map .int)] μ=some (.lst ((wts (gH rs) rs ss).map .int),μ)
theorem over_of{φ:FF}(hφ:Ip φ):Hv (trunc (aH 3 (eY φ))):=λd1 rs ss μ hd hr hl hl2 hs=>by
 apply bW
 have e1:=jD (all:=rs.map aN) (h:=hName 0) (fe:=M2 (aq 0) (M1 (mC (.int 1)) gR) oIx) (δb:=cW ["point"] [some (.lst (rs.map aN)),some (.lst (ss.map .int)),none] []) (F:=aN) (f:=λr=>.int (bQ r)) (μ:=μ) rs λr h=>⟨_,rfl,by simp[cW,qF (hr r h) hd]⟩
 have e1':rs.map (λr=>D.int (bQ r))=(rs.map bQ).map D.int:=by simp
 rw[e1']at e1
 have e2:=hφ (rs.map bQ) μ (λb hb=>by
  obtain⟨r,h,rfl⟩:=Zq.mp hb
  exact⟨(hr r h).b1,(hr r h).b2⟩) (by simp;omega)
 obtain⟨hM1,hM2,hM3⟩:=qH hr
 have e3:=jD (all:=(ss.zip rs).map λp=>D.tup [.int p.1,aN p.2]) (h:=iu 2 (bz (hName 0) (bz (hName 1) ir))) (fe:=M2 (aq 0) (M2 (aq 2) (M2 (aq 1) (M1 (mC (.int 1)) gR) oIx) oDiv) cu) (δb:=cW ["number","point"] [some (.lst (rs.map aN)),some (.lst (ss.map .int)),some (.int (gH rs))] [2]) (F:=λp:Int×List Int=>D.tup [.int p.1,aN p.2]) (f:=λp=>.int (p.1*(gH rs).fdiv (bQ p.2))) (μ:=μ) (ss.zip rs) λp hp=>by
  obtain⟨s,r⟩:=p
  have hm:=List.of_mem_zip hp
  have hrr:=hr r hm.2
  have ed:=fU (x:=gH rs) (y:=bQ r) (b:=6) μ (by have:=hrr.b1;omega) (lA 64 (by have:=hrr.b1;have:=hrr.b2;omega) (by decide)) (by decide)
  have em:=bH (x:=s) (y:=(gH rs).fdiv (bQ r)) (a:=3000) (b:=1+6*rs.length) μ (hs s hm.1) (fP hM3 (by have:=hrr.b1;omega)) (by omega)
  refine⟨[some (.int s),some (aN r),some (.int (gH rs))],by simp[cW],?_⟩
  simp[qF hrr hd,ed,em]
 have ez:=lQ (F:=D.int) (G:=aN) ss rs
 have e3':(ss.zip rs).map (λp=>D.int (p.1*(gH rs).fdiv (bQ p.2)))=(wts (gH rs) rs ss).map D.int:=by unfold wts;simp
 rw[e3']at e3
 have hz1:rs.length<=1000:=by omega
 have hz2:(ss.zip rs).length<=1000:=by simp;omega
 have e2':φ [.lst ((rs.map bQ).map D.int)] μ=some (.int (gH rs),μ):=e2
 generalize (rs.map bQ).map D.int=bD at *
 generalize (wts (gH rs) rs ss).map D.int=wD at *
 unfold eY
 simp only[List.length_zip]at hz2
 simp[hz1,hz2,e1,e2',ez,e3]
theorem DR{d1:Nat}{rs:List (List Int)}{i:Nat}(h:∀r∈rs,fG d1 r)(hi:i<d1):∀c∈col rs i,c.natAbs<=10000:=λc hc=>by
 obtain⟨r,hr,rfl⟩:=Zq.mp hc
 have hl:=(h r hr).len
 have hk:i<r.length:=by omega
 have:r.getD i 0=r[i]:=by simp[List.getD,hk]
 rw[this]
 exact(h r hr).sm _ (List.getElem_mem hk)
def xG(φ:FF):Prop:=∀(d1:Nat)(rs:List (List Int))(ws:List Int)(μ:Mu),1<=d1->d1<=100->rs≠[]->(∀r∈rs,fG d1 r)->rs.length<=60->(∀w∈ws,Sm 9000 w)->φ [.lst (rs.map aN),.lst (ws.map .int)] μ=some (.lst (((List.range d1).map λi=>dot ws (col rs i)).map .int),μ)
theorem yr{φ:FF}(hφ:JS φ){d1:Nat}{rs:List (List Int)}{ws:List Int}{μ:Mu}(hr:∀r∈rs,fG d1 r)(hz1:rs.length<=1000)(hw:∀w∈ws,Sm 9000 w)(i:Nat)(hi:i<d1):
  MC (ao (aq 1) (ao (mFz (lLC ["row"] [0] (dC (aq 2)) (hName 0) (cN) (M2 (aq 0) (aq 1) oIx))) (aC))) φ [some (.int (0+(i:Int))),some (.lst (ws.map .int)),some (.lst (rs.map aN))] μ=some (.int (dot ws (col rs i)),μ):=by
 have e1:=jD (all:=rs.map aN) (h:=hName 0) (fe:=M2 (aq 0) (aq 1) oIx) (δb:=[none,some (.int (0+(i:Int)))]) (F:=aN) (f:=λr=>.int (r.getD i 0)) (μ:=μ) rs λr h=>⟨_,rfl,by
  have hk:((0:Int)+i)<r.length:=by have:=(hr r h).len;omega
  obtain⟨a1,_⟩:=ju (ys:=r) (k:=0+(i:Int)) (by omega) hk
  have:(0+(i:Int)).toNat=i:=by omega
  rw[this]at a1
  generalize r.getD i 0=z at *
  generalize (0+(i:Int))=j at *
  simp[a1]⟩
 have e1':rs.map (λr=>D.int (r.getD i 0))=(col rs i).map D.int:=by unfold col;simp
 rw[e1']at e1
 have e2:=hφ ws (col rs i) μ hw λc hc=>cZ (lA (b:=14) 10001 (by have:=DR hr hi c hc;omega) (by decide)) (by decide)
 generalize (col rs i).map D.int=cD at *
 generalize dot ws (col rs i)=z at *
 generalize (0+(i:Int))=j at *
 simp[hz1,cW,e1,e2]
theorem Jh{F:EF}{δ:En}{μ:Mu}{k:Int}(h0:0<=k)(h1:k<=100000)(a:F δ μ=some (.int k,μ)):bK (ao F aC) δ μ=some (⟨cL 0 k.toNat,none⟩,μ):=by
 have rr:=wG (j:=k) (μ:=μ) (by omega) (by omega)
 rw[Qk,BR,a]
 simp only[Option.bind_some,Jc]
 exact rr
theorem Jg{F:EF}{δ:En}{μ:Mu}{r:List Int}{d1:Nat}(hl:r.length=d1)(a:F δ μ=some (aN r,μ)):MC (ao F aC) (bu cj) δ μ=some (.int d1,μ):=by
 rw[Vj,BR,a]
 simp only[Option.bind_some,Jc,Oq,Ma,hl]
theorem CK{φ:FF}(hφ:JS φ):xG (trunc (aH 2 (jX φ))):=λd1 rs ws μ hd hd2 hne hr hl hw=>by
 apply bW
 have hz1:rs.length<=1000:=by omega
 have e3:=jD (all:=cL 0 d1) (h:=hName 0) (fe:=MC (ao (aq 1) (ao (mFz (lLC ["row"] [0] (dC (aq 2)) (hName 0) (cN) (M2 (aq 0) (aq 1) oIx))) (aC))) φ) (δb:=cW ["at"] [some (.lst (rs.map aN)),some (.lst (ws.map .int))] [1,0]) (F:=λi:Nat=>D.int (0+(i:Int))) (f:=λi=>.int (dot ws (col rs i))) (μ:=μ) (List.range d1) λi hi=>
  ⟨[some (.int (0+(i:Int))),some (.lst (ws.map .int)),some (.lst (rs.map aN))],by simp[cW],yr hφ hr hz1 hw i (List.mem_range.mp hi)⟩
 have e3':(List.range d1).map (λi=>D.int (dot ws (col rs i)))=((List.range d1).map λi=>dot ws (col rs i)).map D.int:=by simp
 rw[e3']at e3
 have er:(List.range d1).map (λi:Nat=>D.int (0+(i:Int)))=cL 0 d1:=rfl
 rw[er]at e3
 have h0:∃r0,atI (rs.map aN) 0=some (aN r0)/\r0∈rs:=by
  obtain⟨a,b⟩:=lY (F:=aN) (l:=rs) (k:=0) (z:=[]) (by decide) (by have:=List.length_pos_iff.mpr hne;omega)
  exact⟨_,a,b⟩
 obtain⟨r0,a0,hr0⟩:=h0
 have hlen0:=(hr r0 hr0).len
 generalize ((List.range d1).map λi=>dot ws (col rs i)).map D.int=wD at *
 have it:bK (ao (MC (ao (M2 (aq 0) (mC (.int 0)) oIx) (aC)) (bu cj)) (aC)) [some (.lst (rs.map aN)),some (.lst (ws.map .int))] μ=some (⟨cL 0 d1,none⟩,μ):=by
  have:=Jh (k:=(d1:Int)) (by omega) (by omega) (Jg (F:=M2 (aq 0) (mC (.int 0)) oIx) (δ:=[some (.lst (rs.map aN)),some (.lst (ws.map .int))]) (μ:=μ) hlen0 (by simp[a0]))
  rwa[show((d1:Int)).toNat=d1 by omega]at this
 have hz2:(cL 0 d1).length<=sizeLine:=by rw[jd];exact Zl (by omega:_<=1000) (by decide)
 unfold jX
 generalize bK (ao (MC (ao (M2 (aq 0) (mC (.int 0)) oIx) (aC)) (bu cj)) (aC))=IT at it ⊢
 simp[it,hz2,e3]
def rowsOf(ps:List (List Int))(sh:List (Int×Int)):List (List Int):=sh.map λx=>ps.getD x.1.toNat []
def Hf(n:Nat)(sh:List (Int×Int)):Prop:=∀x∈sh,0<=x.1/\x.1<n/\1<=x.2/\Sm 2000 x.2
theorem qY{d1:Nat}{ps:List (List Int)}{sh:List (Int×Int)}(hp:∀p∈ps,fG d1 p)(hs:Hf ps.length sh):∀r∈rowsOf ps sh,fG d1 r:=λr hr=>by
 obtain⟨x,hx,rfl⟩:=Zq.mp hr
 obtain⟨h0,h1,_⟩:=hs x hx
 exact hp _ (lY (F:=aN) (l:=ps) (k:=x.1) (z:=[]) h0 h1).2
theorem Bq{w c:Int}{ws cs:List Int}:dot (w::ws) (c::cs)=w*c+dot ws cs:=by unfold dot;simp
theorem Ax(M:Int):∀(rs:List (List Int))(ss:List Int),rs.length=ss.length->(∀r∈rs,1<=bQ r/\bQ r ∣ M)->dot (wts M rs ss) (rs.map bQ)=M*ss.sum
 | [],ss,h,_=>by
  have:ss=[]:=List.eq_nil_of_length_eq_zero (by simpa using h.symm)
  subst this
  simp[dot,wts]
 |r::rs,[],h,_=>by simp at h
 |r::rs,s::ss,h,hr=>by
  have ih:=Ax M rs ss (by simpa using h) λx hx=>hr x (by simp[hx])
  obtain⟨b1,b2⟩:=hr r (by simp)
  have e1:wts M (r::rs) (s::ss)=s*M.fdiv (bQ r)::wts M rs ss:=by simp[wts]
  rw[e1,Zj,Bq,ih,List.sum_cons,Int.mul_add]
  congr 1
  rw[Int.fdiv_eq_ediv_of_nonneg M (by omega),Int.mul_assoc,Int.ediv_mul_cancel b2,Int.mul_comm]
theorem Ja{d1:Nat}{rs:List (List Int)}(hd:1<=d1)(h:∀r∈rs,fG d1 r):col rs (d1-1)=rs.map bQ:=by
 unfold col
 apply List.map_congr_left
 intro r hr
 have hl:=(h r hr).len
 have hne:r≠[]:=λz=>by rw[z]at hl;simp at hl;omega
 unfold bQ
 rw[List.getLastD_eq_getLast?,List.getLast?_eq_getElem?,hl]
 rfl
theorem BK:∀(ss:List Int)(k:Nat),(∀s∈ss,1<=s/\Sm k s)->(0<=ss.sum/\(ss≠[]->1<=ss.sum))/\ss.sum.natAbs<=ss.length*2 ^ k
 | [],k,_=>by simp
 |s::ss,k,h=>by
  obtain⟨h1,h2⟩:=h s (by simp)
  obtain⟨⟨i1,i2⟩,i3⟩:=BK ss k λx hx=>h x (by simp[hx])
  rw[List.sum_cons,List.length_cons,Nat.succ_mul]
  refine⟨⟨by omega,λ_=>by omega⟩,?_⟩
  unfold Sm at h2
  have:=Int.natAbs_add_le s ss.sum
  omega
structure Tg(d1:Nat)(rs:List (List Int))(ss:List Int):Prop where
 v:(jn d1 rs ss).length=d1
 lst:(jn d1 rs ss).getLastD 0=gH rs*ss.sum
 pos:1<=gH rs*ss.sum
 sm:Sm 3000 (gH rs*ss.sum)
 g0:bT 0 (jn d1 rs ss)≠0
 gs:Sm 3000 (bT 0 (jn d1 rs ss):Nat)
theorem Dc{d1:Nat}{rs:List (List Int)}{ss:List Int}(hd:1<=d1)(hr:∀r∈rs,fG d1 r)(hl:rs.length=ss.length)(h60:rs.length<=60)(hne:rs≠[])(hs:∀s∈ss,1<=s/\Sm 2000 s):Tg d1 rs ss:=by
 obtain⟨M1',M2',M3'⟩:=qH hr
 have el:=Ax (gH rs) rs ss hl λr h=>⟨(hr r h).b1,M2' r h⟩
 obtain⟨⟨s0,s1⟩,s2⟩:=BK ss 2000 hs
 have sne:ss≠[]:=λz=>by rw[z]at hl;exact hne (List.eq_nil_of_length_eq_zero (by simpa using hl))
 have sp:=s1 sne
 have ssm:Sm 2006 ss.sum:=by
  unfold Sm
  have:ss.length*2 ^ 2000<2 ^ 6*2 ^ 2000:=Nat.mul_lt_mul_of_pos_right (by omega) (Nat.two_pow_pos _)
  rw[<-Nat.pow_add]at this
  omega
 have hpos:1<=gH rs*ss.sum:=by
  have:=Int.mul_le_mul M1' sp (by decide) (by omega)
  omega
 have hsm:Sm 3000 (gH rs*ss.sum):=cZ (gV M3' ssm) (by omega)
 have hlast:(jn d1 rs ss).getLastD 0=gH rs*ss.sum:=by
  unfold jn
  rw[List.getLastD_eq_getLast?,List.getLast?_map,List.getLast?_range,if_neg (by omega)]
  simp only[Option.map_some,Option.getD_some]
  rw[Ja hd hr,el]
 have hmem:gH rs*ss.sum∈jn d1 rs ss:=by
  rw[<-hlast]
  have hne':jn d1 rs ss≠[]:=by unfold jn;simp;omega
  rw[List.getLastD_eq_getLast?,List.getLast?_eq_some_getLast hne']
  exact List.getLast_mem hne'
 have hg0:bT 0 (jn d1 rs ss)≠0:=qT (.inr ⟨_,hmem,by omega⟩)
 refine⟨by unfold jn;simp,hlast,hpos,hsm,hg0,?_⟩
 have:=Ng (g:=0) hmem (by omega)
 unfold Sm at *
 simp only[Int.natAbs_natCast]
 omega
def yf(φ:FF):Prop:=∀(d1:Nat)(ps:List (List Int))(sh:List (Int×Int))(μ:Mu),1<=d1->d1<=10->(∀p∈ps,fG d1 p)->sh≠[]->sh.length<=60->Hf ps.length sh->φ [.lst (ps.map aN),.tup (sh.map pairD)] μ=some (aN (tM (jn d1 (rowsOf ps sh) (sh.map (·.2)))),μ)
theorem JC{φ1 φ2 φ3:FF}(h1:Hv φ1)(h2:xG φ2)(h3:Dt φ3):yf (trunc (aH 4 (oN φ1 φ2 φ3))):=λd1 ps sh μ hd hd2 hp hne hl hs=>by
 apply bW
 have hr:=qY hp hs
 have hss:∀s∈sh.map (·.2),1<=s/\Sm 2000 s:=λs h=>by
  obtain⟨x,hx,rfl⟩:=Zq.mp h
  exact⟨(hs x hx).2.2.1,(hs x hx).2.2.2⟩
 have hlr:(rowsOf ps sh).length=(sh.map (·.2)).length:=by unfold rowsOf;simp
 have hl60:(rowsOf ps sh).length<=60:=by unfold rowsOf;simp;exact hl
 have hrne:rowsOf ps sh≠[]:=by unfold rowsOf;simpa using hne
 have mo:=Dc hd hr hlr hl60 hrne hss
 obtain⟨M1',M2',M3'⟩:=qH hr
 have e1:=jD (all:=sh.map pairD) (h:=iu 2 (bz (hName 0) (bz (hName 1) ir))) (fe:=M2 (aq 2) (aq 0) oIx) (δb:=[none,none,some (.lst (ps.map aN))]) (F:=pairD) (f:=λx=>aN (ps.getD x.1.toNat [])) (μ:=μ) sh λx hx=>by
  obtain⟨k,s⟩:=x
  obtain⟨k0,k1,_⟩:=hs _ hx
  refine⟨[some (.int k),some (.int s),some (.lst (ps.map aN))],by simp[pairD],?_⟩
  have:=(lY (F:=aN) (l:=ps) (k:=k) (z:=[]) k0 k1).1
  simp only at this ⊢
  generalize ps.getD k.toNat []=r at *
  simp[this]
 have e1':sh.map (λx=>aN (ps.getD x.1.toNat []))=(rowsOf ps sh).map aN:=by unfold rowsOf;simp
 rw[e1']at e1
 have e2:=jD (all:=sh.map pairD) (h:=iu 2 (bz (hName 0) (bz (hName 1) ir))) (fe:=aq 1) (δb:=[none,none]) (F:=pairD) (f:=λx=>.int x.2) (μ:=μ) sh λx hx=>⟨[some (.int x.1),some (.int x.2)],by simp[pairD],by simp⟩
 have e2':sh.map (λx=>D.int x.2)=(sh.map (·.2)).map D.int:=by simp
 rw[e2']at e2
 generalize sh.map (·.2)=ss at *
 generalize rowsOf ps sh=rs at *
 have e3:=h1 d1 rs ss μ hd hr hl60 (by omega) (λs h=>cZ (hss s h).2 (by decide))
 have hw:∀w∈wts (gH rs) rs ss,Sm 9000 w:=λw hw=>by
  obtain⟨⟨s,r⟩,hx,rfl⟩:=Zq.mp hw
  have hm:=List.of_mem_zip hx
  exact cZ (gV (hss s hm.1).2 (fP M3' (show 0<bQ r by have:=(hr r hm.2).b1;omega))) (by omega)
 have e4:=h2 d1 rs (wts (gH rs) rs ss) μ hd (by omega) hrne hr hl60 hw
 have e5:=h3 (jn d1 rs ss) μ mo.g0 (cZ mo.gs (by decide)) (by rw[mo.v];omega)
 have e5':(jn d1 rs ss).map (λn=>D.int (n.fdiv (bT 0 (jn d1 rs ss):Nat)))=(tM (jn d1 rs ss)).map D.int:=by unfold tM;simp
 rw[e5']at e5
 have e4':φ2 [.lst (rs.map aN),.lst ((wts (gH rs) rs ss).map .int)] μ=some (.lst ((jn d1 rs ss).map .int),μ):=e4
 generalize (jn d1 rs ss).map D.int=vD at *
 generalize (wts (gH rs) rs ss).map D.int=wD at *
 have hz:sh.length<=1000:=by omega
 unfold oN
 simp[hz,cW,e1,e2,e3,e4',e5,aN]
@[simp] theorem Ss{μ:Mu}{ds:List D}:bI (.cell μ.length) (μ++[some ds])=some ds:=by unfold bI;simp
def fnL(d:Nat)(g:Nat->Int):List D:=((List.range d).map g).map D.int
theorem yw{d:Nat}{g:Nat->Int}:(fnL d g).length=d:=by unfold fnL;simp
theorem QG{d:Nat}{g:Nat->Int}{j:Nat}(h:j<d):atI (fnL d g) (0+(j:Int))=some (.int (g j)):=by
 unfold atI ixN
 rw[if_pos (by omega),if_pos (by rw[yw];omega)]
 have:(0+(j:Int)).toNat=j:=by omega
 simp only[Option.bind_some,this]
 unfold fnL
 simp[h]
theorem Qh{d:Nat}{g:Nat->Int}{j:Nat}(h:j<d):ixN (fnL d g).length (0+(j:Int))=some j:=by
 unfold ixN
 rw[if_pos (by omega),if_pos (by rw[yw];omega)]
 congr 1
 omega
theorem Kv{d:Nat}{g:Nat->Int}{j:Nat}{x:Int}:(fnL d g).set j (.int x)=fnL d (λi=>if i=j then x else g i):=by
 unfold fnL
 apply List.ext_getElem
 .simp
 intro i h1 h2
 simp at h1 h2
 rw[List.getElem_set]
 by_cases e:j=i
 .subst e;simp
 .have e':¬i=j:=λz=>e z.symm
  simp[e,e']
theorem Gw{d:Nat}{g g':Nat->Int}(h:∀i<d,g i=g' i):fnL d g=fnL d g':=by
 unfold fnL
 congr 1
 apply List.map_congr_left
 intro i hi
 exact h i (List.mem_range.mp hi)
theorem qz{d j:Nat}(h:j<d):(cL 0 d).drop j=D.int (0+(j:Int))::(cL 0 d).drop (j+1):=by
 unfold cL
 rw[<-List.map_drop,<-List.map_drop,List.drop_eq_getElem_cons (by simpa using h)]
 simp
theorem Eu{d j:Nat}(h:d<=j):(cL 0 d).drop j=[]:=List.drop_of_length_le (by rw[jd];exact h)
theorem Lg(ns:List Int)(b:Int):bT 0 (ns++[b])=bT b.natAbs ns:=by
 have:=Ko (s:=1) (b:=b) (ns:=ns) (.inl rfl)
 simpa using this
def rZ(ps:List (List Int))(x:Int×Int):List Int:=ps.getD x.1.toNat []
def term(M:Int)(ps:List (List Int))(i:Nat)(x:Int×Int):Int:=x.2*(rZ ps x).getD i 0*M.fdiv (bQ (rZ ps x))
theorem xK(M:Int)(ps:List (List Int))(i:Nat):∀sh:List (Int×Int),dot (wts M (rowsOf ps sh) (sh.map (·.2))) (col (rowsOf ps sh) i)=(sh.map (term M ps i)).sum
 | []=>by simp[dot,wts,rowsOf,col]
 |x::sh=>by
  have ih:=xK M ps i sh
  have e1:rowsOf ps (x::sh)=rZ ps x::rowsOf ps sh:=rfl
  have e2:wts M (rZ ps x::rowsOf ps sh) (x.2::sh.map (·.2))=x.2*M.fdiv (bQ (rZ ps x))::wts M (rowsOf ps sh) (sh.map (·.2)):=by simp[wts]
  have e3:col (rZ ps x::rowsOf ps sh) i=(rZ ps x).getD i 0::col (rowsOf ps sh) i:=by simp[col]
  rw[e1,Zj,e2,e3,Bq,ih,Zj,List.sum_cons]
  congr 1
  unfold term
  rw[Int.mul_assoc,Int.mul_assoc,Int.mul_comm (M.fdiv _)]
noncomputable abbrev Er:SF:=fV (bK (ao (MC (ao (aq 5) (aC)) (bu cj)) (aC))) (hName 7) (aO (aV 8 (M2 (aq 4) (M2 (M2 (aq 0) (aq 3) oIx) (aq 7) oIx) cu)) (zT (M2 (M2 (aq 5) (aq 7) oIx) (M2 (aq 8) (M2 (aq 2) (M2 (M2 (aq 0) (aq 3) oIx) (M1 (mC (.int 1)) gR) oIx) oDiv) cu) bL) (aq 5) (aq 7)))
theorem RW{d:Nat}{ps:List (List Int)}{M k s t:Int}{μ:Mu}{shD:D}{g:Nat->Int}{o7 o8:Option D}(hd:d<=9)(hp:∀p∈ps,fG (d+1) p)(k0:0<=k)(k1:k<ps.length)(hs:Sm 2000 s)(hM:Sm 400 M):
  ∃p7 p8,Er [some (.lst (ps.map aN)),some shD,some (.int M),some (.int k),some (.int s),some (.cell μ.length),some (.int t),o7,o8] (μ++[some (fnL d g)])=
   some (.nx,[some (.lst (ps.map aN)),some shD,some (.int M),some (.int k),some (.int s),some (.cell μ.length),some (.int t),p7,p8],μ++[some (fnL d λi=>g i+term M ps i (k,s))]):=by
 suffices h:Ok (Er [some (.lst (ps.map aN)),some shD,some (.int M),some (.int k),some (.int s),some (.cell μ.length),some (.int t),o7,o8] (μ++[some (fnL d g)])) (λr=>∃p7 p8,r=
   (.nx,[some (.lst (ps.map aN)),some shD,some (.int M),some (.int k),some (.int s),some (.cell μ.length),some (.int t),p7,p8],μ++[some (fnL d λi=>g i+term M ps i (k,s))])) by
  obtain⟨r,e,p7,p8,h⟩:=h
  exact⟨p7,p8,by rw[e,h]⟩
 obtain⟨ak,hmem⟩:=lY (F:=aN) (l:=ps) (k:=k) (z:=[]) k0 k1
 have hr:=hp _ hmem
 have hrow:rZ ps (k,s)=ps.getD k.toNat []:=rfl
 have hterm:∀i,term M ps i (k,s)=s*(ps.getD k.toNat []).getD i 0*M.fdiv (bQ (ps.getD k.toNat [])):=λi=>rfl
 simp only[hterm]
 generalize ps.getD k.toNat []=r at *
 have hlast:=qF hr (by omega)
 have hlen:cj (.cell μ.length) (μ++[some (fnL d g)])=some (.int (d:Int),μ++[some (fnL d g)]):=by
  unfold cj bI
  simp[yw]
 have it:bK (ao (MC (ao (aq 5) (aC)) (bu cj)) (aC)) [some (.lst (ps.map aN)),some shD,some (.int M),some (.int k),some (.int s),some (.cell μ.length),some (.int t),o7,o8] (μ++[some (fnL d g)])=some (⟨cL 0 d,none⟩,μ++[some (fnL d g)]):=by
  have:=Jh (k:=(d:Int)) (F:=MC (ao (aq 5) (aC)) (bu cj)) (δ:=[some (.lst (ps.map aN)),some shD,some (.int M),some (.int k),some (.int s),some (.cell μ.length),some (.int t),o7,o8]) (μ:=μ++[some (fnL d g)]) (by omega) (by omega) (by
   rw[Vj,BR]
   simp only[yq,yR,Option.bind_some,Jc,Oq]
   exact hlen)
  rwa[show((d:Int)).toNat=d by omega]at this
 unfold Er
 generalize bK (ao (MC (ao (aq 5) (aC)) (bu cj)) (aC))=IT at it ⊢
 rw[JW,it]
 simp only[Option.bind_some]
 refine dH (λits δ μ'=>∃(j:Nat)(g':Nat->Int)(p7 p8:Option D),its=(cL 0 d).drop j/\μ'=μ++[some (fnL d g')]/\(∀i<d,g' i=if i<j then g i+s*r.getD i 0*M.fdiv (bQ r)else g i)/\
  δ=[some (.lst (ps.map aN)),some shD,some (.int M),some (.int k),some (.int s),some (.cell μ.length),some (.int t),p7,p8]) ?_ ?_ _ _ _ ⟨0,g,o7,o8,rfl,rfl,λi _=>by simp,rfl⟩
 .rintro it' rest δ μ' ⟨j,g',p7,p8,hi,rfl,hg,rfl⟩
  have hj:j<d:=by
   by_cases h:j<d
   .exact h
   .rw[Eu (by omega)]at hi;cases hi
  rw[qz hj]at hi
  cases hi
  have hjr:((0:Int)+(j:Int))<r.length:=by have:=hr.len;omega
  obtain⟨aj,hjm⟩:=ju (ys:=r) (k:=0+(j:Int)) (by omega) hjr
  have hto:(0+(j:Int)).toNat=j:=by omega
  rw[hto]at aj hjm
  have gat:=QG (g:=g') hj
  have gix:=Qh (g:=g') hj
  have hsj:=hr.sm _ hjm
  have b1:=hr.b1
  have b2:=hr.b2
  have hgj:=hg j hj
  rw[if_neg (by omega)]at hgj
  generalize hrj:r.getD j 0=rj at *
  have em1:=bH (x:=s) (y:=rj) (μ++[some (fnL d g')]) hs (lA (b:=14) 10001 (by omega) (by decide)) (by decide)
  have ed:=fU (x:=M) (y:=bQ r) (b:=6) (μ++[some (fnL d g')]) (by omega) (lA 64 (by omega) (by decide)) (by decide)
  have em2:=bH (x:=s*rj) (y:=M.fdiv (bQ r)) (μ++[some (fnL d g')]) (gV hs (lA (b:=14) 10001 (by omega) (by decide))) (fP hM (by omega)) (by decide)
  generalize hij:(0+(j:Int))=ij at *
  simp[ak,aj,em1,gat,hlast,ed,em2,L3.Cm,gix,Kv]
  refine⟨j+1,rfl,_,rfl,λi hi=>?_⟩
  by_cases e:i=j
  .subst e
   simp[hgj,<-hrj]
  .have:=hg i hi
   simp only[if_neg e]
   rw[this]
   by_cases c:i<j
   .rw[if_pos c,if_pos (by omega)];rfl
   .rw[if_neg c,if_neg (by omega)]
 .rintro δ μ' ⟨j,g',p7,p8,hi,rfl,hg,rfl⟩
  have hj:d<=j:=by
   by_cases h:j<d
   .rw[qz h]at hi;cases hi
   .omega
  refine⟨p7,p8,?_⟩
  rw[Gw (g:=g') (g':=λi=>g i+s*r.getD i 0*M.fdiv (bQ r)) λi hi=>by rw[hg i hi,if_pos (by omega)]]
theorem Gx{M:Int}{ps:List (List Int)}{i:Nat}{x:Int×Int}{sh:List (Int×Int)}:((x::sh).map (term M ps i)).sum=term M ps i x+(sh.map (term M ps i)).sum:=by simp
theorem HH{d1:Nat}{ps:List (List Int)}{k:Int}(hp:∀p∈ps,fG d1 p)(k0:0<=k)(k1:k<ps.length):atI (ps.map aN) k=some (aN (ps.getD k.toNat []))/\fG d1 (ps.getD k.toNat []):=by
 obtain⟨a,b⟩:=lY (F:=aN) (l:=ps) (k:=k) (z:=[]) k0 k1
 exact⟨a,hp _ b⟩
theorem FZ{m b:Int}{bs:List Int}:pM m (b::bs)=pM (m*b.fdiv (Int.gcd m b)) bs:=rfl
theorem BW{φ1 φ2:FF}(h1:nW φ1)(h2:vY φ2)(d:Nat)(ps:List (List Int))(sh:List (Int×Int))(μ:Mu)(hm:jC μ)(hd:1<=d)(hd2:d<=9)(hp:∀p∈ps,fG (d+1) p)(hne:sh≠[])(hl:sh.length<=60)(hs:Hf ps.length sh):
  trunc (aH 9 (qm φ1 φ2)) [.lst (ps.map aN),.tup (sh.map pairD)] μ=some (aN (tM (jn (d+1) (rowsOf ps sh) (sh.map (·.2)))),μ):=by
 have hr:=qY hp hs
 have hss:∀s∈sh.map (·.2),1<=s/\Sm 2000 s:=λs h=>by
  obtain⟨x,hx,rfl⟩:=Zq.mp h
  exact⟨(hs x hx).2.2.1,(hs x hx).2.2.2⟩
 have hlr:(rowsOf ps sh).length=(sh.map (·.2)).length:=by unfold rowsOf;simp
 have hl60:(rowsOf ps sh).length<=60:=by unfold rowsOf;simp;exact hl
 have hrne:rowsOf ps sh≠[]:=by unfold rowsOf;simpa using hne
 have mo:=Dc (by omega) hr hlr hl60 hrne hss
 obtain⟨M1',M2',M3'⟩:=qH hr
 have hMs:Sm 400 (gH (rowsOf ps sh)):=cZ M3' (by omega)
 have hbs:(rowsOf ps sh).map bQ=sh.map λx=>bQ (rZ ps x):=by unfold rowsOf rZ;simp
 have eM:pM 1 (sh.map λx=>bQ (rZ ps x))=gH (rowsOf ps sh):=by unfold gH;rw[hbs]
 have eV:jn (d+1) (rowsOf ps sh) (sh.map (·.2))=(List.range d).map (λi=>(sh.map (term (gH (rowsOf ps sh)) ps i)).sum)++[gH (rowsOf ps sh)*(sh.map (·.2)).sum]:=by
  have hlast:=mo.lst
  unfold jn at hlast ⊢
  rw[List.range_succ,List.map_append]at hlast ⊢
  rw[List.getLastD_eq_getLast?]at hlast
  simp only[Zj,List.map_nil,List.getLast?_append,List.getLast?_singleton,Option.some_or,Option.getD_some]at hlast
  simp only[Zj,List.map_nil]
  rw[hlast]
  congr 1
  apply List.map_congr_left
  intro i _
  exact xK _ _ _ _
 have hpos:=mo.pos
 have hBs:=mo.sm
 clear mo
 generalize gH (rowsOf ps sh)=M at *
 generalize jn (d+1) (rowsOf ps sh) (sh.map (·.2))=V at *
 suffices h:Ok (aH 9 (qm φ1 φ2) [.lst (ps.map aN),.tup (sh.map pairD)] μ) (λr=>∃junk,r=(aN (tM V),μ++junk)) by
  obtain⟨r,e,junk,h⟩:=h
  have h:r=(aN (tM V),μ++junk):=h
  rw[h]at e
  exact qO e rfl (qp.mpr yU) hm
 apply iW
 unfold qm
 simp only[Zj,List.map_nil,List.length_cons,List.length_nil,List.cons_append,List.nil_append,Nat.reduceAdd,Nat.reduceSub,List.replicate_succ,List.replicate_zero,Hq,Io,w_c,Option.bind_some,tV,uQ,yE,JW,Kh,yq,yR,Fb,Option.map_some,List.set_cons_succ,List.set_cons_zero]
 refine dH (λits δ μ'=>∃(xs:List (Int×Int))(m:Int)(o3 o4:Option D)(k:Nat),its=xs.map pairD/\μ'=μ/\pM m (xs.map λx=>bQ (rZ ps x))=M/\1<=m/\Sm k m/\k+6*xs.length<=700/\(∀x∈xs,x∈sh)/\δ=[some (.lst (ps.map aN)),some (.tup (sh.map pairD)),some (.int m),o3,o4,none,none,none,none]) ?_ ?_ _ _ _ ⟨sh,1,none,none,1,rfl,rfl,eM,by decide,by unfold Sm;decide,by omega,λx h=>h,rfl⟩
 .rintro dd rest δ μ' ⟨xs,m,o3,o4,k,hi,rfl,hlm,m1,hk,hkl,hsub,rfl⟩
  cases xs with
  |nil=>cases hi
  |cons x xs=>
   obtain⟨xk,xs2⟩:=x
   cases hi
   obtain⟨k0,k1,_⟩:=hs _ (hsub _ (List.mem_cons_self ..))
   obtain⟨ak,hrow⟩:=HH hp k0 k1
   have hrx:rZ ps (xk,xs2)=ps.getD xk.toNat []:=rfl
   rw[Zj,FZ]at hlm
   simp only[hrx]at hlm
   simp only at ak hrow k0 k1
   generalize ps.getD xk.toNat []=r at *
   have hlast:=qF hrow (by omega)
   have b1:=hrow.b1
   have b2:=hrow.b2
   generalize bQ r=b at *
   obtain⟨g1,g2,g3,g4⟩:=oJ m1 b1
   obtain⟨f1,f2,f3,f4⟩:=qQ m1 b1
   have eg:=h1 m b μ'
   have em:=bH (x:=m) (y:=b) μ' hk (lA (b:=6) 64 (by omega) (by decide)) (by simp at hkl;omega)
   have ed:=fU (x:=m*b) (y:=(Int.gcd m b:Int)) (b:=6) μ' (by omega) (lA 64 (by omega) (by decide)) (by decide)
   rw[f3]at ed
   have sb:Sm 6 (b.fdiv (Int.gcd m b)):=lA 64 (by omega) (by decide)
   simp only[List.length_cons]at hkl
   generalize hm':m*b.fdiv (Int.gcd m b)=m' at *
   simp[pairD,ak,hlast,em,eg,ed]
   refine⟨xs,rfl,m',hlm,?_,_,_,k+6,by rw[<-hm'];exact gV hk sb,by omega,λa b' h=>hsub _ (List.mem_cons_of_mem _ h),rfl,rfl,rfl⟩
   have:=Int.mul_le_mul m1 f1 (by decide) (by omega)
   omega
 .rintro δ μ' ⟨xs,m,o3,o4,k,hi,rfl,hlm,m1,hk,hkl,hsub,rfl⟩
  cases xs with
  |cons b ms=>cases hi
  |nil=>
  have hlm:m=M:=hlm
  subst hlm
  obtain⟨x0,hx0⟩:∃x0,sh.head?=some x0:=by
   cases sh with
   |nil=>exact absurd rfl hne
   |cons a b=>exact⟨a,rfl⟩
  have hx0m:x0∈sh:=List.mem_of_mem_head? hx0
  have a00:atI (sh.map pairD) 0=some (pairD x0):=by
   cases sh with
   |nil=>cases hx0
   |cons a b=>cases hx0;unfold atI ixN;simp
  obtain⟨x0k,x0s⟩:=x0
  obtain⟨k0,k1,_⟩:=hs _ hx0m
  obtain⟨ak,hrow⟩:=HH hp k0 k1
  simp only at ak hrow k0 k1
  have hlen0:=hrow.len
  generalize ps.getD x0k.toNat []=r0 at *
  have at0:atI [D.int x0k,D.int x0s] 0=some (.int x0k):=rfl
  have eL:zQ (MC (ao (mC (.int 0)) (aC)) oLst) (M2 (MC (ao (M2 (aq 0) (M2 (M2 (aq 1) (mC (.int 0)) oIx) (mC (.int 0)) oIx) oIx) (aC)) (bu cj)) (mC (.int 1)) gh) [some (.lst (ps.map aN)),some (.tup (sh.map pairD)),some (.int m),o3,o4,none,none,none,none] μ'=some (fnL d λ_=>0,μ'):=by
   have e1:M2 (MC (ao (M2 (aq 0) (M2 (M2 (aq 1) (mC (.int 0)) oIx) (mC (.int 0)) oIx) oIx) (aC)) (bu cj)) (mC (.int 1)) gh [some (.lst (ps.map aN)),some (.tup (sh.map pairD)),some (.int m),o3,o4,none,none,none,none] μ'=some (.int d,μ'):=by
    have e2:MC (ao (M2 (aq 0) (M2 (M2 (aq 1) (mC (.int 0)) oIx) (mC (.int 0)) oIx) oIx) (aC)) (bu cj) [some (.lst (ps.map aN)),some (.tup (sh.map pairD)),some (.int m),o3,o4,none,none,none,none] μ'=some (.int (d+1:Nat),μ'):=Jg hlen0 (by simp[a00,pairD,at0,ak])
    generalize MC (ao (M2 (aq 0) (M2 (M2 (aq 1) (mC (.int 0)) oIx) (mC (.int 0)) oIx) oIx) (aC)) (bu cj)=F at e2 ⊢
    rw[TQ,e2]
    simp
   generalize M2 (MC (ao (M2 (aq 0) (M2 (M2 (aq 1) (mC (.int 0)) oIx) (mC (.int 0)) oIx) oIx) (aC)) (bu cj)) (mC (.int 1)) gh=F at e1 ⊢
   have hrep:∀z:Int,z=d->(if -(2 ^ 63)<=z/\z<2 ^ 63/\[D.int 0].length*z.toNat<=sizeLine then some ((List.replicate z.toNat [D.int 0]).flatten,μ')else none)=some (fnL d λ_=>0,μ'):=λz hz=>by
    rw[if_pos ⟨by omega,by omega,Zl (by simp only[List.length_cons,List.length_nil];omega:_<=1000) (by decide)⟩]
    have:z.toNat=d:=by omega
    rw[this]
    unfold fnL
    simp[List.map_const']
   unfold zQ
   have e3:MC (ao (mC (.int 0)) (aC)) oLst [some (.lst (ps.map aN)),some (.tup (sh.map pairD)),some (.int m),o3,o4,none,none,none,none] μ'=some (.lst [.int 0],μ'):=by simp
   generalize MC (ao (mC (.int 0)) (aC)) oLst=G at e3 ⊢
   rw[e3]
   simp only[Option.bind_some]
   obtain⟨dz,hdz⟩:∃z:Int,z=d:=⟨_,rfl⟩
   rw[<-hdz]at e1
   rw[e1]
   exact hrep dz hdz
  generalize zQ (MC (ao (mC (.int 0)) (aC)) oLst) (M2 (MC (ao (M2 (aq 0) (M2 (M2 (aq 1) (mC (.int 0)) oIx) (mC (.int 0)) oIx) oIx) (aC)) (bu cj)) (mC (.int 1)) gh)=LR at eL ⊢
  simp only[uQ,yE,Hq,Io,Tj,eL,Option.bind_some,tV,List.set_cons_succ,List.set_cons_zero,w_c,JW,Kh,yq,yR,Fb,Option.map_some]
  refine dH (λits δ μ1=>∃(xs:List (Int×Int))(t:Int)(g:Nat->Int)(o3 o4 o7 o8:Option D),its=xs.map pairD/\μ1=μ'++[some (fnL d g)]/\(∀x∈xs,x∈sh)/\t+(xs.map (·.2)).sum=(sh.map (·.2)).sum/\(∀i,g i+(xs.map (term m ps i)).sum=(sh.map (term m ps i)).sum)/\δ=[some (.lst (ps.map aN)),some (.tup (sh.map pairD)),some (.int m),o3,o4,some (.cell μ'.length),some (.int t),o7,o8]) ?_ ?_ _ _ _ ⟨sh,0,λ_=>0,_,_,_,_,rfl,rfl,λx h=>h,by simp,λi=>by simp,rfl⟩
  .rintro dd rest δ μ1 ⟨xs,t,g,o3,o4,o7,o8,hi,rfl,hsub,ht,hg,rfl⟩
   cases xs with
   |nil=>cases hi
   |cons x xs=>
    obtain⟨xk,xv⟩:=x
    cases hi
    obtain⟨k0,k1,s1,s2⟩:=hs _ (hsub _ (List.mem_cons_self ..))
    obtain⟨p7,p8,e⟩:=RW (d:=d) (ps:=ps) (M:=m) (k:=xk) (s:=xv) (t:=t+xv) (μ:=μ') (shD:=.tup (sh.map pairD)) (g:=g) (o7:=o7) (o8:=o8) hd2 hp k0 k1 s2 hMs
    unfold Er at e
    simp only[pairD,Ut,List.length_cons,List.length_nil,Nat.reduceAdd,if_true,Nz,Rh,Option.bind_some,RJ,tV,uQ,List.set_cons_succ,List.set_cons_zero,Hq,Io,TQ,yq,yR,UJ,yE,e,Nj]
    refine⟨xs,t+xv,_,_,_,p7,p8,rfl,rfl,λx h=>hsub _ (List.mem_cons_of_mem _ h),?_,λi=>?_,rfl⟩
    .rw[<-ht];simp;omega
    .rw[<-hg i,Gx];omega
  .rintro δ μ1 ⟨xs,t,g,o3,o4,o7,o8,hi,rfl,hsub,ht,hg,rfl⟩
   cases xs with
   |cons b ms=>cases hi
   |nil=>
   have ht:t=(sh.map (·.2)).sum:=by simpa using ht
   subst ht
   have hg:∀i,g i=(sh.map (term m ps i)).sum:=λi=>by simpa using hg i
   have efn:fnL d g=((List.range d).map λi=>(sh.map (term m ps i)).sum).map D.int:=by
    unfold fnL
    congr 1
    apply List.map_congr_left
    intro i _
    exact hg i
   have hlow:=h2 ((List.range d).map λi=>(sh.map (term m ps i)).sum) (m*(sh.map (·.2)).sum) (μ'++[none]) (by omega) (cZ hBs (by decide)) (by simp;omega) (by simp;omega)
   have hsg:sgn (m*(sh.map (·.2)).sum)=1:=if_pos (by omega)
   rw[hsg,Int.one_mul,<-Lg,<-eV]at hlow
   have hB1:Sm 2100 (sh.map (·.2)).sum:=by
    obtain⟨_,s2⟩:=BK (sh.map (·.2)) 2000 hss
    have:(sh.map (·.2)).length*2 ^ 2000<2 ^ 6*2 ^ 2000:=Nat.mul_lt_mul_of_pos_right (by simp;omega) (Nat.two_pow_pos _)
    rw[<-Nat.pow_add]at this
    exact cZ (show Sm 2006 _ by unfold Sm;omega) (by decide)
   have em:=bH (x:=m) (y:=(sh.map (·.2)).sum) (μ'++[none]) hMs hB1 (by decide)
   have elow:V.map (λn=>D.int (n.fdiv (bT 0 V:Nat)))=(tM V).map D.int:=by unfold tM;simp
   rw[elow]at hlow
   rw[efn]
   generalize ((List.range d).map λi=>(sh.map (term m ps i)).sum).map D.int=nD at *
   generalize (sh.map (·.2)).sum=B at *
   simp[em,hlow,aN]
def okD:Nat->D->Prop
 |_,.non=>True
 |_,.bl _=>True
 |_,.str _=>True
 |_,.int i=>Sm 2000 i
 |n+1,.tup ds=>∀d∈ds,okD n d
 |n+1,.lst ds=>∀d∈ds,okD n d
 |_,_=>False
theorem iU:∀{n:Nat}{d:D},okD n d->bV d=true/\fM d<=n/\nc d
 |n,.non,_=>⟨by simp[bV],by simp[fM],by simp[nc,cLt]⟩
 |n,.bl _,_=>⟨by simp[bV],by simp[fM],by simp[nc,cLt]⟩
 |n,.str _,_=>⟨by simp[bV],by simp[fM],by simp[nc,cLt]⟩
 |n,.int _,_=>⟨by simp[bV],by simp[fM],by simp[nc,cLt]⟩
 |0,.tup ds,h=>by simp[okD]at h
 |0,.lst ds,h=>by simp[okD]at h
 |n+1,.tup ds,h=>by
  have h:∀d∈ds,okD n d:=h
  have g:∀es:List D,(∀d∈es,okD n d)->cF es=true/\fH es<=n:=λes=>by
   induction es with
   |nil=>exactλ_=>⟨by rw[cF],by rw[fH];omega⟩
   |cons e es ih=>
    intro he
    obtain⟨a,b,_⟩:=iU (he e (by simp))
    obtain⟨c,d⟩:=ih λx hx=>he x (by simp[hx])
    exact⟨by rw[cF,a,c];rfl,by rw[fH];omega⟩
  obtain⟨a,b⟩:=g ds h
  exact⟨by rw[bV];exact a,by rw[fM];omega,qp.mpr λd hd=>(iU (h d hd)).2.2⟩
 |n+1,.lst ds,h=>by
  have h:∀d∈ds,okD n d:=h
  have g:∀es:List D,(∀d∈es,okD n d)->cF es=true/\fH es<=n:=λes=>by
   induction es with
   |nil=>exactλ_=>⟨by rw[cF],by rw[fH];omega⟩
   |cons e es ih=>
    intro he
    obtain⟨a,b,_⟩:=iU (he e (by simp))
    obtain⟨c,d⟩:=ih λx hx=>he x (by simp[hx])
    exact⟨by rw[cF,a,c];rfl,by rw[fH];omega⟩
  obtain⟨a,b⟩:=g ds h
  exact⟨by rw[bV];exact a,by rw[fM];omega,BV.mpr λd hd=>(iU (h d hd)).2.2⟩
 |0,.ro _,h=>by simp[okD]at h
 |n+1,.ro _,h=>by simp[okD]at h
 |0,.dic _,h=>by simp[okD]at h
 |n+1,.dic _,h=>by simp[okD]at h
 |0,.cell _,h=>by simp[okD]at h
 |n+1,.cell _,h=>by simp[okD]at h
theorem xM:∀(a b:List Int),iR (a.map D.int) (b.map D.int)=(a==b)
 | [],[]=>by simp[iR]
 | [],b::bs=>by simp[iR]
 |a::as,[]=>by simp[iR]
 |a::as,b::bs=>by simp[iR,eqD,xM as bs]
def pairOf:D->Int×Int
 | .tup [.int k,.int s]=>(k,s)
 |_=>(0,0)
def pg:D->Bool
 | .tup [.int _,.int _]=>true
 |_=>false
def gf(many:Int)(d:D):Bool:=pg d&&decide (0<=(pairOf d).1/\(pairOf d).1<many/\1<=(pairOf d).2)
def rF:List (Int×Int)->Bool
 | []=>true
 |a::l=>match l with
  | []=>true
  |b::_=>decide (a.1<b.1)&&rF l
def jx(many:Int):D->Bool
 | .tup ds=>!ds.isEmpty&&(ds.all (gf many)&&rF (ds.map pairOf))
 |_=>false
theorem yo{d:D}(h:pg d=true):d=pairD (pairOf d):=by
 unfold pg at h
 split at h
 .rfl
 .cases h
theorem uJ{many:Int}:∀{ds:List D},ds.all (gf many)=true->ds=(ds.map pairOf).map pairD
 | [],_=>rfl
 |d::ds,h=>by
  rw[List.all_cons,Zo]at h
  have h1:=h.1
  unfold gf at h1
  rw[Zo]at h1
  rw[Zj,Zj,<-yo h1.1,<-uJ h.2]
theorem Bl{φ:FF}(hφ:Kd φ)(many:Int)(d:D)(μ:Mu)(h:nc d):trunc (aH 2 (dU φ)) [.int many,d] μ=some (.bl (gf many d),μ):=by
 apply bW
 have e1:=hφ d μ h
 cases hn:uN d with
 |false=>
  rw[hn]at e1
  have es:gf many d=false:=by
   unfold gf
   cases hp:pg d with
   |false=>rfl
   |true=>
    have:=yo hp
    rw[this]at hn
    unfold pairD uN at hn
    simp at hn
  rw[es]
  simp[dU,e1]
 |true=>
  rw[hn]at e1
  cases d with
  |tup ds=>
   have hd:=ints_of hn
   generalize ds.map intOf=ns at hd
   subst hd
   by_cases hl:ns.length=2
   .match ns,hl with
    | [k,s],_=>
     have at0:atI [D.int k,D.int s] 0=some (.int k):=rfl
     have at1:atI [D.int k,D.int s] 1=some (.int s):=rfl
     have es:gf many (.tup ([k,s].map D.int))=decide (0<=k/\k<many/\1<=s):=by
      show(true&&decide (0<=k/\k<many/\1<=s))=_
      simp
     rw[es]
     simp only[Zj,List.map_nil]at e1 ⊢
     by_cases c1:0<=k
     .by_cases c2:k<many
      .simp[dU,e1,at0,at1,c1,c2]
      .simp[dU,e1,at0,at1,c1,c2]
     .simp[dU,e1,at0,at1,c1]
   .have es:gf many (.tup (ns.map D.int))=false:=by
     unfold gf
     cases hp:pg (.tup (ns.map D.int))with
     |false=>rfl
     |true=>
      have:=yo hp
      unfold pairD at this
      injection this with this
      have:=congrArg List.length this
      simp at this
      exact absurd this hl
    rw[es]
    have hlb:((ns.length:Int)==2)=false:=by
     have:(ns.length:Int)≠2:=by omega
     simpa using this
    simp[dU,e1,hlb]
  |_=>cases hn
def Ac(φ:FF):Prop:=∀(many:Int)(d:D)(μ:Mu),nc d->φ [.int many,d] μ=some (.bl (gf many d),μ)
theorem Ey:∀(l:List (Int×Int)),(l.zip (l.drop 1)).all (λp=>decide (p.1.1<p.2.1))=rF l
 | []=>rfl
 | [a]=>rfl
 |a::b::l=>by
  have ih:=Ey (b::l)
  simp only[List.drop_succ_cons,List.drop_zero]at ih ⊢
  rw[List.zip_cons_cons,List.all_cons,ih]
  rfl
theorem zr{φ:FF}(hφ:Ac φ)(many:Int)(d:D)(μ:Mu)(h:nc d):trunc (aH 2 (di φ)) [.int many,d] μ=some (.bl (jx many d),μ):=by
 apply bW
 cases d with
 |cell n=>simp[nc,cLt]at h
 |ro ds=>simp[di,jx,jY,Js]
 |tup ds=>
  by_cases hne:ds=[]
  .subst hne
   simp[di,jx]
  .have hem:ds.isEmpty=false:=by cases ds<;>simp_all
   have hlb:((ds.length:Int)==0)=false:=by
    have:(ds.length:Int)≠0:=by have:=List.length_pos_iff.mpr hne;omega
    simpa using this
   have ea:=nA (th:=thG (hName 0) (MC (ao (aq 1) (ao (aq 0) aC)) φ) (cW ["part"] [some (.int many),some (D.tup ds)] [0])) (p:=gf many) (μ:=μ) ds λx hx=>by
    simp[thG,cW,hφ many x μ (qp.mp h x hx)]
   have es:jx many (.tup ds)=(ds.all (gf many)&&rF (ds.map pairOf)):=by
    show(!ds.isEmpty&&(ds.all (gf many)&&rF (ds.map pairOf)))=_
    rw[hem];rfl
   rw[es]
   cases ha:ds.all (gf many)with
   |false=>
    rw[ha]at ea
    simp[di,hlb,ea]
   |true=>
    rw[ha]at ea
    have hd:=uJ ha
    generalize ds.map pairOf=sh at hd
    have hsl:=Lq (ds:=ds) (i:=1) (μ:=μ) (by decide) (by have:=List.length_pos_iff.mpr hne;omega)
    rw[show(1:Int).toNat=1 from rfl]at hsl
    have ez:jE ds (ds.drop 1)=(sh.zip (sh.drop 1)).map λp=>.tup [pairD p.1,pairD p.2]:=by
     rw[hd,<-List.map_drop,lQ]
    have eb:=nA (th:=thG (iu 2 (bz (hName 0) (bz (hName 1) ir))) (M2 (M2 (aq 0) (mC (.int 0)) oIx) (M2 (aq 1) (mC (.int 0)) oIx) oLt) (cW ["one","other"] [some (.int many),some (D.tup ds)] [])) (p:=λd=>match d with| .tup [a,b]=>decide ((pairOf a).1<(pairOf b).1)|_=>false) (μ:=μ) (jE ds (ds.drop 1)) λx hx=>by
     rw[ez]at hx
     obtain⟨⟨⟨a1,a2⟩,⟨b1,b2⟩⟩,_,rfl⟩:=Zq.mp hx
     have at0:∀u v:Int,atI [D.int u,D.int v] 0=some (.int u):=λ_ _=>rfl
     simp[thG,cW,pairD,at0,pairOf]
     try rfl
    have er:(jE ds (ds.drop 1)).all (λd=>match d with| .tup [a,b]=>decide ((pairOf a).1<(pairOf b).1)|_=>false)=rF sh:=by
     rw[ez,List.all_map,<-Ey]
     congr 1
    rw[er]at eb
    generalize ds.drop 1=es' at *
    simp[di,hlb,ea,hsl,eb]
 |_=>simp[di,jx]
def chB(b:Int):List (Int×Int)->Bool
 | []=>true
 |a::l=>decide (b<a.1)&&chB a.1 l
theorem GX:∀(l:List (Int×Int))(a:Int×Int),chB a.1 l=rF (a::l)
 | [],a=>rfl
 |b::l,a=>by
  show(decide (a.1<b.1)&&chB b.1 l)=(decide (a.1<b.1)&&rF (b::l))
  rw[GX l b]
def xO(φ:FF):Prop:=∀(many:Int)(d:D)(μ:Mu),nc d->φ [.int many,d] μ=some (.bl (jx many d),μ)
def cH(gs:List Int):D:=.tup (gs.map .int)
def inG(gs:List Int)(k:Int):Bool:=gs.any λg=>g==k
theorem JT{neg:Bool}{gs:List Int}{k:Int}{μ:Mu}:oIn neg (.int k) (cH gs) μ=some (.bl (if neg then !inG gs k else inG gs k),μ):=by
 have e:inF (.int k) (gs.map D.int)=inG gs k:=by
  unfold inF inG
  rw[List.any_map]
  rfl
 unfold oIn cH
 simp[vg,e]
def RZ:D->List (Int×Int)
 | .tup ds=>ds.map pairOf
 |_=>[]
theorem De{many:Int}{row:D}(h:jx many row=true):∃sh:List (Int×Int),row= .tup (sh.map pairD)/\RZ row=sh/\sh≠[]/\∀x∈sh,0<=x.1/\x.1<many/\1<=x.2:=by
 cases row with
 |tup ds=>
  have h:(!ds.isEmpty&&(ds.all (gf many)&&rF (ds.map pairOf)))=true:=h
  rw[Zo,Zo]at h
  refine⟨ds.map pairOf,congrArg D.tup (uJ h.2.1),rfl,λz=>?_,λx hx=>?_⟩
  .have:ds=[]:=by simpa using z
   rw[this]at h
   simp at h
  .obtain⟨d,hd,rfl⟩:=Zq.mp hx
   have:=(List.all_eq_true.mp h.2.1) d hd
   unfold gf at this
   rw[Zo]at this
   exact of_decide_eq_true this.2
 |_=>cases h
def Ol(φ:FF):Prop:=∀(ps:List (List Int))(gs:List Int)(row:D)(μ:Mu),okD 60 row->φ [.lst (ps.map aN),cH gs,row] μ=some (.bl (jx ps.length row&&(RZ row).all (λx=>inG gs x.1)),μ)
theorem Qe{φ1:FF}(h1:xO φ1):Ol (trunc (aH 3 (cC φ1))):=λps gs row μ ho=>by
 apply bW
 have hn:=(iU ho).2.2
 have e1:=h1 ps.length row μ hn
 cases hs:jx ps.length row with
 |false=>
  rw[hs]at e1
  simp[cC,e1]
 |true=>
  rw[hs]at e1
  obtain⟨sh,rfl,hsh,hne,hx⟩:=De hs
  rw[hsh]
  have ea:=nA (th:=thG (iu 2 (bz (hName 0) (bz (hName 1) ir))) (M2 (aq 0) (aq 2) (oIn false)) (cW ["k","share"] [some (.lst (ps.map aN)),some (cH gs),some (.tup (sh.map pairD))] [1])) (p:=λd=>inG gs (pairOf d).1) (μ:=μ) (sh.map pairD) λx hx=>by
   obtain⟨⟨k,s⟩,_,rfl⟩:=Zq.mp hx
   simp[thG,cW,pairD,JT,pairOf]
  have ev:(sh.map pairD).all (λd=>inG gs (pairOf d).1)=sh.all (λx=>inG gs x.1):=by rw[List.all_map];rfl
  rw[ev]at ea
  generalize sh.map pairD=sD at *
  simp[cC,e1,ea]
def HR(n:Int):D->Bool
 | .tup ds=>((ds.length:Int)==n)
 |_=>false
theorem RB(n:Int)(d:D)(μ:Mu)(h:nc d):trunc (aH 2 kj) [.int n,d] μ=some (.bl (HR n d),μ):=by
 apply bW
 cases d with
 |cell n=>simp[nc,cLt]at h
 |ro ds=>simp[kj,jY,Js,HR]
 |_=>simp[kj,HR]
def Jp(φ:FF):Prop:=∀(n:Int)(d:D)(μ:Mu),nc d->φ [.int n,d] μ=some (.bl (HR n d),μ)
theorem szl{n:Nat}(h:n<=1000):n<=sizeLine:=Zl h (by decide)
theorem Ej{b:Nat}:∀(l:List Int),(∀z∈l,Sm b z)->l.sum.natAbs<=l.length*2 ^ b
 | [],_=>by simp
 |z::l,h=>by
  have ih:=Ej l λy hy=>h y (by simp[hy])
  have hz:z.natAbs<2 ^ b:=h z (by simp)
  rw[List.sum_cons,List.length_cons,Nat.succ_mul]
  have:=Int.natAbs_add_le z l.sum
  omega
theorem uB{φ:FF}(hφ:oh φ)(c:Int)(c0:0<=c)(c1:c<100)(x:Int)(μ:Mu):∀(js:List Int),(∀j∈js,0<=j/\j<100)->∃kz:List Int,
  qx ((js.map D.int).map (thG (hName 0) (MC (ao (aq 1) (ao (M2 (aq 0) (mC (.int c)) bL) (aC))) φ) [none,some (.int x)])) μ=some (kz,μ)
 | [],_=>⟨[],rfl⟩
 |j::js,hj=>by
  obtain⟨j0,j1⟩:=hj j (by simp)
  obtain⟨r,er,_⟩:=hφ x (j+c) μ (by omega) (by omega)
  obtain⟨kz,e⟩:=uB hφ c c0 c1 x μ js λi hi=>hj i (by simp[hi])
  refine⟨r::kz,?_⟩
  rw[Zj,Zj]
  have et:thG (hName 0) (MC (ao (aq 1) (ao (M2 (aq 0) (mC (.int c)) bL) (aC))) φ) [none,some (.int x)] (.int j) μ=some (.int r,μ):=by simp[thG,er]
  unfold qx
  rw[et]
  show Option.map (λq=>(r::q.1,q.2)) (qx _ μ)=_
  rw[e]
  rfl
theorem tu(kz:List Int)(js:List Int):∃ts:List Int,oK kz (js.map .int)=ts.map .int/\ts.Perm js:=by
 refine⟨(lz (λi j=>decide (kz.getD i 0<kz.getD j 0)) js.length).map λi=>js.getD i 0,?_,?_⟩
 .unfold oK
  rw[Zu,List.map_map]
  apply List.map_congr_left
  intro i hi
  have hin:i<js.length:=List.mem_range.mp ((rH _ _).mem_iff.mp hi)
  simp[List.getD,hin]
 .have h:=(rH (λi j=>decide (kz.getD i 0<kz.getD j 0)) js.length).map λi=>js.getD i 0
  rw[L2.range_getD]at h
  exact h
theorem Gu{ts:List Int}{c:Nat}(hn:ts.Nodup):(PySem.W.sortI (ts.take c)).Pairwise (· < ·):=by
 have h1:=PySem.W.sortI_rises (ts.take c)
 have h2:(PySem.W.sortI (ts.take c)).Nodup:=(PySem.W.sortI_perm _).nodup_iff.mpr (hn.sublist (List.take_sublist _ _))
 have h3:=h1.and h2
 exact h3.imp λ{a b} h=>by have:=h.1;have:=h.2;omega
theorem Pk{a b:Nat}{ws cs:List Int}(hw:∀w∈ws,Sm a w)(hc:∀c∈cs,Sm b c)(hl:ws.length<=60):Sm (a+b+10) (dot ws cs):=by
 have h:=Ej (b:=a+b) ((ws.zip cs).map λp=>p.1*p.2) λz hz=>by
  obtain⟨⟨w,c⟩,hp,rfl⟩:=Zq.mp hz
  have hm:=List.of_mem_zip hp
  exact gV (hw w hm.1) (hc c hm.2)
 unfold dot
 generalize ((ws.zip cs).map λp=>p.1*p.2).sum=z at *
 rw[Zu,List.length_zip]at h
 unfold Sm
 have:min ws.length cs.length*2 ^ (a+b)<2 ^ 10*2 ^ (a+b):=Nat.mul_lt_mul_of_pos_right (by omega) (Nat.two_pow_pos _)
 rw[<-Nat.pow_add]at this
 rw[Nat.add_comm (a+b) 10]
 omega
def ph(many:Int):List Int:=(List.range many.toNat).map λ(k:Nat)=>(0+(k:Int))
theorem Je{many:Int}:cL 0 many.toNat=(ph many).map D.int:=by unfold cL ph;rw[List.map_map];rfl
theorem yI{many:Int}:(ph many).length=many.toNat:=by unfold ph;simp
theorem CQ{many:Int}:∀j∈ph many,0<=j/\j<many:=λj hj=>by
 obtain⟨k,hk,rfl⟩:=Zq.mp hj
 have:=List.mem_range.mp hk
 omega
def JK(φ:FF):Prop:=∀(d:Nat)(ps:List (List Int))(sh:List (Int×Int))(μ:Mu),jC μ->1<=d->d<=9->(∀p∈ps,fG (d+1) p)->sh≠[]->sh.length<=60->Hf ps.length sh->φ [.lst (ps.map aN),.tup (sh.map pairD)] μ=some (aN (tM (jn (d+1) (rowsOf ps sh) (sh.map (·.2)))),μ)
theorem sI{φ:FF}(hφ:oh φ)(x m:Int)(m1:1<=m)(m2:m<=1000)(all:List D)(μ:Mu):∀(ys:List Int),(∀j∈ys,0<=j/\j<100)->∃sh:List (Int×Int),
  lcL ⟨all,none⟩ (hName 0) cN (MC (ao (aq 0) (ao (M2 (mC (.int 1)) (M2 (MC (ao (aq 1) (ao (M2 (aq 0) (mC (.int 60)) bL) (aC))) φ) (aq 2) oMod) bL) (aC))) oTup) [none,some (.int x),some (.int m)] (ys.map .int) μ=some (sh.map pairD,μ)/\sh.map (·.1)=ys/\∀p∈sh,1<=p.2/\p.2<=1000
 | [],_=>⟨[],by simp only[List.map_nil];unfold lcL;simp[cB],rfl,by simp⟩
 |j::ys,hj=>by
  obtain⟨j0,j1⟩:=hj j (by simp)
  obtain⟨r,er,_⟩:=hφ x (j+60) μ (by omega) (by omega)
  obtain⟨sh,e,hf,hs⟩:=sI hφ x m m1 m2 all μ ys λi hi=>hj i (by simp[hi])
  obtain⟨q0,q1⟩:=bw (x:=r) (m:=m) (by omega)
  have eo:=gq (x:=r) (y:=m) μ (by omega)
  refine⟨(j,1+r.fmod m)::sh,?_,by rw[Zj,hf],λp hp=>?_⟩
  .rw[Zj]
   generalize ys.map D.int=YD at *
   unfold lcL
   simp[cB,cN,er,eo,e,pairD]
  .rcases Zi.mp hp with h|h
   .rw[h];constructor<;>simp only<;>omega
   .exact hs p h
theorem Dp{d:Nat}{rs:List (List Int)}{ss:List Int}(hr:∀r∈rs,fG (d+1) r)(hl:rs.length=ss.length)(h60:rs.length<=60)(hne:rs≠[])(hs:∀s∈ss,1<=s/\Sm 2000 s):∃(ns:List Int)(c:Int),tM (jn (d+1) rs ss)=ns++[c]/\ns.length=d/\(∀n∈ns,Sm 8000 n)/\1<=c/\Sm 3000 c:=by
 have mo:=Dc (by omega) hr hl h60 hne hs
 obtain⟨M1',M2',M3'⟩:=qH hr
 have hw:∀w∈wts (gH rs) rs ss,Sm 2400 w:=λw hw=>by
  obtain⟨⟨s,r⟩,hx,rfl⟩:=Zq.mp hw
  have hm:=List.of_mem_zip hx
  exact cZ (gV (hs s hm.1).2 (fP M3' (show 0<bQ r by have:=(hr r hm.2).b1;omega))) (by omega)
 have hwl:(wts (gH rs) rs ss).length<=60:=by unfold wts;simp;omega
 have hvs:∀z∈jn (d+1) rs ss,Sm 2430 z:=λz hz=>by
  obtain⟨i,hi,rfl⟩:=Zq.mp hz
  exact cZ (Pk (a:=2400) (b:=14) hw (λy hy=>lA 10001 (by have:=DR hr (List.mem_range.mp hi) y hy;omega) (by decide)) hwl) (by decide)
 have hv:=mo.v
 have hlst:=mo.lst
 have hpos:=mo.pos
 have hsm:=mo.sm
 have hg0:=mo.g0
 clear mo
 generalize gH rs*ss.sum=B at *
 generalize jn (d+1) rs ss=v at *
 have hvn:v≠[]:=λz=>by rw[z]at hv;simp at hv
 have hvd:v=v.dropLast++[B]:=by
  have:=List.dropLast_concat_getLast hvn
  rw[List.getLastD_eq_getLast?,List.getLast?_eq_some_getLast hvn]at hlst
  have hlst:v.getLast hvn=B:=hlst
  rw[hlst]at this
  exact this.symm
 have hB:B∈v:=by rw[hvd];simp
 have hdv:bT 0 v ∣ B.natAbs:=((kO v 0 _).mp (Nat.dvd_refl _)).2 B hB
 have hgle:=Nat.le_of_dvd (by omega) hdv
 refine⟨(v.dropLast).map λn=>n.fdiv (bT 0 v:Nat),B.fdiv (bT 0 v:Nat),?_,by simp[hv],λn hn=>?_,?_,fP hsm (by omega)⟩
 .unfold tM
  generalize bT 0 v=g at *
  conv=>lhs;rw[hvd]
  simp
 .obtain⟨m,hm,rfl⟩:=Zq.mp hn
  exact fP (cZ (hvs m ((List.dropLast_sublist v).subset hm)) (by decide)) (by omega)
 .rw[Int.fdiv_eq_ediv_of_nonneg B (by omega)]
  exact(Int.le_ediv_iff_mul_le (by omega)).mpr (by omega)
def eZ(a b:Int):Int:=a*b.fdiv (Int.gcd a b)
theorem tY{a b:Int}(ha:1<=a)(hb:1<=b):1<=eZ a b/\a ∣ eZ a b/\b ∣ eZ a b:=by
 obtain⟨g1,g2,g3,g4⟩:=oJ ha hb
 obtain⟨f1,f2,f3,f4⟩:=qQ ha hb
 unfold eZ
 refine⟨?_,⟨_,rfl⟩,f4⟩
 have:=Int.mul_le_mul ha f1 (by decide) (by omega)
 omega
theorem Ec{a b:Int}(ha:1<=a)(hb:1<=b)(sa:Sm 3000 a)(sb:Sm 3000 b):Sm 6000 (eZ a b):=by
 obtain⟨g1,g2,g3,g4⟩:=oJ ha hb
 exact gV sa (fP sb (by omega))
def Fd(φ:FF):Prop:=∀(a b:Int)(μ:Mu),1<=a->1<=b->Sm 3000 a->Sm 3000 b->φ [.lst [.int a,.int b]] μ=some (.int (eZ a b),μ)
theorem IW{φ:FF}(hφ:nW φ):Fd (trunc (aH 3 (bM φ))):=λa b μ ha hb sa sb=>by
 apply bW
 obtain⟨g1,g2,g3,g4⟩:=oJ ha hb
 have e1:=hφ 1 a μ
 have e2:=hφ a b μ
 have h1:((Int.gcd 1 a:Nat):Int)=1:=by simp
 rw[h1]at e1
 have d1:=fU (x:=a) (y:=1) (b:=2) μ (by decide) (lA 2 (by decide) (by decide)) (by decide)
 have d2:=fU (x:=b) (y:=(Int.gcd a b:Int)) (b:=3000) μ (by omega) (by unfold Sm at *;omega) (by decide)
 have f1:a.fdiv 1=a:=by simp
 rw[f1]at d1
 have m1:=By (i:=1) (j:=a) (μ:=μ) (vV (lA (b:=2) 2 (by decide) (by decide)) sa (by decide))
 rw[Int.one_mul]at m1
 have m2:=By (i:=a) (j:=b.fdiv (Int.gcd a b)) (μ:=μ) (vV sa (fP sb (by omega)) (by decide))
 have hl:eZ a b=a*b.fdiv (Int.gcd a b):=rfl
 rw[hl]
 generalize ((Int.gcd a b:Nat):Int)=g at *
 generalize b.fdiv g=q at *
 generalize a*q=r at *
 unfold bM
 simp[forL,GZ,Src.ok,Cr,e1,d1,m1,e2,d2,m2]
def wu(b c:Int)(P Q:Int):Int:=(eZ b c).fdiv b*P-(eZ b c).fdiv c*Q
def jh(d:Nat)(P:List Int)(b:Int)(Q:List Int)(c:Int):List Int:=(List.range d).map λi=>wu b c (P.getD i 0) (Q.getD i 0)
structure iT(d:Nat)(P:List Int)(b:Int):Prop where
 len:P.length=d
 sm:∀n∈P,Sm 8000 n
 b1:1<=b
 bs:Sm 3000 b
def yG(φ:FF):Prop:=∀(d:Nat)(P Q:List Int)(b c:Int)(μ:Mu),d<=9->iT d P b->iT d Q c->φ [aN (P++[b]),aN (Q++[c])] μ=some (aN (jh d P b Q c),μ)
theorem Nk{d:Nat}:∀{P Q:List Int},P.length=d->Q.length=d->P.zip Q=(List.range d).map λi=>(P.getD i 0,Q.getD i 0):=by
 intro P Q hP hQ
 apply List.ext_getElem
 .simp[hP,hQ]
 .intro i h1 h2
  have hi:i<d:=by simpa[hP,hQ]using h1
  simp[List.getD,hP,hQ,hi]
theorem Bx{a:Nat}{x y:Int}(hx:Sm a x)(hy:Sm a y):Sm (a+1) (x-y):=by
 have:x-y=x+(0-y):=by omega
 rw[this]
 exact Qq hx (by unfold Sm at *;omega)
theorem nZ(N:List Int)(c:Int)(μ:Mu):oIx (aN (N++[c])) (.int (-1)) μ=some (.int c,μ):=by
 unfold aN
 rw[JG]
 have:=wH (ns:=N++[c]) (by simp)
 rw[show(N++[c]).getLastD 0=c by simp]at this
 simp only[Oz,Option.bind_some,this,Option.map_some]
theorem Hm(N:List Int)(c:Int)(μ:Mu):oSl (aN (N++[c])) none (some (-1)) μ=some (aN N,μ):=by
 have:=Nm (ds:=(N++[c]).map D.int) (μ:=μ) (by simp)
 rw[<-List.map_dropLast,List.dropLast_concat]at this
 exact this
theorem wZ{α:Type}{th:D->iz}{F:α->D}{f:α->D}{μ:Mu}:∀(l:List α),(∀x∈l,th (F x) μ=some (f x,μ))->wk ((l.map F).map th) μ=some (l.map f,μ)
 | [],_=>rfl
 |d::ds,h=>by
  rw[Zj,Zj]
  unfold wk
  rw[h d (by simp)]
  have ih:=wZ ds λx hx=>h x (by simp[hx])
  rw[List.map_map]at ih
  simp[ih]
theorem Ik{φ:FF}(hφ:Fd φ):yG (trunc (aH 5 (jl (trunc (aH 2 (gJ φ)))))):=λd P Q b c μ hd hP hQ=>by
 have es:trunc (aH 2 (gJ φ)) [aN (P++[b]),aN (Q++[c])] μ=some (.int (eZ b c),μ):=by
  apply bW
  have e:=hφ b c μ hP.b1 hQ.b1 hP.bs hQ.bs
  have t1:=nZ P b μ
  have t2:=nZ Q c μ
  have z2:2<=sizeLine:=szl (by decide)
  generalize aN (P++[b])=PD at *
  generalize aN (Q++[c])=QD at *
  unfold gJ
  simp[t1,t2,z2,e,-JG]
 apply bW
 obtain⟨l1,l2,l3⟩:=tY hP.b1 hQ.b1
 have sl:=Ec hP.b1 hQ.b1 hP.bs hQ.bs
 have t1:=nZ P b μ
 have t2:=nZ Q c μ
 have i1:=Hm P b μ
 have i2:=Hm Q c μ
 have d1:=fU (x:=eZ b c) (y:=b) (b:=3000) μ (by have:=hP.b1;omega) hP.bs (by decide)
 have d2:=fU (x:=eZ b c) (y:=c) (b:=3000) μ (by have:=hQ.b1;omega) hQ.bs (by decide)
 have s1:Sm 6000 ((eZ b c).fdiv b):=fP sl (by have:=hP.b1;omega)
 have s2:Sm 6000 ((eZ b c).fdiv c):=fP sl (by have:=hQ.b1;omega)
 have ec:=wZ (th:=thG (iu 2 (bz (hName 0) (bz (hName 1) (ir)))) (M2 (M2 (aq 2) (aq 0) cu) (M2 (aq 3) (aq 1) cu) gh) [none,none,some (.int ((eZ b c).fdiv b)),some (.int ((eZ b c).fdiv c))]) (F:=λp:Int×Int=>D.tup [.int p.1,.int p.2]) (f:=λp=>.int (wu b c p.1 p.2)) (μ:=μ) (P.zip Q) λp hp=>by
  obtain⟨x,y⟩:=p
  have hm:=List.of_mem_zip hp
  have m1:=bH (x:=(eZ b c).fdiv b) (y:=x) μ s1 (hP.sm _ hm.1) (by decide)
  have m2:=bH (x:=(eZ b c).fdiv c) (y:=y) μ s2 (hQ.sm _ hm.2) (by decide)
  unfold wu
  dsimp only
  generalize (eZ b c).fdiv b*x=u at *
  generalize (eZ b c).fdiv c*y=v at *
  generalize (eZ b c).fdiv b=w at *
  generalize (eZ b c).fdiv c=w' at *
  simp[thG,m1,m2]
 have ez:jE (P.map D.int) (Q.map D.int)=(P.zip Q).map λp=>.tup [.int p.1,.int p.2]:=lQ P Q
 rw[<-ez]at ec
 have er:(P.zip Q).map (λp=>D.int (wu b c p.1 p.2))=(jh d P b Q c).map D.int:=by
  rw[Nk hP.len hQ.len]
  unfold jh
  rw[List.map_map,List.map_map];rfl
 rw[er]at ec
 have hzl:(jE (P.map D.int) (Q.map D.int)).length<=sizeLine:=szl (by rw[ez];simp;have:=hP.len;omega)
 have f1:fO (aN P)=some (P.map D.int):=rfl
 have f2:fO (aN Q)=some (Q.map D.int):=rfl
 have eR:D.tup ((jh d P b Q c).map D.int)=aN (jh d P b Q c):=rfl
 have z2:2<=sizeLine:=szl (by decide)
 generalize trunc (aH 2 (gJ φ))=φs at *
 generalize (eZ b c).fdiv b=w at *
 generalize (eZ b c).fdiv c=w' at *
 generalize hZ:jE (P.map D.int) (Q.map D.int)=Z at *
 generalize (jh d P b Q c).map D.int=AD at *
 generalize aN (jh d P b Q c)=AR at *
 generalize aN (P++[b])=PD at *
 generalize aN (Q++[c])=QD at *
 generalize P.map D.int=PI at *
 generalize Q.map D.int=QI at *
 generalize aN P=PR at *
 generalize aN Q=QR at *
 unfold jl
 simp[es,t1,t2,d1,d2,z2,i1,i2,f1,f2,hZ,hzl,cW,ec,eR,-JG]
def along(d:Nat)(F:List Int)(fb:Int)(S:List Int)(sb:Int)(X:List Int)(xb:Int)(P:List Int)(pb:Int):Int:=
 ((List.range d).map λi=>(F.getD i 0*sb-S.getD i 0*fb)*(P.getD i 0*xb-X.getD i 0*pb)).sum
theorem Aa{b c P Q:Int}(hb:1<=b)(hc:1<=c):wu b c P Q*(b*c)=eZ b c*(P*c-Q*b):=by
 obtain⟨l1,⟨u,l2⟩,⟨v,l3⟩⟩:=tY hb hc
 unfold wu
 have e1:(eZ b c).fdiv b=u:=by rw[l2];exact Int.mul_fdiv_cancel_left _ (by omega)
 have e2:(eZ b c).fdiv c=v:=by rw[l3];exact Int.mul_fdiv_cancel_left _ (by omega)
 rw[e1,e2]
 have h1:u*P*(b*c)=eZ b c*(P*c):=by rw[l2];grind
 have h2:v*Q*(b*c)=eZ b c*(Q*b):=by rw[l3];grind
 rw[Int.sub_mul,h1,h2,<-Int.mul_sub]
theorem Lz(d:Nat)(f g:Nat->Int):dot ((List.range d).map f) ((List.range d).map g)=((List.range d).map λi=>f i*g i).sum:=by
 unfold dot
 rw[List.zip_map,List.map_map]
 congr 1
 induction List.range d with
 |nil=>rfl
 |cons a l ih=>simp only[List.zip_cons_cons,Zj,ih];rfl
theorem vI(k:Int):∀l:List Int,l.sum*k=(l.map (· * k)).sum
 | []=>by simp
 |x::l=>by rw[List.sum_cons,Int.add_mul,vI k l];simp
theorem Gf{d:Nat}{F S X P:List Int}{fb sb xb pb:Int}(hf:1<=fb)(hs:1<=sb)(hx:1<=xb)(hp:1<=pb):dot (jh d F fb S sb) (jh d P pb X xb)*(fb*sb*(pb*xb))=eZ fb sb*eZ pb xb*along d F fb S sb X xb P pb:=by
 unfold jh along
 rw[Lz,vI,Int.mul_comm (eZ fb sb*eZ pb xb),vI,List.map_map,List.map_map]
 congr 1
 apply List.map_congr_left
 intro i _
 have e1:=Aa (P:=F.getD i 0) (Q:=S.getD i 0) hf hs
 have e2:=Aa (P:=P.getD i 0) (Q:=X.getD i 0) hp hx
 show wu fb sb (F.getD i 0) (S.getD i 0)*wu pb xb (P.getD i 0) (X.getD i 0)*(fb*sb*(pb*xb))=(F.getD i 0*sb-S.getD i 0*fb)*(P.getD i 0*xb-X.getD i 0*pb)*(eZ fb sb*eZ pb xb)
 generalize wu fb sb (F.getD i 0) (S.getD i 0)=A at *
 generalize wu pb xb (P.getD i 0) (X.getD i 0)=B at *
 generalize F.getD i 0*sb-S.getD i 0*fb=U at *
 generalize P.getD i 0*xb-X.getD i 0*pb=V at *
 have:A*B*(fb*sb*(pb*xb))=(A*(fb*sb))*(B*(pb*xb)):=by grind
 rw[this,e1,e2]
 grind
theorem uI{d:Nat}{F S X P:List Int}{fb sb xb pb:Int}(hf:1<=fb)(hs:1<=sb)(hx:1<=xb)(hp:1<=pb):(0<=dot (jh d F fb S sb) (jh d P pb X xb)↔0<=along d F fb S sb X xb P pb)/\(dot (jh d F fb S sb) (jh d P pb X xb)<=0↔along d F fb S sb X xb P pb<=0):=by
 have e:=Gf (d:=d) (F:=F) (S:=S) (X:=X) (P:=P) hf hs hx hp
 have k1:0<fb*sb*(pb*xb):=Int.mul_pos (Int.mul_pos (by omega) (by omega)) (Int.mul_pos (by omega) (by omega))
 have k2:0<eZ fb sb*eZ pb xb:=Int.mul_pos (by have:=(tY hf hs).1;omega) (by have:=(tY hp hx).1;omega)
 generalize dot (jh d F fb S sb) (jh d P pb X xb)=A at *
 generalize along d F fb S sb X xb P pb=B at *
 generalize fb*sb*(pb*xb)=k at *
 generalize eZ fb sb*eZ pb xb=l at *
 rw[Int.mul_comm l B]at e
 constructor
 .constructor
  .intro h
   have:0<=B*l:=by rw[<-e];exact Int.mul_nonneg h (by omega)
   exact Int.nonneg_of_mul_nonneg_left this k2
  .intro h
   have:0<=A*k:=by rw[e];exact Int.mul_nonneg h (by omega)
   exact Int.nonneg_of_mul_nonneg_left this k1
 .constructor
  .intro h
   have:B*l<=0:=by rw[<-e];exact Int.mul_nonpos_of_nonpos_of_nonneg h (by omega)
   rcases Int.lt_or_le 0 B with q|q
   .have:=Int.mul_pos q k2;omega
   .exact q
  .intro h
   have:A*k<=0:=by rw[e];exact Int.mul_nonpos_of_nonpos_of_nonneg h (by omega)
   rcases Int.lt_or_le 0 A with q|q
   .have:=Int.mul_pos q k1;omega
   .exact q
structure VS(n:Nat)(f:List (Int×Int)):Prop where
 ne:f≠[]
 len:f.length<=60
 ok:Hf n f
 ris:rF f=true
def jP(f s:List (Int×Int)):D:=.tup [.tup (f.map pairD),.tup (s.map pairD)]
def tH(g:List Int)(f:List (Int×Int)):Bool:=f.all λx=>inG g x.1
def spotOf(d:Nat)(ps:List (List Int))(f:List (Int×Int)):List Int:=tM (jn (d+1) (rowsOf ps f) (f.map (·.2)))
def alR(d:Nat)(m1 m2 x p:List Int):Int:=along d m1.dropLast (bQ m1) m2.dropLast (bQ m2) x.dropLast (bQ x) p.dropLast (bQ p)
def Oa(d:Nat)(ps:List (List Int))(g1 g2:List Int)(f s:List (Int×Int)):Bool:=
 (tH g1 f&&tH g2 s)&&((g1.all λk=>decide (0<=alR d (spotOf d ps f) (spotOf d ps s) (spotOf d ps f) (ps.getD k.toNat [])))&&g2.all λk=>decide (alR d (spotOf d ps f) (spotOf d ps s) (spotOf d ps s) (ps.getD k.toNat [])<=0))
structure Ti(d:Nat)(ps:List (List Int))(g1 g2:List Int)(f s:List (Int×Int)):Prop where
 d1:1<=d
 d3:d<=3
 rows:∀p∈ps,fG (d+1) p
 plen:ps.length<=60
 mg1:∀k∈g1,0<=k/\k<ps.length
 mg2:∀k∈g2,0<=k/\k<ps.length
 l1:g1.length<=60
 l2:g2.length<=60
 f:VS ps.length f
 s:VS ps.length s
def zp(φ:FF):Prop:=∀(d:Nat)(ps:List (List Int))(g1 g2:List Int)(f s:List (Int×Int))(μ:Mu),Ti d ps g1 g2 f s->jC μ->φ [.lst (ps.map aN),cH g1,cH g2,jP f s] μ=some (.bl (Oa d ps g1 g2 f s),μ)
theorem VS.shares{n:Nat}{f:List (Int×Int)}(h:VS n f):jx n (.tup (f.map pairD))=true:=by
 have e1:(f.map pairD).isEmpty=false:=by cases f with|nil=>exact absurd rfl h.ne|cons a l=>rfl
 have e2:(f.map pairD).all (gf n)=true:=List.all_eq_true.mpr λd hd=>by
  obtain⟨⟨k,s⟩,hq,rfl⟩:=Zq.mp hd
  obtain⟨a,b,c,_⟩:=h.ok _ hq
  show(pg (pairD (k,s))&&decide (0<=(pairOf (pairD (k,s))).1/\(pairOf (pairD (k,s))).1<(n:Int)/\1<=(pairOf (pairD (k,s))).2))=true
  rw[Zo]
  exact⟨rfl,decide_eq_true ⟨a,b,c⟩⟩
 have e3:(f.map pairD).map pairOf=f:=by
  rw[List.map_map]
  exact List.map_id'' (λp=>by cases p;rfl) _
 show(!(f.map pairD).isEmpty&&((f.map pairD).all (gf n)&&rF ((f.map pairD).map pairOf)))=true
 rw[e1,e2,e3,h.ris];rfl
theorem VS.okd{n:Nat}{f:List (Int×Int)}(h:VS n f)(hn:n<=1000):okD 60 (.tup (f.map pairD)):=by
 show∀d∈f.map pairD,okD 59 d
 intro d hd
 obtain⟨⟨k,s⟩,hq,rfl⟩:=Zq.mp hd
 obtain⟨a,b,c,e⟩:=h.ok _ hq
 show∀d∈[D.int k,.int s],okD 58 d
 intro d hd
 simp only[Zi,List.not_mem_nil,or_false]at hd
 dsimp only at a b e
 rcases hd with rfl|rfl
 .exact cZ (lA (b:=10) 1001 (by omega) (by decide)) (by decide)
 .exact e
theorem VS.shof{f:List (Int×Int)}:RZ (.tup (f.map pairD))=f:=by
 show(f.map pairD).map pairOf=f
 rw[List.map_map]
 exact List.map_id'' (λp=>by cases p;rfl) _
theorem VS.spot{d:Nat}{ps:List (List Int)}{f:List (Int×Int)}(h:VS ps.length f)(hp:∀p∈ps,fG (d+1) p):∃P b,spotOf d ps f=P++[b]/\iT d P b:=by
 obtain⟨ns,c,e,h1,h2,h3,h4⟩:=Dp (rs:=rowsOf ps f) (ss:=f.map (·.2)) (qY hp h.ok) (by simp[rowsOf]) (by simp[rowsOf];exact h.len) (λz=>h.ne (by simpa[rowsOf]using z)) λs hs=>by
  obtain⟨x,hx,rfl⟩:=Zq.mp hs
  exact⟨(h.ok x hx).2.2.1,(h.ok x hx).2.2.2⟩
 exact⟨ns,c,e,h1,h2,h3,h4⟩
theorem fG.spot{d:Nat}{p:List Int}(h:fG (d+1) p):∃P b,p=P++[b]/\iT d P b:=by
 have hne:p≠[]:=λz=>by have:=h.len;rw[z]at this;simp at this
 refine⟨p.dropLast,p.getLast hne,(List.dropLast_concat_getLast hne).symm,by rw[List.length_dropLast,h.len];rfl,λn hn=>?_,?_,?_⟩
 .exact cZ (lA (b:=14) 10001 (by have:=h.sm n ((List.dropLast_sublist _).subset hn);omega) (by decide)) (by decide)
 .have:=h.b1
  unfold bQ at this
  rwa[List.getLastD_eq_getLast?,List.getLast?_eq_some_getLast hne]at this
 .have:=h.b2
  unfold bQ at this
  rw[List.getLastD_eq_getLast?,List.getLast?_eq_some_getLast hne]at this
  have h1:=h.b1
  unfold bQ at h1
  rw[List.getLastD_eq_getLast?,List.getLast?_eq_some_getLast hne]at h1
  exact cZ (lA (b:=6) 64 (by simp at this h1;omega) (by decide)) (by decide)
theorem yL{d:Nat}{F S X P:List Int}{fb sb xb pb:Int}:alR d (F++[fb]) (S++[sb]) (X++[xb]) (P++[pb])=along d F fb S sb X xb P pb:=by
 unfold alR bQ
 simp
theorem yc{d:Nat}{P Q:List Int}{b c:Int}(hP:iT d P b)(hQ:iT d Q c):∀z∈jh d P b Q c,Sm 15000 z:=λz hz=>by
 obtain⟨i,hi,rfl⟩:=Zq.mp hz
 have hi:=List.mem_range.mp hi
 have sl:=Ec hP.b1 hQ.b1 hP.bs hQ.bs
 have s1:Sm 6000 ((eZ b c).fdiv b):=fP sl (by have:=hP.b1;omega)
 have s2:Sm 6000 ((eZ b c).fdiv c):=fP sl (by have:=hQ.b1;omega)
 have p1:=hP.sm _ (ju (ys:=P) (k:=(i:Int)) (by omega) (by have:=hP.len;omega)).2
 have q1:=hQ.sm _ (ju (ys:=Q) (k:=(i:Int)) (by omega) (by have:=hQ.len;omega)).2
 rw[show(i:Int).toNat=i by omega]at p1 q1
 exact cZ (Bx (gV s1 p1) (gV s2 q1)) (by decide)
theorem Uu{ws cs:List Int}(μ:Mu)(hw:∀w∈ws,Sm 15000 w)(hc:∀c∈cs,Sm 15000 c):trunc (aH 2 aX) [aN ws,aN cs] μ=some (.int (dot ws cs),μ):=by
 apply bW
 have e:=vB (th:=thG (iu 2 (bz (hName 0) (bz (hName 1) ir))) (M2 (aq 0) (aq 1) cu) [none,none]) (F:=λp:Int×Int=>.tup [D.int p.1,.int p.2]) (g:=λp=>p.1*p.2) (μ:=μ) (ws.zip cs) 0 λp hp=>by
  obtain⟨p1,p2⟩:=p
  have hm:=List.of_mem_zip hp
  have:=bH (x:=p1) (y:=p2) μ (hw _ hm.1) (hc _ hm.2) (by decide)
  simp[thG,this]
 have ez:jE (ws.map D.int) (cs.map D.int)=(ws.zip cs).map λp=>.tup [.int p.1,.int p.2]:=lQ ws cs
 rw[<-ez,Int.zero_add]at e
 have f1:fO (aN ws)=some (ws.map D.int):=rfl
 have f2:fO (aN cs)=some (cs.map D.int):=rfl
 unfold dot
 generalize ((ws.zip cs).map λp=>p.1*p.2).sum=S at *
 generalize hZ:jE (ws.map D.int) (cs.map D.int)=Z at *
 generalize ws.map D.int=WI at *
 generalize cs.map D.int=CI at *
 generalize aN ws=WR at *
 generalize aN cs=CR at *
 unfold aX
 simp[f1,f2,hZ,cW,e]
theorem Df{α:Type}{th:D->iz}{F:α->D}{p:α->Bool}{μ:Mu}:∀(l:List α),(∀x∈l,th (F x) μ=some (.bl (p x),μ))->yz ((l.map F).map th) μ=some (l.all p,μ)
 | [],_=>rfl
 |d::ds,h=>by
  rw[Zj,Zj]
  unfold yz
  rw[h d (by simp)]
  have ih:=Df ds λx hx=>h x (by simp[hx])
  rw[List.map_map]at ih
  cases hp:p d<;>simp[hp,Mq,ih]
theorem Qt{φ1 φ2 φ3 φ4:FF}(h1:Jp φ1)(h2:Ol φ2)(h3:yf φ3)(h4:yG φ4):zp (trunc (aH 7 (iQ φ1 φ2 φ3 φ4 (trunc (aH 2 aX))))):=λd ps g1 g2 f s μ G hm=>by
 apply bW
 have hd3:=G.d3
 have hpl:=G.plen
 have nf:=(iU (G.f.okd (by omega))).2.2
 have ns:=(iU (G.s.okd (by omega))).2.2
 have e1:=h1 2 (jP f s) μ (qp.mpr λd hd=>by
  simp only[Zi,List.not_mem_nil,or_false]at hd
  rcases hd with rfl|rfl
  .exact nf
  .exact ns)
 have r2:HR 2 (jP f s)=true:=rfl
 rw[r2]at e1
 have e2:=h2 ps g1 (.tup (f.map pairD)) μ (G.f.okd (by omega))
 have e3:=h2 ps g2 (.tup (s.map pairD)) μ (G.s.okd (by omega))
 rw[G.f.shares,VS.shof]at e2
 rw[G.s.shares,VS.shof]at e3
 have e2:φ2 [.lst (ps.map aN),cH g1,.tup (f.map pairD)] μ=some (.bl (tH g1 f),μ):=e2
 have e3:φ2 [.lst (ps.map aN),cH g2,.tup (s.map pairD)] μ=some (.bl (tH g2 s),μ):=e3
 have m1:=h3 (d+1) ps f μ (by omega) (by omega) G.rows G.f.ne G.f.len G.f.ok
 have m2:=h3 (d+1) ps s μ (by omega) (by omega) G.rows G.s.ne G.s.len G.s.ok
 have m1:φ3 [.lst (ps.map aN),.tup (f.map pairD)] μ=some (aN (spotOf d ps f),μ):=m1
 have m2:φ3 [.lst (ps.map aN),.tup (s.map pairD)] μ=some (aN (spotOf d ps s),μ):=m2
 obtain⟨F,fb,eF,oF⟩:=G.f.spot G.rows
 obtain⟨S,sb,eS,oS⟩:=G.s.spot G.rows
 have b1:=h4 d F S fb sb μ (by omega) oF oS
 have aw:=yc oF oS
 have pt:∀k∈g1++g2,∃P b,ps.getD k.toNat []=P++[b]/\iT d P b/\atI (ps.map aN) k=some (aN (P++[b])):=λk hk=>by
  have hk2:0<=k/\k<ps.length:=by
   rcases Zm.mp hk with w|w
   .exact G.mg1 k w
   .exact G.mg2 k w
  obtain⟨a1,a2⟩:=lY (F:=aN) (l:=ps) (k:=k) (z:=[]) hk2.1 hk2.2
  obtain⟨P,b,e,o⟩:=(G.rows _ a2).spot
  exact⟨P,b,e,o,by rw[a1,e]⟩
 have ea:=Df (th:=thG (hName 0) (M2 (MC (ao (aq 1) (ao (MC (ao (M2 (aq 2) (aq 0) oIx) (ao (aq 3) (aC))) φ4) (aC))) (trunc (aH 2 aX))) (mC (.int 0)) oGe) [none,some (aN (jh d F fb S sb)),some (.lst (ps.map aN)),some (aN (F++[fb]))]) (F:=D.int) (p:=λk=>decide (0<=alR d (spotOf d ps f) (spotOf d ps s) (spotOf d ps f) (ps.getD k.toNat []))) (μ:=μ) g1 λk hk=>by
  obtain⟨P,b,e,o,a1⟩:=pt k (by simp[hk])
  have b2:=h4 d P F b fb μ (by omega) o oF
  have dt:=Uu μ aw (yc o oF)
  rw[eF,eS,e,yL]
  have hs:=(uI (d:=d) (F:=F) (S:=S) (X:=F) (P:=P) oF.b1 oS.b1 oF.b1 o.b1).1
  generalize dot (jh d F fb S sb) (jh d P b F fb)=v at *
  generalize aN (jh d P b F fb)=R1 at *
  generalize aN (jh d F fb S sb)=R2 at *
  generalize aN (P++[b])=R3 at *
  generalize aN (F++[fb])=R4 at *
  generalize ps.map aN=PD at *
  generalize trunc (aH 2 aX)=φ5 at *
  simp[thG,a1,b2,dt,hs]
 have eb:=Df (th:=thG (hName 0) (M2 (MC (ao (aq 1) (ao (MC (ao (M2 (aq 2) (aq 0) oIx) (ao (aq 3) (aC))) φ4) (aC))) (trunc (aH 2 aX))) (mC (.int 0)) oLe) [none,some (aN (jh d F fb S sb)),some (.lst (ps.map aN)),some (aN (S++[sb]))]) (F:=D.int) (p:=λk=>decide (alR d (spotOf d ps f) (spotOf d ps s) (spotOf d ps s) (ps.getD k.toNat [])<=0)) (μ:=μ) g2 λk hk=>by
  obtain⟨P,b,e,o,a1⟩:=pt k (by simp[hk])
  have b2:=h4 d P S b sb μ (by omega) o oS
  have dt:=Uu μ aw (yc o oS)
  rw[eF,eS,e,yL]
  have hs:=(uI (d:=d) (F:=F) (S:=S) (X:=S) (P:=P) oF.b1 oS.b1 oS.b1 o.b1).2
  generalize dot (jh d F fb S sb) (jh d P b S sb)=v at *
  generalize aN (jh d P b S sb)=R1 at *
  generalize aN (jh d F fb S sb)=R2 at *
  generalize aN (P++[b])=R3 at *
  generalize aN (S++[sb])=R4 at *
  generalize ps.map aN=PD at *
  generalize trunc (aH 2 aX)=φ5 at *
  simp[thG,a1,b2,dt,hs]
 unfold Oa
 rw[eF]at m1
 rw[eS]at m2
 have ip:∀μ,bI (jP f s) μ=some [.tup (f.map pairD),.tup (s.map pairD)]:=λ_=>rfl
 have ip0:atI [D.tup (f.map pairD),.tup (s.map pairD)] 0=some (.tup (f.map pairD)):=rfl
 have ip1:atI [D.tup (f.map pairD),.tup (s.map pairD)] 1=some (.tup (s.map pairD)):=rfl
 have s1:∀μ,srcOf (cH g1) μ=some ⟨g1.map D.int,none⟩:=λ_=>rfl
 have s2:∀μ,srcOf (cH g2) μ=some ⟨g2.map D.int,none⟩:=λ_=>rfl
 have z2:2<=sizeLine:=szl (by decide)
 generalize (g1.all λk=>decide (0<=alR d (spotOf d ps f) (spotOf d ps s) (spotOf d ps f) (ps.getD k.toNat [])))=v1 at *
 generalize (g2.all λk=>decide (alR d (spotOf d ps f) (spotOf d ps s) (spotOf d ps s) (ps.getD k.toNat [])<=0))=v2 at *
 generalize tH g1 f=w1 at *
 generalize tH g2 s=w2 at *
 generalize trunc (aH 2 aX)=φ5 at *
 generalize aN (jh d F fb S sb)=R2 at *
 generalize aN (F++[fb])=R4 at *
 generalize aN (S++[sb])=R5 at *
 generalize D.tup (f.map pairD)=FD at *
 generalize D.tup (s.map pairD)=SD at *
 generalize jP f s=PP at *
 generalize ps.map aN=PD at *
 generalize g1.map D.int=G1 at *
 generalize g2.map D.int=G2 at *
 generalize cH g1=GG1 at *
 generalize cH g2=GG2 at *
 unfold iQ
 clear pt aw
 cases w1<;>cases w2<;>cases v1<;>simp[e1,ip,ip0,ip1,e2,e3,m1,m2,z2,b1,s1,s2,cW,ea,eb]
def Va(φ:FF):Prop:=∀(n:Nat)(g:List Int)(f:List (Int×Int))(μ:Mu),VS n f->φ [cH g,.tup (f.map pairD)] μ=some (.bl (tH g f),μ)
theorem Lj{φ:FF}(hφ:DY φ):Va (trunc (aH 4 (lR φ))):=λn g f μ h=>by
 apply bW
 have hne:((f.map pairD).length:Int)≠0:=by
  have:=List.length_pos_iff.mpr h.ne
  rw[Zu];omega
 have hlb:(((f.map pairD).length:Int)==0)=false:=by rw[beq_eq_false_iff_ne];exact hne
 have hch:chB (-1) f=true:=by
  cases f with
  |nil=>rfl
  |cons a l=>
   have:=h.ris
   rw[<-GX]at this
   show(decide (-1<a.1)&&chB a.1 l)=true
   rw[this]
   have:=(h.ok a (by simp)).1
   simp;omega
 have hs:∀x∈f,1<=x.2:=λx hx=>(h.ok x hx).2.2.1
 generalize hv:tH g f=v
 generalize hG:cH g=GD
 unfold lR
 generalize hFD:f.map pairD=FD at *
 simp[hlb]
 refine dH (λits δ μ'=>∃(l:List (Int×Int))(b:Int)(o:Option D),its=l.map pairD/\chB b l=true/\(∀x∈l,1<=x.2)/\tH g l=v/\μ'=μ/\δ=[some GD,some (.tup FD),some (.int b),o]) ?_ ?_ _ _ _ ⟨f,-1,none,hFD.symm,hch,hs,hv,rfl,rfl⟩
 .rintro d r δ μ' ⟨l,b,o,e,hc,hs,hv,rfl,rfl⟩
  cases l with
  |nil=>cases e
  |cons p l=>
   obtain⟨k,s⟩:=p
   simp only[Zj,List.cons.injEq]at e
   obtain⟨rfl,rfl⟩:=e
   have hc:(decide (b<k)&&chB k l)=true:=hc
   rw[Zo]at hc
   have hbk:=of_decide_eq_true hc.1
   have h1:=hs (k,s) (by simp)
   dsimp only at h1
   have n1:=hφ (.int k) μ' Dl
   have n2:=hφ (.int s) μ' Dl
   have a0:atI [D.int k,.int s] 0=some (.int k):=rfl
   have a1:atI [D.int k,.int s] 1=some (.int s):=rfl
   have i1:isInt (.int k)=true:=rfl
   have i2:isInt (.int s)=true:=rfl
   rw[i1]at n1
   rw[i2]at n2
   have ein:oIn true (.int k) GD μ'=some (.bl (!inG g k),μ'):=by rw[<-hG,JT];rfl
   have hk1:¬k<=b:=by omega
   have hs1:¬s<1:=by omega
   have hv:(inG g k&&tH g l)=v:=hv
   cases hg:inG g k with
   |false=>
    rw[hg]at hv ein
    have hv:v=false:=by rw[<-hv];rfl
    subst hv
    simp[pairD,a0,a1,n1,n2,hk1,ein]
   |true=>
    rw[hg]at hv ein
    simp[pairD,a0,a1,n1,n2,hk1,ein,hs1]
    exact⟨l,rfl,k,hc.2,λa b hb=>hs (a,b) (by simp[hb]),by simpa using hv,rfl⟩
 .rintro δ μ' ⟨l,b,o,e,hc,hs,hv,rfl,rfl⟩
  have hl:l=[]:=List.map_eq_nil_iff.mp e.symm
  rw[hl]at hv
  have hv:true=v:=hv
  subst hv
  simp
def Ep(φ:FF):Prop:=∀(d:Nat)(F S X P:List Int)(fb sb xb pb:Int)(μ:Mu),d<=9->iT d F fb->iT d S sb->iT d X xb->iT d P pb->φ [aN (F++[fb]),aN (S++[sb]),aN (X++[xb]),aN (P++[pb])] μ=some (.int (along d F fb S sb X xb P pb),μ)
theorem Ia(X:List Int)(b:Int)(d:Nat)(h:X.length=d)(μ:Mu):cj (aN (X++[b])) μ=some (.int ((d:Int)+1),μ):=by
 unfold aN
 rw[Rx]
 simp[h]
theorem Mz{X:List Int}{b:Int}{j:Nat}(h:j<X.length):atI ((X++[b]).map D.int) (0+(j:Int))=some (.int (X.getD j 0)):=by
 have:=(ju (ys:=X++[b]) (k:=0+(j:Int)) (by omega) (by simp;omega)).1
 rw[this,show(0+(j:Int)).toNat=j by omega]
 congr 2
 simp[List.getD,Zs h]
theorem Ih:Ep (trunc (aH 8 jR)):=λd F S X P fb sb xb pb μ hd oF oS oX oP=>by
 apply bW
 have l1:=Ia X xb d oX.len
 obtain⟨m,hm⟩:∃m:Int,m=d:=⟨_,rfl⟩
 have rr:=wG (j:=m) (μ:=μ) (by omega) (by omega)
 have l1:∀μ,cj (aN (X++[xb])) μ=some (.int (m+1),μ):=λμ=>by rw[l1,hm]
 have hm1:m+1-1=m:=by omega
 have hmd:m.toNat=d:=by omega
 rw[hmd]at rr
 have tF:=λμ=>nZ F fb μ
 have tS:=λμ=>nZ S sb μ
 have tX:=λμ=>nZ X xb μ
 have tP:=λμ=>nZ P pb μ
 have iF:∀μ,bI (aN (F++[fb])) μ=some ((F++[fb]).map D.int):=λ_=>rfl
 have iS:∀μ,bI (aN (S++[sb])) μ=some ((S++[sb]).map D.int):=λ_=>rfl
 have iX:∀μ,bI (aN (X++[xb])) μ=some ((X++[xb]).map D.int):=λ_=>rfl
 have iP:∀μ,bI (aN (P++[pb])) μ=some ((P++[pb]).map D.int):=λ_=>rfl
 have turn:∀(j:Nat),j<d->∀μ,(∃A B:Int,(A*B=(F.getD j 0*sb-S.getD j 0*fb)*(P.getD j 0*xb-X.getD j 0*pb))/\(oIx (aN (F++[fb])) (.int (0+(j:Int))) μ=some (.int (F.getD j 0),μ))/\(oIx (aN (S++[sb])) (.int (0+(j:Int))) μ=some (.int (S.getD j 0),μ))/\(oIx (aN (X++[xb])) (.int (0+(j:Int))) μ=some (.int (X.getD j 0),μ))/\(oIx (aN (P++[pb])) (.int (0+(j:Int))) μ=some (.int (P.getD j 0),μ))/\cu (.int (F.getD j 0)) (.int sb) μ=some (.int (F.getD j 0*sb),μ)/\cu (.int (S.getD j 0)) (.int fb) μ=some (.int (S.getD j 0*fb),μ)/\cu (.int (P.getD j 0)) (.int xb) μ=some (.int (P.getD j 0*xb),μ)/\cu (.int (X.getD j 0)) (.int pb) μ=some (.int (X.getD j 0*pb),μ)/\A=F.getD j 0*sb-S.getD j 0*fb/\B=P.getD j 0*xb-X.getD j 0*pb/\cu (.int A) (.int B) μ=some (.int (A*B),μ)):=λj hj μ=>by
  have gd:∀{Y:List Int}{b:Int},iT d Y b->Sm 8000 (Y.getD j 0):=λ{Y b} o=>by
   have:=o.sm _ (ju (ys:=Y) (k:=(j:Int)) (by omega) (by have:=o.len;omega)).2
   rwa[show(j:Int).toNat=j by omega]at this
  have ix:∀(Y:List Int)(b:Int),iT d Y b->oIx (aN (Y++[b])) (.int (0+(j:Int))) μ=some (.int (Y.getD j 0),μ):=λY b o=>by
   unfold aN
   rw[JG]
   simp only[Oz,Option.bind_some,Mz (X:=Y) (b:=b) (j:=j) (by rw[o.len];exact hj),Option.map_some]
  have s1:=Bx (gV (gd oF) oS.bs) (gV (gd oS) oF.bs)
  have s2:=Bx (gV (gd oP) oX.bs) (gV (gd oX) oP.bs)
  exact⟨_,_,rfl,ix F fb oF,ix S sb oS,ix X xb oX,ix P pb oP,bH μ (gd oF) oS.bs (by decide),bH μ (gd oS) oF.bs (by decide),bH μ (gd oP) oX.bs (by decide),bH μ (gd oX) oP.bs (by decide),rfl,rfl,bH μ s1 s2 (by decide)⟩
 have hal:along d F fb S sb X xb P pb=((List.range d).map λi=>(F.getD i 0*sb-S.getD i 0*fb)*(P.getD i 0*xb-X.getD i 0*pb)).sum:=rfl
 rw[hal]
 generalize hft:(λi=>(F.getD i 0*sb-S.getD i 0*fb)*(P.getD i 0*xb-X.getD i 0*pb))=ft
 have hfj:∀j,ft j=(F.getD j 0*sb-S.getD j 0*fb)*(P.getD j 0*xb-X.getD j 0*pb):=λj=>by rw[<-hft]
 generalize aN (F++[fb])=FR at *
 generalize aN (S++[sb])=SR at *
 generalize aN (X++[xb])=XR at *
 generalize aN (P++[pb])=PR at *
 unfold jR
 simp[l1,hm1,rr]
 refine dH (λits δ μ'=>∃(j:Nat)(o5 o6 o7:Option D),j<=d/\its=(cL 0 d).drop j/\μ'=μ/\δ=[some FR,some SR,some XR,some PR,some (.int ((List.range j).map ft).sum),o5,o6,o7]) ?_ ?_ _ _ _ ⟨0,none,none,none,Nat.zero_le _,rfl,rfl,by simp⟩
 .rintro x r δ μ' ⟨j,o5,o6,o7,hj,e,rfl,rfl⟩
  have hjd:j<d:=by
   rcases Nat.lt_or_ge j d with w|w
   .exact w
   .rw[Eu w]at e;cases e
  rw[qz hjd]at e
  obtain⟨rfl,rfl⟩:=List.cons.inj e
  obtain⟨A,B,hAB,x1,x2,x3,x4,m1,m2,m3,m4,hA,hB,m5⟩:=turn j hjd μ'
  rw[<-hfj]at hAB
  rw[hAB]at m5
  have hsum:((List.range (j+1)).map ft).sum=((List.range j).map ft).sum+ft j:=by rw[List.range_succ];simp
  have h1:F.getD j 0*sb-S.getD j 0*fb=A:=hA.symm
  have h2:P.getD j 0*xb-X.getD j 0*pb=B:=hB.symm
  generalize F.getD j 0*sb=u1 at *
  generalize S.getD j 0*fb=u2 at *
  generalize P.getD j 0*xb=u3 at *
  generalize X.getD j 0*pb=u4 at *
  generalize F.getD j 0=w1 at *
  generalize S.getD j 0=w2 at *
  generalize P.getD j 0=w3 at *
  generalize X.getD j 0=w4 at *
  generalize ((List.range j).map ft).sum=acc at *
  generalize (0+(j:Int))=jj at *
  simp[x1,x2,x3,x4,tF,tS,tX,tP,m1,m2,m3,m4,h1,h2,m5,-JG]
  exact⟨j+1,hjd,rfl,hsum.symm⟩
 .rintro δ μ' ⟨j,o5,o6,o7,hj,e,rfl,rfl⟩
  have hjd:j=d:=by
   rcases Nat.lt_or_ge j d with w|w
   .rw[qz w]at e;cases e
   .omega
  subst hjd
  simp
theorem Dj{φ1 φ2 φ3:FF}(h1:Va φ1)(h2:JK φ2)(h3:Ep φ3):zp (trunc (aH 6 (jf φ1 φ2 φ3))):=λd ps g1 g2 f s μ G hm=>by
 apply bW
 have hd1:=G.d1
 have hd3:=G.d3
 have hpl:=G.plen
 have e2:=h1 ps.length g1 f μ G.f
 have e3:=h1 ps.length g2 s μ G.s
 have m1:φ2 [.lst (ps.map aN),.tup (f.map pairD)] μ=some (aN (spotOf d ps f),μ):=h2 d ps f μ hm hd1 (by omega) G.rows G.f.ne G.f.len G.f.ok
 have m2:φ2 [.lst (ps.map aN),.tup (s.map pairD)] μ=some (aN (spotOf d ps s),μ):=h2 d ps s μ hm hd1 (by omega) G.rows G.s.ne G.s.len G.s.ok
 obtain⟨F,fb,eF,oF⟩:=G.f.spot G.rows
 obtain⟨S,sb,eS,oS⟩:=G.s.spot G.rows
 have pt:∀k∈g1++g2,∃P b,ps.getD k.toNat []=P++[b]/\iT d P b/\atI (ps.map aN) k=some (aN (P++[b])):=λk hk=>by
  have hk2:0<=k/\k<ps.length:=by
   rcases Zm.mp hk with w|w
   .exact G.mg1 k w
   .exact G.mg2 k w
  obtain⟨a1,a2⟩:=lY (F:=aN) (l:=ps) (k:=k) (z:=[]) hk2.1 hk2.2
  obtain⟨P,b,e,o⟩:=(G.rows _ a2).spot
  exact⟨P,b,e,o,by rw[a1,e]⟩
 have ea:=pX (all:=g1.map D.int) (h:=hName 0) (tt:=toB (M2 (MC (ao (aq 1) (ao (aq 2) (ao (aq 1) (ao (M2 (aq 3) (aq 0) oIx) (aC))))) φ3) (mC (.int 0)) oLt)) (fe:=aq 0) (δb:=[none,some (aN (F++[fb])),some (aN (S++[sb])),some (.lst (ps.map aN))]) (p:=λd'=>match d' with| .int k=>!decide (0<=alR d (spotOf d ps f) (spotOf d ps s) (spotOf d ps f) (ps.getD k.toNat []))|_=>false) (f:=λd=>d) (μ:=μ) (g1.map D.int) λx hx=>by
  obtain⟨k,hk,rfl⟩:=Zq.mp hx
  obtain⟨P,b,e,o,a1⟩:=pt k (by simp[hk])
  have al:=h3 d F S F P fb sb fb b μ (by omega) oF oS oF o
  refine⟨[some (.int k),some (aN (F++[fb])),some (aN (S++[sb])),some (.lst (ps.map aN))],by simp,?_,λ_=>by simp⟩
  show _=some (!decide (0<=alR d (spotOf d ps f) (spotOf d ps s) (spotOf d ps f) (ps.getD k.toNat [])),μ)
  rw[eF,eS,e,yL]
  generalize along d F fb S sb F fb P b=v at *
  generalize aN (F++[fb])=R1 at *
  generalize aN (S++[sb])=R2 at *
  generalize aN (P++[b])=R3 at *
  generalize ps.map aN=PD at *
  have hvv:decide (v<0)= !decide (0<=v):=by
   by_cases w:v<0
   .simp[w]
   .simp[w];omega
  simp[a1,al,hvv]
 have eb:=pX (all:=g2.map D.int) (h:=hName 0) (tt:=toB (M2 (MC (ao (aq 1) (ao (aq 2) (ao (aq 2) (ao (M2 (aq 3) (aq 0) oIx) (aC))))) φ3) (mC (.int 0)) oGt)) (fe:=aq 0) (δb:=[none,some (aN (F++[fb])),some (aN (S++[sb])),some (.lst (ps.map aN))]) (p:=λd'=>match d' with| .int k=>!decide (alR d (spotOf d ps f) (spotOf d ps s) (spotOf d ps s) (ps.getD k.toNat [])<=0)|_=>false) (f:=λd=>d) (μ:=μ) (g2.map D.int) λx hx=>by
  obtain⟨k,hk,rfl⟩:=Zq.mp hx
  obtain⟨P,b,e,o,a1⟩:=pt k (by simp[hk])
  have al:=h3 d F S S P fb sb sb b μ (by omega) oF oS oS o
  refine⟨[some (.int k),some (aN (F++[fb])),some (aN (S++[sb])),some (.lst (ps.map aN))],by simp,?_,λ_=>by simp⟩
  show _=some (!decide (alR d (spotOf d ps f) (spotOf d ps s) (spotOf d ps s) (ps.getD k.toNat [])<=0),μ)
  rw[eF,eS,e,yL]
  generalize along d F fb S sb S sb P b=v at *
  generalize aN (F++[fb])=R1 at *
  generalize aN (S++[sb])=R2 at *
  generalize aN (P++[b])=R3 at *
  generalize ps.map aN=PD at *
  have hvv:decide (0<v)= !decide (v<=0):=by
   rcases Int.lt_or_le 0 v with w|w
   .rw[decide_eq_true w,decide_eq_false (by omega)];rfl
   .rw[decide_eq_false (by omega),decide_eq_true w];rfl
  simp[a1,al,hvv]
 rw[List.map_id',List.filter_map]at ea eb
 have ev:∀(g:List Int)(q:Int->Bool)(p:D->Bool),(∀k,p (.int k)= !q k)->((g.filter (p∘D.int)).map D.int).isEmpty=g.all q:=λg q p h=>by
  rw[List.isEmpty_map,Bool.eq_iff_iff,List.all_eq_true,List.isEmpty_iff,List.filter_eq_nil_iff]
  simp[Function.comp,h]
 have e1':=ev g1 (λk=>decide (0<=alR d (spotOf d ps f) (spotOf d ps s) (spotOf d ps f) (ps.getD k.toNat []))) (λd'=>match d' with| .int k=>!decide (0<=alR d (spotOf d ps f) (spotOf d ps s) (spotOf d ps f) (ps.getD k.toNat []))|_=>false) λk=>rfl
 have e2':=ev g2 (λk=>decide (alR d (spotOf d ps f) (spotOf d ps s) (spotOf d ps s) (ps.getD k.toNat [])<=0)) (λd'=>match d' with| .int k=>!decide (alR d (spotOf d ps f) (spotOf d ps s) (spotOf d ps s) (ps.getD k.toNat [])<=0)|_=>false) λk=>rfl
 have ipure:∀ns:List Int,cF (ns.map D.int)=true/\fH (ns.map D.int)<=0:=λns=>by
  induction ns with
  |nil=>exact⟨by simp[cF],by simp[fH]⟩
  |cons q qs ih=>exact⟨by simp[cF,bV,ih.1],by have:=ih.2;simp[fH,fM];omega⟩
 obtain⟨p1,p2⟩:=ipure (g2.filter ((λd'=>match d' with| .int k=>!decide (alR d (spotOf d ps f) (spotOf d ps s) (spotOf d ps s) (ps.getD k.toNat [])<=0)|_=>false)∘D.int))
 have en2:=Hn (μ:=μ) p1 (by omega)
 rw[e2']at en2
 have enE:∀(F:List D) μ,yt (.lst F) (.lst []) μ=some (.bl (!F.isEmpty),μ):=λF μ=>rfl
 have en1:=enE ((g1.filter ((λd'=>match d' with| .int k=>!decide (0<=alR d (spotOf d ps f) (spotOf d ps s) (spotOf d ps f) (ps.getD k.toNat []))|_=>false)∘D.int)).map D.int) μ
 rw[e1']at en1
 unfold Oa
 rw[eF]at m1
 rw[eS]at m2
 have ip0:atI [D.tup (f.map pairD),.tup (s.map pairD)] 0=some (.tup (f.map pairD)):=rfl
 have ip1:atI [D.tup (f.map pairD),.tup (s.map pairD)] 1=some (.tup (s.map pairD)):=rfl
 have s1:∀μ,srcOf (cH g1) μ=some ⟨g1.map D.int,none⟩:=λ_=>rfl
 have s2:∀μ,srcOf (cH g2) μ=some ⟨g2.map D.int,none⟩:=λ_=>rfl
 have z2:2<=sizeLine:=szl (by decide)
 have zg1:(g1.map D.int).length<=sizeLine:=szl (by have:=G.l1;simp;omega)
 have zg2:(g2.map D.int).length<=sizeLine:=szl (by have:=G.l2;simp;omega)
 unfold jP
 generalize (g1.all λk=>decide (0<=alR d (spotOf d ps f) (spotOf d ps s) (spotOf d ps f) (ps.getD k.toNat [])))=v1 at *
 generalize (g2.all λk=>decide (alR d (spotOf d ps f) (spotOf d ps s) (spotOf d ps s) (ps.getD k.toNat [])<=0))=v2 at *
 generalize tH g1 f=w1 at *
 generalize tH g2 s=w2 at *
 generalize (g1.filter _).map D.int=F1 at *
 generalize (g2.filter _).map D.int=F2 at *
 generalize aN (F++[fb])=R4 at *
 generalize aN (S++[sb])=R5 at *
 generalize D.tup (f.map pairD)=FD at *
 generalize D.tup (s.map pairD)=SD at *
 generalize ps.map aN=PD at *
 generalize g1.map D.int=G1 at *
 generalize g2.map D.int=G2 at *
 generalize cH g1=GG1 at *
 generalize cH g2=GG2 at *
 unfold jf
 clear pt ev ipure
 cases w1<;>cases w2<;>cases v1<;>simp[ip0,ip1,e2,e3,m1,m2,z2,s1,s2,zg1,zg2,cW,ea,eb,en1,en2,-Tp]
theorem nT{d:Nat}:∀(ps0:List D),(∀p∈ps0,ou d p)->∃ps:List (List Int),ps0=ps.map aN/\∀p∈ps,fG (d+1) p
 | [],_=>⟨[],rfl,by simp⟩
 |p::ps0,h=>by
  obtain⟨ps,e,hp⟩:=nT ps0 λq hq=>h q (by simp[hq])
  obtain⟨ns,b,rfl,h1,h2⟩:=h p (by simp)
  refine⟨(ns++[b])::ps,by rw[e];rfl,λq hq=>?_⟩
  rcases Zi.mp hq with z|z
  .rw[z];exact PtL.row h1
  .exact hp q z
def xW(φ:FF):Prop:=∀(L:List Int)(rest:Mu)(js:List Int),DlD L->js≠[]->js.length<64->(∀j∈js,0<=j/\j<100)->∃(sh:List (Int×Int))(L':List Int),φ [.cell 0,.lst (js.map .int)] (some (L.map .int)::rest)=some (.tup (sh.map pairD),some (L'.map .int)::rest)/\DlD L'/\sh≠[]/\sh.length<=4/\(∀p∈sh,p.1∈js/\1<=p.2/\p.2<=1000)/\(js.Nodup->(sh.map (·.1)).Pairwise (· < ·))
theorem Cp{φ1 φ2:FF}(h1:jM φ1)(h2:oh φ2):xW (trunc (aH 6 (gZ φ1 φ2))):=λL rest js hL hne hl hj=>by
 obtain⟨x,L1,e1,hx,hL1⟩:=fX h1 hL rest
 obtain⟨kz,e2⟩:=uB h2 3 (by decide) (by decide) x (some (L1.map .int)::rest) js hj
 obtain⟨ts,e3,hp⟩:=tu kz js
 have hlen:ts.length=js.length:=hp.length_eq
 have hpos:0<js.length:=List.length_pos_iff.mpr hne
 obtain⟨m,hm⟩:∃m:Int,min 4 (ts.length:Int)=m:=⟨_,rfl⟩
 have hm1:1<=m:=by omega
 have hm4:m<=4:=by omega
 obtain⟨q0,q1⟩:=bw (x:=x) (m:=m) (by omega)
 have eo:=gq (x:=x) (y:=m) (some (L1.map .int)::rest) (by omega)
 have es:=HJ (ds:=ts.map D.int) (i:=1+x.fmod m) (μ:=(some (L1.map .int)::rest)) (by omega)
 rw[<-List.map_take]at es
 have hsub:∀j∈PySem.W.sortI (ts.take (1+x.fmod m).toNat),j∈js:=λj hjm=>hp.mem_iff.mp (List.mem_of_mem_take ((PySem.W.sortI_perm _).mem_iff.mp hjm))
 have hsl:(PySem.W.sortI (ts.take (1+x.fmod m).toNat)).length=min (1+x.fmod m).toNat ts.length:=by rw[(PySem.W.sortI_perm _).length_eq,List.length_take]
 have e4:sJ ((ts.take (1+x.fmod m).toNat).map D.int)=some ((PySem.W.sortI (ts.take (1+x.fmod m).toNat)).map .int):=by
  unfold sJ
  rw[if_pos (by rw[Zu,List.length_take];omega),uM]
 have v4:=pD (i:=x) (j:=4) (μ:=(some (L1.map .int)::rest)) (by decide) (by decide)
 obtain⟨w0,w1⟩:=bw (x:=x.fdiv 4) (m:=3) (by decide)
 obtain⟨sz,hsz,esz⟩:=yS (ds:=[D.int 3,.int 7,.int 1000]) w0 w1
 have hsz:∃z:Int,sz= .int z/\1<=z/\z<=1000:=by
  simp only[Zi,List.not_mem_nil,or_false]at hsz
  rcases hsz with rfl|rfl|rfl<;>exact⟨_,rfl,by decide,by decide⟩
 obtain⟨sz,rfl,sz1,sz2⟩:=hsz
 obtain⟨sh,e5,hf,hs⟩:=sI h2 x sz sz1 sz2 ((PySem.W.sortI (ts.take (1+x.fmod m).toNat)).map .int) (some (L1.map .int)::rest) (PySem.W.sortI (ts.take (1+x.fmod m).toNat)) λj hjm=>hj j (hsub j hjm)
 have hris:js.Nodup->(sh.map (·.1)).Pairwise (· < ·):=λhn=>by
  rw[hf]
  exact Gu (hp.nodup_iff.mpr hn)
 have hshl:sh.length=min (1+x.fmod m).toNat ts.length:=by rw[<-hsl,<-hf,Zu]
 refine⟨sh,L1,?_,hL1,λz=>by rw[z]at hshl;simp at hshl;omega,by omega,λp hpm=>⟨hsub p.1 (by rw[<-hf];exact Zq.mpr ⟨p,hpm,rfl⟩),hs p hpm⟩,hris⟩
 have z6:(PySem.W.sortI (ts.take (1+x.fmod m).toNat)).length<=1000:=by omega
 have hjl:(js.map D.int).length<64:=by simpa using hl
 have hl3:(ts.map D.int).length=ts.length:=by simp
 generalize PySem.W.sortI (ts.take (1+x.fmod m).toNat)=ys at *
 generalize (ts.take (1+x.fmod m).toNat).map D.int=TK at *
 have hz:(ys.map D.int).length<=1000:=by simpa using z6
 have elen:cj (.lst (ts.map D.int)) (some (L1.map .int)::rest)=some (.int ts.length,(some (L1.map .int)::rest)):=by rw[su,hl3]
 have emin:mV (.int 4) (.int (ts.length:Int)) (some (L1.map .int)::rest)=some (.int m,(some (L1.map .int)::rest)):=by rw[Eh,hm]
 generalize (ts.length:Int)=tl at *
 generalize ts.map D.int=TD at *
 generalize js.map D.int=JD at *
 generalize ys.map D.int=YD at *
 generalize sh.map pairD=SD at *
 have key:Ok (aH 6 (gZ φ1 φ2) [.cell 0,.lst JD] (some (L.map .int)::rest)) (λr=>r=(.tup SD,(some (L1.map .int)::rest))):=by
  apply iW
  unfold gZ
  simp[e1,hjl,cW,e2,e3,elen,emin,eo,es,e4,v4,esz,hz,e5,-su,-Eh]
 exact iH (vW key) rfl
def Vc(r:List D×Mu):Option (D×Mu):=match r.1 with
 | [.int j]=>if -(2 ^ 62)<=j/\j<2 ^ 62/\j.toNat<=sizeLine then some (.tup (cL 0 j.toNat),r.2)else none
 |_=>none
def Um(r:List D×Mu):Option (D×Mu):=match r.1 with
 | [.int i,.int j]=>if(-(2 ^ 62)<=i/\i<2 ^ 62/\ -(2 ^ 62)<=j/\j<2 ^ 62)/\(j-i).toNat<=sizeLine then some (.tup (cL i (j-i).toNat),r.2)else none
 |_=>none
theorem Nt{fs:AF}{δ:En}{μ:Mu}:yD fs δ μ=(fs δ μ).bind Vc:=rfl
theorem NP{fs:AF}{δ:En}{μ:Mu}:yp fs δ μ=(fs δ μ).bind Um:=rfl
def Gp(i:Int)(n:Nat):List Int:=(List.range n).map λ(k:Nat)=>i+(k:Int)
theorem Ry{j:Int}{μ:Mu}(h0: -(2 ^ 62)<=j)(h1:j<=1000):Vc ([.int j],μ)=some (cH (ph j),μ):=by
 show(if -(2 ^ 62)<=j/\j<2 ^ 62/\j.toNat<=sizeLine then some (D.tup (cL 0 j.toNat),μ)else none)=_
 rw[if_pos ⟨h0,by omega,szl (by omega)⟩,Je];rfl
theorem Qa{i j:Int}{μ:Mu}(h0:0<=i)(h1:i<=j)(h2:j<=1000):Um ([.int i,.int j],μ)=some (cH (Gp i (j-i).toNat),μ):=by
 show(if(-(2 ^ 62)<=i/\i<2 ^ 62/\ -(2 ^ 62)<=j/\j<2 ^ 62)/\(j-i).toNat<=sizeLine then some (D.tup (cL i (j-i).toNat),μ)else none)=_
 rw[if_pos ⟨⟨by omega,by omega,by omega,by omega⟩,szl (by omega)⟩]
 unfold cH cL Gp
 rw[List.map_map];rfl
def pB(n:Nat)(g:List Int):Prop:=g≠[]/\g.length<=40/\(∀k∈g,0<=k/\k<n)/\g.Nodup
def OD(φ:FF):Prop:=∀(L:List Int)(n:Nat)(many most:Int),DlD L->many=n->1<=many->many<=40->1<=most->∃(g:List Int)(L':List Int),φ [.cell 0,.int many,.int most] [some (L.map .int)]=some (cH g,[some (L'.map .int)])/\DlD L'/\pB n g
theorem Bg{many:Int}:(ph many).Nodup:=by
 unfold ph
 exact List.Pairwise.map _ (λa b h e=>h (by omega)) List.nodup_range
theorem Rf{φ1 φ2:FF}(h1:jM φ1)(h2:oh φ2):OD (trunc (aH 5 (lw φ1 φ2))):=λL n many most hL hn m1 m2 o1=>by
 obtain⟨x,L1,e1,hx,hL1⟩:=fX h1 hL []
 obtain⟨kz,e2⟩:=uB h2 5 (by decide) (by decide) x [some (L1.map .int)] (ph many) λj hj=>by have:=CQ j hj;omega
 obtain⟨ts,e3,hp⟩:=tu kz (ph many)
 have hlen:ts.length=(ph many).length:=hp.length_eq
 rw[yI]at hlen
 obtain⟨m,hm⟩:∃m:Int,min most many=m:=⟨_,rfl⟩
 obtain⟨q0,q1⟩:=bw (x:=x) (m:=m) (by omega)
 have eo:=gq (x:=x) (y:=m) [some (L1.map .int)] (by omega)
 have es:=HJ (ds:=ts.map D.int) (i:=1+x.fmod m) (μ:=[some (L1.map .int)]) (by omega)
 rw[<-List.map_take]at es
 have rl:=Uv (j:=many) (μ:=[some (L1.map .int)]) (by omega) (szl (by omega)) (by omega)
 rw[Je]at rl
 have hperm:=PySem.W.sortI_perm (ts.take (1+x.fmod m).toNat)
 have hsl:(PySem.W.sortI (ts.take (1+x.fmod m).toNat)).length=min (1+x.fmod m).toNat ts.length:=by rw[hperm.length_eq,List.length_take]
 have e4:sJ ((ts.take (1+x.fmod m).toNat).map D.int)=some ((PySem.W.sortI (ts.take (1+x.fmod m).toNat)).map .int):=by
  unfold sJ
  rw[if_pos (by rw[Zu,List.length_take];omega),uM]
 have emin:mV (.int most) (.int many) [some (L1.map .int)]=some (.int m,[some (L1.map .int)]):=by rw[Eh,hm]
 refine⟨PySem.W.sortI (ts.take (1+x.fmod m).toNat),L1,?_,hL1,λz=>by rw[z]at hsl;simp at hsl;omega,by omega,λk hk=>?_,?_⟩
 .have hjl:((ph many).map D.int).length<64:=by rw[Zu,yI];omega
  have er:D.tup ((PySem.W.sortI (ts.take (1+x.fmod m).toNat)).map D.int)=cH (PySem.W.sortI (ts.take (1+x.fmod m).toNat)):=rfl
  generalize PySem.W.sortI (ts.take (1+x.fmod m).toNat)=ys at *
  generalize (ts.take (1+x.fmod m).toNat).map D.int=TK at *
  generalize ts.map D.int=TD at *
  generalize (ph many).map D.int=JD at *
  generalize ys.map D.int=YD at *
  generalize cH ys=G at *
  have key:Ok (aH 5 (lw φ1 φ2) [.cell 0,.int many,.int most] [some (L.map .int)]) (λr=>r=(G,[some (L1.map .int)])):=by
   apply iW
   unfold lw
   simp[e1,rl,hjl,cW,e2,e3,emin,eo,es,e4,er,-Eh]
  exact iH (vW key) rfl
 .have:=CQ k (hp.mem_iff.mp (List.mem_of_mem_take (hperm.mem_iff.mp hk)))
  omega
 .exact hperm.nodup_iff.mpr ((hp.nodup_iff.mpr Bg).sublist (List.take_sublist _ _))
theorem Dd:∀(sh:List (Int×Int)),(sh.map (·.1)).Pairwise (· < ·)->rF sh=true
 | [],_=>rfl
 | [a],_=>rfl
 |a::b::l,h=>by
  have h1:=List.pairwise_cons.mp h
  show(decide (a.1<b.1)&&rF (b::l))=true
  rw[Dd (b::l) h1.2,Bool.and_true]
  exact decide_eq_true (h1.1 b.1 (by simp))
def jL(n:Nat)(t:D):Prop:=∃f s,t=jP f s/\VS n f/\VS n s
theorem jL.nc{n:Nat}(hn:n<=1000){t:D}(h:jL n t):nc t:=by
 obtain⟨f,s,rfl,hf,hs⟩:=h
 exact qp.mpr λd hd=>by
  simp only[Zi,List.not_mem_nil,or_false]at hd
  rcases hd with rfl|rfl
  .exact(iU (hf.okd hn)).2.2
  .exact(iU (hs.okd hn)).2.2
theorem Iu{n:Nat}{k s:Int}(k0:0<=k)(k1:k<n)(s1:1<=s)(s2:s<=1000):VS n [(k,s)]:=⟨by simp,by simp,λx hx=>by
 rw[List.mem_singleton.mp hx]
 exact⟨k0,k1,s1,cZ (lA (b:=10) 1001 (by simp only;omega) (by decide)) (by decide)⟩,rfl⟩
theorem DN{n:Nat}{g:List Int}(hg:pB n g){sh:List (Int×Int)}(h1:sh≠[])(h2:sh.length<=4)(h3:∀p∈sh,p.1∈g/\1<=p.2/\p.2<=1000)(h4:g.Nodup->(sh.map (·.1)).Pairwise (· < ·)):VS n sh:=⟨h1,by omega,λx hx=>by
 obtain⟨a,b,c⟩:=h3 x hx
 obtain⟨d,e⟩:=hg.2.2.1 _ a
 exact⟨d,e,b,cZ (lA (b:=10) 1001 (by omega) (by decide)) (by decide)⟩,Dd sh (h4 hg.2.2.2)⟩
def iw(c:Int)(sh:List (Int×Int)):List (Int×Int):=sh.map λp=>(p.1,p.2*c)
theorem HY{n:Nat}{g:List Int}(hg:pB n g){sh:List (Int×Int)}{c:Int}(c1:1<=c)(c2:c<=10)(h1:sh≠[])(h2:sh.length<=4)(h3:∀p∈sh,p.1∈g/\1<=p.2/\p.2<=1000)(h4:g.Nodup->(sh.map (·.1)).Pairwise (· < ·)):VS n (iw c sh):=⟨λz=>h1 (List.map_eq_nil_iff.mp z),by unfold iw;simp;omega,λx hx=>by
 obtain⟨p,hp,rfl⟩:=Zq.mp hx
 obtain⟨a,b,e⟩:=h3 p hp
 obtain⟨d,f⟩:=hg.2.2.1 _ a
 have m1:1<=p.2*c:=by have:=Int.mul_le_mul b c1 (by decide) (by omega);omega
 have m2:p.2*c<=10000:=by have:=Int.mul_le_mul e c2 (by omega) (by decide);omega
 exact⟨d,f,m1,cZ (lA (b:=14) 10001 (by simp only;omega) (by decide)) (by decide)⟩,by
 have e:(iw c sh).map (·.1)=sh.map (·.1):=by unfold iw;rw[List.map_map];rfl
 exact Dd _ (by rw[e];exact h4 hg.2.2.2)⟩
theorem Gg(sh:List (Int×Int))(c:Int)(μ:Mu)(hl:sh.length<=60)(hc:c.natAbs<=10)(hs:∀p∈sh,1<=p.2/\p.2<=1000):trunc (aH 2 jW) [.tup (sh.map pairD),.int c] μ=some (.tup ((iw c sh).map pairD),μ):=by
 apply bW
 have e:=jD (all:=sh.map pairD) (h:=iu 2 (bz (hName 0) (bz (hName 1) (ir)))) (fe:=MC (ao (aq 0) (ao (M2 (aq 1) (aq 2) cu) (aC))) oTup) (δb:=[none,none,some (.int c)]) (F:=pairD) (f:=λp=>.tup [.int p.1,.int (p.2*c)]) (μ:=μ) sh λp hp=>by
  obtain⟨k,s⟩:=p
  have h:=hs _ hp
  dsimp only at h
  have m:=bH (x:=s) (y:=c) μ (lA (b:=10) 1001 (by omega) (by decide)) (lA (b:=4) 11 (by omega) (by decide)) (by decide)
  exact⟨[some (.int k),some (.int s),some (.int c)],by simp[pairD],by simp[m]⟩
 have er:sh.map (λp=>D.tup [.int p.1,.int (p.2*c)])=(iw c sh).map pairD:=by unfold iw;rw[List.map_map];rfl
 rw[er]at e
 have z:(sh.map pairD).length<=sizeLine:=szl (by simp;omega)
 generalize (iw c sh).map pairD=T at *
 generalize sh.map pairD=S at *
 unfold jW
 simp[z,cW,e]
end LG
namespace Lk75
open PySem PySem.Spec PyProof.Rows L2 L3 LG
theorem TV:nW dw:=λa b μ=>il (Mt a b μ)
theorem Pj:nW bf:=λa b μ=>il (LQ a b μ)
theorem Ob:oh aZ:=λx k μ h0 h1=>by
 obtain⟨r,e,h⟩:=RL x k μ h0 h1
 exact⟨r,il e,h⟩
theorem sO:jM aJ:=HQ
theorem QX:yQ gM:=Ie Ob
theorem NT:vY aW:=λns b μ h1 h2 h3 h4=>il (Qz TV ns b μ h1 h2 h3 h4)
theorem num':DY dJ:=Hg
theorem QL:DY gQ:=Ho
theorem Uy:Kd dg:=Ca num'
theorem Pq:Ac fB:=λm d μ h=>Bl Uy m d μ h
theorem LC:xO dF:=λm d μ h=>zr Pq m d μ h
theorem El:zg bY:=Ig Ob HX NT
theorem Ni:Ak cV:=Gj sO (Cz sO NT) (Mp sO NT) El
theorem Lr:uO bU:=λns μ=>il (CT Pj ns μ)
theorem Vd:Dt fD:=λns μ h1 h2 h3=>il (Od Lr ns μ h1 h2 h3)
theorem Qd:yf jc:=JC (over_of (Mi Pj)) (CK RV) Vd
theorem Ux:xW dY:=Cp sO Ob
theorem Uz:JK jN:=λd ps sh μ hm hd hd2 hp hne hl hs=>BW TV NT d ps sh μ hm hd hd2 hp hne hl hs
theorem Uw(k l:Bool)(μ:Mu):jF [.bl k,.bl l] μ=some (.bl (k==l),μ):=MT k l μ
theorem row':Jp iC:=RB
theorem Qm:yG dh:=Ik (IW Pj)
theorem gap':zp dR:=Qt row' (Qe LC) Qd Qm
theorem near':zp fJ:=Dj (Lj QL) Uz Ih
theorem Ul:OD fj:=Rf sO Ob
theorem Nr(sh:List (Int×Int))(c:Int)(μ:Mu)(hl:sh.length<=60)(hc:c.natAbs<=10)(hs:∀p∈sh,1<=p.2/\p.2<=1000):gw [.tup (sh.map LG.pairD),.int c] μ=some (.tup ((iw c sh).map LG.pairD),μ):=Gg sh c μ hl hc hs
theorem nT{d:Nat}:∀(ps0:List D),(∀p∈ps0,ou d p)->∃ps:List (List Int),ps0=ps.map aN/\∀p∈ps,fG (d+1) p
 | [],_=>⟨[],rfl,by simp⟩
 |p::ps0,h=>by
  obtain⟨ps,e,hp⟩:=nT ps0 λq hq=>h q (by simp[hq])
  obtain⟨ns,b,rfl,h1,h2⟩:=h p (by simp)
  refine⟨(ns++[b])::ps,by rw[e];rfl,λq hq=>?_⟩
  rcases Zi.mp hq with z|z
  .rw[z];exact PtL.row h1
  .exact hp q z
theorem some'{d most:Int}(d1:1<=d)(d3:d<=3)(m0:0<=most)(m40:most<=40)(L:List Int)(hL:DlD L):∃(ps:List (List Int))(L':List Int),ik [.cell 0,.int d,.int most] [some (L.map .int)]=some (.lst (ps.map aN),[some (L'.map .int)])/\DlD L'/\ps≠[]/\ps.length<=40/\∀p∈ps,fG (d.toNat+1) p:=by
 obtain⟨ps0,L1,e0,hL1,hl,hp⟩:=Ni L [] d most hL jC.nil d1 d3 m0 m40
 obtain⟨p1,p2⟩:=ym hp
 have en:=Hn (ps:=ps0) (μ:=[some (L1.map .int)]) p1 (by omega)
 cases ps0 with
 |nil=>
  obtain⟨x,L2,e1,hx,hL2⟩:=fX sO hL1 []
  obtain⟨p,e2,hpt⟩:=El x d 1 0 [some (L2.map .int)] jC.nil.dr hx d1 d3 (by decide) (by decide) (by decide) (by decide)
  obtain⟨ps,e,hq⟩:=nT [p] λq hq=>by rw[List.mem_singleton.mp hq];exact hpt
  have hps:ps.length=1:=by
   have:=congrArg List.length e
   simpa using this.symm
  refine⟨ps,L2,?_,hL2,λz=>by rw[z]at hps;simp at hps,by omega,hq⟩
  rw[<-e]
  have key:Ok (aH 4 (iM cV aJ bY) [.cell 0,.int d,.int most] [some (L.map .int)]) (λr=>r=(.lst [p],[some (L2.map .int)])):=by
   apply iW
   unfold iM
   simp[e0,en,e1,e2]
  exact iH (vW key) rfl
 |cons p ps0=>
  obtain⟨ps,e,hq⟩:=nT (p::ps0) hp
  have hps:ps.length=(p::ps0).length:=by rw[e];simp
  refine⟨ps,L1,?_,hL1,λz=>by rw[z]at hps;simp at hps,by omega,hq⟩
  rw[<-e]
  have key:Ok (aH 4 (iM cV aJ bY) [.cell 0,.int d,.int most] [some (L.map .int)]) (λr=>r=(.lst (p::ps0),[some (L1.map .int)])):=by
   apply iW
   unfold iM
   simp[e0,en]
  exact iH (vW key) rfl
theorem Ra(ps:List (List Int))(μ:Mu):oEq (.lst (ps.map aN)) (.lst (ps.map aN)) μ=some (.bl true,μ):=by
 have hp:∀qs:List (List Int),cF (qs.map aN)=true/\fH (qs.map aN)<=1/\iR (qs.map aN) (qs.map aN)=true:=λqs=>by
  induction qs with
  |nil=>exact⟨by simp[cF],by simp[fH],by simp[iR]⟩
  |cons q qs ih=>
   obtain⟨a,b,c⟩:=ih
   refine⟨?_,?_,?_⟩
   .rw[Zj,cF,a];unfold aN;rw[bV,oZ];rfl
   .rw[Zj,fH];unfold aN at *;rw[fM,qC];omega
   .rw[Zj,iR,c];unfold aN;rw[eqD,xM];simp
 obtain⟨a,b,c⟩:=hp ps
 unfold oEq
 have e1:rsv (.lst (ps.map aN)) μ= .lst (ps.map aN):=rfl
 have e2:bV (.lst (ps.map aN))=true:=by rw[bV];exact a
 have e3:fM (.lst (ps.map aN))<100:=by rw[fM];omega
 have e4:eqD (.lst (ps.map aN)) (.lst (ps.map aN))=true:=by rw[eqD];exact c
 rw[e1,e2,e4,if_pos ⟨rfl,e3⟩]
theorem case'(L:List Int)(hL:DlD L):∃(d:Nat)(ps:List (List Int))(g1 g2 L':List Int),jA [.cell 0] [some (L.map .int)]=some (.tup [.lst (ps.map aN),cH g1,cH g2],[some (L'.map .int)])/\DlD L'/\1<=d/\d<=3/\ps.length<=40/\(∀p∈ps,fG (d+1) p)/\pB ps.length g1/\pB ps.length g2:=by
 obtain⟨x,L1,e1,hx,hL1⟩:=fX sO hL []
 obtain⟨m0,m1⟩:=bw (x:=x) (m:=3) (by decide)
 obtain⟨dd,hdd⟩:∃dd:Int,1+x.fmod 3=dd:=⟨_,rfl⟩
 obtain⟨ps,L2,e2,hL2,hne,hpl,hp⟩:=some' (d:=dd) (most:=14) (by omega) (by omega) (by decide) (by decide) L1 hL1
 obtain⟨n,hn⟩:∃n:Int,n=ps.length:=⟨_,rfl⟩
 have hpos:=List.length_pos_iff.mpr hne
 obtain⟨g1,L3,e3,hL3,h1⟩:=Ul L2 ps.length n 7 hL2 hn (by omega) (by omega) (by decide)
 obtain⟨g2,L4,e4,hL4,h2⟩:=Ul L3 ps.length n 7 hL3 hn (by omega) (by omega) (by decide)
 have hlen:∀μ,cj (.lst (ps.map aN)) μ=some (.int n,μ):=λμ=>by rw[su,Zu,hn]
 have v3:=λμ=>pD (i:=x) (j:=3) (μ:=μ) (by decide) (by decide)
 have v12:=λμ=>pD (i:=x) (j:=12) (μ:=μ) (by decide) (by decide)
 have z3:3<=sizeLine:=szl (by decide)
 by_cases hc:(x.fdiv 3).fmod 4=0/\1<n
 .obtain⟨c1,c2⟩:=hc
  obtain⟨q0,q1⟩:=bw (x:=x.fdiv 12) (m:=n-1) (by omega)
  have eo:=λμ=>gq (x:=x.fdiv 12) (y:=n-1) μ (by omega)
  obtain⟨cut,hcut⟩:∃cut:Int,1+(x.fdiv 12).fmod (n-1)=cut:=⟨_,rfl⟩
  have t1:=λμ=>Ry (j:=cut) (μ:=μ) (by omega) (by omega)
  have t2:=λμ=>Qa (i:=cut) (j:=n) (μ:=μ) (by omega) (by omega) (by omega)
  have k1:pB ps.length (ph cut):=⟨λz=>by have:=congrArg List.length z;rw[yI]at this;simp at this;omega,by rw[yI];omega,λk hk=>by have:=CQ k hk;omega,Bg⟩
  have k2:pB ps.length (Gp cut (n-cut).toNat):=by
   unfold Gp
   refine⟨λz=>by have:=congrArg List.length z;simp at this;omega,by simp;omega,λk hk=>?_,List.Pairwise.map _ (λa b h e=>h (by omega)) List.nodup_range⟩
   obtain⟨i,hi,rfl⟩:=Zq.mp hk
   have:=List.mem_range.mp hi
   omega
  refine⟨dd.toNat,ps,ph cut,Gp cut (n-cut).toNat,L4,?_,hL4,by omega,by omega,hpl,hp,k1,k2⟩
  generalize cH (ph cut)=G1 at *
  generalize cH (Gp cut (n-cut).toNat)=G2 at *
  generalize cH g1=G1' at *
  generalize cH g2=G2' at *
  generalize ps.map aN=PD at *
  have key:Ok (aH 7 (iG aJ ik fj) [.cell 0] [some (L.map .int)]) (λr=>r=(.tup [.lst PD,G1,G2],[some (L4.map .int)])):=by
   apply iW
   have hn0:n-1≠0:=by omega
   unfold iG
   simp[e1,hdd,e2,hlen,e3,e4,v3,c1,c2,v12,hn0,hcut,Nt,NP,t1,t2,z3,-su]
  exact iH (vW key) rfl
 .refine⟨dd.toNat,ps,g1,g2,L4,?_,hL4,by omega,by omega,hpl,hp,h1,h2⟩
  generalize cH g1=G1' at *
  generalize cH g2=G2' at *
  generalize ps.map aN=PD at *
  have key:Ok (aH 7 (iG aJ ik fj) [.cell 0] [some (L.map .int)]) (λr=>r=(.tup [.lst PD,G1',G2'],[some (L4.map .int)])):=by
   apply iW
   unfold iG
   by_cases c1:(x.fdiv 3).fmod 4=0
   .have c2:¬1<n:=λz=>hc ⟨c1,z⟩
    simp[e1,hdd,e2,hlen,e3,e4,v3,c1,c2,z3,-su]
   .have c1':((x.fdiv 3).fmod 4==0)=false:=by rw[beq_eq_false_iff_ne];exact c1
    simp[e1,hdd,e2,hlen,e3,e4,v3,c1',z3,-su]
  exact iH (vW key) rfl
theorem Fg{ds:List D}{l u:Option Int}{d:D}(h:d∈L3.cutD ds l u):d∈ds:=by
 unfold L3.cutD at h
 exact List.mem_of_mem_drop (List.mem_of_mem_take h)
theorem DG{ds:List D}{l u:Option Int}:(L3.cutD ds l u).length<=ds.length:=by
 unfold L3.cutD
 simp
 omega
def PI1(n:Nat)(g1 g2:List Int)(its:List D)(δ:En)(μ:Mu):Prop:=∃(L:List Int)(acc:List D)(o4 o5 o6 o7 o8:Option D),(∀d∈its,∃k∈g1,d= .int k)/\acc.length+40*its.length<=1600/\DlD L/\(∀t∈acc,jL n t)/\μ=[some (L.map .int),some acc]/\δ=[some (.cell 0),some (cH g1),some (cH g2),some (.cell 1),o4,o5,o6,o7,o8]
def PI2(n:Nat)(g1 g2:List Int)(k:Int)(m:Nat)(its:List D)(δ:En)(μ:Mu):Prop:=∃(L:List Int)(acc:List D)(o5 o6 o7 o8:Option D),(∀d∈its,∃k∈g2,d= .int k)/\acc.length+its.length+40*m<=1600/\DlD L/\(∀t∈acc,jL n t)/\μ=[some (L.map .int),some acc]/\δ=[some (.cell 0),some (cH g1),some (cH g2),some (.cell 1),some (.int k),o5,o6,o7,o8]
def PI3(n:Nat)(g1 g2:List Int)(its:List D)(δ:En)(μ:Mu):Prop:=∃(L:List Int)(acc:List D)(o4 o5 o6 o7 o8:Option D),(∀d∈its,∃t:Int,d= .int t/\0<=t/\t<4)/\acc.length+3*its.length<=1700/\DlD L/\(∀t∈acc,jL n t)/\μ=[some (L.map .int),some acc]/\δ=[some (.cell 0),some (cH g1),some (cH g2),some (.cell 1),o4,o5,o6,o7,o8]
theorem Ed{n:Nat}{acc:List D}{t:D}(h:∀t∈acc,jL n t)(ht:jL n t):∀u∈acc++[t],jL n u:=λu hu=>by
 rcases Zm.mp hu with z|z
 .exact h u z
 .rw[List.mem_singleton.mp z];exact ht
theorem Kq(n:Nat)(hn:n<=40)(g1 g2 L:List Int)(hL:DlD L)(h1:pB n g1)(h2:pB n g2):∃(ts:List D)(L':List Int),dZ [.cell 0,cH g1,cH g2] [some (L.map .int)]=some (.lst ts,[some (L'.map .int)])/\DlD L'/\∀t∈ts,jL n t:=by
 have key:∃d L',dZ [.cell 0,cH g1,cH g2] [some (L.map .int)]=some (d,[some (List.map D.int L')])/\∃ts:List D,d= .lst ts/\DlD L'/\∀t∈ts,jL n t:=by
  have l1:=h1.2.1
  have l2:=h2.2.1
  unfold dZ
  have lst0:∀{φ:FF}{as:List D}{P:D->List Int->Prop},Ok (φ as [some (L.map .int)]) (λr=>∃d L' junk,r=(d,some (List.map D.int L')::junk)/\nc d/\P d L')->∃d L',trunc φ as [some (L.map .int)]=some (d,[some (List.map D.int L')])/\P d L':=λ{φ as P} h=>by
   obtain⟨r,e,d,L',junk,rfl,hn,hp⟩:=h
   exact⟨d,L',qO (μ':=[some (L'.map .int)]) (junk:=junk) e rfl hn jC.nil.dr,hp⟩
  apply lst0
  apply iW
  have z1:1<=sizeLine:=szl (by decide)
  have z2:2<=sizeLine:=szl (by decide)
  have c1:oSl (cH g1) none (some 4) [some (L.map .int),some []]=some (.tup (L3.cutD (g1.map D.int) none (some 4)),[some (L.map .int),some []]):=rfl
  have c2:∀μ,oSl (cH g2) none (some 4) μ=some (.tup (L3.cutD (g2.map D.int) none (some 4)),μ):=λ_=>rfl
  have cl1:(L3.cutD (g1.map D.int) none (some 4)).length<=40:=by have:=DG (ds:=g1.map D.int) (l:=none) (u:=some 4);rw[Zu]at this;omega
  have cl2:(L3.cutD (g2.map D.int) none (some 4)).length<=40:=by have:=DG (ds:=g2.map D.int) (l:=none) (u:=some 4);rw[Zu]at this;omega
  have cm1:∀d∈L3.cutD (g1.map D.int) none (some 4),∃k∈g1,d= .int k:=λd hd=>by
   obtain⟨k,hk,rfl⟩:=Zq.mp (Fg hd)
   exact⟨k,hk,rfl⟩
  have cm2:∀d∈L3.cutD (g2.map D.int) none (some 4),∃k∈g2,d= .int k:=λd hd=>by
   obtain⟨k,hk,rfl⟩:=Zq.mp (Fg hd)
   exact⟨k,hk,rfl⟩
  generalize L3.cutD (g1.map D.int) none (some 4)=C1 at *
  generalize L3.cutD (g2.map D.int) none (some 4)=C2 at *
  have i1:∀μ,bI (cH g1) μ=some (g1.map D.int):=λ_=>rfl
  have i2:∀μ,bI (cH g2) μ=some (g2.map D.int):=λ_=>rfl
  have live:∀X Y:List D,gA [some X,some Y] 1=true:=λ_ _=>rfl
  have r4:∀μ,Kg ([.int 4],μ)=some (⟨cL 0 4,none⟩,μ):=λμ=>wG (j:=4) (by decide) (by decide)
  have mk:∀g,pB n g->∀L rest,DlD L->∃(sh:List (Int×Int))(L':List Int),dY [.cell 0,.lst (g.map .int)] (some (L.map .int)::rest)=some (.tup (sh.map LG.pairD),some (L'.map .int)::rest)/\DlD L'/\sh≠[]/\sh.length<=4/\(∀p∈sh,p.1∈g/\1<=p.2/\p.2<=1000)/\(g.Nodup->(sh.map (·.1)).Pairwise (· < ·)):=λg hg L rest hL=>Ux L rest g hL hg.1 (by have:=hg.2.1;omega) λj hj=>by have:=hg.2.2.1 j hj;omega
  unfold lM
  simp[c1]
  refine dH (PI1 n g1 g2) ?_ ?_ _ _ _ ⟨L,[],none,none,none,none,none,cm1,by simp;omega,hL,λt h=>(by cases h),rfl,rfl⟩
  .rintro d4 r4' δ μ ⟨L,acc,o4,o5,o6,o7,o8,hi,hl,hL,ha,rfl,rfl⟩
   obtain⟨k,hk,rfl⟩:=hi d4 (by simp)
   have hk:=h1.2.2.1 k hk
   simp[c2]
   refine dH (PI2 n g1 g2 k r4'.length) ?_ ?_ _ _ _ ⟨L,acc,o5,o6,o7,o8,cm2,by simp at hl;omega,hL,ha,rfl,rfl⟩
   .rintro d5 r5' δ μ ⟨L,acc,o5,o6,o7,o8,hi5,hl5,hL,ha,rfl,rfl⟩
    obtain⟨j,hj,rfl⟩:=hi5 d5 (by simp)
    have hj:=h2.2.2.1 j hj
    obtain⟨x,L1,e1,hx,hL1⟩:=fX sO hL [some acc]
    obtain⟨m0,m1⟩:=bw (x:=x) (m:=3) (by decide)
    have hp:jL n (jP [(k,1+x.fmod 3)] [(j,1)]):=⟨_,_,rfl,Iu hk.1 hk.2 (by omega) (by omega),Iu hj.1 hj.2 (by decide) (by decide)⟩
    have ed:D.tup [.tup [.tup [.int k,.int (1+x.fmod 3)]],.tup [.tup [.int j,.int 1]]]=jP [(k,1+x.fmod 3)] [(j,1)]:=rfl
    have za:acc.length<sizeLine:=Zc (show _<2000 by simp at hl5;omega) (Zl (by decide:2000<=2 ^ 11) (by decide))
    have hfin:PI2 n g1 g2 k r4'.length r5' [some (.cell 0),some (cH g1),some (cH g2),some (.cell 1),some (.int k),some (.int j),o6,o7,o8] [some (L1.map .int),some (acc++[jP [(k,1+x.fmod 3)] [(j,1)]])]:=⟨L1,_,_,_,_,_,λd hd=>hi5 d (by simp[hd]),by simp at hl5 ⊢;omega,hL1,Ed ha hp,rfl,rfl⟩
    generalize jP [(k,1+x.fmod 3)] [(j,1)]=PP at *
    generalize hG1:cH g1=G1 at *
    generalize hG2:cH g2=G2 at *
    simp[e1,z1,z2,ed,fQ,live,za]
    exact hfin
   .rintro δ μ ⟨L,acc,o5,o6,o7,o8,hi5,hl5,hL,ha,rfl,rfl⟩
    have hfin:PI1 n g1 g2 r4' [some (.cell 0),some (cH g1),some (cH g2),some (.cell 1),some (.int k),o5,o6,o7,o8] [some (L.map .int),some acc]:=⟨L,_,_,_,_,_,_,λd hd=>hi d (by simp[hd]),by simp at hl5;omega,hL,ha,rfl,rfl⟩
    simpa using hfin
  .rintro δ μ ⟨L,acc,o4,o5,o6,o7,o8,hi,hl,hL,ha,rfl,rfl⟩
   simp[r4]
   refine dH (PI3 n g1 g2) ?_ ?_ _ _ _ ⟨L,acc,o4,o5,o6,o7,o8,λd hd=>?_,by simp at hl;rw[jd];omega,hL,ha,rfl,rfl⟩
   .rintro d6 r6' δ μ ⟨L,acc,o4,o5,o6,o7,o8,hi,hl,hL,ha,rfl,rfl⟩
    obtain⟨t,rfl,t0,t1⟩:=hi d6 (by simp)
    obtain⟨f,L1,e1,hL1,f1,f2,f3,f4⟩:=mk g1 h1 L [some acc] hL
    obtain⟨s,L2,e2,hL2,s1,s2,s3,s4⟩:=mk g2 h2 L1 [some acc] hL1
    have vf:=DN h1 f1 f2 f3 f4
    have vs:=DN h2 s1 s2 s3 s4
    have vt:=HY h1 (c:=2+t) (by omega) (by omega) f1 f2 f3 f4
    have p1:jL n (jP f s):=⟨_,_,rfl,vf,vs⟩
    have p2:jL n (jP (iw (2+t) f) s):=⟨_,_,rfl,vt,vs⟩
    have p3:jL n (jP s f):=⟨_,_,rfl,vs,vf⟩
    have e3:=λμ=>Nr f (2+t) μ (by omega) (by omega) λp hp=>(f3 p hp).2
    have d1:D.tup [.tup (f.map LG.pairD),.tup (s.map LG.pairD)]=jP f s:=rfl
    have d2:D.tup [.tup ((iw (2+t) f).map LG.pairD),.tup (s.map LG.pairD)]=jP (iw (2+t) f) s:=rfl
    have d3:D.tup [.tup (s.map LG.pairD),.tup (f.map LG.pairD)]=jP s f:=rfl
    have big:∀m,m<2000->m<sizeLine:=λm hm=>Zc hm (Zl (by decide:2000<=2 ^ 11) (by decide))
    have za:acc.length<sizeLine:=big _ (by simp at hl;omega)
    have zb:acc.length+1<sizeLine:=big _ (by simp at hl;omega)
    have zc:acc.length+1+1<sizeLine:=big _ (by simp at hl;omega)
    have hfin:PI3 n g1 g2 r6' [some (.cell 0),some (cH g1),some (cH g2),some (.cell 1),o4,o5,some (.int t),some (.tup (f.map LG.pairD)),some (.tup (s.map LG.pairD))] [some (L2.map .int),some (acc++[jP f s]++[jP (iw (2+t) f) s]++[jP s f])]:=⟨L2,_,_,_,_,_,_,λd hd=>hi d (by simp[hd]),by simp at hl ⊢;omega,hL2,Ed (Ed (Ed ha p1) p2) p3,rfl,rfl⟩
    generalize jP f s=P1 at *
    generalize jP (iw (2+t) f) s=P2 at *
    generalize jP s f=P3 at *
    generalize D.tup (f.map LG.pairD)=FD at *
    generalize D.tup (s.map LG.pairD)=SD at *
    generalize D.tup ((iw (2+t) f).map LG.pairD)=TD at *
    generalize g1.map D.int=I1 at *
    generalize g2.map D.int=I2 at *
    generalize cH g1=G1 at *
    generalize cH g2=G2 at *
    simp[i1,i2,e1,e2,z2,d1,fQ,live,za,e3,d2,zb,d3,zc]
    simpa using hfin
   .rintro δ μ ⟨L,acc,o4,o5,o6,o7,o8,hi,hl,hL,ha,rfl,rfl⟩
    have hnc:nc (.lst acc):=BV.mpr λt ht=>jL.nc (by omega) (ha t ht)
    simp
    exact⟨_,L,⟨rfl,rfl⟩,hnc,acc,rfl,hL,ha⟩
   .obtain⟨t,e,t0,t1⟩:=ud hd
    exact⟨t,e,t0,by omega⟩
 obtain⟨d,L',e,ts,rfl,r⟩:=key
 exact⟨ts,L',e,r⟩
theorem MP(ns:List Int)(h:ns.length<=63):∃μ',Ce [.ro (ns.map .int)] []=some (.bl true,μ'):=by
 apply My
 obtain⟨L,eD,hL⟩:=IV QX ns h
 have eD:gM [.ro (ns.map .int)] []=some (.cell 0,[some (L.map .int)]):=eD
 obtain⟨d,ps,g1,g2,L1,e1,hL1,d1,d3,hpl,hp,h1,h2⟩:=case' L hL
 obtain⟨ts,L2,e2,hL2,ht⟩:=Kq ps.length hpl g1 g2 L1 hL1 h1 h2
 have q1:=λf s μ hf hs hm=>gap' d ps g1 g2 f s μ ⟨d1,d3,hp,by omega,h1.2.2.1,h2.2.2.1,by have:=h1.2.1;omega,by have:=h2.2.1;omega,hf,hs⟩ hm
 have q2:=λf s μ hf hs hm=>near' d ps g1 g2 f s μ ⟨d1,d3,hp,by omega,h1.2.2.1,h2.2.2.1,by have:=h1.2.1;omega,by have:=h2.2.1;omega,hf,hs⟩ hm
 have eq:=λμ=>Ra ps μ
 apply iW
 unfold qZ
 have hmu:jC [some (L2.map .int)]:=jC.nil.dr
 generalize ps.map aN=PD at *
 generalize cH g1=G1 at *
 generalize cH g2=G2 at *
 generalize Oa d ps g1 g2=GV at *
 simp[eD,e1,e2]
 refine dH (λits δ μ=>∃o6 o7 o8,(∀t∈its,jL ps.length t)/\μ=[some (L2.map .int)]/\δ=[some (.ro (ns.map .int)),some (.cell 0),some (.lst PD),some G1,some G2,some (.lst PD),o6,o7,o8]) ?_ ?_ _ _ _ ⟨none,none,none,ht,rfl,rfl⟩
 .rintro d6 r6 δ μ ⟨o6,o7,o8,hi,rfl,rfl⟩
  obtain⟨f,s,rfl,hf,hs⟩:=hi d6 (by simp)
  have w1:=q1 f s [some (L2.map .int)] hf hs hmu
  have w2:=q2 f s [some (L2.map .int)] hf hs hmu
  generalize GV f s=v at *
  generalize jP f s=PP at *
  have r2:=wG (j:=2) (μ:=[some (L2.map .int)]) (by decide) (by decide)
  simp[w2,r2]
  refine dH (λits δ μ=>∃o8,μ=[some (L2.map .int)]/\δ=[some (.ro (ns.map .int)),some (.cell 0),some (.lst PD),some G1,some G2,some (.lst PD),some PP,some (.bl v),o8]) ?_ ?_ _ _ _ ⟨o8,rfl,rfl⟩
  .rintro d8 r8 δ μ ⟨o8,rfl,rfl⟩
   simp[w1,Uw]
  .rintro δ μ ⟨o8,rfl,rfl⟩
   simp
   exactλt h=>hi t (by simp[h])
 .rintro δ μ ⟨o6,o7,o8,hi,rfl,rfl⟩
  simp[eq]
end Lk75
def PySem.W.Fast.tw10098711169142733222:=0
def PySem.W.Fast.tw1014295540771455935:=0
def PySem.W.Fast.tw1029355150477634188:=0
def PySem.W.Fast.tw1060022138179127975:=0
def PySem.W.Fast.tw10724012496338280614:=0
def PySem.W.Fast.tw10791101233158279929:=0
def PySem.W.Fast.tw10828685340409667879:=0
def PySem.W.Fast.tw11531919182837067116:=0
def PySem.W.Fast.tw11630605093549203718:=0
def PySem.W.Fast.tw11639826151316113297:=0
def PySem.W.Fast.tw11677371454219739951:=0
def PySem.W.Fast.tw11861540156027349814:=0
def PySem.W.Fast.tw11904065235124101763:=0
def PySem.W.Fast.tw12014815602509036235:=0
def PySem.W.Fast.tw12031689248607419176:=0
def PySem.W.Fast.tw12196171359532883617:=0
def PySem.W.Fast.tw12810251175738327883:=0
def PySem.W.Fast.tw13234802468795363380:=0
def PySem.W.Fast.tw13296415677038815072:=0
def PySem.W.Fast.tw13740665140643307438:=0
def PySem.W.Fast.tw13962484345351862555:=0
def PySem.W.Fast.tw14604862231216947757:=0
def PySem.W.Fast.tw14970200270404772238:=0
def PySem.W.Fast.tw15312775544461307837:=0
def PySem.W.Fast.tw15445609998182786662:=0
def PySem.W.Fast.tw15588144486466086108:=0
def PySem.W.Fast.tw15944378052977897340:=0
def PySem.W.Fast.tw16523542981109500364:=0
def PySem.W.Fast.tw16769602677421667323:=0
def PySem.W.Fast.tw1745856547033621027:=0
def PySem.W.Fast.tw18042732910605848429:=0
def PySem.W.Fast.tw1838851268766304304:=0
def PySem.W.Fast.tw1988424314734264370:=0
def PySem.W.Fast.tw2018308529238087514:=0
def PySem.W.Fast.tw2019260828976350842:=0
def PySem.W.Fast.tw2054300778810429599:=0
def PySem.W.Fast.tw2210255833539366124:=0
def PySem.W.Fast.tw2278687198925006071:=0
def PySem.W.Fast.tw26861881268662423:=0
def PySem.W.Fast.tw4959946140331313202:=0
def PySem.W.Fast.tw509097047743280894:=0
def PySem.W.Fast.tw5406110067116549680:=0
def PySem.W.Fast.tw5445341979758673272:=0
def PySem.W.Fast.tw56314616971293373:=0
def PySem.W.Fast.tw5916074726932512253:=0
def PySem.W.Fast.tw5977829572416194167:=0
def PySem.W.Fast.tw6105947679828591752:=0
def PySem.W.Fast.tw6451033137377317446:=0
def PySem.W.Fast.tw6558727740581608850:=0
def PySem.W.Fast.tw6659789886226543523:=0
def PySem.W.Fast.tw6946292866336173671:=0
def PySem.W.Fast.tw7967835670435166740:=0
def PySem.W.Fast.tw9320028153244881138:=0
open PySem PySem.W PyProof.Rows
set_option maxRecDepth 100000 in
set_option maxHeartbeats 0 in
theorem PySem.Challenge.cw_heapsmeet_k75_gap_papers_holds : PySem.Challenge.rw_heapsmeet_k75_gap_papers.Holds := by
 w_on; o_law; k_head; (case hw => w_witness2)
 k_fill
 refine L3.Im (l := PySem.Challenge.rw_heapsmeet_k75_gap_papers) (n := 63) (k := 11) (x := "_law_script") (φ := Lk75.Ce) rfl (by decide) rfl ⟨rfl, by decide, by decide⟩ (λ w h Y => by first | exact PySem.W.kIn_of Y | exact PySem.W.km_in_of Y) ?F ?S
 case F =>
  intro w mg mb mean lo fa h KX G hmg
  apply Lk75.PX KX G hmg <;> first | (apply L3.PN <;> first | k_is | rfl) | k_is | rfl
 case S => exact λ ns hl => Lk75.MP ns hl
