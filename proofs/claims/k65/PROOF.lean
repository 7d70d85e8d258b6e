import PyProof.Rows.All
import Wide.All
import OpenK.AllK
import Wide.FinOn
import Lean
import PyProof.EqAt
import PyProof.EqKinds
import PyProof.TupleCall
import PyProof.ListRange
import PyProof.TupleOfSeq
import PyProof.Conv_int_bool
import PyProof.ReprRoads
import PyProof.FitsInt
import PySem.Challenge.RW_heapsmeet_k65_shows
set_option Elab.async false
noncomputable section
abbrev Za:=@Option.bind_eq_some_iff
abbrev Zb:=@PySem.Heap.get?_push_of_some
abbrev Zc:=@Nat.lt_of_lt_of_le
abbrev Zd:=@List.size_toArray
abbrev Ze:=@PySem.Heap.lt_size
abbrev Zf:=@PySem.Heap.get?_push_size
abbrev Zg:=@Nat.le_refl
abbrev Zh:=@List.getElem?_eq_some_iff
abbrev Zi:=@List.mem_cons
abbrev Zj:=@List.map_cons
abbrev Zk:=@Nat.ne_of_lt
abbrev Zl:=@Nat.le_trans
abbrev Zm:=@List.mem_append
abbrev Zn:=@List.mem_append_right
abbrev Zo:=@Bool.and_eq_true
abbrev Zp:=@Option.map_eq_some_iff
abbrev Zq:=@List.mem_map
abbrev Zr:=@Bool.false_ne_true
abbrev Zs:=@List.getElem?_append_left
abbrev Zt:=@PySem.mem_of_lookup
abbrev Zu:=@List.length_map
abbrev Zv:=@PySem.wpAny_bind
abbrev Zw:=@PySem.W.Frag
abbrev Zx:=@PySem.wpAny_pure
abbrev Zy:=@PySem.wpAny_mono
abbrev Zz:=@PySem.wpAny_newObj_type
abbrev ZB:=@PySem.W.CodeHd
abbrev ZC:=@PySem.PassesOwn.never
abbrev ZD:=@Int.fdiv_eq_ediv_of_nonneg
abbrev ZE:=@List.mem_cons_of_mem
abbrev ZF:=@List.not_mem_nil
abbrev ZG:=@List.length_append
abbrev ZH:=@List.length_cons
abbrev ZI:=@List.mem_singleton
abbrev ZJ:=@List.drop_eq_getElem_cons
abbrev ZK:=@Option.bind_some
set_option linter.all false
set_option maxRecDepth 100000
namespace L2
open PySem PySem.Spec PyProof.Rows
abbrev Key:=Sum Int Str
def Jf:Key->Value->Bool
 | .inl k,v=>Value.isInt k v
 | .inr x,v=>Value.isStrOf x v
def keyH(w:World):Key->Int
 | .inl k=>hashInt k
 | .inr x=>hashStr w x
theorem cY:∀{k:Key}{v:Value},Jf k v=true->(∃i t,k=Sum.inl i/\v=Value.int i t)∨(∃x t,k=Sum.inr x/\v=Value.str x t)
 | .inl i,v,h=>by
  obtain⟨t,e⟩:=Value.isInt_shape (k:=i) (v:=v) h
  exact .inl ⟨i,t,rfl,e⟩
 | .inr x,v,h=>by
  obtain⟨t,e⟩:=Value.isStrOf_shape (x:=x) (v:=v) h
  exact .inr ⟨x,t,rfl,e⟩
theorem KJ(a b:Int):decide ((Sum.inl a:Key)=Sum.inl b)=(a==b):=by
 by_cases e:a=b
 .subst e;simp
 .have h:¬(Sum.inl a:Key)=Sum.inl b:=λq=>e (Sum.inl.inj q)
  rw[decide_eq_false h]
  exact(beq_eq_false_iff_ne.mpr e).symm
theorem JL(a b:Str):decide ((Sum.inr a:Key)=Sum.inr b)=decide (a=b):=by
 by_cases e:a=b
 .subst e;simp
 .have h:¬(Sum.inr a:Key)=Sum.inr b:=λq=>e (Sum.inr.inj q)
  rw[decide_eq_false h,decide_eq_false e]
theorem Mp(a:Int)(b:Str):decide ((Sum.inl a:Key)=Sum.inr b)=false:=decide_eq_false (λq=>nomatch q)
theorem Kg(a:Str)(b:Int):decide ((Sum.inr a:Key)=Sum.inl b)=false:=decide_eq_false (λq=>nomatch q)
def uH(prog:Program)(w:World):PySem.KeyKind prog w Key where
 is:=Jf
 hash:=keyH w
 inj:=λv a b ha hb=>by
  rcases cY ha with⟨i,t,rfl,rfl⟩|⟨x,t,rfl,rfl⟩
  .rcases cY hb with⟨j,u,rfl,e⟩|⟨y,u,rfl,e⟩
   .injection e with e1 _;rw[e1]
   .exact nomatch e
  .rcases cY hb with⟨j,u,rfl,e⟩|⟨y,u,rfl,e⟩
   .exact nomatch e
   .injection e with e1 _;rw[e1]
 byValue:=λk v h=>by
  rcases cY h with⟨i,t,rfl,rfl⟩|⟨x,t,rfl,rfl⟩<;>rfl
 pyHash:=λhv h=>by
  rcases cY hv with⟨i,t,rfl,rfl⟩|⟨x,t,rfl,rfl⟩
  .exact wpAny_pyHash_int h
  .exact wpAny_pyHash_str h
 eqBool:=λhu hv h=>by
  rcases cY hu with⟨i,t,rfl,rfl⟩|⟨x,t,rfl,rfl⟩
  .rcases cY hv with⟨j,u,rfl,rfl⟩|⟨y,u,rfl,rfl⟩
   .rw[KJ]at h;exact wpAny_eqBool_int h
   .rw[Mp]at h;exact SeqAt.EqAt.int_str i t y u _ _ _ _ h
  .rcases cY hv with⟨j,u,rfl,rfl⟩|⟨y,u,rfl,rfl⟩
   .rw[Kg]at h;exact SeqAt.EqAt.str_int x t j u _ _ _ _ h
   .rw[JL]at h;exact wpAny_eqBool_str h
 «strs»:=λk x t v h=>by
  rcases cY h with⟨i,u,rfl,e⟩|⟨y,u,rfl,e⟩
  .exact nomatch e
  .injection e with e1 _
   subst e1
   cases v<;>rfl
inductive V where
 |non|bl (b:Bool)|int (i:Int)|str (x:Str)|byt (b:Array UInt8)|flt (b:UInt64)|ref (a:Addr)|ty (n:String)
 deriving DecidableEq
def bY:V->Value->Prop
 | .non,u=>u=Value.none
 | .bl b,u=>u=Value.bool b
 | .int i,u=>∃t,u=Value.int i t
 | .str x,u=>∃t,u=Value.str x t
 | .byt b,u=>∃t,u=Value.bytes b t
 | .flt b,u=>∃t,u=Value.float b t
 | .ref a,u=>u=Value.ref a
 | .ty n,u=>u=Value.type n
abbrev aY:List V->List Value->Prop:=Paired bY
theorem aY.length{xs:List V}{us:List Value}(r:aY xs us):xs.length=us.length:=Paired.length r
theorem aY.get:∀{xs:List V}{us:List Value}{i:Nat}{x:V},aY xs us->xs[i]? =some x->∃u,us[i]? =some u/\bY x u
 |_,_,_,_,.nil,e=>by simp at e
 |_,_,0,_,.cons r _,e=>by simp at e;subst e;exact⟨_,rfl,r⟩
 |_,_,i+1,x,.cons _ t,e=>by
  obtain⟨u,h1,h2⟩:=aY.get (i:=i) (x:=x) t (by simpa using e)
  exact⟨u,by simpa using h1,h2⟩
theorem aY.set{x:V}{u:Value}(r:bY x u):∀{xs:List V}{us:List Value}(i:Nat),aY xs us->aY (xs.set i x) (us.set i u)
 |_,_,_,.nil=>.nil
 |_,_,0,.cons _ t=>.cons r t
 |_,_,i+1,.cons q t=>.cons q (aY.set r i t)
theorem aY.append:∀{xs ys:List V}{us ws:List Value},aY xs us->aY ys ws->aY (xs++ys) (us++ws)
 |_,_,_,_,.nil,s=>s
 |_,_,_,_,.cons r t,s=>.cons r (aY.append t s)
theorem aY.take:∀{xs:List V}{us:List Value}(n:Nat),aY xs us->aY (xs.take n) (us.take n)
 |_,_,0,_=>.nil
 |_,_,_+1,.nil=>.nil
 |_,_,n+1,.cons r t=>.cons r (aY.take n t)
theorem aY.drop:∀{xs:List V}{us:List Value}(n:Nat),aY xs us->aY (xs.drop n) (us.drop n)
 |_,_,0,r=>r
 |_,_,_+1,.nil=>.nil
 |_,_,n+1,.cons _ t=>aY.drop n t
theorem aY.none_of:∀{xs:List V}{us:List Value}{i:Nat},aY xs us->xs[i]? =none->us[i]? =none:=λ{xs us i} r e=>by
 have h1:=r.length
 have h2:xs.length<=i:=List.getElem?_eq_none_iff.mp e
 exact List.getElem?_eq_none_iff.mpr (by omega)
def Ou:Option V->Option Value->Prop
 |some v,some u=>bY v u
 |none,none=>True
 |_,_=>False
def KV{κ:Type}:List (κ×V)->List (κ×Value)->Prop:=Paired λ(p:κ×V)(q:κ×Value)=>p.1=q.1/\bY p.2 q.2
def kV:Key->V
 | .inl i=>.int i
 | .inr x=>.str x
inductive HO where
 |lst (xs:List V)
 |tup (xs:List V)
 |dK (kvs:List (Key×V))|dT (kvs:List (List Key×V))
 |set (S:Int->Bool) (n:Nat)
 |ins (C dx:Addr) (fs:List (Str×V))
 |own (x:Addr)
 |xd (fs:List (Str×V))
 |met (f x:Addr)
 |rng (lo hi:Int)
 |frz (o:Obj) (u:HO)
 |tbl (ps:Array Value)
 |ext (φ:Heap->Prop)
abbrev Hp:=Addr->Option HO
def upd(H:Hp)(a:Addr)(o:HO):Hp:=λb=>if b=a then some o else H b
theorem cW{H:Hp}{a:Addr}{o:HO}:upd H a o a=some o:=by unfold upd;rw[if_pos rfl]
theorem aO{H:Hp}{a b:Addr}{o:HO}(h:b≠a):upd H a o b=H b:=by unfold upd;rw[if_neg h]
theorem uU{H:Hp}{a b:Addr}{o u:HO}(h:H a=some o)(h':H b=some u)(d:o≠u):a≠b:=by
 intro e;subst e;rw[h]at h';exact d (Option.some.inj h')
theorem cD{H:Hp}{a b:Addr}{o:HO}(h:H a=some o)(h':H b=none):a≠b:=by
 intro e;subst e;rw[h]at h';cases h'
section
variable (P:Program) (w:World)
def gH(H:Hp)(h:Heap)(a:Addr):HO->Prop
 | .lst xs=>xs.length<=sizeLine/\∃(its:List Value)(n:Nat),aY xs its/\h.get? a=some { cls:=.type "list",data:=.seq its.toArray n}
 | .tup xs=>xs.length<=sizeLine/\∃its:List Value,aY xs its/\IsTup h a its.toArray
 | .dK kvs=>kvs.length<=sizeLine/\(a==sysModules)=false/\∃vs,KV kvs vs/\h.DictOf (uH P w) a vs
 | .dT kvs=>kvs.length<=sizeLine/\(a==sysModules)=false/\∃xs:List (List Key×Addr×Value),
   Paired (λ(p:List Key×V)(q:List Key×Addr×Value)=>p.1=q.1/\H q.2.1=some (.tup (p.1.map kV))/\bY p.2 q.2.2) kvs xs/\
   ∃o es ep,h.get? a=some o/\o.ExactDict/\o.data= .dict es ep/\es.toList=xs.map (entryOfKey (tupleKind (uH P w)))/\(xs.map (·.1)).Nodup
 | .set S n=>h.SetOf (intKind P w) a S n
 | .ins C dx fs=>H dx=some (.own a)/\fs.length<=1000/\dx≠a/\h.get? a=some (PySem.W.instObj C dx)/\
   ∃mA,h.Ns1 dx mA/\(∀f,Ou (fs.lookup f) (mA f))/\PySem.Within mA (fs.map (·.1))
 | .own _=>∃o,h.get? a=some o
 | .xd fs=>∃mA,h.Ns1 a mA/\∀f,Ou (fs.lookup f) (mA f)
 | .rng lo hi=>∃t u v,h.get? a=some { cls:=.type "range",data:=.fields #[.int lo t,.int hi u,.int 1 v] }
 | .frz o u=>h.get? a=some o/\gH H h a u
 | .tbl ps=>h.get? a=some { cls:=.none,data:=.fields ps}
 | .met f x=>h.get? a=some (PySem.W.methodObj (.ref f) (.ref x))
 | .ext φ=>φ h/\(∃o,h.get? a=some o)/\∀h1 h2:Heap,φ h1->(∀o,h1.get? a=some o->h2.get? a=some o)->φ h2
def HOk(H:Hp)(h:Heap):Prop:=∀a o,H a=some o->gH P w H h a o
end
section
variable {P:Program} {w:World} {H H':Hp} {h h':Heap} {a:Addr} {o:HO}
theorem gH.lt(x:gH P w H h a o):a<h.objs.size:=by
 cases o with
 |lst xs=>obtain⟨_,_,_,_,e⟩:=x;exact Ze e
 |tup xs=>obtain⟨_,_,_,p⟩:=x;exact p.lt
 |dK kvs=>obtain⟨_,_,_,_,o,_,_,e,_⟩:=x;exact Ze e
 |dT kvs=>obtain⟨_,_,_,_,o,_,_,e,_⟩:=x;exact Ze e
 |set S n=>obtain⟨o,_,_,_,e,_⟩:=x;exact Ze e
 |ins C dx fs=>obtain⟨_,_,_,e,_⟩:=x;exact Ze e
 |own y=>obtain⟨_,e⟩:=x;exact Ze e
 |xd fs=>obtain⟨_,⟨_,_,_,e,_⟩,_⟩:=x;exact Ze e
 |rng lo hi=>obtain⟨_,_,_,e⟩:=x;exact Ze e
 |frz ob u=>obtain⟨e,_⟩:=x;exact Ze e
 |tbl ps=>exact Ze (show h.get? a=some _ from x)
 |met f y=>exact Ze (show h.get? a=some _ from x)
 |ext φ=>obtain⟨_,⟨_,e⟩,_⟩:=x;exact Ze e
theorem Paired.mapP{α β:Type}{F G:α->β->Prop}:∀{l₁:List α}{l₂:List β},Paired F l₁ l₂->(∀a b,F a b->G a b)->Paired G l₁ l₂
 |_,_,.nil,_=>.nil
 |_,_,.cons r t,f=>.cons (f _ _ r) (Paired.mapP t f)
theorem gH.stay(x:gH P w H h a o)(k:∀b u,(b=a∨H b=some (.own a))->h.get? b=some u->h'.get? b=some u)
  (ho:∀b,H b=some (.own a)->H' b=some (.own a)) (ht:∀b xs,H b=some (.tup xs)->H' b=some (.tup xs)):gH P w H' h' a o:=by
 induction o with
 |lst xs=>obtain⟨z,its,n,r,e⟩:=x;exact⟨z,its,n,r,k _ _ (.inl rfl) e⟩
 |tup xs=>obtain⟨z,its,r,ob,e,c⟩:=x;exact⟨z,its,r,ob,k _ _ (.inl rfl) e,c⟩
 |dK kvs=>obtain⟨z,y,vs,r,ob,es,ep,e,c⟩:=x;exact⟨z,y,vs,r,ob,es,ep,k _ _ (.inl rfl) e,c⟩
 |dT kvs=>
  obtain⟨z,y,xs,r,ob,es,ep,e,c⟩:=x
  exact⟨z,y,xs,Paired.mapP r λp q z=>⟨z.1,ht _ _ z.2.1,z.2.2⟩,ob,es,ep,k _ _ (.inl rfl) e,c⟩
 |set S n=>obtain⟨ob,es,ep,t,e,c⟩:=x;exact⟨ob,es,ep,t,k _ _ (.inl rfl) e,c⟩
 |ins C dx fs=>
  obtain⟨d,z,ne,e,mA,⟨od,es,ep,e2,c⟩,r⟩:=x
  exact⟨ho _ d,z,ne,k _ _ (.inl rfl) e,mA,⟨od,es,ep,k _ _ (.inr d) e2,c⟩,r⟩
 |own y=>obtain⟨ob,e⟩:=x;exact⟨ob,k _ _ (.inl rfl) e⟩
 |xd fs=>obtain⟨mA,⟨od,es,ep,e,c⟩,r⟩:=x;exact⟨mA,⟨od,es,ep,k _ _ (.inl rfl) e,c⟩,r⟩
 |rng lo hi=>obtain⟨t,u,v,e⟩:=x;exact⟨t,u,v,k _ _ (.inl rfl) e⟩
 |frz ob u ih=>obtain⟨e,q⟩:=x;exact⟨k _ _ (.inl rfl) e,ih q⟩
 |tbl ps=>
  have e:h.get? a=some { cls:=.none,data:=.fields ps}:=x
  show h'.get? a=some { cls:=.none,data:=.fields ps}
  exact k a _ (.inl rfl) e
 |met f y=>
  have e:h.get? a=some (PySem.W.methodObj (.ref f) (.ref y)):=x
  show h'.get? a=some (PySem.W.methodObj (.ref f) (.ref y))
  exact k a _ (.inl rfl) e
 |ext φ=>obtain⟨p,⟨o,e⟩,st⟩:=x;exact⟨st _ _ p λo q=>k _ _ (.inl rfl) q,⟨o,k _ _ (.inl rfl) e⟩,st⟩
theorem HOk.lt(x:HOk P w H h)(e:H a=some o):a<h.objs.size:=(x a o e).lt
theorem HOk.fresh(x:HOk P w H h)(e:h.objs.size<=a):H a=none:=by
 cases q:H a with
 |none=>rfl
 |some u=>exact absurd (Zc (x.lt q) e) (Nat.lt_irrefl _)
theorem HOk.kept(x:HOk P w H h)(k:∀b u,h.get? b=some u->h'.get? b=some u):HOk P w H h':=λa o e=>
 (x a o e).stay (λb u _ q=>k b u q) (λ_ q=>q) λ_ _ q=>q
theorem HOk.laid(x:HOk P w H h)(k:∀b u,h.get? b=some u->h'.get? b=some u)(hp:h.objs.size<=a)(new:gH P w (upd H a o) h' a o):HOk P w (upd H a o) h':=λb u e=>by
 have hn:=x.fresh hp
 by_cases hb:b=a
 .subst hb;rw[cW]at e;cases e;exact new
 .rw[aO hb]at e
  exact(x b u e).stay (λc v _ q=>k c v q) (λc q=>by rw[aO (cD q hn)];exact q) λc xs q=>by rw[aO (cD q hn)];exact q
end
def Rd(H:Hp)(a:Addr)(u:HO):Prop:=H a=some u∨∃o,H a=some (.frz o u)
theorem Rd.ok{P:Program}{w:World}{H:Hp}{h:Heap}{a:Addr}{u:HO}(r:Rd H a u)(x:HOk P w H h):gH P w H h a u:=by
 rcases r with r|⟨o,r⟩
 .exact x a u r
 .obtain⟨_,q⟩:=x a _ r
  exact q
def Mut:Option HO->Prop
 |some (.lst _)=>True
 |some (.dK _)=>True
 |some (.dT _)=>True
 |some (.set _ _)=>True
 |some (.ins _ _ _)=>True
 |some (.ext _)=>True
 |_=>False
section
variable {P:Program} {w:World} {H:Hp} {h h':Heap} {x e:Addr} {o':HO}
theorem HOk.write(ok:HOk P w H h)(mu:Mut (H x))(he:e=x∨H e=some (.own x))(k:∀b u,b≠e->h.get? b=some u->h'.get? b=some u)(heo:∃u,h'.get? e=some u)
  (new:gH P w (upd H x o') h' x o'):HOk P w (upd H x o') h':=λb u q=>by
 have nown:∀c y,H c=some (.own y)->c≠x:=λc y r z=>by subst z;rw[r]at mu;exact mu
 have ntup:∀c xs,H c=some (.tup xs)->c≠x:=λc xs r z=>by subst z;rw[r]at mu;exact mu
 by_cases hb:b=x
 .subst hb;rw[cW]at q;cases q;exact new
 .rw[aO hb]at q
  by_cases hbe:b=e
  .have q':H b=some (.own x):=by
    rcases he with z|z
    .exact absurd (hbe.trans z) hb
    .rw[hbe];exact z
   rw[q]at q';cases q'
   obtain⟨v,hv⟩:=heo
   exact⟨v,by rw[hbe];exact hv⟩
  .refine(ok b u q).stay (λc v hc r=>k c v ?_ r) (λc r=>by rw[aO (nown c b r)];exact r) λc xs r=>by rw[aO (ntup c xs r)];exact r
   rcases hc with rfl|hc
   .exact hbe
   .rintro rfl
    rcases he with z|z
    .exact nown c b hc z
    .rw[hc]at z;cases z;exact hb rfl
end
structure Un(fs ex:List Addr)(H H':Hp)(h h':Heap):Prop where
 keep:∀b o,h.get? b=some o->H b=none->b∉fs->b∉ex->h'.get? b=some o
 slot:∀b o,h.get? b=some o->H b=none->b∈fs->b∉ex->∃sl,h'.get? b=some { o with slots:=sl}
 free:∀b o,h.get? b=some o->H b=none->b∉ex->H' b=none
 there:∀b o,h.get? b=some o->b∉ex->∃o',h'.get? b=some o'
 tups:∀b xs,H b=some (.tup xs)->H' b=some (.tup xs)
 frzs:∀b o u,H b=some (.frz o u)->H' b=some (.frz o u)
 tbls:∀b ps,H b=some (.tbl ps)->∃more,H' b=some (.tbl (ps++more))
section
variable {fs fs' ex ex':List Addr} {H H1 H2:Hp} {h h1 h2 h':Heap} {a x e:Addr} {o:HO}
theorem Un.any(u:Un fs ex H H1 h h1){b:Addr}{ob:Obj}(q:h.get? b=some ob)(n:H b=none)(hx:b∉ex):∃sl,h1.get? b=some { ob with slots:=sl}:=by
 by_cases hb:b∈fs
 .exact u.slot b ob q n hb hx
 .exact⟨ob.slots,u.keep b ob q n hb hx⟩
theorem Un.kept(k:∀b u,h.get? b=some u->h'.get? b=some u):Un fs ex H H h h':=
 ⟨λb ob q _ _ _=>k b ob q,λb ob q _ _ _=>⟨ob.slots,k b ob q⟩,λ_ _ _ n _=>n,λb ob q _=>⟨ob,k b ob q⟩,λ_ _ q=>q,λ_ _ _ q=>q,λ_ ps q=>⟨#[],by rw[q];simp⟩⟩
theorem Un.refl:Un fs ex H H h h:=Un.kept λ_ _ q=>q
theorem Un.laid(k:∀b u,h.get? b=some u->h'.get? b=some u)(hp:h.objs.size<=a)(hn:H a=none):Un fs ex H (upd H a o) h h' where
 keep:=λb u q _ _ _=>k b u q
 slot:=λb u q _ _ _=>⟨u.slots,k b u q⟩
 free:=λb u q n _=>by rw[aO (Zk (Zc (Ze q) hp))];exact n
 there:=λb u q _=>⟨u,k b u q⟩
 tups:=λb xs q=>by rw[aO (cD q hn)];exact q
 frzs:=λb u xs q=>by rw[aO (cD q hn)];exact q
 tbls:=λb ps q=>⟨#[],by rw[aO (cD q hn),q];simp⟩
theorem Un.write(mu:Mut (H x))(he:e=x∨H e=some (.own x))(k:∀b u,b≠e->h.get? b=some u->h'.get? b=some u)(heo:∃u,h'.get? e=some u):Un fs ex H (upd H x o) h h':=by
 have hx:∀b,H b=none->b≠x:=λb n z=>by subst z;rw[n]at mu;exact mu
 have hb:∀b,H b=none->b≠e:=λb n z=>by
  subst z
  rcases he with r|r
  .exact hx b n r
  .rw[n]at r;cases r
 have hm:∀b u,H b=some u->¬Mut (some u)->b≠x:=λb u q nm z=>by subst z;rw[q]at mu;exact nm mu
 refine⟨λb u q n _ _=>k b u (hb b n) q,λb u q n _ _=>⟨u.slots,k b u (hb b n) q⟩,λb u q n _=>by rw[aO (hx b n)];exact n,λb u q _=>?_,
  λb xs q=>by rw[aO (hm b _ q λz=>z)];exact q,λb u xs q=>by rw[aO (hm b _ q λz=>z)];exact q,λb ps q=>⟨#[],by rw[aO (hm b _ q λz=>z),q];simp⟩⟩
 by_cases hbe:b=e
 .subst hbe;exact heo
 .exact⟨u,k b u hbe q⟩
end
def trk(h:Heap)(H:Hp):List Addr:=(List.range h.objs.size).filter λa=>(H a).isSome
def uo(h:Heap)(H:Hp):Heap:=PySem.W.hideAll h (trk h H)
theorem Ar(h:Heap)(H:Hp):(uo h H).objs.size=h.objs.size:=PySem.W.hideAll_size _ _
theorem Ek{h:Heap}{H:Hp}{b:Addr}{o:Obj}(e:h.get? b=some o)(n:H b=none):(uo h H).get? b=some o:=
 PySem.W.hideAll_get _ e λhm=>by
  have q:(H b).isSome=true:=(List.mem_filter.mp hm).2
  rw[n]at q;simp at q
theorem Ga{h:Heap}{H:Hp}{b:Addr}{o:Obj}(e:(uo h H).get? b=some o):h.get? b=some o/\H b=none:=by
 have e':h.get? b=some o:=PySem.W.of_hideAll (trk h H) e
 refine⟨e',?_⟩
 cases q:H b with
 |none=>rfl
 |some x=>
  have hm:b∈trk h H:=List.mem_filter.mpr ⟨List.mem_range.mpr (Ze e'),by simp[q]⟩
  have z:(uo h H).get? b=none:=PySem.W.hideAll_none (trk h H) hm
  rw[z]at e;cases e
def Iu(g h:Heap)(L:Addr):List (Addr×Obj):=(List.range h.objs.size).filterMap λa=>if a=L∨(g.get? a).isSome=true then none else(h.get? a).map λo=>(a,o)
def rest(g h:Heap)(L d:Addr):List (Addr×Obj):=(Iu g h L).filter λp=>decide (p.1≠d)
structure Mod(K:Zw)(mg:Str->Option Value)(base:Heap):Prop where
 kin:K.In base
 glob:base.Ns mainGlobals mg
 blt:∃mb,base.Ns builtinsNs mb/\∀x:Str,x≠"__name__"->mb x=bootBuiltins x
 nolimit:base.NoLimit
 bmain:∃bm ob,mg "__builtins__"=some (.ref bm)/\bm≠builtinsNs/\base.get? bm=some ob/\ob.cls= .type "module"/\ob.dict=some builtinsNs/\ob.data= .plain
structure Cx where
 prog:Program
 w:World
 K:Zw
 mg:Str->Option Value
 base:Heap
 A:Around
 N:List Str
 s₀:Shared
 H₀:Hp
 env:Env
 outer:List Env
 stack:List Env
 ex:List Addr
 fn:Str->Bool
 calm:Bool
 pn:List (Addr×Obj)
 xe:Value->Shared->Prop
def frs(l:List Env):List Addr:=l.filterMap (·.frame)
abbrev Cx.fs(X:Cx):List Addr:=frs X.outer
def Vis(sc:Scope)(x:Str):Prop:=sc.names.lookup x=some .local∨sc.names.lookup x=some .cell∨sc.names.lookup x=some .free
def Loc(sc:Scope)(x:Str):Prop:=sc.names.lookup x=some .local∨sc.names.lookup x=some .cell
def Look(env:Env)(h:Heap)(m:Str->Option Value)(x:Str)(u:Value):Prop:=
 (env.kindOf x=some .local/\m x=some u)∨((env.kindOf x=some .cell∨env.kindOf x=some .free)/\∃c,env.cells.lookup x=some c/\h.IsCell c (some u))
structure Cx.Ok(X:Cx):Prop where
 mod:Mod X.K X.mg X.base
 kind:X.env.scope.kind= .function
 glob:X.env.globals=mainGlobals
 blt:X.env.builtins=builtinsNs
 above:X.s₀.heap.objs.size<=X.env.locals
 inj:∀x y c,X.env.cells.lookup x=some c->X.env.cells.lookup y=some c->x=y
 has:∀x,(X.env.kindOf x=some .cell∨X.env.kindOf x=some .free)->∃c,X.env.cells.lookup x=some c
 cab:∀x c,X.fn x=true->X.env.cells.lookup x=some c->X.s₀.heap.objs.size<=c
 hd:X.calm=true->X.A.handled=none
 frames:X.A.frames=some X.stack
 stk:X.stack=X.outer∨(X.stack=X.env::X.outer/\X.env.frame=some X.env.locals)
 exf:∀b∈X.ex,b≠X.env.locals/\∀x c,X.env.cells.lookup x=some c->c≠b
 bs:∀b o,X.base.get? b=some o->X.s₀.heap.get? b=some o/\X.H₀ b=none
 bsz:X.base.objs.size<=X.s₀.heap.objs.size
 noex:∀b o,X.base.get? b=some o->b∉X.ex
 exfs:∀b∈X.ex,b∉X.fs
 funs:X.s₀.heap.FunFrames X.base X.outer
 frf:∀b∈X.fs,X.H₀ b=none
structure GK(a b:Array GenState):Prop where
 bare:AllBare b
 kept:∀(k:Nat)(g:GenState),a[k]? =some g->b[k]? =some g
theorem GK.refl{a:Array GenState}(h:AllBare a):GK a a:=⟨h,λ_ _ e=>e⟩
theorem GK.trans{a b c:Array GenState}(x:GK a b)(y:GK b c):GK a c:=⟨y.bare,λk g e=>y.kept k g (x.kept k g e)⟩
theorem GK.again{a b:Array GenState}(x:GK a b):GK b b:=GK.refl x.bare
structure Inv(X:Cx)(pins:List (Addr×Obj))(σ:List (Option V))(H:Hp)(s:Shared):Prop where
 ok:X.Ok
 os:s.os=X.s₀.os
 bare:GK X.s₀.gens s.gens
 base:Un X.fs X.ex X.H₀ H X.s₀.heap s.heap
 loc:∃m,s.heap.Ns X.env.locals m/\∀(i:Nat)(x:Str)(v:V),X.N[i]? =some x->σ[i]? =some (some v)->Vis X.env.scope x->∃u,bY v u/\Look X.env s.heap m x u
 cell:∀x c,X.env.cells.lookup x=some c->∃v,s.heap.IsCell c v
 free:H X.env.locals=none
 freeC:∀x c,X.env.cells.lookup x=some c->H c=none
 pin:∀p∈X.pn++pins,s.heap.get? p.1=some p.2/\H p.1=none/\p.1≠X.env.locals/\p.1∉X.fs/\∀v,p.2.data≠ .cell v
 hok:HOk X.prog X.w H s.heap
 len:σ.length=X.N.length
section
variable {X:Cx} {pins:List (Addr×Obj)} {σ:List (Option V)} {H H':Hp} {s:Shared} {h':Heap}
theorem Cx.Ok.nofr(ok:X.Ok){b:Addr}{o:Obj}(e:X.base.get? b=some o):b∉X.fs:=λhb=>by
 have:=(ok.funs.mem hb).1
 rw[e]at this;cases this
theorem Inv.bs(I:Inv X pins σ H s):∀b o,X.base.get? b=some o->s.heap.get? b=some o/\H b=none:=λb o e=>
 ⟨I.base.keep b o (I.ok.bs b o e).1 (I.ok.bs b o e).2 (I.ok.nofr e) (I.ok.noex b o e),I.base.free b o (I.ok.bs b o e).1 (I.ok.bs b o e).2 (I.ok.noex b o e)⟩
theorem Inv.bk(I:Inv X pins σ H s):∀b o,X.base.get? b=some o->s.heap.get? b=some o:=λb o e=>(I.bs b o e).1
theorem Inv.mod(I:Inv X pins σ H s):Mod X.K X.mg X.base:=I.ok.mod
theorem Inv.kIn(I:Inv X pins σ H s):X.K.In s.heap:=I.ok.mod.kin.keeps I.bk
theorem Inv.nolimit(I:Inv X pins σ H s):s.heap.NoLimit:=I.ok.mod.nolimit.keeps I.bk
theorem Inv.fr(I:Inv X pins σ H s):∃m,Fr X.base X.env.locals s.heap m:=
 let⟨m,hn,_⟩:=I.loc
 ⟨m,hn,I.bk,Zl I.ok.bsz I.ok.above⟩
theorem Inv.lt(I:Inv X pins σ H s):X.env.locals<s.heap.objs.size:=let⟨_,hn,_⟩:=I.loc;hn.lt
theorem Inv.sz(I:Inv X pins σ H s):X.s₀.heap.objs.size<=s.heap.objs.size:=Zl I.ok.above (Nat.le_of_lt I.lt)
theorem Inv.nofs(I:Inv X pins σ H s){a:Addr}(h:s.heap.objs.size<=a):a∉X.fs:=λhb=>by
 obtain⟨_,o,ho,_⟩:=I.ok.funs.mem hb
 exact absurd (Zc (Ze ho) (Zl I.sz h)) (Nat.lt_irrefl _)
theorem Inv.cne(I:Inv X pins σ H s):∀x c,X.env.cells.lookup x=some c->c≠X.env.locals:=λx c e z=>by
 obtain⟨v,o,ho,hd⟩:=I.cell x c e
 obtain⟨m,⟨o',es,ep,ho',hd',_⟩,_⟩:=I.loc
 rw[z,ho']at ho;cases ho;rw[hd']at hd;cases hd
theorem Inv.funs(I:Inv X pins σ H s):s.heap.FunFrames X.base X.outer:=by
 have all:∀(l:List Env),(∀b∈frs l,b∈X.fs)->X.s₀.heap.FunFrames X.base l->s.heap.FunFrames X.base l:=by
  intro l
  induction l with
  |nil=>intro _ _;trivial
  |cons env r ih=>
   intro hs hl
   obtain⟨hk,⟨L,o,hf,hn,ho,hd⟩,hr⟩:=hl
   have hL:L∈X.fs:=hs L (by unfold frs;rw[List.filterMap_cons,hf];exact List.mem_cons_self)
   obtain⟨sl,e⟩:=I.base.slot L o ho (I.ok.frf L hL) hL λz=>I.ok.exfs L z hL
   exact⟨hk,⟨L,_,hf,hn,e,hd⟩,ih (λb hb=>hs b (by unfold frs;rw[List.filterMap_cons,hf];exact ZE _ hb)) hr⟩
 exact all X.outer (λ_ hb=>hb) I.ok.funs
theorem Inv.stack(I:Inv X pins σ H s):s.heap.FunFrames X.base X.stack:=by
 rcases I.ok.stk with e|⟨e,hf⟩
 .rw[e];exact I.funs
 .rw[e]
  obtain⟨m,hn,_⟩:=I.loc
  refine .cons (by rw[I.ok.kind];decide) hf hn ?_ I.funs
  exact Heap.get?_none_of_le (Zl I.ok.bsz I.ok.above)
theorem Inv.stkSub(I:Inv X pins σ H s):∀b∈frs X.stack,b∈X.env.locals::X.fs:=λb hb=>by
 rcases I.ok.stk with e|⟨e,hf⟩
 .rw[e]at hb;exact ZE _ hb
 .rw[e]at hb
  unfold frs at hb
  rw[List.filterMap_cons,hf]at hb
  exact hb
theorem Inv.stkFree(I:Inv X pins σ H s):∀b∈frs X.stack,H b=none:=λb hb=>by
 rcases Zi.mp (I.stkSub b hb)with e|hb
 .rw[e];exact I.free
 .obtain⟨_,o,ho,_⟩:=I.ok.funs.mem hb
  exact I.base.free b o ho (I.ok.frf b hb) λz=>I.ok.exfs b z hb
theorem Inv.step{g':Array GenState}{t':Nat}{d':Drawn}{ch:List Addr}(I:Inv X pins σ H s)
  (hch:∀b∈ch,(b∈X.ex∨X.s₀.heap.objs.size<=b)/\b≠X.env.locals/\(∀x c,X.env.cells.lookup x=some c->c≠b)/\∀p∈X.pn++pins,p.1≠b)
  (keep:∀b o,b≠X.env.locals->b∉X.fs->b∉ch->s.heap.get? b=some o->H b=none->h'.get? b=some o)
  (slot:∀b o,b≠X.env.locals->b∈X.fs->b∉ch->s.heap.get? b=some o->H b=none->∃sl,h'.get? b=some { o with slots:=sl}) (free:∀b o,b∉ch->s.heap.get? b=some o->H b=none->H' b=none)
  (there:∀b o,b∉ch->s.heap.get? b=some o->∃o',h'.get? b=some o')
  (tups:∀b xs,H b=some (.tup xs)->H' b=some (.tup xs)) (frzs:∀b o u,H b=some (.frz o u)->H' b=some (.frz o u)) (tbls:∀b ps,H b=some (.tbl ps)->∃more,H' b=some (.tbl (ps++more)))
  (ns:∀m,s.heap.Ns X.env.locals m->h'.Ns X.env.locals m) (hok:HOk X.prog X.w H' h') (hg:GK s.gens g'):
  Inv X pins σ H' { s with heap:=h',gens:=g',drawn:=d',toks:=t'}:=by
 have neL:∀b o,X.s₀.heap.get? b=some o->b≠X.env.locals:=λb o e=>Zk (Zc (Ze e) I.ok.above)
 have neC:∀b o,X.s₀.heap.get? b=some o->b∉X.ex->b∉ch:=λb o e hx hb=>by
  rcases(hch b hb).1 with z|z
  .exact hx z
  .exact absurd (Zc (Ze e) z) (Nat.lt_irrefl _)
 have cellK:∀x c,X.env.cells.lookup x=some c->∀v,s.heap.IsCell c v->h'.IsCell c v:=λx c e v zq1=>by
  obtain⟨o,ho,hd⟩:=zq1
  have nch:c∉ch:=λz=>(hch c z).2.2.1 x c e rfl
  by_cases hc:c∈X.fs
  .obtain⟨sl,q⟩:=slot c o (I.cne x c e) hc nch ho (I.freeC x c e)
   exact⟨_,q,hd⟩
  .exact⟨o,keep c o (I.cne x c e) hc nch ho (I.freeC x c e),hd⟩
 refine⟨I.ok,I.os,I.bare.trans hg,⟨λb o e n hb hx=>?_,λb o e n hb hx=>?_,λb o e n hx=>?_,λb o e hx=>?_,λb xs e=>tups b xs (I.base.tups b xs e),λb o xs e=>frzs b o xs (I.base.frzs b o xs e),λb ps e=>?_⟩,?_,λx c e=>?_,?_,λx c e=>?_,λp hp=>?_,hok,I.len⟩
 .exact keep b o (neL b o e) hb (neC b o e hx) (I.base.keep b o e n hb hx) (I.base.free b o e n hx)
 .obtain⟨sl,e1⟩:=I.base.slot b o e n hb hx
  obtain⟨sl',e2⟩:=slot b _ (neL b o e) hb (neC b o e hx) e1 (I.base.free b o e n hx)
  exact⟨sl',e2⟩
 .obtain⟨o',e1⟩:=I.base.there b o e hx
  exact free b o' (neC b o e hx) e1 (I.base.free b o e n hx)
 .obtain⟨o',e1⟩:=I.base.there b o e hx
  exact there b o' (neC b o e hx) e1
 .obtain⟨m1,e1⟩:=I.base.tbls b ps e
  obtain⟨m2,e2⟩:=tbls b _ e1
  exact⟨m1++m2,by rw[e2,Array.append_assoc]⟩
 .obtain⟨m,hn,hl⟩:=I.loc
  refine⟨m,ns m hn,λi x v e1 e2 e3=>?_⟩
  obtain⟨u,r,l⟩:=hl i x v e1 e2 e3
  refine⟨u,r,?_⟩
  rcases l with l|⟨k,c,e,z⟩
  .exact .inl l
  .exact .inr ⟨k,c,e,cellK x c e _ z⟩
 .obtain⟨v,z⟩:=I.cell x c e
  exact⟨v,cellK x c e v z⟩
 .obtain⟨m,⟨o,_,_,ho,_⟩,_⟩:=I.loc
  exact free _ o (λz=>(hch _ z).2.1 rfl) ho I.free
 .obtain⟨v,o,ho,hd⟩:=I.cell x c e
  exact free c o (λz=>(hch c z).2.2.1 x c e rfl) ho (I.freeC x c e)
 .obtain⟨e,n,ne,nf,d⟩:=I.pin p hp
  have nch:p.1∉ch:=λz=>(hch p.1 z).2.2.2 p hp rfl
  exact⟨keep p.1 p.2 ne nf nch e n,free p.1 p.2 nch e n,ne,nf,d⟩
theorem Inv.un{t':Nat}(I:Inv X pins σ H s)(u:Un X.fs [] H H' s.heap h')(hok:HOk X.prog X.w H' h'):Inv X pins σ H' { s with heap:=h',toks:=t'}:=by
 obtain⟨m,⟨o,es,ep,ho,r⟩,_⟩:=id I.loc
 obtain⟨sl,hL⟩:=u.any ho I.free (by simp)
 exact I.step (g':=s.gens) (d':=s.drawn) (ch:=[]) (λ_ z=>nomatch z) (λb o _ hb _ e n=>u.keep b o e n hb (by simp)) (λb o _ hb _ e n=>u.slot b o e n hb (by simp)) (λb o _ e n=>u.free b o e n (by simp)) (λb o _ e=>u.there b o e (by simp)) u.tups u.frzs u.tbls (λm' hm=>by
  obtain⟨o',es',ep',ho',r'⟩:=hm
  rw[ho]at ho';cases ho'
  exact⟨_,es',ep',hL,r'⟩) hok I.bare.again
theorem Inv.call{g':Array GenState}{t':Nat}{d':Drawn}{ch:List Addr}(I:Inv X pins σ H s)(u:Un (frs X.stack) ch H H' s.heap h')(hok:HOk X.prog X.w H' h')(hg:GK s.gens g')
  (hch:∀b∈ch,(b∈X.ex∨X.s₀.heap.objs.size<=b)/\b≠X.env.locals/\(∀x c,X.env.cells.lookup x=some c->c≠b)/\∀p∈X.pn++pins,p.1≠b):
  Inv X pins σ H' { s with heap:=h',gens:=g',drawn:=d',toks:=t'}:=by
 obtain⟨m,⟨o,es,ep,ho,r⟩,_⟩:=id I.loc
 obtain⟨sl,hL⟩:=u.any ho I.free λz=>(hch _ z).2.1 rfl
 exact I.step (ch:=ch) hch (λb o hL hb hc e n=>u.keep b o e n (λz=>(Zi.mp (I.stkSub b z)).elim hL hb) hc) (λb o _ _ hc e n=>u.any e n hc) (λb o hc e n=>u.free b o e n hc) (λb o hc e=>u.there b o e hc) u.tups u.frzs u.tbls (λm' hm=>by
  obtain⟨o',es',ep',ho',r'⟩:=hm
  rw[ho]at ho';cases ho'
  exact⟨_,es',ep',hL,r'⟩) hok hg
theorem Inv.turned{t':Nat}{it:Addr}(I:Inv X pins σ H s)(k:∀b o,b≠it->s.heap.get? b=some o->h'.get? b=some o)(hn:H it=none)(hL:it≠X.env.locals)
  (h1:it∈X.ex∨X.s₀.heap.objs.size<=it) (h2:∀x c,X.env.cells.lookup x=some c->c≠it) (h3:∀p∈X.pn++pins,p.1≠it):Inv X pins σ H { s with heap:=h',toks:=t'}:=by
 have nit:∀b u,H b=some u->b≠it:=λb u e z=>by rw[z,hn]at e;cases e
 refine I.step (g':=s.gens) (d':=s.drawn) (ch:=[it]) (λb hb=>?_) (λb o _ _ hc e _=>k b o (λz=>hc (by simp[z])) e) (λb o _ _ hc e _=>⟨o.slots,k b o (λz=>hc (by simp[z])) e⟩) (λ_ _ _ _ n=>n)
  (λb o hc e=>⟨o,k b o (λz=>hc (by simp[z])) e⟩) (λ_ _ e=>e) (λ_ _ _ e=>e) (λb ps e=>⟨#[],by rw[e];simp⟩) (λm hm=>?_) (λb u e=>?_) I.bare.again
 .have e:b=it:=by simpa using hb
  subst e
  exact⟨h1,hL,h2,h3⟩
 .obtain⟨o,es,ep,ho,r⟩:=hm
  exact⟨o,es,ep,k _ o (Ne.symm hL) ho,r⟩
 .refine(I.hok b u e).stay (λc v hc q=>k c v ?_ q) (λ_ q=>q) λ_ _ q=>q
  rcases hc with z|z
  .rw[z];exact nit b u e
  .exact nit c _ z
theorem Inv.tok(I:Inv X pins σ H s)(t:Nat):Inv X pins σ H { s with toks:=t}:=I.un (h':=s.heap) (t':=t) Un.refl I.hok
theorem Inv.kept{t':Nat}(I:Inv X pins σ H s)(k:∀b u,s.heap.get? b=some u->h'.get? b=some u):Inv X pins σ H { s with heap:=h',toks:=t'}:=I.un (Un.kept k) (I.hok.kept k)
theorem Inv.laid{a:Addr}{o:HO}{t':Nat}(I:Inv X pins σ H s)(k:∀b u,s.heap.get? b=some u->h'.get? b=some u)(hp:s.heap.objs.size<=a)(new:gH X.prog X.w (upd H a o) h' a o):
  Inv X pins σ (upd H a o) { s with heap:=h',toks:=t'}:=I.un (Un.laid k hp (I.hok.fresh hp)) (I.hok.laid k hp new)
theorem Inv.write{x e:Addr}{o:HO}{t':Nat}(I:Inv X pins σ H s)(mu:Mut (H x))(he:e=x∨H e=some (.own x))(k:∀b u,b≠e->s.heap.get? b=some u->h'.get? b=some u)(heo:∃u,h'.get? e=some u)
  (new:gH X.prog X.w (upd H x o) h' x o):Inv X pins σ (upd H x o) { s with heap:=h',toks:=t'}:=I.un (Un.write mu he k heo) (I.hok.write mu he k heo new)
theorem Inv.weak{σ':List (Option V)}(I:Inv X pins σ H s)(hl:σ'.length=σ.length)(w:∀(i:Nat) v,σ'[i]? =some (some v)->σ[i]? =some (some v)):Inv X pins σ' H s:=
 ⟨I.ok,I.os,I.bare,I.base,let⟨m,hn,hl'⟩:=I.loc;⟨m,hn,λi x v e1 e2 e3=>hl' i x v e1 (w i v e2) e3⟩,I.cell,I.free,I.freeC,I.pin,I.hok,hl.trans I.len⟩
theorem Inv.pins_of{pins':List (Addr×Obj)}(I:Inv X pins σ H s)(h:∀p∈pins',s.heap.get? p.1=some p.2/\H p.1=none/\p.1≠X.env.locals/\p.1∉X.fs/\∀v,p.2.data≠ .cell v):Inv X pins' σ H s:=
 ⟨I.ok,I.os,I.bare,I.base,I.loc,I.cell,I.free,I.freeC,λp hp=>(Zm.mp hp).elim (λz=>I.pin p (List.mem_append_left _ z)) (h p),I.hok,I.len⟩
theorem vq{N:List Str}(hN:N.Nodup){i j:Nat}{x:Str}(a:N[i]? =some x)(b:N[j]? =some x):i=j:=by
 obtain⟨h1,e1⟩:=Zh.mp a
 obtain⟨h2,e2⟩:=Zh.mp b
 exact(List.getElem_inj hN).mp (e1.trans e2.symm)
theorem sZ{M:Model}{A:Around}{E:Value->Shared->Prop}{i:Nat}{x:Str}{v:V}{u:Value}{Q:Unit->Shared->Prop}(I:Inv X pins σ H s)(hN:X.N.Nodup)(hi:X.N[i]? =some x)(hx:Loc X.env.scope x)(r:bY v u)
  (h:∀s',Inv X pins (σ.set i (some v)) H s'->(∃a,Heap.SameBut a s.heap s'.heap/\(a=X.env.locals∨X.env.cells.lookup x=some a))->Q () s') (hf:X.fn x=true∨X.env.scope.names.lookup x=some .local:=by first|exact .inl rfl|exact .inr rfl|assumption):wpAny M A (storeName X.env x u) Q E s:=by
 obtain⟨m,hn,hl⟩:=id I.loc
 have hcls:(X.env.scope.kind== .class||(X.env.scope.kind== .module&&X.env.locals != X.env.globals))=false:=by rw[I.ok.kind];rfl
 have hiσ:i<σ.length:=by rw[I.len];exact(Zh.mp hi).1
 have cne:=I.cne
 have tracked:∀{a:Addr}{h':Heap},(∃o,s.heap.get? a=some o/\H a=none)->Heap.SameBut a s.heap h'->HOk X.prog X.w H h':=λ{a h'} ha hs b ob e=>by
  obtain⟨_,_,hfree⟩:=ha
  refine(I.hok b ob e).stay (λc w' hc q=>(hs.2 c ?_).trans q) (λ_ q=>q) λ_ _ q=>q
  rintro rfl
  rcases hc with rfl|hc
  .rw[hfree]at e;cases e
  .rw[hfree]at hc;cases hc
 rcases hx with hk|hk
 .refine wpAny_storeName_local hk hn (λh' hn' hs=>?_) hcls
  obtain⟨oL,_,_,hoL,_⟩:=id hn
  refine h _ ⟨I.ok,I.os,I.bare,⟨λb o e n hb hx=>?_,λb o e n hb hx=>?_,I.base.free,λb o e hx=>?_,I.base.tups,I.base.frzs,I.base.tbls⟩,⟨_,hn',λj y v' e1 e2 e3=>?_⟩,λy c e=>?_,I.free,I.freeC,λp hp=>?_,tracked ⟨oL,hoL,I.free⟩ hs,by simpa using I.len⟩ ⟨_,hs,.inl rfl⟩
  .exact(hs.2 b (Zk (Zc (Ze e) I.ok.above))).trans (I.base.keep b o e n hb hx)
  .obtain⟨sl,e1⟩:=I.base.slot b o e n hb hx
   exact⟨sl,(hs.2 b (Zk (Zc (Ze e) I.ok.above))).trans e1⟩
  .obtain⟨o',e1⟩:=I.base.there b o e hx
   exact⟨o',(hs.2 b (Zk (Zc (Ze e) I.ok.above))).trans e1⟩
  .by_cases hj:j=i
   .subst hj
    rw[hi]at e1;cases e1
    rw[List.getElem?_set_self hiσ]at e2
    cases e2
    exact⟨u,r,.inl ⟨hk,by simp⟩⟩
   .rw[List.getElem?_set_ne (Ne.symm hj)]at e2
    obtain⟨u',r',q⟩:=hl j y v' e1 e2 e3
    refine⟨u',r',?_⟩
    rcases q with⟨k,e⟩|⟨k,c,e,z⟩
    .refine .inl ⟨k,?_⟩
     have:y≠x:=λe=>hj (vq hN e1 (e▸hi))
     simp[this,e]
    .exact .inr ⟨k,c,e,z.sameBut hs (cne y c e)⟩
  .obtain⟨w',z⟩:=I.cell y c e
   exact⟨w',z.sameBut hs (cne y c e)⟩
  .obtain⟨e,n,ne,nf,d⟩:=I.pin p hp
   exact⟨(hs.2 p.1 ne).trans e,n,ne,nf,d⟩
 .have hfn:X.fn x=true:=by
   rcases hf with z|z
   .exact z
   .rw[z]at hk;cases hk
  obtain⟨c,hc⟩:=I.ok.has x (.inl hk)
  obtain⟨w',z⟩:=I.cell x c hc
  refine wpAny_storeName_cell I.ok.kind hk hc z (λh' hc' hs=>?_)
  obtain⟨oc,hoc,hocd⟩:=id z
  refine h { s with heap:=h'} ⟨I.ok,I.os,I.bare,⟨λb o e n hb hx=>?_,λb o e n hb hx=>?_,I.base.free,λb o e hx=>?_,I.base.tups,I.base.frzs,I.base.tbls⟩,⟨m,hn.sameBut hs (Ne.symm (cne x c hc)),λj y v' e1 e2 e3=>?_⟩,λy c' e=>?_,I.free,I.freeC,λp hp=>?_,tracked ⟨oc,hoc,I.freeC x c hc⟩ hs,by simpa using I.len⟩ ⟨c,hs,.inr hc⟩
  .exact(hs.2 b (Zk (Zc (Ze e) (I.ok.cab x c hfn hc)))).trans (I.base.keep b o e n hb hx)
  .obtain⟨sl,e1⟩:=I.base.slot b o e n hb hx
   exact⟨sl,(hs.2 b (Zk (Zc (Ze e) (I.ok.cab x c hfn hc)))).trans e1⟩
  .obtain⟨o',e1⟩:=I.base.there b o e hx
   exact⟨o',(hs.2 b (Zk (Zc (Ze e) (I.ok.cab x c hfn hc)))).trans e1⟩
  .by_cases hj:j=i
   .subst hj
    rw[hi]at e1;cases e1
    rw[List.getElem?_set_self hiσ]at e2
    cases e2
    exact⟨u,r,.inr ⟨.inl hk,c,hc,hc'⟩⟩
   .rw[List.getElem?_set_ne (Ne.symm hj)]at e2
    obtain⟨u',r',q⟩:=hl j y v' e1 e2 e3
    refine⟨u',r',?_⟩
    rcases q with q|⟨k,c',e,z'⟩
    .exact .inl q
    .refine .inr ⟨k,c',e,z'.sameBut hs ?_⟩
     rintro rfl
     exact hj (vq hN e1 (I.ok.inj _ _ _ e hc▸hi))
  .by_cases hcc:c'=c
   .subst hcc;exact⟨_,hc'⟩
   .obtain⟨w2,z2⟩:=I.cell y c' e
    exact⟨w2,z2.sameBut hs hcc⟩
  .obtain⟨e,n,ne,nf,d⟩:=I.pin p hp
   refine⟨(hs.2 p.1 ?_).trans e,n,ne,nf,d⟩
   intro q
   rw[q,hoc]at e
   have q':oc=p.2:=Option.some.inj e
   exact d w' (by rw[<-q'];exact hocd)
theorem nO{M:Model}{A:Around}{E:Value->Shared->Prop}{i:Nat}{x:Str}{v:V}{u:Value}{Q:Unit->Shared->Prop}(I:Inv X pins σ H s)(hN:X.N.Nodup)(hi:X.N[i]? =some x)(hx:Loc X.env.scope x)(r:bY v u)
  (h:∀s',Inv X pins (σ.set i (some v)) H s'->Q () s') (hf:X.fn x=true∨X.env.scope.names.lookup x=some .local:=by first|exact .inl rfl|exact .inr rfl|assumption):wpAny M A (storeName X.env x u) Q E s:=
 sZ I hN hi hx r (λs' I' _=>h s' I') hf
theorem Inv.call'{s':Shared}{ch:List Addr}(I:Inv X pins σ H s)(ho:s'.os=s.os)(u:Un (frs X.stack) ch H H' s.heap s'.heap)(hok:HOk X.prog X.w H' s'.heap)(hg:GK s.gens s'.gens)
  (hch:∀b∈ch,(b∈X.ex∨X.s₀.heap.objs.size<=b)/\b≠X.env.locals/\(∀x c,X.env.cells.lookup x=some c->c≠b)/\∀p∈X.pn++pins,p.1≠b):Inv X pins σ H' s':=by
 obtain⟨h',g',d',t',o'⟩:=s'
 have e:o'=s.os:=ho
 subst e
 exact I.call (g':=g') (t':=t') (d':=d') u hok hg hch
end
abbrev XK:=Value->Option Addr->Hp->Prop
abbrev St:=List (Option V)
abbrev VK:=V->Hp->Prop
abbrev TE:=St->Hp->VK->Prop
abbrev TT:=St->Hp->(Bool->Hp->Prop)->Prop
abbrev TA:=St->Hp->(List V->Hp->Prop)->Prop
structure Ends where
 nx:St->Hp->Prop
 rt:VK
 bk:St->Hp->Prop:=λ_ _=>False
 ct:St->Hp->Prop:=λ_ _=>False
abbrev TS:=Ends->St->Hp->Prop
inductive GP(X:Cx)(pins:List (Addr×Obj))(Q:St->Hp->Prop)(s':Shared):Prop
 |mk (σ') (H'):Inv X pins σ' H' s'->Q σ' H'->GP X pins Q s'
inductive HP(X:Cx)(pins:List (Addr×Obj))(σ:St)(Q:Hp->Prop)(s':Shared):Prop
 |mk (H'):Inv X pins σ H' s'->Q H'->HP X pins σ Q s'
inductive EP(X:Cx)(pins:List (Addr×Obj))(σ:St)(Q:VK)(u:Value)(s':Shared):Prop
 |mk (v) (H'):Inv X pins σ H' s'->bY v u->Q v H'->EP X pins σ Q u s'
inductive TP(X:Cx)(pins:List (Addr×Obj))(σ:St)(Q:Bool->Hp->Prop)(b:Bool)(s':Shared):Prop
 |mk (H'):Inv X pins σ H' s'->Q b H'->TP X pins σ Q b s'
inductive AP(X:Cx)(pins:List (Addr×Obj))(σ:St)(Q:List V->Hp->Prop)(us:List Value)(s':Shared):Prop
 |mk (vs) (H'):Inv X pins σ H' s'->aY vs us->Q vs H'->AP X pins σ Q us s'
def SP(X:Cx)(pins:List (Addr×Obj))(D:Ends)(f:Flow)(s':Shared):Prop:=
 match f with
 | .next=>GP X pins D.nx s'
 | .brk=>GP X pins D.bk s'
 | .cont=>GP X pins D.ct s'
 | .ret u=>∃v σ' H',Inv X pins σ' H' s'/\bY v u/\D.rt v H'
def PE(X:Cx)(e:Expr)(t:TE):Prop:=
 ∀(pins:List (Addr×Obj))(s:Shared)(σ:St)(H:Hp)(Q:VK),Inv X pins σ H s->t σ H Q->wpAny (model X.prog X.w) X.A (eval e X.env) (EP X pins σ Q) X.xe s
def PT(X:Cx)(e:Expr)(t:TT):Prop:=
 ∀(pins:List (Addr×Obj))(s:Shared)(σ:St)(H:Hp)(Q:Bool->Hp->Prop),Inv X pins σ H s->t σ H Q->wpAny (model X.prog X.w) X.A (isTrue e X.env (eval e X.env)) (TP X pins σ Q) X.xe s
def PW(X:Cx)(e:Expr)(t:TT):Prop:=
 ∀(whole:Sem Value)(pins:List (Addr×Obj))(s:Shared)(σ:St)(H:Hp)(Q:Bool->Hp->Prop),Inv X pins σ H s->t σ H Q->wpAny (model X.prog X.w) X.A (isTrue e X.env whole) (TP X pins σ Q) X.xe s
theorem PW.pt{X:Cx}{e:Expr}{t:TT}(h:PW X e t):PT X e t:=h _
def PA(X:Cx)(es:List Expr)(t:TA):Prop:=
 ∀(pos:Pos)(pins:List (Addr×Obj))(s:Shared)(σ:St)(H:Hp)(Q:List V->Hp->Prop),Inv X pins σ H s->t σ H Q->wpAny (model X.prog X.w) X.A (spliced (backTo pos (starEach es X.env))) (AP X pins σ Q) X.xe s
def PS(X:Cx)(st:Stmt)(t:TS):Prop:=
 ∀(pins:List (Addr×Obj))(s:Shared)(σ:St)(H:Hp)(D:Ends),Inv X pins σ H s->t D σ H->wpAny (model X.prog X.w) X.A (exec st X.env) (SP X pins D) X.xe s
def PSs(X:Cx)(st:List Stmt)(t:TS):Prop:=
 ∀(pins:List (Addr×Obj))(s:Shared)(σ:St)(H:Hp)(D:Ends),Inv X pins σ H s->t D σ H->wpAny (model X.prog X.w) X.A (execs st X.env) (SP X pins D) X.xe s
theorem thn{α:Type}{t:Sem α}{Q Q':α->Shared->Prop}{M:Model}{A:Around}{E:Value->Shared->Prop}{s:Shared}(h:wpAny M A t Q E s)(hQ:∀a s,Q a s->Q' a s):wpAny M A t Q' E s:=Zy h hQ λ_ _ x=>x
section
variable {X:Cx}
def tVar(i:Nat):TE:=λσ H Q=>∃v,σ[i]? =some (some v)/\Q v H
def tC(v:V):TE:=λ_ H Q=>Q v H
theorem KC{i:Nat}{x:Str}{pos:Pos}(hN:X.N[i]? =some x)(hv:Vis X.env.scope x)(hd:(x==("__debug__":Str))=false:=by decide)(hcd:(x==("__classdict__":Str))=false:=by decide):PE X (.Name x pos) (tVar i):=by
 intro pins s σ H Q I h
 obtain⟨v,e,h⟩:=h
 obtain⟨m,hn,hl⟩:=I.loc
 obtain⟨u,r,l⟩:=hl i x v hN e hv
 have fin:EP X pins σ Q u s:=⟨v,H,I,r,h⟩
 rcases l with⟨hk,hm⟩|⟨hk,c,hc,hcell⟩
 .exact wpAny_Name (wpAny_loadName_local I.ok.kind hk hn hm fin) hd
 .rcases hk with hk|hk
  .exact wpAny_Name (wpAny_loadName_cell I.ok.kind hk hc hcell fin) hd
  .exact wpAny_Name (wpAny_loadName_free I.ok.kind hk hc hcell fin hcd) hd
theorem yj{i j pos}:PE X (.Constant (.int i) j pos) (tC (.int i)):=λ_ _ _ H _ I h=>wpAny_Constant_int ⟨.int i,H,I.tok _,⟨_,rfl⟩,h⟩
theorem Pn{b j pos}:PE X (.Constant (.bool b) j pos) (tC (.bl b)):=λ_ _ _ H _ I h=>Constant_bool ⟨.bl b,H,I,rfl,h⟩
def Gl(X:Cx)(x:Str):Prop:=X.env.kindOf x=some .globalImplicit
theorem Hq{E:Value->Shared->Prop}{pins:List (Addr×Obj)}{s:Shared}{σ:St}{H:Hp}{x:Str}{u:Value}{pos:Pos}{Q:Value->Shared->Prop}(I:Inv X pins σ H s)(hg:Gl X x)(hm:X.mg x=some u)(h:Q u s)
  (hd:(x==("__debug__":Str))=false:=by decide):wpAny (model X.prog X.w) X.A (eval (.Name x pos) X.env) Q E s:=
 Calls.Name_function_global I.ok.kind hg (Calls.loadGlobal_global (by rw[I.ok.glob];exact I.mod.glob.keeps I.bk) hm h) hd
theorem kW{E:Value->Shared->Prop}{pins:List (Addr×Obj)}{s:Shared}{σ:St}{H:Hp}{x:Str}{u:Value}{pos:Pos}{Q:Value->Shared->Prop}(I:Inv X pins σ H s)(hg:Gl X x)(hm:X.mg x=none)(hv:bootBuiltins x=some u)(h:Q u s)
  (hn:x≠"__name__":=by decide) (hd:(x==("__debug__":Str))=false:=by decide):wpAny (model X.prog X.w) X.A (eval (.Name x pos) X.env) Q E s:=by
 obtain⟨mb,h1,h2⟩:=I.mod.blt
 exact Calls.Name_function_global I.ok.kind hg (Calls.loadGlobal_builtin (by rw[I.ok.glob];exact I.mod.glob.keeps I.bk) hm (by rw[I.ok.blt];exact h1.keeps I.bk) ((h2 x hn).trans hv) h) hd
theorem FW{x:Str}{v:V}{u:Value}{pos:Pos}(hg:Gl X x)(hm:X.mg x=none)(hv:bootBuiltins x=some u)(r:bY v u)(hn:x≠"__name__":=by decide)(hd:(x==("__debug__":Str))=false:=by decide):PE X (.Name x pos) (tC v):=
 λ_ _ _ H _ I h=>kW I hg hm hv ⟨v,H,I,r,h⟩ hn hd
variable {a b:Expr} {ta tb:TE} {pos:Pos}
theorem wG(b:Expr){op:CmpOp}(h:op≠ .In)(h2:op≠ .NotIn):behindInMarks op b=false:=by
 have e1:(op==CmpOp.In)=false:=by cases op<;>first|rfl|exact absurd rfl h
 have e2:(op==CmpOp.NotIn)=false:=by cases op<;>first|rfl|exact absurd rfl h2
 cases b<;>simp[behindInMarks,e1,e2]
variable {tA tB':TT} {rest:List Expr}
def tAnd(t u:TT):TT:=λσ H Q=>t σ H λc H1=>if c=true then u σ H1 Q else Q false H1
def tOr(t u:TT):TT:=λσ H Q=>t σ H λc H1=>if c=true then Q true H1 else u σ H1 Q
def tNot(t:TT):TT:=λσ H Q=>t σ H λc H1=>Q (!c) H1
theorem Hr(ha:PT X a tA):PW X (.BoolOp .And [a] pos) tA:=by
 intro wh pins s σ H Q I h
 refine isTrue_and (thn (ha pins s σ H Q I h) λc s1 e=>?_)
 cases c with
 |true=>exact isTrue_and_nil e
 |false=>exact e
theorem Jv(ha:PT X a tA):PW X (.BoolOp .Or [a] pos) tA:=by
 intro wh pins s σ H Q I h
 refine isTrue_or (thn (ha pins s σ H Q I h) λc s1 e=>?_)
 cases c with
 |false=>exact isTrue_or_nil e
 |true=>exact e
theorem Mj(ha:PT X a tA)(hb:PW X (.BoolOp .And (b::rest) pos) tB'):PW X (.BoolOp .And (a::b::rest) pos) (tAnd tA tB'):=by
 intro wh pins s σ H Q I h
 refine isTrue_and (thn (ha pins s σ H _ I h) λc s1 zq7=>?_)
 obtain⟨H1,I1,q1⟩:=zq7
 cases c with
 |true=>exact hb wh pins s1 σ H1 Q I1 q1
 |false=>exact⟨H1,I1,q1⟩
theorem Nh(ha:PT X a tA)(hb:PW X (.BoolOp .Or (b::rest) pos) tB'):PW X (.BoolOp .Or (a::b::rest) pos) (tOr tA tB'):=by
 intro wh pins s σ H Q I h
 refine isTrue_or (thn (ha pins s σ H _ I h) λc s1 zq8=>?_)
 obtain⟨H1,I1,q1⟩:=zq8
 cases c with
 |true=>exact⟨H1,I1,q1⟩
 |false=>exact hb wh pins s1 σ H1 Q I1 q1
theorem Jz(ha:PT X a tA):PT X (.UnaryOp .Not a pos) (tNot tA):=by
 intro pins s σ H Q I h
 exact isTrue_not (thn (ha pins s σ H (λc H1=>Q (!c) H1) I h) λc s1 ⟨H1,I1,q1⟩=>⟨H1,I1,q1⟩)
def Nm(ta tb:TE):TE:=λσ H Q=>ta σ H λx H1=>∃c,x= .bl c/\if c=true then tb σ H1 Q else Q (.bl false) H1
theorem Mq{op}{t:TE}(h:PE X a t):PE X (.BoolOp op [a] pos) t:=λpins s σ H Q I hw=>BoolOp_one (h pins s σ H Q I hw)
theorem Lj(ha:PE X a ta)(hb:PE X (.BoolOp .And (b::rest) pos) tb):PE X (.BoolOp .And (a::b::rest) pos) (Nm ta tb):=by
 intro pins s σ H Q I h
 refine BoolOp_and (thn (ha pins s σ H _ I h) λv s1 zq9=>?_)
 obtain⟨x,H1,I1,r1,q1⟩:=zq9
 obtain⟨c,rfl,q1⟩:=q1
 cases r1
 refine wpAny_truthy_bool ?_
 cases c with
 |true=>exact hb pins s1 σ H1 Q I1 q1
 |false=>exact⟨.bl false,H1,I1,rfl,q1⟩
end
def SqL(K:Zw)(H:Hp)(a:Addr)(xs:List V):Prop:=
 Rd H a (.lst xs)∨
  ∃(o:Obj)(its:Array Value)(n:Nat),K.lookup a=some o/\o.cls= .type "list"/\o.dict=none/\o.data= .seq its n/\its.size<=sizeLine/\aY xs its.toList
def SqT(K:Zw)(H:Hp)(a:Addr)(xs:List V):Prop:=
 Rd H a (.tup xs)∨
  ∃(o:Obj)(its:Array Value)(n:Nat),K.lookup a=some o/\o.cls= .type "tuple"/\o.data= .seq its n/\its.size<=sizeLine/\aY xs its.toList
def absV:Value->Option V
 | .none=>some .non
 | .bool b=>some (.bl b)
 | .int i _=>some (.int i)
 | .str x _=>some (.str x)
 | .bytes b _=>some (.byt b)
 | .float b _=>some (.flt b)
 | .ref a=>some (.ref a)
 | .type n=>some (.ty n)
 |_=>none
theorem bY.abs{x:V}{u:Value}(r:bY x u):absV u=some x:=by
 cases x with
 |non=>cases r;rfl
 |bl _=>cases r;rfl
 |int _=>obtain⟨t,rfl⟩:=r;rfl
 |str _=>obtain⟨t,rfl⟩:=r;rfl
 |byt _=>obtain⟨t,rfl⟩:=r;rfl
 |flt _=>obtain⟨t,rfl⟩:=r;rfl
 |ref _=>cases r;rfl
 |ty _=>cases r;rfl
theorem bY.inj{x y:V}{u:Value}(r:bY x u)(q:bY y u):x=y:=Option.some.inj (r.abs.symm.trans q.abs)
theorem aY.inj:∀{xs ys:List V}{us:List Value},aY xs us->aY ys us->xs=ys
 |_,_,_,.nil,.nil=>rfl
 |_,_,_,.cons r t,.cons r' t'=>by rw[r.inj r',aY.inj t t']
section
variable {X:Cx} {pins:List (Addr×Obj)} {σ:St} {H:Hp} {s:Shared} {a:Addr} {xs ys:List V}
theorem SqL.of{K:Zw}(h:H a=some (.lst xs)):SqL K H a xs:=.inl (.inl h)
theorem Inv.list(I:Inv X pins σ H s)(h:SqL X.K H a xs):∃its:List Value,aY xs its/\PlainL s.heap a its.toArray/\xs.length<=sizeLine:=by
 rcases h with h|⟨o,its,n,hk,hc,hd,hs,hz,r⟩
 .obtain⟨z,its,n,r,e⟩:=h.ok I.hok
  exact⟨its,r,⟨_,n,e,rfl,rfl,rfl⟩,z⟩
 .refine⟨its.toList,r,⟨o,n,I.kIn a o hk,hc,hd,by simpa using hs⟩,?_⟩
  have e:=r.length
  simp only[Array.length_toList]at e
  omega
theorem Inv.tuple(I:Inv X pins σ H s)(h:SqT X.K H a xs):∃its:List Value,aY xs its/\IsTup s.heap a its.toArray/\xs.length<=sizeLine:=by
 rcases h with h|⟨o,its,n,hk,hc,hs,hz,r⟩
 .obtain⟨z,its,r,p⟩:=h.ok I.hok
  exact⟨its,r,p,z⟩
 .refine⟨its.toList,r,⟨o,I.kIn a o hk,hc,n,by simpa using hs⟩,?_⟩
  have e:=r.length
  simp only[Array.length_toList]at e
  omega
theorem Inv.list_inj(I:Inv X pins σ H s)(h:SqL X.K H a xs)(h':SqL X.K H a ys):xs=ys:=by
 obtain⟨its,r,⟨o,n,e,_,_,d⟩,_⟩:=I.list h
 obtain⟨its',r',⟨o',n',e',_,_,d'⟩,_⟩:=I.list h'
 rw[e]at e';cases e'
 rw[d]at d'
 injection d' with d1 _
 have:its=its':=by simpa using congrArg Array.toList d1
 subst this
 exact r.inj r'
theorem Inv.tuple_inj(I:Inv X pins σ H s)(h:SqT X.K H a xs)(h':SqT X.K H a ys):xs=ys:=by
 obtain⟨its,r,⟨o,e,_,n,d⟩,_⟩:=I.tuple h
 obtain⟨its',r',⟨o',e',_,n',d'⟩,_⟩:=I.tuple h'
 rw[e]at e';cases e'
 rw[d]at d'
 injection d' with d1 _
 have:its=its':=by simpa using congrArg Array.toList d1
 subst this
 exact r.inj r'
end
abbrev Cx.wish(X:Cx)(E:Value->Shared->Prop):Cx:={ X with xe:=E}
abbrev Cx.nox(X:Cx):Cx:=X.wish λ_ _=>False
theorem Cx.Ok.wish{X:Cx}(ok:X.Ok)(E:Value->Shared->Prop):(X.wish E).Ok:=
 ⟨ok.mod,ok.kind,ok.glob,ok.blt,ok.above,ok.inj,ok.has,ok.cab,ok.hd,ok.frames,ok.stk,ok.exf,ok.bs,ok.bsz,ok.noex,ok.exfs,ok.funs,ok.frf⟩
theorem Cx.Ok.unwish{X:Cx}{E:Value->Shared->Prop}(ok:(X.wish E).Ok):X.Ok:=
 ⟨ok.mod,ok.kind,ok.glob,ok.blt,ok.above,ok.inj,ok.has,ok.cab,ok.hd,ok.frames,ok.stk,ok.exf,ok.bs,ok.bsz,ok.noex,ok.exfs,ok.funs,ok.frf⟩
section
variable {X:Cx} {pins:List (Addr×Obj)} {σ:St} {H:Hp} {s:Shared} {E:Value->Shared->Prop}
theorem Inv.wish(I:Inv X pins σ H s)(E:Value->Shared->Prop):Inv (X.wish E) pins σ H s:=⟨I.ok.wish E,I.os,I.bare,I.base,I.loc,I.cell,I.free,I.freeC,I.pin,I.hok,I.len⟩
theorem Inv.unwish(I:Inv (X.wish E) pins σ H s):Inv X pins σ H s:=⟨I.ok.unwish,I.os,I.bare,I.base,I.loc,I.cell,I.free,I.freeC,I.pin,I.hok,I.len⟩
theorem SP.unwish{D:Ends}{f:Flow}{s':Shared}(h:SP (X.wish E) pins D f s'):SP X pins D f s':=by
 cases f with
 |next=>obtain⟨σ',H',I,q⟩:=h;exact⟨σ',H',I.unwish,q⟩
 |brk=>obtain⟨σ',H',I,q⟩:=h;exact⟨σ',H',I.unwish,q⟩
 |cont=>obtain⟨σ',H',I,q⟩:=h;exact⟨σ',H',I.unwish,q⟩
 |ret u=>obtain⟨v,σ',H',I,r,q⟩:=h;exact⟨v,σ',H',I.unwish,r,q⟩
theorem PSs.nox{st:List Stmt}{t:TS}(h:PSs X.nox st t):PSs X st t:=λpins s σ H D I hw=>
 Zy (h pins s σ H D (I.wish _) hw) (λ_ _ q=>q.unwish) λ_ _ z=>False.elim z
end
section
variable {X:Cx} {st:Stmt} {rest:List Stmt} {t u:TS} {e:Expr} {te:TE} {pos:Pos}
def Pq:TS:=λD σ H=>D.nx σ H
def tSeq(t u:TS):TS:=λD σ H=>t { D with nx:=u D} σ H
theorem Gs:PSs X [] Pq:=λ_ _ σ H _ I h=>wpAny_execs_nil ⟨σ,H,I,h⟩
theorem Dj(h1:PS X st t)(h2:PSs X rest u):PSs X (st::rest) (tSeq t u):=by
 intro pins s σ H D I h
 refine wpAny_execs_cons (thn (h1 pins s σ H { D with nx:=u D} I h) λf s1 q=>?_)
 cases f with
 |next=>
  obtain⟨σ',H',I',q⟩:=q
  exact h2 pins s1 σ' H' D I' q
 |ret v=>exact q
 |brk=>exact q
 |cont=>exact q
theorem Hw(h1:PS X st t):PSs X [st] t:=by
 intro pins s σ H D I h
 refine wpAny_execs_cons (thn (h1 pins s σ H D I h) λf s1 q=>?_)
 cases f with
 |next=>exact wpAny_execs_nil q
 |ret v=>exact q
 |brk=>exact q
 |cont=>exact q
theorem Inv.quiet{pins:List (Addr×Obj)}{σ:St}{H:Hp}{s:Shared}(I:Inv X pins σ H s):interactive X.env=false:=by simp[interactive,I.ok.kind]
def Og(te:TE):TS:=λD σ H=>te σ H λ_ H1=>D.nx σ H1
theorem Gj(he:PE X e te)(hs:swapsWith e none pos.line X.env=pure false:=by rfl):PS X (.Expr e pos) (Og te):=by
 intro pins s σ H D I h
 exact wpAny_Expr_any (thn (he pins s σ H _ I h) λv s1 ⟨x,H1,I1,r1,q1⟩=>⟨σ,H1,I1,q1⟩) I.quiet hs
def tRet(te:TE):TS:=λD σ H=>te σ H D.rt
theorem Lz(he:PE X e te):PS X (.Return (some e) pos) (tRet te):=by
 intro pins s σ H D I h
 exact wpAny_Return_some (thn (he pins s σ H _ I h) λv s1 ⟨x,H1,I1,r1,q1⟩=>⟨x,σ,H1,I1,r1,q1⟩)
def tIfS(c:TT)(t u:TS):TS:=λD σ H=>c σ H λb H1=>if b=true then t D σ H1 else u D σ H1
theorem Px{c:Expr}{a b:List Stmt}{tc:TT}(hc:PT X c tc)(ha:PSs X a t)(hb:PSs X b u):PS X (.If c a b pos) (tIfS tc t u):=by
 intro pins s σ H D I h
 refine wpAny_If (thn (hc pins s σ H _ I h) λd s1 zq13=>?_)
 obtain⟨H1,I1,q1⟩:=zq13
 cases d with
 |true=>exact ha pins s1 σ H1 D I1 q1
 |false=>exact hb pins s1 σ H1 D I1 q1
end
abbrev TG:=V->St->Hp->(St->Hp->Prop)->Prop
abbrev TGs:=List V->St->Hp->(St->Hp->Prop)->Prop
def PG(X:Cx)(target:Expr)(t:TG):Prop:=
 ∀(pins:List (Addr×Obj))(s:Shared)(σ:St)(H:Hp)(v:V)(u:Value)(Q:St->Hp->Prop),Inv X pins σ H s->bY v u->t v σ H Q->
  wpAny (model X.prog X.w) X.A (assign target X.env u) (λ_ s'=>GP X pins Q s') X.xe s
def PGs(X:Cx)(ts:List Expr)(t:TGs):Prop:=
 ∀(pins:List (Addr×Obj))(s:Shared)(σ:St)(H:Hp)(vs:List V)(us:List Value)(Q:St->Hp->Prop),Inv X pins σ H s->aY vs us->t vs σ H Q->
  wpAny (model X.prog X.w) X.A (assignInOrder ((assignEach ts X.env).map (·.2)) us) (λ_ s'=>GP X pins Q s') X.xe s
abbrev JF:=V->V->V->Hp->(Hp->Prop)->Prop
def Pj(X:Cx)(t:JF):Prop:=
 ∀(pins:List (Addr×Obj))(s:Shared)(σ:St)(H:Hp)(o i v:V)(ov iv u:Value)(Q:Hp->Prop),Inv X pins σ H s->bY o ov->bY i iv->bY v u->t o i v H Q->
  wpAny (model X.prog X.w) X.A (setItem ov iv u) (λ_ s'=>HP X pins σ Q s') X.xe s
section
variable {X:Cx} {pos:Pos}
def Eg(i:Nat):TG:=λv σ H Q=>Q (σ.set i (some v)) H
theorem HW{i:Nat}{x:Str}(hN:X.N.Nodup)(hi:X.N[i]? =some x)(hx:Loc X.env.scope x)(hf:X.fn x=true∨X.env.scope.names.lookup x=some .local:=by first|exact .inl rfl|exact .inr rfl|assumption):PG X (.Name x pos) (Eg i):=by
 intro pins s σ H v u Q I r h
 exact wpAny_assign_Name (nO I hN hi hx r (λs' I'=>⟨_,H,I',h⟩) hf)
def gNil:TGs:=λvs σ H Q=>vs=[]/\Q σ H
def NZ(t:TG)(u:TGs):TGs:=λvs σ H Q=>∃v r,vs=v::r/\t v σ H λσ' H'=>u r σ' H' Q
theorem Hk:PGs X [] gNil:=by
 intro pins s σ H vs us Q I r h
 obtain⟨e,h⟩:=h
 subst e
 cases r
 exact assignInOrder_nil ⟨σ,H,I,h⟩
theorem Bj{e:Expr}{es:List Expr}{t:TG}{u:TGs}(h1:PG X e t)(h2:PGs X es u)
  (hs:(assignEach (e::es) X.env).map (·.2)=assign e X.env::(assignEach es X.env).map (·.2):=by rfl):PGs X (e::es) (NZ t u):=by
 intro pins s σ H vs us Q I r h
 obtain⟨v,vr,e1,h⟩:=h
 subst e1
 cases r with
 |cons r rr=>
  rw[hs]
  refine assignInOrder_cons (thn (h1 pins s σ H _ _ _ I r h) λ_ s1 zq14=>?_)
  obtain⟨σ1,H1,I1,q1⟩:=zq14
  exact h2 pins s1 σ1 H1 _ _ Q I1 rr q1
def gTup(K:Zw)(n:Nat)(t:TGs):TG:=λv σ H Q=>∃a xs,v= .ref a/\SqT K H a xs/\xs.length=n/\t xs σ H Q
theorem Jw{es:List Expr}{k:Nat}{t:TGs}{n:Nat}(hc:X.calm=true)(h:PGs X es t)
  (hn:(assignEach es X.env).length=n:=by rfl) (hst:(assignEach es X.env).findIdx? (·.1)=none:=by rfl):PG X (.Tuple es k pos) (gTup X.K n t):=by
 intro pins s σ H v u Q I r hw
 obtain⟨a,xs,e1,hq,hl,hw⟩:=hw
 subst e1
 cases r
 obtain⟨its,rv,ht,hz⟩:=I.tuple hq
 refine assign_Tuple_tuple (I.ok.hd hc) ht (by simp[hn,<-hl,rv.length]) hst λh' hx=>?_
 have I1:Inv X pins σ H { s with heap:=h'}:=I.kept (t':=s.toks) λb o e=>hx b o (Zk (Ze e)) e
 exact h pins _ σ H xs _ Q I1 (by simpa using rv) hw
def gSub(to ti:TE)(t:JF):TG:=λv σ H Q=>to σ H λo H1=>ti σ H1 λi H2=>t o i v H2 λH3=>Q σ H3
theorem LC{o i:Expr}{to ti:TE}{t:JF}(ho:PE X o to)(hi:PE X i ti)(hs:Pj X t)
  (ha:∀v,assign (.Subscript o i pos) X.env v=(do
   let ov<-holding [v] (eval o X.env)
   let iv<-holding [v,ov] (eval i X.env)
   standAt pos
   holding [v,ov,iv] (setItem ov iv v)
   release [v,ov,iv] []):=by intro _;rfl):PG X (.Subscript o i pos) (gSub to ti t):=by
 intro pins s σ H v u Q I r h
 rw[ha]
 refine Zv (wpAny_holding (thn (ho pins s σ H _ I h) λov s1 zq15=>?_))
 obtain⟨x,H1,I1,r1,q1⟩:=zq15
 refine Zv (wpAny_holding (thn (hi pins s1 σ H1 _ I1 q1) λiv s2 zq16=>?_))
 obtain⟨y,H2,I2,r2,q2⟩:=zq16
 refine Zv (wpAny_standAt (Zv (wpAny_holding (thn (hs pins s2 σ H2 x y v ov iv u _ I2 r1 r2 r q2) λ_ s3 zq17=>?_))))
 obtain⟨H3,I3,q3⟩:=zq17
 exact wpAny_release ⟨σ,H3,I3,q3⟩
def Li(te:TE)(g:TG):TS:=λD σ H=>te σ H λx H1=>g x σ H1 D.nx
theorem Cj{tg e:Expr}{te:TE}{g:TG}(he:PE X e te)(hg:PG X tg g)(hs:swapsWithSole [tg] e pos.line X.env=pure false:=by rfl)(hw:swappedStores [tg] e X.env=pure none:=by rfl)
  (h1:(assignEach [tg] X.env).map (·.2)=[assign tg X.env]:=by rfl):PS X (.Assign [tg] e pos) (Li te g):=by
 intro pins s σ H D I h
 refine wpAny_Assign_stores (thn (he pins s σ H _ I h) λv s1 ⟨x,H1,I1,r1,q1⟩=>?_) hs hw
 rw[h1]
 exact thn (hg pins s1 σ H1 x v _ I1 r1 q1) λ_ s2 q=>q
theorem Ju{i:Nat}{x:Str}{e:Expr}{te:TE}{pos':Pos}(hN:X.N.Nodup)(hi:X.N[i]? =some x)(hx:Loc X.env.scope x)(he:PE X e te)(hs:swapsWith e (some (.Name x pos')) pos.line X.env=pure false:=by rfl)(hf:X.fn x=true∨X.env.scope.names.lookup x=some .local:=by first|exact .inl rfl|exact .inr rfl|assumption):
  PS X (.Assign [.Name x pos'] e pos) (Li te (Eg i)):=by
 intro pins s σ H D I h
 refine wpAny_Assign_Name (thn (he pins s σ H _ I h) λv s1 zq18=>?_) hs
 obtain⟨y,H1,I1,r1,q1⟩:=zq18
 exact nO I1 hN hi hx r1 (λs2 I2=>⟨_,H1,I2,q1⟩) hf
def tPar(i j:Nat)(ta:TA):TS:=λD σ H=>ta σ H λvs H1=>∃v w,vs=[v,w]/\D.nx ((σ.set i (some v)).set j (some w)) H1
theorem Lx{i j:Nat}{x y:Str}{a b:Expr}{ta:TA}{px py pt:Pos}{kt k2 pt2}(hc:X.calm=true)(hN:X.N.Nodup)(hi:X.N[i]? =some x)(hj:X.N[j]? =some y)(hij:i≠j)
  (hx:X.env.scope.names.lookup x=some .local) (hy:X.env.scope.names.lookup y=some .local) (ha:PA X [a,b] ta)
  (hw:swappedStores [.Tuple [.Name x px,.Name y py] kt pt] (.Tuple [a,b] k2 pt2) X.env=pure (some [x,y]))
  (hs:swapsWithSole [.Tuple [.Name x px,.Name y py] kt pt] (.Tuple [a,b] k2 pt2) pos.line X.env=pure false:=by rfl):
  PS X (.Assign [.Tuple [.Name x px,.Name y py] kt pt] (.Tuple [a,b] k2 pt2) pos) (tPar i j ta):=by
 intro pins s σ H D I h
 rw[exec_Assign_arm]
 refine Zv (wpAny_standAt ?_)
 rw[hs]
 refine Zv (Zx ?_)
 rw[if_neg (by decide)]
 refine Zv (Tuple_ (thn (ha _ pins s σ H _ I h) λus s1 zq19=>?_))
 obtain⟨vs,H1,I1,r1,q1⟩:=zq19
 obtain⟨v,w,e1,q1⟩:=q1
 subst e1
 obtain⟨u1,u2,rfl,rv,rw'⟩:∃u1 u2,us=[u1,u2]/\bY v u1/\bY w u2:=by
  cases r1 with
  |cons p q=>
   cases q with
   |cons p' q'=>
    cases q'
    exact⟨_,_,rfl,p,p'⟩
 refine Zz ?_ (by show 2<=sizeLine;decide)
 have I2:Inv X pins σ H1 { s1 with heap:=s1.heap.push { cls:=.type "tuple",data:=.seq [u1,u2].toArray} }:=I1.kept (t':=s1.toks) λb o e=>Zb _ e
 rw[hw]
 refine Zv (Zx ?_)
 show wpAny (model X.prog X.w) X.A (do rule "assign.swapped-stores";let items<-unpackItems (.ref s1.heap.objs.size) 2 none;assignInOrder [λv=>bindName X.env y v,λv=>bindName X.env x v] items.reverse;pure Flow.next) _ _ _
 refine Zv (wpAny_rule (Zv (unpackItems_tuple (items:= #[u1,u2]) (I.ok.hd hc) (IsTup.new s1.heap _) λh' hx'=>?_)))
 have I3:=I2.kept (h':=h') (t':=s1.toks) λb o e=>hx' b o (Zk (Ze e)) e
 show wpAny _ _ (assignInOrder [λv=>bindName X.env y v,λv=>bindName X.env x v] [u2,u1] >>= λ_=>pure Flow.next) _ _ _
 refine Zv (assignInOrder_cons (wpAny_bindName (nO I3 hN hj (.inl hy) rw' (λs2 I4=>?_) (.inr hy))))
 refine assignInOrder_cons (wpAny_bindName (nO I4 hN hi (.inl hx) rv (λs3 I5=>assignInOrder_nil (Zx ?_)) (.inr hx)))
 rw[List.set_comm _ _ (Ne.symm hij)]at I5
 exact⟨_,H1,I5,q1⟩
end
section
variable {X:Cx} {pos:Pos}
def Kv(c:TT)(tb:TS):TS:=λD σ H=>∃W:Nat->St->Hp->Prop,(∃m,W m σ H)/\∀m σ H,W m σ H->
 c σ H λb H1=>if b=true then∃N:St->Hp->Prop,(∀σ' H',N σ' H'->∃m',m'<m/\W m' σ' H')/\tb { D with nx:=N,ct:=N,bk:=D.nx} σ H1 else D.nx σ H1
theorem Cw{c:Expr}{body:List Stmt}{tc:TT}{tb:TS}(hp:PassesOwn (model X.prog X.w) X.A X.env X.xe)(hc:PT X c tc)(hb:PSs X body tb):PS X (.While c body [] pos) (Kv tc tb):=by
 intro pins s σ H D I h
 obtain⟨W,⟨m0,w0⟩,turn⟩:=h
 refine wpAny_While (codeAny_whileLoop (λn s'=>∃σ' H',Inv X pins σ' H' s'/\W n σ' H') ?_ m0 ⟨σ,H,I,w0⟩)
 rintro n s1 ⟨σ1,H1,I1,w1⟩
 refine wpAny_passesOwn hp (thn (hc pins s1 σ1 H1 _ I1 (turn n σ1 H1 w1)) λb s2 zq27=>?_)
 obtain⟨H2,I2,q2⟩:=zq27
 cases b with
 |true=>
  obtain⟨N,hN,q2⟩:=q2
  rw[if_pos rfl]
  refine wpAny_passesOwn hp (thn (hb pins s2 σ1 H2 _ I2 q2) λf s3 q3=>?_)
  cases f with
  |next=>
   obtain⟨σ3,H3,I3,n3⟩:=q3
   obtain⟨m',hm,w3⟩:=hN σ3 H3 n3
   exact⟨m',hm,σ3,H3,I3,w3⟩
  |cont=>
   obtain⟨σ3,H3,I3,n3⟩:=q3
   obtain⟨m',hm,w3⟩:=hN σ3 H3 n3
   exact⟨m',hm,σ3,H3,I3,w3⟩
  |brk=>exact q3
  |ret v=>exact q3
 |false=>
  rw[if_neg Zr]
  exact wpAny_execs_nil ⟨σ1,H2,I2,q2⟩
end
structure It where
 go:Nat->Hp->Prop
 yld:Nat->Hp->V->Hp->Prop
 stop:Nat->Hp->Prop
def jH(X:Cx)(pins:List (Addr×Obj))(H:Hp)(b:Addr):Prop:=
 H b=none/\b≠X.env.locals/\b∉X.fs/\(b∈X.ex∨X.s₀.heap.objs.size<=b)/\(∀x c,X.env.cells.lookup x=some c->c≠b)/\∀p∈X.pn++pins,p.1≠b
theorem Inv.fpOk{X:Cx}{pins:List (Addr×Obj)}{σ:St}{H H':Hp}{s:Shared}{b:Addr}(I:Inv X pins σ H s)(hb:s.heap.objs.size<=b)(hn:H' b=none):jH X pins H' b:=by
 refine⟨hn,Nat.ne_of_gt (Zc I.lt hb),I.nofs hb,.inr (Zl I.sz hb),λx c e z=>?_,λp hp z=>?_⟩
 .obtain⟨v,q⟩:=I.cell x c e
  exact absurd (Zc q.lt (by rw[z];exact hb)) (Nat.lt_irrefl _)
 .exact absurd (Zc (Ze (I.pin p hp).1) (by rw[z];exact hb)) (Nat.lt_irrefl _)
inductive TuI(X:Cx)(pins:List (Addr×Obj))(σ:St)(fp:List Addr)(tn:Nat->Heap->Prop)(J:It)(i:Nat)(u:Value)(H:Hp)(s2:Shared):Prop
 |mk (x) (H'):Inv X pins σ H' s2->bY x u->J.yld i H x H'->tn (i+1) s2.heap->(∀b∈fp,H' b=none)->TuI X pins σ fp tn J i u H s2
structure rG(P:Program)(w:World)(K:Zw)(tg:Expr)(J:It)(fp:List Addr)(it:Addr)(tn:Nat->Heap->Prop):Prop where
 mem:it∈fp
 obj:∀i h,tn i h->∀b∈fp,∃o,h.get? b=some o/\∀v,o.data≠ .cell v
 keep:∀i h h',tn i h->(∀b∈fp,∀o,h.get? b=some o->h'.get? b=some o)->tn i h'
 item:∀(X:Cx),X.prog=P->X.w=w->X.K=K->X.calm=true->∀(i:Nat)(pins:List (Addr×Obj))(s:Shared)(σ:St)(H:Hp)(E:Value->Shared->Prop),Inv X pins σ H s->(∀b∈fp,jH X pins H b)->tn i s.heap->J.go i H->
  wpAny (model P w) X.A (pyNext (.ref it)) (λr s1=>∃u,r=some u/\
   wpAny (model P w) X.A (letOwnedTupleGo tg (.ref it) u) (λ_ s2=>TuI X pins σ fp tn J i u H s2) E s1) E s
 done:∀(X:Cx),X.prog=P->X.w=w->X.K=K->X.calm=true->∀(i:Nat)(pins:List (Addr×Obj))(s:Shared)(σ:St)(H:Hp)(E:Value->Shared->Prop),Inv X pins σ H s->(∀b∈fp,jH X pins H b)->tn i s.heap->J.stop i H->
  wpAny (model P w) X.A (pyNext (.ref it)) (λr s1=>r=none/\Inv X pins σ H s1) E s
 self:∀(A:Around)(i:Nat)(s:Shared)(Q:Value->Shared->Prop)(E:Value->Shared->Prop),tn i s.heap->Q (.ref it) s->wpAny (model P w) A (pyIter (.ref it)) Q E s
abbrev TI:=St->Hp->(It->Hp->Prop)->Prop
inductive PIE(X:Cx)(pins:List (Addr×Obj))(σ:St)(tg:Expr)(R:It->Hp->Prop)(itv:Value)(s2:Shared):Prop
 |mk (it:Addr) (fp:List Addr) (tn:Nat->Heap->Prop) (J:It) (H':Hp):itv= .ref it->Inv X pins σ H' s2->rG X.prog X.w X.K tg J fp it tn->tn 0 s2.heap->(∀b∈fp,jH X pins H' b)->R J H'->PIE X pins σ tg R itv s2
def PI(X:Cx)(tg iter:Expr)(wi:TI):Prop:=
 ∀(pins:List (Addr×Obj))(s:Shared)(σ:St)(H:Hp)(R:It->Hp->Prop),Inv X pins σ H s->wi σ H R->
  wpAny (model X.prog X.w) X.A (eval iter X.env) (λv s1=>wpAny (model X.prog X.w) X.A (pyIter v) (PIE X pins σ tg R) X.xe s1) X.xe s
theorem Dw{M:Model}{A:Around}{E:Value->Shared->Prop}{s:Shared}{tg:Expr}{it:Addr}{u:Value}{o:Obj}{n:String}{vs:Array Value}{Q:Unit->Shared->Prop}(ho:s.heap.get? it=some o)(hc:o.cls= .type n)(hd:o.data= .fields vs)
  (hn:["enumerate","zip","dict_itemiterator","dict_reverseitemiterator","odict_iterator","itertools.zip_longest","itertools.pairwise"].contains n=false) (hQ:Q () s):wpAny M A (letOwnedTupleGo tg (.ref it) u) Q E s:=by
 unfold letOwnedTupleGo
 cases tg<;>first
  |exact Zx hQ
  |(cases u<;>first
   |exact Zx hQ
   |(refine Zv (wpAny_load ho ?_)
     rw[hc,hd]
     show wpAny M A (if(["enumerate","zip","dict_itemiterator","dict_reverseitemiterator","odict_iterator","itertools.zip_longest","itertools.pairwise"].contains n&&vs[0]? ==some (rawInt _))=true then _ else _) Q E s
     rw[if_neg (by intro h;rw[hn,Bool.false_and]at h;cases h)]
     exact Zx hQ))
def Itl(K:Zw)(a:Addr):It:=
 ⟨λi H=>∃xs x,SqL K H a xs/\xs[i]? =some x,λi H x H'=>H'=H/\∀xs,SqL K H a xs->xs[i]? =some x,λi H=>∃xs,SqL K H a xs/\xs.length<=i⟩
def Itt(K:Zw)(a:Addr):It:=
 ⟨λi H=>∃xs x,SqT K H a xs/\xs[i]? =some x,λi H x H'=>H'=H/\∀xs,SqT K H a xs->xs[i]? =some x,λi H=>∃xs,SqT K H a xs/\xs.length<=i⟩
def Itr(lo:Int)(n:Nat):It:=⟨λi _=>i<n,λi H x H'=>H'=H/\x= .int (lo+i),λi _=>n<=i⟩
theorem rY{P:Program}{w:World}{K:Zw}{tg:Expr}(a it:Addr):rG P w K tg (Itl K a) [it] it (λi h=>h.IsListIter it a i) where
 mem:=by simp
 obj:=λi h st b hb=>by
  have e:b=it:=by simpa using hb
  subst e
  obtain⟨o,e,c,d⟩:=st
  exact⟨o,e,λv z=>by rw[d]at z;cases z⟩
 keep:=λi h h' st k=>st.at λo e=>k it (by simp) o e
 item:=by
  intro X hP hw hK hc i pins s σ H E I hf st hg
  subst hP hw hK
  obtain⟨xs,x,hq,hx⟩:=hg
  obtain⟨its,rv,p,hz⟩:=I.list hq
  obtain⟨u,hu,ru⟩:=rv.get hx
  obtain⟨f0,f1,f2,f3,f4,f5⟩:=hf it (by simp)
  refine wpAny_pyNext_list_item st p.isList (x:=u) (by simpa using hu) λh' st' sb=>?_
  have I1:Inv X pins σ H { s with heap:=h'}:=I.turned (t':=s.toks) (λb o hb e=>(sb.2 b hb).trans e) f0 f1 f3 f4 f5
  obtain⟨o,e,c,d⟩:=id st'
  exact⟨u,rfl,Dw (s:={ s with heap:=h'}) e c d (by decide) ⟨x,H,I1,ru,⟨rfl,λys hy=>by rw[I.list_inj hy hq];exact hx⟩,st',λb hb=>(hf b hb).1⟩⟩
 done:=by
  intro X hP hw hK hc i pins s σ H E I hf st hg
  subst hP hw hK
  obtain⟨xs,hq,hx⟩:=hg
  obtain⟨its,rv,p,hz⟩:=I.list hq
  obtain⟨f0,f1,f2,f3,f4,f5⟩:=hf it (by simp)
  have hl:=rv.length
  exact wpAny_pyNext_list_end (I.ok.hd hc) st p.isList (by simp;omega) λh' eb=>⟨rfl,I.turned (t':=s.toks) (λb o hb e=>eb b o hb e) f0 f1 f3 f4 f5⟩
 self:=λ_ _ _ _ _ st h=>wpAny_pyIter_listiter st h
theorem qO{P:Program}{w:World}{K:Zw}{tg:Expr}(a it:Addr):rG P w K tg (Itt K a) [it] it (λi h=>h.IsTupleIter it a i) where
 mem:=by simp
 obj:=λi h st b hb=>by
  have e:b=it:=by simpa using hb
  subst e
  obtain⟨o,e,c,d⟩:=st
  exact⟨o,e,λv z=>by rw[d]at z;cases z⟩
 keep:=λi h h' st k=>st.at λo e=>k it (by simp) o e
 item:=by
  intro X hP hw hK hc i pins s σ H E I hf st hg
  subst hP hw hK
  obtain⟨xs,x,hq,hx⟩:=hg
  obtain⟨its,rv,p,hz⟩:=I.tuple hq
  obtain⟨u,hu,ru⟩:=rv.get hx
  obtain⟨f0,f1,f2,f3,f4,f5⟩:=hf it (by simp)
  refine wpAny_pyNext_tuple_item st (show s.heap.IsTuple a its.toArray from p) (x:=u) (by simpa using hu) λh' st' sb=>?_
  have I1:Inv X pins σ H { s with heap:=h'}:=I.turned (t':=s.toks) (λb o hb e=>(sb.2 b hb).trans e) f0 f1 f3 f4 f5
  obtain⟨o,e,c,d⟩:=id st'
  exact⟨u,rfl,Dw (s:={ s with heap:=h'}) e c d (by decide) ⟨x,H,I1,ru,⟨rfl,λys hy=>by rw[I.tuple_inj hy hq];exact hx⟩,st',λb hb=>(hf b hb).1⟩⟩
 done:=by
  intro X hP hw hK hc i pins s σ H E I hf st hg
  subst hP hw hK
  obtain⟨xs,hq,hx⟩:=hg
  obtain⟨its,rv,p,hz⟩:=I.tuple hq
  obtain⟨f0,f1,f2,f3,f4,f5⟩:=hf it (by simp)
  have hl:=rv.length
  exact wpAny_pyNext_tuple_end (I.ok.hd hc) st (show s.heap.IsTuple a its.toArray from p) (by simp;omega) λh' eb=>⟨rfl,I.turned (t':=s.toks) (λb o hb e=>eb b o hb e) f0 f1 f3 f4 f5⟩
 self:=λ_ _ _ _ _ st h=>wpAny_pyIter_tupleiter st h
theorem xT{P:Program}{w:World}{K:Zw}{tg:Expr}(it:Addr)(lo:Int)(n:Nat):rG P w K tg (Itr lo n) [it] it (λi h=>IsRangeIter h it (lo+(i:Nat)*1) ((n:Int)-(i:Nat)) 1) where
 mem:=by simp
 obj:=λi h st b hb=>by
  have e:b=it:=by simpa using hb
  subst e
  exact⟨_,st,λv z=>by
   have z':Data.fields _=Data.cell v:=z
   cases z'⟩
 keep:=λi h h' st k=>k it (by simp) _ st
 item:=by
  intro X hP hw hK hc i pins s σ H E I hf st hg
  subst hP hw hK
  obtain⟨f0,f1,f2,f3,f4,f5⟩:=hf it (by simp)
  have W:=Walks.range (prog:=X.prog) (w:=X.w) (I.ok.hd hc) it lo 1 n
  refine W.item i s _ _ hg st λv h' tk hv st' kk=>?_
  obtain⟨t,rfl⟩:=hv
  have I1:Inv X pins σ H { s with heap:=h',toks:=tk}:=I.turned (λb o hb e=>kk b o (by simpa using hb) e) f0 f1 f3 f4 f5
  refine⟨_,rfl,Dw (s:={ s with heap:=h',toks:=tk}) (n:="range_iterator") st' rfl rfl (by decide) ⟨.int (lo+i),H,I1,⟨t,?_⟩,⟨rfl,rfl⟩,st',λb hb=>(hf b hb).1⟩⟩
  rw[Int.mul_one]
 done:=by
  intro X hP hw hK hc i pins s σ H E I hf st hg
  subst hP hw hK
  obtain⟨f0,f1,f2,f3,f4,f5⟩:=hf it (by simp)
  exact wpAny_pyNext_range_end (I.ok.hd hc) st (by have:n<=i:=hg;omega) λh' eb=>⟨rfl,I.turned (t':=s.toks) (λb o hb e=>eb b o hb e) f0 f1 f3 f4 f5⟩
 self:=λ_ _ _ _ _ st h=>wpAny_pyIter_rangeiter st h
section
variable {X:Cx} {tg:Expr}
theorem CG{pins:List (Addr×Obj)}{σ:St}{H:Hp}{s:Shared}{R:It->Hp->Prop}{E:Value->Shared->Prop}{lo hi:Int}{t u v:Tok}{tk:Nat}(I:Inv X pins σ H s)(h1: -(2 ^ 62)<=lo)(h2:lo<2 ^ 62)(h3: -(2 ^ 62)<=hi)(h4:hi<2 ^ 62)
  (q:R (Itr lo (hi-lo).toNat) H):wpAny (model X.prog X.w) X.A (pyIter (.ref s.heap.objs.size)) (PIE X pins σ tg R) E { s with heap:=s.heap.push { cls:=.type "range",data:=.fields #[.int lo t,.int hi u,.int 1 v] },toks:=tk}:=by
 refine wpAny_pyIter_range (IsRange.new ..) (small_one h1 h2 h3 h4) ?_
 have I1:Inv X pins σ H { s with heap:=s.heap.push { cls:=.type "range",data:=.fields #[.int lo t,.int hi u,.int 1 v] },toks:=tk}:=I.kept λb o e=>Zb _ e
 refine⟨(s.heap.push { cls:=.type "range",data:=.fields #[.int lo t,.int hi u,.int 1 v] }).objs.size,[(s.heap.push { cls:=.type "range",data:=.fields #[.int lo t,.int hi u,.int 1 v] }).objs.size],_,_,H,rfl,
  I1.kept (t':=tk) λb o e=>Zb _ e,xT _ lo (hi-lo).toNat,?_,λb hb=>?_,q⟩
 .have e1:lo+((0:Nat):Int)*1=lo:=by simp
  have e2:(((hi-lo).toNat:Nat):Int)-((0:Nat):Int)=Builtin.Range.rangeSize lo hi 1:=by rw[rangeSize_one];split<;>omega
  show IsRangeIter _ _ (lo+((0:Nat):Int)*1) ((((hi-lo).toNat:Nat):Int)-((0:Nat):Int)) 1
  rw[e1,e2]
  exact Zf _ rfl
 .have e:b=(s.heap.push { cls:=.type "range",data:=.fields #[.int lo t,.int hi u,.int 1 v] }).objs.size:=by simpa using hb
  subst e
  exact I1.fpOk (Zg _) (I1.hok.fresh (Zg _))
def Nx(ta:TA):TI:=λσ H R=>ta σ H λvs H1=>∃j:Int,vs=[.int j]/\ -(2 ^ 62)<=j/\j<2 ^ 62/\R (Itr 0 j.toNat) H1
theorem Al{a:Expr}{ta:TA}{p pos:Pos}(hg:Gl X "range")(hm:X.mg "range"=none)(ha:PA X [a] ta)(hs:starEach [a] X.env=[(false,eval a X.env)]:=by rfl):PI X tg (.Call (.Name "range" p) [a] [] pos) (Nx ta):=by
 intro pins s σ H R I h
 refine Call_ (kW I hg hm boot_range (PyProof.Rows.callWith_type1 (thn (ha pos pins s σ H _ I h) λus s1 ⟨vs,H1,I1,r1,q1⟩=>?_) hs rfl))
 obtain⟨j,e,q1,q2,q⟩:=q1
 subst e
 cases r1 with
 |cons r rr=>
  cases rr
  obtain⟨t,rfl⟩:=r
  exact call_range_1 (CG I1 (by omega) (by omega) q1 q2 (by simpa using q))
def tFor(wi:TI)(g:TG)(tb:TS):TS:=λD σ H=>wi σ H λJ H1=>∃W:Nat->Nat->St->Hp->Prop,(∃m,W 0 m σ H1)/\∀i m σ H,W i m σ H->
 (J.stop i H/\D.nx σ H)∨(J.go i H/\∃N:St->Hp->Prop,(∀σ' H',N σ' H'->∃m',m'<m/\W (i+1) m' σ' H')/\∀x H',J.yld i H x H'->g x σ H' λσ2 H2=>tb { D with nx:=N,ct:=N,bk:=D.nx} σ2 H2)
def oH(fp:List Addr)(h:Heap):List (Addr×Obj):=fp.filterMap λb=>(h.get? b).map λo=>(b,o)
theorem dZ{fp:List Addr}{h:Heap}{b:Addr}{o:Obj}(hb:b∈fp)(e:h.get? b=some o):(b,o)∈oH fp h:=List.mem_filterMap.mpr ⟨b,hb,by rw[e];rfl⟩
theorem Ai{fp:List Addr}{h:Heap}{p:Addr×Obj}(hp:p∈oH fp h):p.1∈fp/\h.get? p.1=some p.2:=by
 obtain⟨b,hb,e⟩:=List.mem_filterMap.mp hp
 cases q:h.get? b with
 |none=>rw[q]at e;cases e
 |some o=>
  rw[q]at e
  have e':(b,o)=p:=Option.some.inj e
  subst e'
  exact⟨hb,q⟩
theorem Inv.pinned{pins:List (Addr×Obj)}{σ:St}{H:Hp}{s:Shared}{fp:List Addr}(I:Inv X pins σ H s)(hf:∀b∈fp,jH X pins H b)(ho:∀b∈fp,∃o,s.heap.get? b=some o/\∀v,o.data≠ .cell v):Inv X (pins++oH fp s.heap) σ H s:=
 I.pins_of λp hp=>(Zm.mp hp).elim (λz=>I.pin p (Zn _ z)) λz=>by
  obtain⟨hb,e⟩:=Ai z
  obtain⟨f0,f1,f2,_⟩:=hf p.1 hb
  obtain⟨o,e',d⟩:=ho p.1 hb
  rw[e]at e';cases e'
  exact⟨e,f0,f1,f2,d⟩
theorem Inv.unpinned{pins pl:List (Addr×Obj)}{σ:St}{H:Hp}{s:Shared}(I:Inv X (pins++pl) σ H s):Inv X pins σ H s:=I.pins_of λp hp=>I.pin p (Zn _ (List.mem_append_left _ hp))
theorem Jx{iter:Expr}{body:List Stmt}{wi:TI}{g:TG}{tb:TS}{pos:Pos}(hp:PassesOwn (model X.prog X.w) X.A X.env X.xe)(hc:X.calm=true)(hi:PI X tg iter wi)(hg:PG X tg g)(hb:PSs X body tb)
  (hs:∀x,foldedSetIterable iter X.env x=pure x:=by intro _;rfl):PS X (.For tg iter body [] pos) (tFor wi g tb):=by
 intro pins s σ H D I h
 refine wpAny_For (thn (hi pins s σ H _ I h) λv s1 h1=>thn h1 λitv s2 h2=>?_) hs
 obtain⟨it,fp,tn,J,H2,e,I2,T,st2,f2,W,⟨m0,w0⟩,turn⟩:=h2
 subst e
 have stat:∀{H':Hp},(∀b∈fp,H' b=none)->∀b∈fp,jH X pins H' b:=λhn b hb=>⟨hn b hb,(f2 b hb).2⟩
 refine codeAny_forLoop_any (λn s'=>∃i σ' H',Inv X pins σ' H' s'/\tn i s'.heap/\(∀b∈fp,H' b=none)/\W i n σ' H') ?_ m0 ⟨0,σ,H2,I2,st2,λb hb=>(f2 b hb).1,w0⟩
 rintro n s3 ⟨i,σ3,H3,I3,st3,fr3,w3⟩
 rcases turn i n σ3 H3 w3 with⟨stop,qn⟩|⟨go,N,hN,step⟩
 .refine wpAny_passesOwn hp (thn (T.done X rfl rfl rfl hc i pins s3 σ3 H3 X.xe I3 (stat fr3) st3 stop) λr s4 zq30=>?_)
  obtain⟨hr,I4⟩:=zq30
  subst hr
  exact wpAny_execs_nil ⟨σ3,H3,I4,qn⟩
 .refine wpAny_passesOwn hp (thn (T.item X rfl rfl rfl hc i pins s3 σ3 H3 X.xe I3 (stat fr3) st3 go) λr s4 zq31=>?_)
  obtain⟨u,hr,h4⟩:=zq31
  subst hr
  refine wpAny_passesOwn hp (thn h4 λ_ s5 zq32=>?_)
  obtain⟨x,H5,I5,r5,y5,st5,fr5⟩:=zq32
  have I5':=I5.pinned (stat fr5) (T.obj _ _ st5)
  refine wpAny_passesOwn hp (thn (hg _ s5 σ3 H5 x u _ I5' r5 (step x H5 y5)) λ_ s6 zq33=>?_)
  obtain⟨σ6,H6,I6,q6⟩:=zq33
  refine wpAny_passesOwn hp (thn (hb _ s6 σ6 H6 _ I6 q6) λf s7 q7=>?_)
  have again:∀{σ7:St}{H7:Hp},Inv X (pins++oH fp s5.heap) σ7 H7 s7->N σ7 H7->∃m,m<n/\∃i σ' H',Inv X pins σ' H' s7/\tn i s7.heap/\(∀b∈fp,H' b=none)/\W i m σ' H':=λ{σ7 H7} I7 n7=>by
   obtain⟨m',hm,w7⟩:=hN σ7 H7 n7
   refine⟨m',hm,i+1,σ7,H7,I7.unpinned,T.keep _ _ _ st5 λb hb o e=>(I7.pin (b,o) (Zn _ (Zn _ (dZ hb e)))).1,λb hb=>?_,w7⟩
   obtain⟨o,e,d⟩:=T.obj _ _ st5 b hb
   exact(I7.pin (b,o) (Zn _ (Zn _ (dZ hb e)))).2.1
  cases f with
  |next=>obtain⟨σ7,H7,I7,n7⟩:=q7;exact again I7 n7
  |cont=>obtain⟨σ7,H7,I7,n7⟩:=q7;exact again I7 n7
  |brk=>obtain⟨σ7,H7,I7,q7⟩:=q7;exact⟨σ7,H7,I7.unpinned,q7⟩
  |ret v=>obtain⟨x7,σ7,H7,I7,r7,q7⟩:=q7;exact⟨x7,σ7,H7,I7.unpinned,r7,q7⟩
end
abbrev R2:=V->V->Hp->VK->Prop
def OpR(X:Cx)(f:Value->Value->Sem Value)(r:R2):Prop:=
 ∀(pins:List (Addr×Obj))(s:Shared)(σ:St)(H:Hp)(x y:V)(v u:Value)(Q:VK),Inv X pins σ H s->bY x v->bY y u->r x y H Q->
  wpAny (model X.prog X.w) X.A (f v u) (EP X pins σ Q) X.xe s
def UnR(X:Cx)(f:Value->Sem Value)(r:V->Hp->VK->Prop):Prop:=
 ∀(pins:List (Addr×Obj))(s:Shared)(σ:St)(H:Hp)(x:V)(v:Value)(Q:VK),Inv X pins σ H s->bY x v->r x H Q->
  wpAny (model X.prog X.w) X.A (f v) (EP X pins σ Q) X.xe s
def gG(X:Cx)(f:Value)(r:List V->Hp->VK->Prop):Prop:=
 ∀(pins:List (Addr×Obj))(s:Shared)(σ:St)(H:Hp)(xs:List V)(us:List Value)(Q:VK),Inv X pins σ H s->aY xs us->r xs H Q->
  wpAny (model X.prog X.w) X.A (call f us) (EP X pins σ Q) X.xe s
def TruR(X:Cx)(r:V->Hp->(Bool->Hp->Prop)->Prop):Prop:=
 ∀(pins:List (Addr×Obj))(s:Shared)(σ:St)(H:Hp)(x:V)(v:Value)(Q:Bool->Hp->Prop),Inv X pins σ H s->bY x v->r x H Q->
  wpAny (model X.prog X.w) X.A (truthy v) (TP X pins σ Q) X.xe s
def tOp(r:R2)(ta tb:TE):TE:=λσ H Q=>ta σ H λx H1=>tb σ H1 λy H2=>r x y H2 Q
def tUn(r:V->Hp->VK->Prop)(ta:TE):TE:=λσ H Q=>ta σ H λx H1=>r x H1 Q
def rI(C:Int->Int->Prop)(g:Int->Int->V):R2:=λx y H Q=>∃i j,x= .int i/\y= .int j/\C i j/\Q (g i j) H
def rI0(g:Int->Int->V):R2:=λx y H Q=>∃i j,x= .int i/\y= .int j/\Q (g i j) H
def rU(g:Int->V):V->Hp->VK->Prop:=λx H Q=>∃i,x= .int i/\Q (g i) H
section
variable {X:Cx} {a b c:Expr} {ta tb tc:TE} {pos:Pos}
theorem Mt(ha:PE X a ta)(hb:PE X b tb){pins:List (Addr×Obj)}{s:Shared}{σ:St}{H:Hp}{R:V->V->Hp->Prop}(I:Inv X pins σ H s)
  (h:ta σ H λx H1=>tb σ H1 λy H2=>R x y H2) {Q:Value->Shared->Prop} {f:Value->Value->Sem Value}
  (hf:∀v u s2 x y H2,Inv X pins σ H2 s2->bY x v->bY y u->R x y H2->wpAny (model X.prog X.w) X.A (f v u) Q X.xe s2):
  wpAny (model X.prog X.w) X.A (eval a X.env) (λv s₁=>wpAny (model X.prog X.w) X.A (eval b X.env) (λu s₂=>wpAny (model X.prog X.w) X.A (f v u) Q X.xe s₂) X.xe s₁) X.xe s:=by
 refine thn (ha pins s σ H _ I h) λv s1 zq34=>?_
 obtain⟨x,H1,I1,r1,q1⟩:=zq34
 refine thn (hb pins s1 σ H1 _ I1 q1) λu s2 zq35=>?_
 obtain⟨y,H2,I2,r2,q2⟩:=zq35
 exact hf v u s2 x y H2 I2 r1 r2 q2
theorem Ji{op:Operator}{r:R2}(ho:OpR X (binaryOp op) r)(ha:PE X a ta)(hb:PE X b tb):PE X (.BinOp a op b pos) (tOp r ta tb):=by
 intro pins s σ H Q I h
 exact wpAny_BinOp (Mt ha hb I h λv u s2 x y H2 I2 rx ry q=>ho pins s2 σ H2 x y v u Q I2 rx ry q)
theorem Jd{op:UnaryOp}{r:V->Hp->VK->Prop}(ho:UnR X (unaryOp op) r)(ha:PE X a ta):PE X (.UnaryOp op a pos) (tUn r ta):=by
 intro pins s σ H Q I h
 exact UnaryOp_ (thn (ha pins s σ H _ I h) λv s1 ⟨x,H1,I1,r1,q1⟩=>ho pins s1 σ H1 x v Q I1 r1 q1)
theorem opI{f:Value->Value->Sem Value}{C:Int->Int->Prop}{g:Int->Int->Int}
  (rule:∀(i j:Int)(t u:Tok)(s:Shared)(Q:Value->Shared->Prop)(E:Value->Shared->Prop),C i j->Q (.int (g i j) s.toks) { s with toks:=s.toks+1}->wpAny (model X.prog X.w) X.A (f (.int i t) (.int j u)) Q E s):
  OpR X f (rI C λi j=>.int (g i j)):=by
 intro pins s σ H x y v u Q I rx ry h
 obtain⟨i,j,rfl,rfl,hc,q⟩:=h
 obtain⟨t,rfl⟩:=rx
 obtain⟨t',rfl⟩:=ry
 exact rule i j t t' s _ _ hc ⟨.int (g i j),H,I.tok _,⟨_,rfl⟩,q⟩
theorem PJ{f:Value->Value->Sem Value}{g:Int->Int->Int}
  (rule:∀(i j:Int)(t u:Tok)(s:Shared)(Q:Value->Shared->Prop)(E:Value->Shared->Prop),Q (.int (g i j) s.toks) { s with toks:=s.toks+1}->wpAny (model X.prog X.w) X.A (f (.int i t) (.int j u)) Q E s):
  OpR X f (rI0 λi j=>.int (g i j)):=by
 intro pins s σ H x y v u Q I rx ry h
 obtain⟨i,j,rfl,rfl,q⟩:=h
 obtain⟨t,rfl⟩:=rx
 obtain⟨t',rfl⟩:=ry
 exact rule i j t t' s _ _ ⟨.int (g i j),H,I.tok _,⟨_,rfl⟩,q⟩
theorem Gf{f:Value->Value->Sem Value}{g:Int->Int->Bool}
  (rule:∀(i j:Int)(t u:Tok)(s:Shared)(Q:Value->Shared->Prop)(E:Value->Shared->Prop),Q (.bool (g i j)) s->wpAny (model X.prog X.w) X.A (f (.int i t) (.int j u)) Q E s):
  OpR X f (rI0 λi j=>.bl (g i j)):=by
 intro pins s σ H x y v u Q I rx ry h
 obtain⟨i,j,rfl,rfl,q⟩:=h
 obtain⟨t,rfl⟩:=rx
 obtain⟨t',rfl⟩:=ry
 exact rule i j t t' s _ _ ⟨.bl (g i j),H,I,rfl,q⟩
theorem JP:OpR X (binaryOp .Add) (rI0 λi j=>.int (i+j)):=PJ λ_ _ _ _ _ _ _ q=>add_int q
theorem Lb:OpR X (binaryOp .Sub) (rI0 λi j=>.int (i-j)):=PJ λ_ _ _ _ _ _ _ q=>sub_int q
theorem HQ:OpR X (binaryOp .Mod) (rI (λ_ j=>j≠0) λi j=>.int (i.fmod j)):=opI λ_ _ _ _ _ _ _ hc q=>mod_int' hc q
theorem unI{f:Value->Sem Value}{g:Int->Int}
  (rule:∀(i:Int)(t:Tok)(s:Shared)(Q:Value->Shared->Prop)(E:Value->Shared->Prop),Q (.int (g i) s.toks) { s with toks:=s.toks+1}->wpAny (model X.prog X.w) X.A (f (.int i t)) Q E s):
  UnR X f (rU λi=>.int (g i)):=by
 intro pins s σ H x v Q I rx h
 obtain⟨i,rfl,q⟩:=h
 obtain⟨t,rfl⟩:=rx
 exact rule i t s _ _ ⟨.int (g i),H,I.tok _,⟨_,rfl⟩,q⟩
theorem Eh:UnR X (unaryOp .USub) (rU λi=>.int (-i)):=unI λ_ _ _ _ _ q=>neg_int q
end
section
variable {X:Cx} {a b c:Expr} {ta tb tc:TE} {pos:Pos}
theorem Oa:OpR X (compareOp .Lt) (rI0 λi j=>.bl (decide (i<j))):=Gf λ_ _ _ _ _ _ _ q=>lt_int q
theorem Oz:OpR X (compareOp .LtE) (rI0 λi j=>.bl (decide (i<=j))):=Gf λ_ _ _ _ _ _ _ q=>le_int q
theorem PB:OpR X (compareOp .Gt) (rI0 λi j=>.bl (decide (j<i))):=Gf λ_ _ _ _ _ _ _ q=>gt_int q
theorem MP:OpR X (compareOp .GtE) (rI0 λi j=>.bl (decide (j<=i))):=Gf λ_ _ _ _ _ _ _ q=>ge_int q
theorem OpR.or{f:Value->Value->Sem Value}{r r':R2}(h:OpR X f r)(h':OpR X f r'):OpR X f (λx y H Q=>r x y H Q∨r' x y H Q):=by
 intro pins s σ H x y v u Q I rx ry q
 rcases q with q|q
 .exact h pins s σ H x y v u Q I rx ry q
 .exact h' pins s σ H x y v u Q I rx ry q
theorem Gk{op:CmpOp}{r:R2}(ho:OpR X (compareOp op) r)(ha:PE X a ta)(hb:PE X b tb)(hm:behindInMarks op b=false):PE X (.Compare a [op] [b] pos) (tOp r ta tb):=by
 intro pins s σ H Q I h
 exact wpAny_Compare1 (Mt ha hb I h λv u s2 x y H2 I2 rx ry q=>ho pins s2 σ H2 x y v u Q I2 rx ry q) hm
def Pb(t:TE):TT:=λσ H Q=>t σ H λx H'=>∃k,x= .bl k/\Q k H'
theorem Ii{op:CmpOp}{r:R2}(ho:OpR X (compareOp op) r)(ha:PE X a ta)(hb:PE X b tb)(hm:behindInMarks op b=false):PT X (.Compare a [op] [b] pos) (Pb (tOp r ta tb)):=by
 intro pins s σ H Q I h
 refine wpAny_isTrue_Compare1 (thn (ha pins s σ H _ I h) λv s1 ⟨x,H1,I1,r1,q1⟩=>thn (hb pins s1 σ H1 _ I1 q1) λu s2 ⟨y,H2,I2,r2,q2⟩=>
  thn (ho pins s2 σ H2 x y v u _ I2 r1 r2 q2) λc s3 ⟨z,H3,I3,r3,k,e,q3⟩=>?_) hm
 subst e
 cases r3
 exact wpAny_truthy_bool ⟨H3,I3,q3⟩
def Kw(K:Zw)(x:V)(H:Hp)(k:Bool):Prop:=
 match x with
 | .non=>k=false
 | .bl b=>k=b
 | .int i=>k=(i != 0)
 | .str y=>y.length<=sizeLine/\k=((y.length:Int) != 0)
 | .byt y=>y.size<=sizeLine/\k=((y.size:Int) != 0)
 | .ref p=>(∃xs,SqL K H p xs/\k= !xs.isEmpty)∨(∃xs,SqT K H p xs/\k= !xs.isEmpty)∨∃kvs,H p=some (.dK kvs)/\k= !kvs.isEmpty
 |_=>False
theorem yu{κ:Type}{kvs:List (κ×V)}{vs:List (κ×Value)}(r:KV kvs vs):(!vs.isEmpty)= !kvs.isEmpty:=by
 cases r<;>rfl
theorem qT{xs:List V}{its:List Value}(r:aY xs its):(!its.toArray.isEmpty)= !xs.isEmpty:=by
 cases r<;>simp
theorem mK:(sizeLine:Nat)<2 ^ 63:=by rw[sizeLine_eq];decide
theorem KZ:TruR X (λx H Q=>∃k,Kw X.K x H k/\Q k H):=by
 intro pins s σ H x v Q I rx h
 obtain⟨k,e,q⟩:=h
 have hl:=mK
 have hs:sizeLine=16777216:=sizeLine_eq
 cases x with
 |non=>
  cases rx
  have e':k=false:=e
  subst e'
  exact truthy_none ⟨H,I,q⟩
 |bl b=>
  cases rx
  have e':k=b:=e
  subst e'
  exact wpAny_truthy_bool ⟨H,I,q⟩
 |int i=>
  obtain⟨t,rfl⟩:=rx
  have e':k=(i != 0):=e
  subst e'
  exact PySem.P.truthy_int ⟨H,I,q⟩
 |str y=>
  obtain⟨t,rfl⟩:=rx
  obtain⟨hy,e'⟩:y.length<=sizeLine/\k=((y.length:Int) != 0):=e
  subst e'
  exact PySem.P.truthy_str (by omega) ⟨H,I.tok _,q⟩
 |byt y=>
  obtain⟨t,rfl⟩:=rx
  obtain⟨hy,e'⟩:y.size<=sizeLine/\k=((y.size:Int) != 0):=e
  subst e'
  exact PySem.W.truthy_bytes (by omega) ⟨H,I.tok _,q⟩
 |ref p=>
  cases rx
  have e':(∃xs,SqL X.K H p xs/\k= !xs.isEmpty)∨(∃xs,SqT X.K H p xs/\k= !xs.isEmpty)∨∃kvs,H p=some (.dK kvs)/\k= !kvs.isEmpty:=e
  rcases e' with⟨xs,hx,e'⟩|⟨xs,hx,e'⟩|⟨kvs,hx,e'⟩
  .subst e'
   obtain⟨its,r,pl,hz⟩:=I.list hx
   have hlen:=r.length
   exact wpAny_truthy_list pl.isList (by simp only[Zd];omega) ⟨H,I.tok _,by rw[qT r];exact q⟩
  .subst e'
   obtain⟨its,r,pl,hz⟩:=I.tuple hx
   have hlen:=r.length
   exact truthy_tuple pl (by simp only[Zd];omega) ⟨H,I.tok _,by rw[qT r];exact q⟩
  .subst e'
   obtain⟨hz,hS,vs,r,m⟩:kvs.length<=sizeLine/\(p==sysModules)=false/\∃vs,KV kvs vs/\s.heap.DictOf (uH X.prog X.w) p vs:=I.hok p _ hx
   have hlen:kvs.length=vs.length:=Paired.length r
   exact wpAny_truthy_dict hS m (by omega) ⟨H,I.tok _,by rw[yu r];exact q⟩
 |_=>exact(show False from e).elim
theorem Cd(ha:PE X a ta)(he:∀whole,isTrue a X.env whole=(do let v<-whole;standAt a.pos;holding [v] (truthy v))):
  PT X a (λσ H Q=>ta σ H λx H'=>∃k,Kw X.K x H' k/\Q k H'):=by
 intro pins s σ H Q I h
 exact isTrue_plain (thn (ha pins s σ H _ I h) λv s1 ⟨x,H1,I1,r1,q1⟩=>KZ pins s1 σ H1 x v Q I1 r1 q1) (he _)
theorem xy:OpR X (binaryOp .Add) (λx y H Q=>∃i j,x= .str i/\y= .str j/\i.length+j.length<=sizeLine/\Q (.str (i++j)) H):=by
 intro pins s σ H x y v u Q I rx ry h
 obtain⟨i,j,rfl,rfl,hz,q⟩:=h
 obtain⟨t,rfl⟩:=rx
 obtain⟨t',rfl⟩:=ry
 exact add_str (λt' tk=>⟨.str (i++j),H,I.tok _,⟨_,rfl⟩,q⟩) hz
theorem vals1{x:V}{us:List Value}(r:aY [x] us):∃u,us=[u]/\bY x u:=by
 cases r with
 |cons r1 r2=>cases r2;exact⟨_,rfl,r1⟩
theorem vals2{x y:V}{us:List Value}(r:aY [x,y] us):∃u w',us=[u,w']/\bY x u/\bY y w':=by
 cases r with
 |cons r1 r2=>
  cases r2 with
  |cons r3 r4=>cases r4;exact⟨_,_,rfl,r1,r3⟩
theorem Di:gG X (.builtin "abs") (λxs H Q=>∃i,xs=[.int i]/\Q (.int (if i<0 then -i else i)) H):=by
 intro pins s σ H xs us Q I r h
 obtain⟨i,rfl,q⟩:=h
 obtain⟨u,rfl,t,rfl⟩:=vals1 r
 exact call_abs_int λu tk=>⟨.int (if i<0 then -i else i),H,I.tok _,⟨_,rfl⟩,q⟩
theorem zF(hc:X.calm=true):gG X (.builtin "min") (λxs H Q=>∃i j,xs=[.int i,.int j]/\Q (.int (if j<i then j else i)) H):=by
 intro pins s σ H xs us Q I r h
 obtain⟨i,j,rfl,q⟩:=h
 obtain⟨u,w',rfl,⟨t,rfl⟩,⟨t',rfl⟩⟩:=vals2 r
 refine min_two_ints (I.ok.hd hc) λh' tk k=>⟨_,H,I.kept k,?_,q⟩
 by_cases hj:j<i
 .rw[if_pos hj,if_pos hj];exact⟨_,rfl⟩
 .rw[if_neg hj,if_neg hj];exact⟨_,rfl⟩
end
def rC(f:Str)(v:V):List (Str×V)->List (Str×V)
 | []=>[(f,v)]
 |(g,x)::r=>if g=f then(g,v)::r else(g,x)::rC f v r
structure cO(k:Nat)(A:Around):Prop where
 hd:A.handled=none
 dp:A.depth+3*k+5<recursionLimit
 un:A.units+16*k+200<cLine
 gd:A.guards=some []
theorem cO.mono{j k:Nat}{A:Around}(r:cO k A)(h:j<=k):cO j A:=⟨r.hd,by have:=r.dp;omega,by have:=r.un;omega,r.gd⟩
theorem cO.deeper{k:Nat}{A:Around}(r:cO (k+1) A)(env:Env):cO k (A.deeper env):=
 ⟨r.hd,by have:=r.dp;show A.depth+1+3*k+5<_;omega,by have:=r.un;show A.units+3+16*k+200<_;omega,r.gd⟩
theorem cO.depth{k:Nat}{A:Around}(r:cO k A):A.depth<recursionLimit:=by have:=r.dp;omega
def tNil:TA:=λ_ H Q=>Q [] H
def Oo(ta:TE)(tr:TA):TA:=λσ H Q=>ta σ H λx H1=>tr σ H1 λxs H2=>Q (x::xs) H2
section
variable {X:Cx} {e:Expr} {es:List Expr} {te:TE} {t:TA} {pos:Pos}
theorem uy:PA X [] tNil:=λ_ _ _ _ H Q I h=>Calls.spliced_nil ⟨[],H,I,.nil,h⟩
theorem nM(ha:PE X e te)(hr:PA X es t)(hs:starEach (e::es) X.env=(false,eval e X.env)::starEach es X.env:=by rfl):PA X (e::es) (Oo te t):=by
 intro pos pins s σ H Q I h
 rw[hs]
 show wpAny _ _ (spliced ((false,eval e X.env)::backTo pos (starEach es X.env))) _ _ s
 refine Calls.spliced_cons (thn (ha pins s σ H _ I h) λu s1 zq46=>?_)
 obtain⟨x,H1,I1,r1,q1⟩:=zq46
 exact thn (hr pos pins s1 σ H1 _ I1 q1) λus s2 ⟨xs,H2,I2,r2,q2⟩=>⟨x::xs,H2,I2,.cons r1 r2,q2⟩
def tTup(t:TA):TE:=λσ H Q=>t σ H λxs H1=>xs.length<=sizeLine/\∀p,H1 p=none->Q (.ref p) (upd H1 p (.tup xs))
def tLst(t:TA):TE:=λσ H Q=>t σ H λxs H1=>xs.length<=sizeLine/\∀p,H1 p=none->Q (.ref p) (upd H1 p (.lst xs))
theorem LK{x1}(h:PA X es t):PE X (.Tuple es x1 pos) (tTup t):=by
 intro pins s σ H Q I hq
 refine wpAny_Tuple_spliced (thn (h pos pins s σ H _ I hq) λus s1 ⟨xs,H1,I1,r,z,q⟩=>⟨by rw[<-r.length];exact z,?_⟩)
 have hf:H1 s1.heap.objs.size=none:=I1.hok.fresh (Zg _)
 refine⟨.ref s1.heap.objs.size,upd H1 s1.heap.objs.size (.tup xs),I1.laid (t':=s1.toks) (λb u e=>Zb _ e) (Zg _) ?_,rfl,q _ hf⟩
 exact⟨z,us,r,⟨_,Zf _ rfl,rfl,_,rfl⟩⟩
theorem BR(h:PA X es t):PE X (.List es pos) (tLst t):=by
 intro pins s σ H Q I hq
 refine wpAny_List_spliced (thn (h pos pins s σ H _ I hq) λus s1 ⟨xs,H1,I1,r,z,q⟩=>⟨by rw[<-r.length];exact z,?_⟩)
 have hf:H1 s1.heap.objs.size=none:=I1.hok.fresh (Zg _)
 refine⟨.ref s1.heap.objs.size,upd H1 s1.heap.objs.size (.lst xs),I1.laid (t':=s1.toks) (λb u e=>Zb _ e) (Zg _) ?_,rfl,q _ hf⟩
 exact⟨z,us,0,r,Zf _ rfl⟩
end
abbrev Sp:=List V->Hp->VK->XK->Prop
abbrev CXT:=List Env->Hp->Shared->XK->Value->Shared->Prop
structure HB(P:Program)(w:World)(K:Zw)(mg:Str->Option Value)(base:Heap)(A:Around)(outer:List Env)(s:Shared)(H:Hp):Prop where
 frames:A.frames=some outer
 mod:Mod K mg base
 bs:∀b o,base.get? b=some o->s.heap.get? b=some o/\H b=none
 bsz:base.objs.size<=s.heap.objs.size
 funs:s.heap.FunFrames base outer
 frf:∀b∈frs outer,H b=none
 hok:HOk P w H s.heap
 bare:AllBare s.gens
def CE(outer:List Env)(P:Program)(w:World)(H:Hp)(s:Shared)(Q:VK)(u:Value)(s':Shared):Prop:=
 ∃v H',s'.os=s.os/\GK s.gens s'.gens/\Un (frs outer) [] H H' s.heap s'.heap/\HOk P w H' s'.heap/\bY v u/\Q v H'
def CR(CX:CXT)(outer:List Env)(P:Program)(w:World)(H:Hp)(s:Shared)(Q:VK)(E:XK)(r:Result)(s':Shared):Prop:=
 match r with
 | .ok (.ret u)=>CE outer P w H s Q u s'
 | .ok _=>False
 | .error e=>CX outer H s E e s'
structure lX(P:Program)(w:World)(K:Zw)(mg:Str->Option Value)(base:Heap)(CX:CXT)(k:Nat)(f:Addr)(fd:FuncData)(ps:List Str)(sp:Sp):Prop where
 len:∀vs H Q E,sp vs H Q E->vs.length=ps.length
 run:∀(A:Around)(outer:List Env)(s:Shared)(H:Hp)(args:Args)(us:List Value)(vs:List V)(Q:VK)(E:XK),cO k A->HB P w K mg base A outer s H->BindsTo s fd args (ps.zip us)->aY vs us->sp vs H Q E->
  codeAny (model P w) A (.call (.ref f) args) (CR CX outer P w H s Q E) s
theorem lX.mono{P:Program}{w:World}{K:Zw}{mg:Str->Option Value}{base:Heap}{CX:CXT}{j k:Nat}{f:Addr}{fd:FuncData}{ps:List Str}{sp:Sp}(F:lX P w K mg base CX j f fd ps sp)(h:j<=k):
  lX P w K mg base CX k f fd ps sp:=⟨F.len,λA outer s H args us vs Q E hr=>F.run A outer s H args us vs Q E (hr.mono h)⟩
theorem lX.imp{P:Program}{w:World}{K:Zw}{mg:Str->Option Value}{base:Heap}{CX:CXT}{k:Nat}{f:Addr}{fd:FuncData}{ps:List Str}{sp sp':Sp}(F:lX P w K mg base CX k f fd ps sp)
  (h:∀vs H Q E,sp' vs H Q E->sp vs H Q E):lX P w K mg base CX k f fd ps sp':=
 ⟨λvs H Q E q=>F.len vs H Q E (h _ _ _ _ q),λA outer s H args us vs Q E hr he hb hv hs=>F.run A outer s H args us vs Q E hr he hb hv (h _ _ _ _ hs)⟩
section
variable {X:Cx} {pins:List (Addr×Obj)} {σ:St} {H:Hp} {s s':Shared}
theorem Inv.env0(I:Inv X pins σ H s):HB X.prog X.w X.K X.mg X.base X.A X.stack s H:=
 ⟨I.ok.frames,I.ok.mod,I.bs,Zl I.ok.bsz I.sz,I.stack,I.stkFree,I.hok,I.bare.bare⟩
theorem Inv.after{Q:VK}{u:Value}(I:Inv X pins σ H s)(h:CE X.stack X.prog X.w H s Q u s'):EP X pins σ Q u s':=by
 obtain⟨v,H',os,bare,un,hok,r,q⟩:=h
 obtain⟨hh,g,d,t,os'⟩:=s'
 obtain rfl:os'=s.os:=os
 exact⟨v,H',I.call (h':=hh) (g':=g) (d':=d) (t':=t) (ch:=[]) un hok bare (λb z=>absurd z (by simp)),r,q⟩
end
def Qa(sp:Sp)(dvs:List V)(E:XK)(t:TA):TE:=λσ H Q=>t σ H λvs H1=>sp (vs++dvs) H1 Q E
def Binds(K:Zw)(fd:FuncData)(ps:List Str)(ds:List Value):Prop:=
 ∀(s:Shared)(us:List Value),K.In s.heap->(us++ds).length=ps.length->BindsTo s fd ⟨us,[]⟩ (ps.zip (us++ds))
theorem Binds.all{K:Zw}{fd:FuncData}{ps:List Str}(h:∀us:List Value,us.length=ps.length->bindArgs fd ⟨us,[]⟩=pure (ps.zip us)):Binds K fd ps []:=λs us _ hl=>by
 rw[List.append_nil]at hl ⊢
 exact .of_eq (h us hl)
def ye(CX:CXT)(X:Cx)(E:XK):Prop:=∀(pins:List (Addr×Obj))(σ:St)(H:Hp)(s:Shared)(e:Value)(s':Shared),Inv X pins σ H s->CX X.stack H s E e s'->X.xe e s'
section
variable {X:Cx} {CX:CXT} {k:Nat} {f C:Addr} {fd:FuncData} {ps:List Str} {sp:Sp} {dvs:List V} {ds:List Value} {E:XK} {x m:Str} {p pos apos:Pos} {e o:Expr} {es:List Expr} {ta:TE} {t:TA}
theorem KH{pins:List (Addr×Obj)}{σ:St}{H:Hp}{s:Shared}{Q:VK}{us:List Value}{vs:List V}(F:lX X.prog X.w X.K X.mg X.base CX k f fd ps sp)(hr:cO k X.A)(hb:Binds X.K fd ps ds)(hd:aY dvs ds)(hx:ye CX X E)
  (I:Inv X pins σ H s) (r:aY vs us) (h:sp (vs++dvs) H Q E):wpAny (model X.prog X.w) X.A (call (.ref f) us) (EP X pins σ Q) X.xe s:=by
 have r2:aY (vs++dvs) (us++ds):=r.append hd
 have hl:(us++ds).length=ps.length:=by rw[<-r2.length];exact F.len _ _ _ _ h
 refine wpAny_call (codeAny_mono (F.run X.A X.stack s H ⟨us,[]⟩ (us++ds) (vs++dvs) Q E hr I.env0 (hb s us I.kIn hl) r2 h) λr s' hq=>?_)
 cases r with
 |error e=>exact hx pins σ H s e s' I hq
 |ok fl=>
  cases fl with
  |ret u=>exact I.after hq
  |next=>exact False.elim hq
  |brk=>exact False.elim hq
  |cont=>exact False.elim hq
theorem Hc(F:lX X.prog X.w X.K X.mg X.base CX k f fd ps sp)(hr:cO k X.A)(hg:Gl X x)(hm:X.mg x=some (.ref f))(hk:PySem.W.keepIn X.K (.ref f)=true)(hb:Binds X.K fd ps ds)(hd:aY dvs ds)(hx:ye CX X E)
  (ha:PA X (e::es) t) (hdb:(x==("__debug__":Str))=false:=by decide) (he:starEach (e::es) X.env=(false,eval e X.env)::starEach es X.env:=by rfl) (hpl:(backTo pos (starEach es X.env)).any (·.1)=false:=by rfl):
  PE X (.Call (.Name x p) (e::es) [] pos) (Qa sp dvs E t):=by
 intro pins s σ H Q I h
 refine wpAny_Call_Name_kw (Hq I hg hm ?_ hdb)
 refine PySem.W.callWith_K (h₀:=X.base) I.ok.mod.kin hk (thn (ha pos pins s σ H _ I h) λus s1 ⟨vs,H1,I1,r,q⟩=>⟨I1.kIn,?_⟩) he hpl
 exact KH F hr hb hd hx I1 r q
end
structure lL(N P:List Str)(sc:Scope):Prop where
 kind:sc.kind= .function
 co:sc.isCoroutine=false
 gen:sc.isGenerator=false
 nd:N.Nodup
 pre:N.take P.length=P
 par:∀x∈P,sc.names.lookup x=some .local∨sc.names.lookup x=some .cell
 nofree:∀y∈sc.names,y.2≠ .free
theorem sr{kindOf:Str->Option NameKind}{x:Str}:∀{binds:List (Str×Value)}{m:Str->Option Value},(∀v,(x,v)∉binds)->bindL kindOf binds m x=m x
 | [],_,_=>rfl
 |(n,v)::r,m,h=>by
  unfold bindL
  rw[sr λw hw=>h w (ZE _ hw)]
  split
  .have:x≠n:=by rintro rfl;exact h v List.mem_cons_self
   simp[this]
  .rfl
theorem sX{kindOf:Str->Option NameKind}{x:Str}:∀{binds:List (Str×Value)}{m:Str->Option Value},(∀v,(x,v)∉binds)->bindC kindOf binds m x=m x
 | [],_,_=>rfl
 |(n,v)::r,m,h=>by
  unfold bindC
  rw[sX λw hw=>h w (ZE _ hw)]
  split
  .rfl
  .have:x≠n:=by rintro rfl;exact h v List.mem_cons_self
   simp[this]
theorem sY{kindOf:Str->Option NameKind}{x:Str}{v:Value}:∀{P:List Str}{vs:List Value}{i:Nat}{m:Str->Option Value},P.Nodup->P[i]? =some x->vs[i]? =some v->kindOf x=some .local->
  bindL kindOf (P.zip vs) m x=some v
 | [],_,_,_,_,h,_,_=>by simp at h
 |_::_,[],_,_,_,_,h,_=>by simp at h
 |p::P,w::vs,0,m,nd,h1,h2,hk=>by
  simp at h1 h2;subst h1;subst h2
  show bindL kindOf ((p,w)::P.zip vs) m p=_
  unfold bindL
  rw[sr λv hv=>(List.nodup_cons.mp nd).1 (List.of_mem_zip hv).1,if_pos hk]
  simp
 |p::P,w::vs,i+1,m,nd,h1,h2,hk=>by
  show bindL kindOf ((p,w)::P.zip vs) m x=_
  unfold bindL
  exact sY (i:=i) (List.nodup_cons.mp nd).2 (by simpa using h1) (by simpa using h2) hk
theorem tu{kindOf:Str->Option NameKind}{x:Str}{v:Value}:∀{P:List Str}{vs:List Value}{i:Nat}{m:Str->Option Value},P.Nodup->P[i]? =some x->vs[i]? =some v->kindOf x≠some .local->
  bindC kindOf (P.zip vs) m x=some v
 | [],_,_,_,_,h,_,_=>by simp at h
 |_::_,[],_,_,_,_,h,_=>by simp at h
 |p::P,w::vs,0,m,nd,h1,h2,hk=>by
  simp at h1 h2;subst h1;subst h2
  show bindC kindOf ((p,w)::P.zip vs) m p=_
  unfold bindC
  rw[sX λv hv=>(List.nodup_cons.mp nd).1 (List.of_mem_zip hv).1,if_neg hk]
  simp
 |p::P,w::vs,i+1,m,nd,h1,h2,hk=>by
  show bindC kindOf ((p,w)::P.zip vs) m x=_
  unfold bindC
  exact tu (i:=i) (List.nodup_cons.mp nd).2 (by simpa using h1) (by simpa using h2) hk
def start(N:List Str)(vs:List V):St:=vs.map some++List.replicate (N.length-vs.length) none
def vI(CX:CXT)(P:Program)(w:World)(K:Zw)(mg:Str->Option Value)(base:Heap)(N:List Str)(qual:Str)(scope:Scope)(f:Addr)(cd:Value)(A:Around)(outer:List Env)(s:Shared)(H:Hp)(E:XK):Cx where
 prog:=P
 w:=w
 K:=K
 mg:=mg
 base:=base
 A:=A.deeper (envOfC qual scope s.heap.objs.size f cd)
 N:=N
 s₀:=s
 H₀:=H
 env:=envOfC qual scope s.heap.objs.size f cd
 outer:=outer
 stack:=envOfC qual scope s.heap.objs.size f cd::outer
 ex:=[]
 calm:=true
 fn:=λ_=>true
 pn:=[]
 xe:=λe s'=>wpAny (model P w) (A.deeper (envOfC qual scope s.heap.objs.size f cd)) (leaving (envOfC qual scope s.heap.objs.size f cd) e) (λ_ s''=>CX outer H s E e s'') (λe' s''=>CX outer H s E e' s'') s'
theorem uT{sc:Scope}{n:Nat}{x:Str}(h:sc.names.lookup x=some .cell):∃c,(cellsFrom n sc.names []).lookup x=some c:=by
 have q:=PySem.W.cellsFrom_some sc.names n [] (.inl h)
 exact Option.isSome_iff_exists.mp q
theorem zV{CX:CXT}{P:Program}{w:World}{K:Zw}{mg:Str->Option Value}{base:Heap}{N ps:List Str}{qual:Str}{scope:Scope}{f:Addr}{cd:Value}{A:Around}{outer:List Env}{s s1:Shared}{H:Hp}{E:XK}{us:List Value}{vs:List V}
  (S:lL N ps scope) (hd:A.handled=none) (e0:HB P w K mg base A outer s H) (hl:vs.length=ps.length) (r:aY vs us)
  (x:InCallC s s.heap.objs.size (bindL (envOfC qual scope s.heap.objs.size f cd).kindOf (ps.zip us) λ_=>none) (cellsFrom (s.heap.objs.size+1) scope.names []) (bindC (envOfC qual scope s.heap.objs.size f cd).kindOf (ps.zip us) λ_=>none) s1):
  Inv (vI CX P w K mg base N qual scope f cd A outer s H E) [] (start N vs) H s1:=by
 have hpl:ps.length<=N.length:=by have:=congrArg List.length S.pre;rw[List.length_take]at this;omega
 obtain⟨h1,tk,rfl,hk⟩:=x.done
 have noA:∀b:Addr,b∉(vI CX P w K mg base N qual scope f cd A outer s H E).ex:=λb z=>absurd (show b∈([]:List Addr)from z) (by simp)
 refine⟨⟨e0.mod,S.kind,rfl,rfl,Zg _,λy z c h1 h2=>?_,λy hy=>?_,λy c _ h=>?_,λ_=>hd,Around.frames_deeper e0.frames,.inr ⟨rfl,rfl⟩,λb z=>absurd z (noA b),e0.bs,e0.bsz,λb _ _=>noA b,λb z=>absurd z (noA b),e0.funs,e0.frf⟩,
  rfl,GK.refl e0.bare,Un.kept hk,⟨_,x.toInCall.ns,λi y v h1 h2 h3=>?_⟩,λy c h=>⟨_,x.cell y c h⟩,e0.hok.fresh (Zg _),λy c h=>?_,λp hp=>absurd (show p∈([]:List (Addr×Obj))from hp) (by simp),e0.hok.kept hk,?_⟩
 .exact name_of_addr x.apart (Zt h1) (Zt h2)
 .have hy:scope.names.lookup y=some .cell∨scope.names.lookup y=some .free:=hy
  rcases hy with hy|hy
  .exact uT hy
  .exact absurd rfl (S.nofree _ (Zt hy))
 .exact Nat.le_of_lt (x.above y c (Zt h))
 .have hi:i<vs.length:=by
   unfold start at h2
   by_cases hi:i<vs.length
   .exact hi
   .rw[List.getElem?_append_right (by simpa using hi)]at h2
    rw[List.getElem?_replicate]at h2
    split at h2<;>cases h2
  have ha:vs[i]? =some v:=by
   unfold start at h2
   rw[Zs (by simpa using hi),List.getElem?_map]at h2
   cases e:vs[i]? with
   |none=>rw[e]at h2;cases h2
   |some a=>rw[e]at h2;cases h2;rfl
  obtain⟨u,hu,rv⟩:=r.get ha
  have hp:ps[i]? =some y:=by
   rw[<-S.pre,List.getElem?_take_of_lt (by omega)];exact h1
  have ndP:ps.Nodup:=by rw[<-S.pre];exact S.nd.sublist (List.take_sublist _ _)
  refine⟨u,rv,?_⟩
  rcases S.par y (List.mem_of_getElem? hp)with k|k
  .exact .inl ⟨k,sY ndP hp hu k⟩
  .obtain⟨c,e⟩:=uT (n:=s.heap.objs.size+1) k
   refine .inr ⟨.inl k,c,e,?_⟩
   have q:=x.cell y c e
   rw[tu ndP hp hu (by show scope.names.lookup y≠_;rw[k];decide)]at q
   exact q
 .exact e0.hok.fresh (Nat.le_of_lt (x.above y c (Zt h)))
 .unfold start
  show _=N.length
  rw[ZG,Zu,List.length_replicate]
  omega
theorem Je{CX:CXT}{P:Program}{w:World}{K:Zw}{mg:Str->Option Value}{base:Heap}{k:Nat}{f:Addr}{name qual:Str}{params:Arguments}{body:List Stmt}{scope:Scope}{dV kV doc pm cdv ct oc:Value}{an od:Option Addr}
  {osl:Array (Option Value)} {N ps:List Str} {sp:Sp} (lk:K.lookup f=some ⟨oc,od,.func (PySem.W.fnOf name qual params body scope dV kV doc pm an cdv ct),osl⟩) (hcd:PySem.W.codeIn K cdv qual=true) (S:lL N ps scope)
  (len:∀vs H Q E,sp vs H Q E->vs.length=ps.length)
  (hbody:∀(A:Around)(outer:List Env)(s:Shared)(H:Hp)(vs:List V)(Q:VK)(E:XK),cO k (A.deeper (envOfC qual scope s.heap.objs.size f cdv))->sp vs H Q E->
   ∃t,PSs (vI CX P w K mg base N qual scope f cdv A outer s H E) body t/\t { nx:=λ_ H'=>Q .non H',rt:=Q} (start N vs) H):
  lX P w K mg base CX (k+1) f (PySem.W.fnOf name qual params body scope dV kV doc pm an cdv ct) ps sp:=by
 refine⟨len,λA outer s H args us vs Q E hr e0 hb r hsp=>?_⟩
 have hl:=len _ _ _ _ hsp
 have KX:K.In s.heap:=e0.mod.kin.keeps λb o e=>(e0.bs b o e).1
 have lim:s.heap.NoLimit:=e0.mod.nolimit.keeps λb o e=>(e0.bs b o e).1
 have hkind:∀y∈ps.zip us,scope.names.lookup y.1=some .local∨(scope.names.lookup y.1=some .cell/\((cellsFrom (s.heap.objs.size+1) scope.names []).lookup y.1).isSome=true):=λzq49 hy=>by
  obtain⟨n,v⟩:=zq49
  rcases S.par n (List.of_mem_zip hy).1 with q|q
  .exact .inl q
  .exact .inr ⟨q,PySem.W.cellsFrom_some _ _ _ (.inl q)⟩
 refine codeAny_call_function hr.depth (KX _ _ lk) rfl S.co S.gen rfl (PySem.W.codeRec_of KX hcd) (hb _ _ _ _ ?_)
 refine wpAny_newFunctionEnv_cells S.kind hkind λenv he s1 x=>?_
 subst he
 refine⟨lim.keeps x.toInCall.keep,codeAny_func ?_⟩
 obtain⟨t,ht,hq⟩:=hbody A outer s H vs Q E (hr.deeper _) hsp
 have I:Inv (vI CX P w K mg base N qual scope f cdv A outer s H E) [] (start N vs) H s1:=zV S hr.hd e0 hl r x
 refine Zy (ht [] s1 (start N vs) H _ I hq) (λfl s' hs=>?_) λe s' hs=>hs
 have fin:∀{σ':St}{H':Hp}{v:V}{u:Value},Inv (vI CX P w K mg base N qual scope f cdv A outer s H E) [] σ' H' s'->bY v u->Q v H'->CE outer P w H s Q u s':=
  λ{σ' H' v u} J rv q=>⟨v,H',J.os,J.bare,J.base,J.hok,rv,q⟩
 cases fl with
 |ret u=>
  obtain⟨v,σ',H',J,rv,q⟩:=hs
  exact fin J rv q
 |next=>
  obtain⟨σ',H',J,q⟩:=hs
  exact fin (v:=V.non) (u:=Value.none) J rfl q
 |brk=>
  obtain⟨_,_,_,q⟩:=hs
  exact False.elim q
 |cont=>
  obtain⟨_,_,_,q⟩:=hs
  exact False.elim q
section
variable {X:Cx} {x:Str} {p pos:Pos} {e:Expr} {es:List Expr} {t:TA} {id T:String} {r:List V->Hp->VK->Prop}
def tCB(r:List V->Hp->VK->Prop)(t:TA):TE:=λσ H Q=>t σ H λvs H1=>r vs H1 Q
theorem iQ(hc:gG X (.builtin id) r)(hg:Gl X x)(hm:X.mg x=none)(hv:bootBuiltins x=some (.builtin id))(ha:PA X (e::es) t)(hn:x≠"__name__":=by decide)(hdb:(x==("__debug__":Str))=false:=by decide)
  (he:starEach (e::es) X.env=(false,eval e X.env)::starEach es X.env:=by rfl) (hpl:(backTo pos (starEach es X.env)).any (·.1)=false:=by rfl):PE X (.Call (.Name x p) (e::es) [] pos) (tCB r t):=by
 intro pins s σ H Q I h
 refine wpAny_Call_Name_kw (kW I hg hm hv ?_ hn hdb)
 exact PyProof.Rows.callWith_builtin1 (thn (ha pos pins s σ H _ I h) λus s1 ⟨vs,H1,I1,r1,q1⟩=>hc pins s1 σ H1 vs us Q I1 r1 q1) he hpl
theorem oR(hc:gG X (.type T) r)(hg:Gl X x)(hm:X.mg x=none)(hv:bootBuiltins x=some (.type T))(ha:PA X (e::es) t)(hn:x≠"__name__":=by decide)(hdb:(x==("__debug__":Str))=false:=by decide)
  (he:starEach (e::es) X.env=(false,eval e X.env)::starEach es X.env:=by rfl) (hpl:(backTo pos (starEach es X.env)).any (·.1)=false:=by rfl):PE X (.Call (.Name x p) (e::es) [] pos) (tCB r t):=by
 intro pins s σ H Q I h
 refine wpAny_Call_Name_kw (kW I hg hm hv ?_ hn hdb)
 exact PyProof.Rows.callWith_type1 (thn (ha pos pins s σ H _ I h) λus s1 ⟨vs,H1,I1,r1,q1⟩=>hc pins s1 σ H1 vs us Q I1 r1 q1) he hpl
end
end L2
namespace HT
open PySem PyProof.Rows
def lexLt:List Int->List Int->Bool
 | [],[]=>false
 | [],_::_=>true
 |_::_,[]=>false
 |x::xs,y::ys=>if x=y then lexLt xs ys else decide (x<y)
theorem lexLt_cons(x y:Int)(xs ys:List Int):lexLt (x::xs) (y::ys)=if x=y then lexLt xs ys else decide (x<y):=rfl
section
variable {prog:Program} {w:World} {A:Around} {E:Value->Shared->Prop} {s:Shared}
theorem cat_tup{t b:Addr}{vs ws:List Value}{Q:Value->Shared->Prop}(ht:IsTup s.heap t vs.toArray)(hb:IsTup s.heap b ws.toArray)(hv:vs≠[])
  (h1:ws=[]->Q (.ref t) s) (h2:ws≠[]->Q (.ref s.heap.objs.size) { s with heap:=s.heap.push { cls:=.type "tuple",data:=.seq (vs++ws).toArray} })
  (hsz:vs.length+ws.length<=sizeLine):wpAny (model prog w) A (binaryOp .Add (.ref t) (.ref b)) Q E s:=by
 obtain⟨⟨cls,dd,data,sl⟩,ho,hc,n,hd⟩:=id ht
 obtain⟨⟨cls2,dd2,data2,sl2⟩,ho2,hc2,n2,hd2⟩:=id hb
 simp only at hc hd hc2 hd2
 subst hc hd hc2 hd2
 have e:vs.toArray++ws.toArray=(vs++ws).toArray:=by simp
 by_cases hw:ws=[]
 .exact concat_meets ⟨_,ho,rfl⟩ ⟨_,ho2,rfl⟩ noFill_tuple_add seq_tuple_add PySem.F.slot_tuple_add PySem.F.entry_tuple_add (PySem.F.args_tuple_add_2 _ _)
   (tuple_addW1 t b vs.toArray ws.toArray n n2 dd dd2 sl sl2 (by simpa using hv) (by simp[hw])) ⟨ho,ho2,h1 hw⟩
 .refine concat_meets ⟨_,ho,rfl⟩ ⟨_,ho2,rfl⟩ noFill_tuple_add seq_tuple_add PySem.F.slot_tuple_add PySem.F.entry_tuple_add (PySem.F.args_tuple_add_2 _ _)
   (tuple_addW2 t b vs.toArray ws.toArray n n2 dd dd2 sl sl2 (by simpa using hv) (by simpa using hw) (by rw[Zd,Zd];exact hsz)) ⟨ho,ho2,?_⟩
  rw[e]
  exact h2 hw
def sIx(n d:Nat):Option Int->Nat
 |none=>d
 |some v=>if v<0 then(v+(n:Int)).toNat else min v.toNat n
theorem Ls(n d:Nat)(hd:d<=n)(o:Option Int):sIx n d o<=n:=by
 cases o with
 |none=>exact hd
 |some v=>
  show(if v<0 then(v+(n:Int)).toNat else min v.toNat n)<=n
  by_cases hv:v<0
  .rw[if_pos hv];omega
  .rw[if_neg hv];exact Nat.min_le_right _ _
theorem zy(v:Int)(n d:Nat):(if v<0 then max (v+(n:Int)) 0 else min v (n:Int))=((sIx n d (some v):Nat):Int):=by
 show(if v<0 then max (v+(n:Int)) 0 else min v (n:Int))=(((if v<0 then(v+(n:Int)).toNat else min v.toNat n):Nat):Int)
 by_cases hv:v<0
 .simp only[if_pos hv];omega
 .simp only[if_neg hv];omega
theorem yw(lo hi:Option Int)(n:Nat):Builtin.Slice.sliceAdjust lo hi 1 (n:Int)=(((sIx n 0 lo:Nat):Int),((sIx n n hi:Nat):Int)):=by
 have h1:¬((1:Int)<0):=by omega
 unfold Builtin.Slice.sliceAdjust
 simp only[h1,if_false]
 refine Prod.ext ?_ ?_
 .cases lo with
  |none=>rfl
  |some v=>exact zy v n 0
 .cases hi with
  |none=>rfl
  |some v=>exact zy v n n
theorem xK(i j:Nat):Builtin.Slice.slicePlaces (i:Int) (j:Int) 1=j-i:=by
 unfold Builtin.Slice.slicePlaces
 have h1:(1:Int)>0:=by omega
 simp only[h1,if_true,Int.ediv_one]
 split<;>omega
theorem qQ{v:Value}{o:Option Int}{Q:Option Int->Shared->Prop}(p:IsPart v o)(h:Q o s):wpAny (model prog w) A (Builtin.Slice.slicePartIndex v) Q E s:=by
 cases p with
 |none=>exact slicePart_none h
 |int i t=>exact slicePart_int h
theorem ju{sl:Addr}{vl vu:Value}{lo hi:Option Int}{n:Nat}{Q:Int×Int×Nat->Shared->Prop}(hs:s.heap.IsSliceOf sl vl vu .none)(pl:IsPart vl lo)(pu:IsPart vu hi)
  (h:Q (((sIx n 0 lo:Nat):Int),1,sIx n n hi-sIx n 0 lo) s):wpAny (model prog w) A (Builtin.Slice.sliceApplied (.ref sl) (pure (n:Int))) Q E s:=by
 obtain⟨os,hos,hcs,hds⟩:=id hs
 unfold Builtin.Slice.sliceApplied Builtin.Slice.sliceFields
 refine Zv (Zv (wpAny_field hos hds (x:=vl) rfl (Zv (wpAny_field hos hds (x:=vu) rfl (Zv (wpAny_field hos hds (x:=.none) rfl (Zx ?_)))))))
 refine Zv (slicePart_none ?_)
 show wpAny _ _ (if((1:Int)==0)=true then _ else _) _ _ s
 rw[if_neg (by decide)]
 refine Zv (qQ pl (Zv (qQ pu (Zv (Zx ?_)))))
 show wpAny _ _ (match Builtin.Slice.sliceAdjust lo hi 1 (n:Int)with|(lo,hi)=>pure (lo,(1:Int),Builtin.Slice.slicePlaces lo hi 1)) _ _ s
 rw[yw lo hi n]
 show wpAny _ _ (pure (((sIx n 0 lo:Nat):Int),(1:Int),Builtin.Slice.slicePlaces ((sIx n 0 lo:Nat):Int) ((sIx n n hi:Nat):Int) 1)) _ _ s
 rw[xK]
 exact Zx h
theorem Bs(xs:Array Value)(i k:Nat):((List.range k).filterMap λ(m:Nat)=>xs[((i:Int)+(m:Int)*1).toNat]?).toArray=((xs.toList.drop i).take k).toArray:=by
 have e:(λ(m:Nat)=>xs[((i:Int)+(m:Int)*1).toNat]?)=λm=>xs[i+m]? :=by
  funext m
  have:((i:Int)+(m:Int)*1).toNat=i+m:=by omega
  rw[this]
 rw[e]
 have:=pick_run xs i k
 rw[List.filterMap_map]at this
 have e2:((λx=>xs[x]?)∘λx=>i+x)=λm=>xs[i+m]? :=rfl
 rw[e2]at this
 rw[this]
theorem getItem_tuple_cut{t sl:Addr}{items:Array Value}{vl vu:Value}{lo hi:Option Int}{Q:Value->Shared->Prop}(ht:IsTup s.heap t items)(hs:s.heap.IsSliceOf sl vl vu .none)(pl:IsPart vl lo)(pu:IsPart vu hi)
  (hw:¬(sIx items.size 0 lo=0/\sIx items.size items.size hi=items.size))
  (h:Q (.ref s.heap.objs.size) { s with heap:=s.heap.push { cls:=.type "tuple",data:=.seq ((items.toList.drop (sIx items.size 0 lo)).take (sIx items.size items.size hi-sIx items.size 0 lo)).toArray} })
  (hsz:items.size<=sizeLine):wpAny (model prog w) A (getItem (.ref t) (.ref sl)) Q E s:=by
 have htake:sizeOk (.seq ((items.toList.drop (sIx items.size 0 lo)).take (sIx items.size items.size hi-sIx items.size 0 lo)).toArray):=by
  show((items.toList.drop (sIx items.size 0 lo)).take (sIx items.size items.size hi-sIx items.size 0 lo)).toArray.size<=sizeLine
  rw[Zd,List.length_take,List.length_drop,Array.length_toList]
  omega
 have hj:sIx items.size items.size hi<=items.size:=Ls _ _ (Zg _) hi
 obtain⟨os,hos,hcs,hds⟩:=id hs
 have hTs:s.TypeIs (.ref sl) "slice":=⟨os,hos,hcs⟩
 unfold getItem
 try with_reducible refine wpAny_holding ?_
 first|refine Zv (Zx ?_)|skip
 refine Zv (wpAny_sequenceKey ht.typeIs (by decide) ?_)
 refine Zv (wpAny_callSpecial?_slot (name:=Str.ofString "__getitem__") ht.typeIs PyProof.Rows.slot_tuple_getitem
  (wpAny_call_entry PyProof.Rows.slot_tuple_getitem ht.typeIs entry_tuple_getitem ?_ (args_tuple_getitem _ _)))
 show wpAny _ _ (Builtin.Tuple.tupleItemsOf (.ref t) >>= _) _ _ s
 refine Zv (tupleItemsOf_ ht ?_)
 refine Zv (wpAny_typeOf hTs ?_)
 rw[if_pos (by decide)]
 refine Zv (ju hs pl pu ?_)
 have hno:¬((((sIx items.size 0 lo:Nat):Int)==0&&(1:Int)==1&&(sIx items.size items.size hi-sIx items.size 0 lo)==items.size)=true):=by
  intro q
  rw[Zo,Zo]at q
  have q1:((sIx items.size 0 lo:Nat):Int)=0:=eq_of_beq q.1.1
  have q2:sIx items.size items.size hi-sIx items.size 0 lo=items.size:=eq_of_beq q.2
  exact hw ⟨by omega,by omega⟩
 show wpAny _ _ (if(((sIx items.size 0 lo:Nat):Int)==0&&(1:Int)==1&&(sIx items.size items.size hi-sIx items.size 0 lo)==items.size)=true then _ else _) _ _ s
 rw[if_neg hno,Bs]
 first
  |exact Zv (m:=Builtin.Tuple.tupleExact _) (Zz (Zx ⟨_,rfl,Zx h⟩) htake)
  |exact Zv (m:=Builtin.Tuple.tupleExact _) (Zz (Zv (Zx (Zx ⟨_,rfl,Zx h⟩))) htake)
  |exact Zv (Zv (m:=Builtin.Tuple.tupleExact _) (Zz (Zx (Zx ⟨_,rfl,Zx h⟩)) htake))
  |exact Zv (Zv (m:=Builtin.Tuple.tupleExact _) (Zz (Zx ⟨_,rfl,Zx h⟩) htake))
end
end HT
namespace L2
open PySem PySem.Spec PyProof.Rows
abbrev TO:=St->Hp->(Option Int->Hp->Prop)->Prop
def PO(X:Cx)(e:Option Expr)(t:TO):Prop:=
 ∀(pins:List (Addr×Obj))(s:Shared)(σ:St)(H:Hp)(Q:Option Int->Hp->Prop),Inv X pins σ H s->t σ H Q->
  wpAny (model X.prog X.w) X.A (evalPart e X.env) (λu s'=>∃o H',Inv X pins σ H' s'/\IsPart u o/\Q o H') X.xe s
def Ir:TO:=λ_ H Q=>Q none H
def Qf(t:TE):TO:=λσ H Q=>t σ H λx H1=>∃i,x= .int i/\Q (some i) H1
section
variable {X:Cx} {e:Expr} {te:TE} {lo hi:Option Expr} {tl th:TO} {pos p2:Pos}
theorem GD:PO X none Ir:=by
 intro pins s σ H Q I h
 rw[evalPart_none]
 exact Zx ⟨none,H,I,.none,h⟩
theorem HY(h:PE X e te):PO X (some e) (Qf te):=by
 intro pins s σ H Q I hw
 rw[evalPart_some]
 refine thn (h pins s σ H _ I hw) λu s1 zq50=>?_
 obtain⟨x,H1,I1,r1,q1⟩:=zq50
 obtain⟨i,rfl,q⟩:=q1
 obtain⟨t,rfl⟩:=r1
 exact⟨some i,H1,I1,.int i t,q⟩
def SlR(X:Cx)(r:V->Option Int->Option Int->Hp->VK->Prop):Prop:=
 ∀(pins:List (Addr×Obj))(s:Shared)(σ:St)(H:Hp)(x:V)(v vl vu:Value)(lo hi:Option Int)(sl:Addr)(Q:VK),Inv X pins σ H s->bY x v->s.heap.IsSliceOf sl vl vu .none->IsPart vl lo->IsPart vu hi->r x lo hi H Q->
  ∃T id,typeLookup (.type T) "__getitem__"=pure (some (.builtin id))/\s.TypeIs v T/\wpAny (model X.prog X.w) X.A (getItem v (.ref sl)) (EP X pins σ Q) X.xe s
theorem SlR.or{r r':V->Option Int->Option Int->Hp->VK->Prop}(h:SlR X r)(h':SlR X r'):SlR X (λx lo hi H Q=>r x lo hi H Q∨r' x lo hi H Q):=by
 intro pins s σ H x v vl vu lo hi sl Q I rx hs pl pu q
 rcases q with q|q
 .exact h pins s σ H x v vl vu lo hi sl Q I rx hs pl pu q
 .exact h' pins s σ H x v vl vu lo hi sl Q I rx hs pl pu q
def tSl(r:V->Option Int->Option Int->Hp->VK->Prop)(te:TE)(tl th:TO):TE:=λσ H Q=>te σ H λx H1=>tl σ H1 λl H2=>th σ H2 λu H3=>r x l u H3 Q
theorem wK{r:V->Option Int->Option Int->Hp->VK->Prop}(hr:SlR X r)(he:PE X e te)(hl:PO X lo tl)(hu:PO X hi th):PE X (.Subscript e (.Slice lo hi none p2) pos) (tSl r te tl th):=by
 intro pins s σ H Q I h
 refine Subscript_ (thn (he pins s σ H _ I h) λv s1 zq51=>?_)
 obtain⟨x,H1,I1,r1,q1⟩:=zq51
 refine wpAny_Slice (thn (hl pins s1 σ H1 _ I1 q1) λvl s2 ⟨l,H2,I2,pl,q2⟩=>thn (hu pins s2 σ H2 _ I2 q2) λvu s3 zq52=>?_)
 obtain⟨u,H3,I3,pu,q3⟩:=zq52
 rw[evalPart_none]
 refine Zx ?_
 have I4:Inv X pins σ H3 { s3 with heap:=s3.heap.push { cls:=.type "slice",data:=.fields #[vl,vu,.none] } }:=I3.kept (t':=s3.toks) λb ob q=>Zb _ q
 obtain⟨T,id,hT,ht,hg⟩:=hr pins { s3 with heap:=s3.heap.push { cls:=.type "slice",data:=.fields #[vl,vu,.none] } } σ H3 x v vl vu l u s3.heap.objs.size Q I4 r1 (Heap.IsSliceOf.new ..) pl pu q3
 show wpAny (model X.prog X.w) X.A (subscriptTail e (.Slice lo hi none p2) v (.ref s3.heap.objs.size)) (EP X pins σ Q) X.xe { s3 with heap:=s3.heap.push { cls:=.type "slice",data:=.fields #[vl,vu,.none] } }
 exact tail_any (ops:=[.ref s3.heap.objs.size,v]) ht hT hg (by with_unfolding_all rfl)
def vJ(xs:List V)(lo hi:Option Int):List V:=(xs.drop (HT.sIx xs.length 0 lo)).take (HT.sIx xs.length xs.length hi-HT.sIx xs.length 0 lo)
theorem oZ(xs:List V)(lo hi:Option Int):(vJ xs lo hi).length<=xs.length:=by
 unfold vJ
 rw[List.length_take,List.length_drop]
 omega
def rSlT(K:Zw):V->Option Int->Option Int->Hp->VK->Prop:=λx lo hi H Q=>∃a xs,x= .ref a/\SqT K H a xs/\
 ¬(HT.sIx xs.length 0 lo=0/\HT.sIx xs.length xs.length hi=xs.length)/\∀p,H p=none->Q (.ref p) (upd H p (.tup (vJ xs lo hi)))
theorem Mm:SlR X (rSlT X.K):=by
 intro pins s σ H x v vl vu lo hi sl Q I rx hs pl pu h
 obtain⟨a,xs,rfl,hx,hw,q⟩:=h
 cases rx
 obtain⟨its,r,ht,hz⟩:=I.tuple hx
 have hlen:its.toArray.size=xs.length:=by rw[Zd];exact r.length.symm
 refine⟨"tuple",_,PyProof.Rows.slot_tuple_getitem.lookup,ht.typeIs,?_⟩
 refine HT.getItem_tuple_cut ht hs pl pu (by rw[hlen];exact hw) ?_ (by rw[hlen];exact hz)
 rw[hlen]
 refine⟨.ref s.heap.objs.size,_,I.laid (t':=s.toks) (o:=.tup (vJ xs lo hi)) (λb ob q=>Zb _ q) (Zg _) ?_,rfl,q _ (I.hok.fresh (Zg _))⟩
 exact⟨Zl (oZ xs lo hi) hz,_,(r.drop (HT.sIx xs.length 0 lo)).take (HT.sIx xs.length xs.length hi-HT.sIx xs.length 0 lo),IsTup.new _ _⟩
def Nz(K:Zw):R2:=λx y H Q=>∃a b xs ys,x= .ref a/\y= .ref b/\SqT K H a xs/\SqT K H b ys/\xs≠[]/\xs.length+ys.length<=sizeLine/\
 (ys=[]->Q (.ref a) H)/\(ys≠[]->∀p,H p=none->Q (.ref p) (upd H p (.tup (xs++ys))))
theorem aY.jR{xs:List V}{us:List Value}(r:aY xs us):us=[]↔xs=[]:=by
 cases r with
 |nil=>simp
 |cons _ _=>simp
theorem Ge:OpR X (binaryOp .Add) (Nz X.K):=by
 intro pins s σ H x y v u Q I rx ry h
 obtain⟨a,b,xs,ys,rfl,rfl,ha,hb,hx,hz,q1,q2⟩:=h
 cases rx
 cases ry
 obtain⟨its,r1,p1,_⟩:=I.tuple ha
 obtain⟨its2,r2,p2,_⟩:=I.tuple hb
 refine HT.cat_tup p1 p2 (λz=>hx (r1.jR.mp z)) (λz=>⟨.ref a,H,I,rfl,q1 (r2.jR.mp z)⟩) (λz=>?_) (by rw[<-r1.length,<-r2.length];exact hz)
 refine⟨.ref s.heap.objs.size,_,I.laid (t':=s.toks) (o:=.tup (xs++ys)) (λb ob q=>Zb _ q) (Zg _) ?_,rfl,q2 (λw=>z (r2.jR.mpr w)) _ (I.hok.fresh (Zg _))⟩
 exact⟨by rw[ZG];exact hz,_,r1.append r2,IsTup.new _ _⟩
end
def ixN(n:Nat)(i:Int):Option Nat:=if 0<=i then(if i<n then some i.toNat else none)else if -(n:Int)<=i then some (i+n).toNat else none
def atI{α:Type}(xs:List α)(i:Int):Option α:=(ixN xs.length i).bind λj=>xs[j]?
theorem yV{n:Nat}{i:Int}{j:Nat}(h:ixN n i=some j):seqIndex? i n=some j/\j<n/\ -(n:Int)<=i/\i<n:=by
 unfold ixN at h
 by_cases h0:0<=i
 .rw[if_pos h0]at h
  by_cases h1:i<n
  .rw[if_pos h1]at h
   have e:i.toNat=j:=Option.some.inj h
   exact⟨by rw[seqIndex_of h0 h1,e],by omega,by omega,h1⟩
  .rw[if_neg h1]at h;cases h
 .rw[if_neg h0]at h
  by_cases h1: -(n:Int)<=i
  .rw[if_pos h1]at h
   have e:(i+n).toNat=j:=Option.some.inj h
   exact⟨by rw[seqIndex_neg (by omega) h1,e],by omega,h1,by omega⟩
  .rw[if_neg h1]at h;cases h
theorem pJ{α:Type}{xs:List α}{i:Int}{v:α}(h:atI xs i=some v):∃j,seqIndex? i xs.length=some j/\xs[j]? =some v/\j<xs.length/\ -(xs.length:Int)<=i/\i<xs.length:=by
 unfold atI at h
 cases e:ixN xs.length i with
 |none=>rw[e]at h;cases h
 |some j=>
  rw[e]at h
  obtain⟨h1,h2,h3,h4⟩:=yV e
  exact⟨j,h1,h,h2,h3,h4⟩
theorem Gv{α:Type}{xs:List α}{j:Nat}{v:α}(h:xs[j]? =some v):atI xs (j:Int)=some v:=by
 have hj:j<xs.length:=(Zh.mp h).1
 have e:ixN xs.length (j:Int)=some j:=by
  unfold ixN
  rw[if_pos (by omega),if_pos (by omega)];simp
 unfold atI;rw[e];exact h
theorem uL{α:Type}(xs:List α)(v:α):atI (xs++[v]) (-1)=some v:=by
 have hl:(xs++[v]).length=xs.length+1:=by simp
 have e:ixN (xs++[v]).length (-1)=some xs.length:=by
  unfold ixN
  rw[hl,if_neg (by decide),if_pos (by omega)]
  congr 1
  omega
 unfold atI
 rw[e]
 show(xs++[v])[xs.length]? =some v
 simp
def zb(b:Expr):Prop:=∀o i,subscripted b false o i=operate [o,i] (getItem o i)
def IxR(X:Cx)(r:R2):Prop:=
 ∀(value slice:Expr)(pins:List (Addr×Obj))(s:Shared)(σ:St)(H:Hp)(x y:V)(v u:Value)(Q:VK),Inv X pins σ H s->bY x v->bY y u->r x y H Q->
  subscripted slice false v u=operate [v,u] (getItem v u)->wpAny (model X.prog X.w) X.A (subscriptTail value slice v u) (EP X pins σ Q) X.xe s
def MtR(X:Cx)(id:String)(r:V->List V->Hp->VK->Prop):Prop:=
 ∀(pins:List (Addr×Obj))(s:Shared)(σ:St)(H:Hp)(x:V)(xs:List V)(v:Value)(us:List Value)(Q:VK),Inv X pins σ H s->bY x v->aY xs us->r x xs H Q->
  wpAny (model X.prog X.w) X.A (call (.builtin id) (v::us)) (EP X pins σ Q) X.xe s
section
variable {X:Cx} {a b:Expr} {ta tb:TE} {pos:Pos}
theorem IxR.or{r r':R2}(h:IxR X r)(h':IxR X r'):IxR X (λx y H Q=>r x y H Q∨r' x y H Q):=by
 intro value slice pins s σ H x y v u Q I rx ry q hs
 rcases q with q|q
 .exact h value slice pins s σ H x y v u Q I rx ry q hs
 .exact h' value slice pins s σ H x y v u Q I rx ry q hs
theorem Nf{r:R2}(hr:IxR X r)(ha:PE X a ta)(hb:PE X b tb)(hs:zb b):PE X (.Subscript a b pos) (tOp r ta tb):=by
 intro pins s σ H Q I h
 exact Subscript_ (Mt ha hb I h λv u s2 x y H2 I2 rx ry q=>hr a b pins s2 σ H2 x y v u Q I2 rx ry q (hs _ _))
def Om(K:Zw):R2:=λx y H Q=>∃p xs i v,x= .ref p/\y= .int i/\SqL K H p xs/\atI xs i=some v/\Q v H
def Nv(K:Zw):R2:=λx y H Q=>∃p xs i v,x= .ref p/\y= .int i/\SqT K H p xs/\atI xs i=some v/\Q v H
def Pz:R2:=λx y H Q=>∃z i c,x= .str z/\y= .int i/\z.length<=sizeLine/\atI z.cps.toList i=some c/\Q (.str ⟨#[c]⟩) H
theorem Gr:IxR X (Om X.K):=by
 intro value slice pins s σ H x y v u Q I rx ry h hs
 obtain⟨p,xs,i,z,rfl,rfl,hq,he,q⟩:=h
 cases rx
 obtain⟨t,rfl⟩:=ry
 obtain⟨its,r,pl,hz⟩:=I.list hq
 obtain⟨j,h1,h2,h3,h4,h5⟩:=pJ he
 obtain⟨w,ew,rw'⟩:=r.get h2
 have hl:=r.length
 have hn:=mK
 have fin:EP X pins σ Q w s:=⟨z,H,I,rw',q⟩
 by_cases h0:0<=i
 .have hj:i.toNat=j:=by
   rw[seqIndex_of h0 h5]at h1
   exact Option.some.inj h1
  exact item_listR pl.isList h0 (by omega) (by rw[hj];simpa using ew) fin hs
 .have hj:(i+(its.toArray.size:Int)).toNat=j:=by
   rw[seqIndex_neg (by omega) h4]at h1
   rw[Zd,<-hl]
   exact Option.some.inj h1
  exact subscriptTail_builtinR (x:=w) pl.isList.typeIs slot_list_getitem.lookup
   (wpAny_getItem_list_neg (Q:=λr s'=>r=w/\EP X pins σ Q r s') pl.isList (by omega) (by rw[Zd]<;>omega) (by omega) (by rw[hj];simpa using ew) ⟨rfl,fin⟩) hs
theorem Jq:IxR X (Nv X.K):=by
 intro value slice pins s σ H x y v u Q I rx ry h hs
 obtain⟨p,xs,i,z,rfl,rfl,hq,he,q⟩:=h
 cases rx
 obtain⟨t,rfl⟩:=ry
 obtain⟨its,r,pl,hz⟩:=I.tuple hq
 obtain⟨j,h1,h2,h3,h4,h5⟩:=pJ he
 obtain⟨w,ew,rw'⟩:=r.get h2
 have hl:=r.length
 have hn:=mK
 have fin:EP X pins σ Q w s:=⟨z,H,I,rw',q⟩
 exact subscriptTail_builtinR (x:=w) pl.typeIs slot_tuple_getitem.lookup
  (getItem_tuple (j:=j) (Q:=λr s'=>r=w/\EP X pins σ Q r s') pl (by omega) (by omega) (by rw[Zd,<-hl];exact h1) (by simpa using ew) ⟨rfl,fin⟩) hs
theorem JB:IxR X Pz:=by
 intro value slice pins s σ H x y v u Q I rx ry h hs
 obtain⟨z,i,c,rfl,rfl,hz,he,q⟩:=h
 obtain⟨t,rfl⟩:=rx
 obtain⟨t',rfl⟩:=ry
 obtain⟨j,h1,h2,h3,h4,h5⟩:=pJ he
 have hl:z.cps.toList.length=z.length:=by simp[Str.length]
 rw[hl]at h1 h4 h5
 have hn:=mK
 exact tail_any (typeIs_str s z t) slot_str_getitem.lookup (getItem_str (c:=c) (by
  have e1:decide (i< -(2 ^ 63:Int))=false:=decide_eq_false (by omega)
  have e2:decide (i>=2 ^ 63)=false:=decide_eq_false (by omega)
  rw[e1,e2,Bool.or_false]) (by rw[h1];simpa using h2) ⟨.str ⟨#[c]⟩,H,I.tok _,⟨_,rfl⟩,q⟩) hs
def rIx(K:Zw):R2:=λx y H Q=>Om K x y H Q∨Nv K x y H Q∨Pz x y H Q
theorem JR:IxR X (rIx X.K):=Gr.or (Jq.or JB)
theorem xU(its:List Value)(n j:Nat)(u:Value):Obj.mapSeq (·.setIfInBounds j u) { cls:=.type "list",data:=.seq its.toArray n}={ cls:=.type "list",data:=.seq (its.set j u).toArray n}:=by
 simp[Obj.mapSeq]
theorem Inv.lst{pins:List (Addr×Obj)}{σ:St}{H:Hp}{s:Shared}{p:Addr}{xs:List V}(I:Inv X pins σ H s)(h:H p=some (.lst xs)):
  ∃(its:List Value)(n:Nat),aY xs its/\s.heap.get? p=some { cls:=.type "list",data:=.seq its.toArray n}/\xs.length<=sizeLine:=by
 obtain⟨z,its,n,r,e⟩:=I.hok p _ h
 exact⟨its,n,r,e,z⟩
theorem Inv.lstUpd{pins:List (Addr×Obj)}{σ:St}{H:Hp}{s:Shared}{p:Addr}{xs ys:List V}{its its':List Value}{n n':Nat}{f:Obj->Obj}(I:Inv X pins σ H s)(h:H p=some (.lst xs))
  (ho:s.heap.get? p=some { cls:=.type "list",data:=.seq its.toArray n}) (hf:f { cls:=.type "list",data:=.seq its.toArray n}={ cls:=.type "list",data:=.seq its'.toArray n'}) (r:aY ys its') (hz:ys.length<=sizeLine) (t:Nat):
  Inv X pins σ (upd H p (.lst ys)) { s with heap:=s.heap.update p f,toks:=t}:=by
 have e:(s.heap.update p f).get? p=some { cls:=.type "list",data:=.seq its'.toArray n'}:=by
  rw[Heap.get?_update_self f ho (by rw[hf]<;>rfl),hf]
 refine I.write (x:=p) (e:=p) (by rw[h];trivial) (.inl rfl) (λb u hb q=>(Heap.get?_update_other _ _ (Ne.symm hb)).trans q) ⟨_,e⟩ ?_
 exact⟨hz,its',n',r,e⟩
def Oe:V->V->V->Hp->(Hp->Prop)->Prop:=λo i v H Q=>∃p xs k j,o= .ref p/\i= .int k/\H p=some (.lst xs)/\ixN xs.length k=some j/\Q (upd H p (.lst (xs.set j v)))
theorem set_list:Pj X Oe:=by
 intro pins s σ H o i v ov iv u Q I ro ri rv h
 obtain⟨p,xs,k,j,rfl,rfl,hp,hj,q⟩:=h
 cases ro
 obtain⟨t,rfl⟩:=ri
 obtain⟨its,n,r,ho,hz⟩:=I.lst hp
 obtain⟨h1,h2,h3,h4⟩:=yV hj
 have hl:=r.length
 have hn:=mK
 have I':Inv X pins σ (upd H p (.lst (xs.set j v))) { s with heap:=s.heap.update p (Obj.mapSeq (·.setIfInBounds j u)) }:=
  I.lstUpd hp ho (xU its n j u) (r.set rv j) (by rw[List.length_set];exact hz) s.toks
 by_cases h0:0<=k
 .have hk:k.toNat=j:=by
   rw[seqIndex_of h0 h4]at h1
   exact Option.some.inj h1
  exact PySem.W.ki_setAt ho h0 (by omega) (by rw[Zd,<-hl];exact h4) (by rw[hk];exact⟨_,I',q⟩)
 .have hk:(k+(its.toArray.size:Int)).toNat=j:=by
   rw[seqIndex_neg (by omega) h3]at h1
   rw[Zd,<-hl]
   exact Option.some.inj h1
  exact PySem.W.ki_setBack ho (by omega) (by rw[Zd,<-hl];exact h3) (by omega) (by rw[hk];exact⟨_,I',q⟩)
theorem tY(lo hi:Option Int)(n:Nat):(sliceBounds lo hi none n).1=((HT.sIx n 0 lo:Nat):Int)/\(sliceBounds lo hi none n).2.1=((HT.sIx n n hi:Nat):Int)/\(sliceBounds lo hi none n).2.2=1:=by
 refine⟨?_,?_,rfl⟩
 .cases lo with
  |none=>simp[sliceBounds,HT.sIx]
  |some i=>
   simp only[sliceBounds,HT.sIx,Option.getD_none,show(1:Int)>0 by decide,if_true]
   by_cases h:i<0
   .simp only[h,if_true]<;>omega
   .simp only[h,if_false]<;>omega
 .cases hi with
  |none=>simp[sliceBounds,HT.sIx]
  |some i=>
   simp only[sliceBounds,HT.sIx,Option.getD_none,show(1:Int)>0 by decide,if_true]
   by_cases h:i<0
   .simp only[h,if_true]<;>omega
   .simp only[h,if_false]<;>omega
theorem rJ(its:List Value)(lo hi:Option Int):slicePick its.toArray lo hi none=((its.drop (HT.sIx its.length 0 lo)).take (HT.sIx its.length its.length hi-HT.sIx its.length 0 lo)).toArray:=by
 obtain⟨h1,h2,h3⟩:=tY lo hi its.toArray.size
 unfold slicePick
 rw[h1,h2,h3]
 simp only[sliceRange_one,pick_run,Zd]<;>rfl
def rSlL(K:Zw):V->Option Int->Option Int->Hp->VK->Prop:=λx lo hi H Q=>∃a xs,x= .ref a/\SqL K H a xs/\∀p,H p=none->Q (.ref p) (upd H p (.lst (vJ xs lo hi)))
theorem yz:SlR X (rSlL X.K):=by
 intro pins s σ H x v vl vu lo hi sl Q I rx hs pl pu h
 obtain⟨a,xs,rfl,hx,q⟩:=h
 cases rx
 obtain⟨its,r,ht,hz⟩:=I.list hx
 have hlen:=r.length
 refine⟨"list",_,slot_list_getitem.lookup,ht.isList.typeIs,?_⟩
 refine wpAny_getItem_list_slice ht.isList hs pl pu .none (by simp) ?_ (by rw[Zd]<;>omega)
 rw[rJ,<-hlen]
 refine⟨.ref s.heap.objs.size,_,I.laid (t':=s.toks) (o:=.lst (vJ xs lo hi)) (λb ob q=>Zb _ q) (Zg _) ?_,rfl,q _ (I.hok.fresh (Zg _))⟩
 exact⟨Zl (oZ xs lo hi) hz,_,0,(r.drop (HT.sIx xs.length 0 lo)).take (HT.sIx xs.length xs.length hi-HT.sIx xs.length 0 lo),Zf _ rfl⟩
theorem tX:gG X (.builtin "len") (λxs H Q=>∃p ys,xs=[.ref p]/\(SqL X.K H p ys∨SqT X.K H p ys)/\Q (.int ys.length) H):=by
 intro pins s σ H xs us Q I r h
 obtain⟨p,ys,rfl,hq,q⟩:=h
 obtain⟨u,rfl,rx⟩:=vals1 r
 cases rx
 have hn:=mK
 rcases hq with hq|hq
 .obtain⟨its,r',pl,hz⟩:=I.list hq
  have hlen:=r'.length
  exact Calls.call_len_list pl.isList (by simp only[Zd]<;>omega) ⟨.int ys.length,H,I.tok _,⟨s.toks+1,by rw[Zd,hlen]⟩,q⟩
 .obtain⟨its,r',pl,hz⟩:=I.tuple hq
  have hlen:=r'.length
  exact len_tuple pl (by simp only[Zd]<;>omega) ⟨.int ys.length,H,I.tok _,⟨s.toks+1,by rw[Zd,hlen]⟩,q⟩
theorem uq:gG X (.builtin "len") (λxs H Q=>∃z,xs=[.str z]/\z.length<=sizeLine/\Q (.int z.length) H):=by
 intro pins s σ H xs us Q I r h
 obtain⟨z,rfl,hz,q⟩:=h
 obtain⟨u,rfl,t,rfl⟩:=vals1 r
 have hn:=mK
 exact len_str (by omega) ⟨.int z.length,H,I.tok _,⟨_,rfl⟩,q⟩
theorem gG.or{f:Value}{r r':List V->Hp->VK->Prop}(h:gG X f r)(h':gG X f r'):gG X f (λxs H Q=>r xs H Q∨r' xs H Q):=by
 intro pins s σ H xs us Q I rs q
 rcases q with q|q
 .exact h pins s σ H xs us Q I rs q
 .exact h' pins s σ H xs us Q I rs q
theorem rH:gG X (.type "tuple") (λxs H Q=>∃p ys,xs=[.ref p]/\((SqL X.K H p ys/\∀l,H l=none->Q (.ref l) (upd H l (.tup ys)))∨(SqT X.K H p ys/\Q (.ref p) H))):=by
 intro pins s σ H xs us Q I r h
 obtain⟨p,ys,rfl,h⟩:=h
 obtain⟨u,rfl,rx⟩:=vals1 r
 cases rx
 rcases h with⟨hq,q⟩|⟨hq,q⟩
 .obtain⟨its,r',pl,hz⟩:=I.list hq
  have hlen:=r'.length
  refine call_tuple_list pl.isList (λh' kp=>?_) (by simp only[Zd]<;>omega)
  have I1:Inv X pins σ H { s with heap:=h'}:=I.kept (t':=s.toks) kp
  have I2:Inv X pins σ (upd H h'.objs.size (.tup ys)) { s with heap:=h'.push { cls:=.type "tuple",data:=.seq its.toArray} }:=
   I1.laid (t':=s.toks) (λb o e=>Zb _ e) (Zg _) (show gH X.prog X.w _ _ _ (.tup ys)from⟨hz,its,r',IsTup.new _ _⟩)
  exact⟨.ref h'.objs.size,_,I2,rfl,q _ (I1.hok.fresh (Zg _))⟩
 .obtain⟨its,r',pl,hz⟩:=I.tuple hq
  exact call_tuple_same pl ⟨.ref p,H,I,rfl,q⟩
def tyV(K:Zw)(T:String)(x:V)(H:Hp):Prop:=match x with
 | .str _=>T="str"
 | .int _=>T="int"
 | .ref p=>(T="list"/\∃xs,SqL K H p xs)∨(T="tuple"/\∃o,K.lookup p=some o/\o.cls= .type "tuple"/\o.dict=none)∨
   (T="dict"/\((∃kvs,H p=some (.dK kvs))∨∃kvs,H p=some (.dT kvs)))∨(T="set"/\∃S n,H p=some (.set S n))
 |_=>False
theorem JT{pins:List (Addr×Obj)}{σ:St}{H:Hp}{s:Shared}{T:String}{x:V}{v:Value}(I:Inv X pins σ H s)(r:bY x v)(ty:tyV X.K T x H):
  s.TypeIs v T/\∀a,v= .ref a->∃ob,s.heap.get? a=some ob/\ob.dict=none:=by
 cases x with
 |str z=>
  obtain⟨t,rfl⟩:=r
  cases (show T="str" from ty)
  exact⟨typeIs_str s z t,λ_ e=>nomatch e⟩
 |int i=>
  obtain⟨t,rfl⟩:=r
  cases (show T="int" from ty)
  exact⟨typeIs_int s i t,λ_ e=>nomatch e⟩
 |ref p=>
  cases r
  rcases ty with⟨rfl,xs,hq⟩|⟨rfl,o,hk,hc,hd⟩|⟨rfl,hk⟩|⟨rfl,S,n,hk⟩
  .obtain⟨its,_,pl,_⟩:=I.list hq
   refine⟨pl.isList.typeIs,λa e=>?_⟩
   cases e
   obtain⟨o,n,e,c,hd,_⟩:=pl
   exact⟨o,e,hd⟩
  .refine⟨⟨o,I.kIn p o hk,hc⟩,λa e=>?_⟩
   cases e
   exact⟨o,I.kIn _ o hk,hd⟩
  .have z:∃o,s.heap.get? p=some o/\o.ExactDict:=by
    rcases hk with⟨kvs,hk⟩|⟨kvs,hk⟩
    .obtain⟨_,_,_,_,o,_,_,e,ex,_⟩:=I.hok p _ hk
     exact⟨o,e,ex⟩
    .obtain⟨_,_,_,_,o,_,_,e,ex,_⟩:=I.hok p _ hk
     exact⟨o,e,ex⟩
   obtain⟨o,e,ex⟩:=z
   refine⟨⟨o,e,ex.1⟩,λa e2=>?_⟩
   cases e2
   exact⟨o,e,ex.2.1⟩
  .obtain⟨o,_,_,_,e,ex,_⟩:=I.hok p _ hk
   refine⟨⟨o,e,ex.1⟩,λa e2=>?_⟩
   cases e2
   exact⟨o,e,ex.2.1⟩
 |_=>exact False.elim ty
def tBM(K:Zw)(T:String)(r:V->List V->Hp->VK->Prop)(to:TE)(t:TA):TE:=λσ H Q=>to σ H λx H1=>tyV K T x H1/\t σ H1 λxs H2=>r x xs H2 Q
variable {o e:Expr} {es:List Expr} {to:TE} {t:TA} {name:Str} {apos cpos:Pos} {T id:String} {r:V->List V->Hp->VK->Prop}
theorem Jl(pa:PlainAttrs T)(slot:Slot T name id)(hty:typeOf (.builtin id)=pure (.type "method_descriptor"))(hm:MtR X id r)(ho:PE X o to)(ha:PA X (e::es) t)
  (hbase:attributeBase o name X.env (eval o X.env)=eval o X.env:=by rfl)
  (hfew:((backTo cpos (starEach (e::es) X.env)).all (λx=>!x.1)&&(backToKw cpos (keywordEach [] X.env)).all (λx=>x.1.isSome)
   &&decide ((e::es).length+([]:List Keyword).length+(if([]:List Keyword).isEmpty then 0 else 1)<30))=true:=by rfl)
  (hline:(apos.endLine==cpos.line)=true:=by rfl) (hs:starEach (e::es) X.env=(false,eval e X.env)::starEach es X.env:=by rfl) (hplain:(backTo cpos (starEach es X.env)).any (·.1)=false:=by rfl):
  PE X (.Call (.Attribute o name apos) (e::es) [] cpos) (tBM X.K T r to t):=by
 intro pins s σ H Q I h
 refine wpAny_Call_method_late hbase hfew hline rfl (thn (ho pins s σ H _ I h) λv s1 zq54=>?_)
 obtain⟨x,H1,I1,r1,ty,q1⟩:=zq54
 obtain⟨h1,h2⟩:=JT I1 r1 ty
 refine⟨T,id,pa,slot,hty,h1,h2,?_⟩
 have hA:=ha cpos pins s1 σ H1 _ I1 q1
 rw[hs]at hA ⊢
 refine Calls.callWith_builtin (by show(false||(backTo cpos (starEach es X.env)).any (·.1))=false;rw[hplain]<;>rfl) (Calls.evalArgs_plain ?_)
 exact thn hA λus s2 ⟨vs,H2,I2,r2,q2⟩=>hm pins s2 σ H2 x vs v us Q I2 r1 r2 q2
end
def MtM(X:Cx)(id:String)(r:V->List V->Hp->VK->Prop):Prop:=
 ∀(pins:List (Addr×Obj))(s:Shared)(σ:St)(H:Hp)(x:V)(xs:List V)(v:Value)(us:List Value)(Q:VK),Inv X pins σ H s->bY x v->aY xs us->r x xs H Q->
  wpAny (model X.prog X.w) X.A (call (.builtin id) (v::us)) (EP X pins σ Q) X.xe s
theorem aY.one:∀{x:V}{us:List Value},aY [x] us->∃u,us=[u]/\bY x u
 |_,_,.cons r .nil=>⟨_,rfl,r⟩
theorem aY.eraseIdx:∀{xs:List V}{us:List Value}(i:Nat),aY xs us->aY (xs.eraseIdx i) (us.eraseIdx i)
 |_,_,_,.nil=>.nil
 |_,_,0,.cons _ t=>t
 |_,_,i+1,.cons r t=>.cons r (aY.eraseIdx i t)
theorem aY.reverse{xs:List V}{us:List Value}(h:aY xs us):aY xs.reverse us.reverse:=by
 induction h with
 |nil=>exact .nil
 |cons r t ih=>rw[List.reverse_cons,List.reverse_cons];exact aY.append ih (.cons r .nil)
theorem aY.rep{xs:List V}{us:List Value}(h:aY xs us):∀k:Nat,aY (List.replicate k xs).flatten (List.replicate k us).flatten
 |0=>.nil
 |k+1=>by
  rw[List.replicate_succ,List.replicate_succ,List.flatten_cons,List.flatten_cons]
  exact aY.append h (aY.rep h k)
theorem tM{α:Type}:∀(l:List α)(i:Nat),(l.eraseIdx i).length<=l.length
 | [],_=>Zg _
 |_::_,0=>Nat.le_succ _
 |_::r,i+1=>Nat.succ_le_succ (tM r i)
theorem foldl_rep(its:List Value):∀(k:Nat)(acc:List Value),
  List.foldl (λx1 x2=>x1++x2) acc.toArray (List.replicate k its.toArray)=(acc++(List.replicate k its).flatten).toArray
 |0,acc=>by simp
 |k+1,acc=>by
  have e:acc.toArray++its.toArray=(acc++its).toArray:=by simp
  have e2:(acc++its)++(List.replicate k its).flatten=acc++(List.replicate (k+1) its).flatten:=by
   rw[List.replicate_succ,List.flatten_cons,List.append_assoc]
  rw[<-e2,<-foldl_rep its k (acc++its),<-e,List.replicate_succ,List.foldl_cons]
section
variable {X:Cx} {pins:List (Addr×Obj)} {σ:St} {H:Hp} {s:Shared} {l b:Addr} {xs ys zs:List V}
theorem Inv.lset{its its':List Value}{n:Nat}{f:Array Value->Array Value}{t':Nat}(I:Inv X pins σ H s)(hH:H l=some (.lst xs))
  (e:s.heap.get? l=some { cls:=.type "list",data:=.seq its.toArray n}) (hf:f its.toArray=its'.toArray) (hv:aY ys its') (hz:ys.length<=sizeLine):
  Inv X pins σ (upd H l (.lst ys)) { s with heap:=s.heap.update l (Obj.mapSeq f),toks:=t'}:=by
 have q:=PySem.IsL.update e f
 rw[hf]at q
 refine I.write (x:=l) (e:=l) (by rw[hH];exact trivial) (.inl rfl) (λb' u hb hu=>(Heap.get?_update_other s.heap (Obj.mapSeq f) (Ne.symm hb)).trans hu) ⟨_,q⟩ ?_
 exact⟨hz,its',_,hv,q⟩
theorem Inv.lnew{its:List Value}{t':Nat}(I:Inv X pins σ H s)(hv:aY ys its)(hz:ys.length<=sizeLine):
  Inv X pins σ (upd H s.heap.objs.size (.lst ys)) { s with heap:=s.heap.push { cls:=.type "list",data:=.seq its.toArray},toks:=t'}:=
 I.laid (λ_ _ q=>Zb _ q) (Zg _) ⟨hz,its,0,hv,Zf _ rfl⟩
theorem Inv.fresh(I:Inv X pins σ H s):H s.heap.objs.size=none:=I.hok.fresh (Zg _)
theorem Inv.lstM(I:Inv X pins σ H s)(hH:H l=some (.lst xs)):xs.length<=sizeLine/\∃(its:List Value)(n:Nat),aY xs its/\xs.length=its.length/\s.heap.get? l=some { cls:=.type "list",data:=.seq its.toArray n}:=by
 obtain⟨z,its,n,r,e⟩:=I.hok l _ hH
 exact⟨z,its,n,r,r.length,e⟩
theorem vK{n:Nat}(h:n<=sizeLine):Builtin.List.listTooLong n=false:=by
 unfold Builtin.List.listTooLong
 exact decide_eq_false (by omega)
end
section
variable {X:Cx}
def Ft:V->List V->Hp->VK->Prop:=λx vs H Q=>∃l xs y,x= .ref l/\vs=[y]/\H l=some (.lst xs)/\xs.length<sizeLine/\Q .non (upd H l (.lst (xs++[y])))
theorem Ac:MtM X "list.append" Ft:=by
 intro pins s σ H x vs v us Q I rx rv h
 obtain⟨l,xs,y,rfl,rfl,hH,hz,q⟩:=h
 cases rx
 obtain⟨u,rfl,ru⟩:=rv.one
 obtain⟨z,its,n,r,hl,e⟩:=I.lstM hH
 refine call_meets F.slot_list_append ⟨_,e,rfl⟩ F.entry_list_append (F.args_list_append_2 _ _) (PySem.list_append l its.toArray n u (by rw[Zd];omega)) ⟨e,?_⟩
 refine⟨.non,_,I.lset (its':=its++[u]) hH e (by simp) (r.append (.cons ru .nil)) ?_,rfl,q⟩
 rw[ZG,List.length_singleton]
 omega
def GQ:V->List V->Hp->VK->Prop:=λx vs H Q=>∃l b xs zs,x= .ref l/\vs=[.ref b]/\H l=some (.lst xs)/\H b=some (.lst zs)/\xs.length+zs.length<=sizeLine/\Q .non (upd H l (.lst (xs++zs)))
theorem Mz:MtM X "list.extend" GQ:=by
 intro pins s σ H x vs v us Q I rx rv h
 obtain⟨l,b,xs,zs,rfl,rfl,hH,hB,hz,q⟩:=h
 cases rx
 obtain⟨u,rfl,ru⟩:=rv.one
 cases ru
 obtain⟨z,its,n,r,hl,e⟩:=I.lstM hH
 obtain⟨z2,its2,n2,r2,hl2,e2⟩:=I.lstM hB
 have hsz:its.toArray.size+its2.toArray.size<=sizeLine:=by rw[Zd,Zd];omega
 have hlong:¬(!its.toArray.isEmpty&&Builtin.List.listTooLong (its.toArray.size+its2.toArray.size))=true:=by
  rw[vK hsz,Bool.and_false]
  exact Zr
 refine call_meets F.slot_list_extend ⟨_,e,rfl⟩ F.entry_list_extend (F.args_list_extend_2 _ _)
  (AutoSeq1.list_extend_list_list_0 l its.toArray n b its2.toArray n2 hlong (by rw[Zd];omega) (by omega)) ⟨e,e2,?_⟩
 refine⟨.non,_,I.lset (its':=its++its2) hH e (by simp) (r.append r2) ?_,rfl,q⟩
 rw[ZG]
 omega
def JN:V->List V->Hp->VK->Prop:=λx vs H Q=>∃l xs i k y,x= .ref l/\vs=[.int i]/\H l=some (.lst xs)/\ -(2 ^ 63)<=i/\i<2 ^ 63/\seqIndex? i xs.length=some k/\xs[k]? =some y/\Q y (upd H l (.lst (xs.eraseIdx k)))
theorem Do:MtM X "list.pop" JN:=by
 intro pins s σ H x vs v us Q I rx rv h
 obtain⟨l,xs,i,k,y,rfl,rfl,hH,h1,h2,hk,hy,q⟩:=h
 cases rx
 obtain⟨u,rfl,ru⟩:=rv.one
 obtain⟨t,rfl⟩:=ru
 obtain⟨z,its,n,r,hl,e⟩:=I.lstM hH
 obtain⟨w,hw,rw'⟩:=r.get hy
 refine call_meets F.slot_list_pop ⟨_,e,rfl⟩ F.entry_list_pop (F.args_list_pop_2 _ _)
  (MeetsSeq.list_pop_at l its.toArray n i t k w (fitsIndex_both h1 h2) (by rw[Zd,<-hl];exact hk) (by rw[<-Array.getElem?_toList];exact hw) (by rw[Zd];omega)) ⟨e,?_⟩
 refine⟨y,_,I.lset (its':=its.eraseIdx k) hH e ?_ (r.eraseIdx k) ?_,rw',q⟩
 .show its.toArray.eraseIdxIfInBounds k=(its.eraseIdx k).toArray
  rw[List.eraseIdxIfInBounds_toArray]
 .have:=tM xs k
  omega
def rCat:R2:=λx y H Q=>∃l b xs zs,x= .ref l/\y= .ref b/\H l=some (.lst xs)/\H b=some (.lst zs)/\xs.length+zs.length<=sizeLine/\∀p,H p=none->Q (.ref p) (upd H p (.lst (xs++zs)))
theorem JZ:OpR X (binaryOp .Add) rCat:=by
 intro pins s σ H x y v u Q I rx ry h
 obtain⟨l,b,xs,zs,rfl,rfl,hH,hB,hz,q⟩:=h
 cases rx
 cases ry
 obtain⟨z,its,n,r,hl,e⟩:=I.lstM hH
 obtain⟨z2,its2,n2,r2,hl2,e2⟩:=I.lstM hB
 refine PySem.P.add_list e e2 ?_ (by rw[Zd,Zd];omega)
 have ea:its.toArray++its2.toArray=(its++its2).toArray:=by simp
 rw[ea]
 exact⟨.ref _,_,I.lnew (t':=s.toks) (r.append r2) (by rw[ZG];omega),rfl,q _ I.fresh⟩
def rRep:R2:=λx y H Q=>∃l k xs,x= .ref l/\y= .int k/\H l=some (.lst xs)/\ -(2 ^ 63)<=k/\k<2 ^ 63/\xs.length*k.toNat<=sizeLine/\
 ∀p,H p=none->Q (.ref p) (upd H p (.lst (List.replicate k.toNat xs).flatten))
theorem len_rep{α:Type}(xs:List α)(k:Nat):(List.replicate k xs).flatten.length=k*xs.length:=by
 induction k with
 |zero=>simp
 |succ k ih=>rw[List.replicate_succ,List.flatten_cons,ZG,ih,Nat.succ_mul,Nat.add_comm]
theorem BW:OpR X (binaryOp .Mult) rRep:=by
 intro pins s σ H x y v u Q I rx ry h
 obtain⟨l,k,xs,rfl,rfl,hH,h1,h2,hz,q⟩:=h
 cases rx
 obtain⟨t,rfl⟩:=ry
 obtain⟨z,its,n,r,hl,e⟩:=I.lstM hH
 have hlen:its.toArray.size*k.toNat<=sizeLine:=by rw[Zd,<-hl];exact hz
 have hcap:¬its.toArray.size*k.toNat>(2 ^ 63-1) / 8:=by
  have:(sizeLine:Nat)<=(2 ^ 63-1) / 8:=by decide
  omega
 have hfit:¬(!Builtin.List.listFitsIndex k)=true:=by
  rw[fitsIndex_both h1 h2]
  exact Zr
 have hlong:¬Builtin.List.listTooLong (its.toArray.size*k.toNat)=true:=by
  rw[vK hlen]
  exact Zr
 have hnew:List.foldl (λx1 x2=>x1++x2) #[] (List.replicate (if its.toArray.isEmpty=true then 0 else k.toNat) its.toArray)=(List.replicate k.toNat its).flatten.toArray:=by
  have f0:∀m:Nat,List.foldl (λx1 x2=>x1++x2) #[] (List.replicate m its.toArray)=(List.replicate m its).flatten.toArray:=λm=>by
   have:=foldl_rep its m []
   rw[List.nil_append]at this
   exact this
  rw[f0]
  cases its with
  |nil=>simp
  |cons a r'=>rw[if_neg (by simp)]
 refine wpAny_binaryOp_repeat_ref (T:="list") (U:="int") (by decide) ⟨_,e,rfl⟩ (λs'=>typeIs_int s' k t) noFill_list_mul F.fills_int_mul F.slot_int_rmul repeat_list F.slot_int_index.lookup
  (call_meets F.slot_int_rmul (typeIs_int s k t) F.entry_int_rmul (F.args_int_rmul_2 _ _) (int___rmul___int_list k t l its.toArray n)
   ⟨e,rfl,⟨_,e,rfl⟩,call_meets F.slot_list_mul ⟨_,e,rfl⟩ F.entry_list_mul (F.args_list_mul_2 _ _) (AutoListH.list___mul___list_int_3 l its.toArray n k t hfit hcap hlong) ⟨e,?_⟩⟩)
 rw[hnew]
 exact⟨.ref _,_,I.lnew (t':=s.toks) (r.rep k.toNat) (by rw[len_rep,Nat.mul_comm];exact hz),rfl,q _ I.fresh⟩
end
end L2
namespace Att
open PySem PySem.W PySem.Calls PyProof.Rows
theorem pH{P:Params}{h:Heap}:∀(ns:List Int)(vs:List Value),WellAll P h vs (ns.map WData.int)->IntsAre vs ns:=by
 intro ns
 induction ns with
 |nil=>
  intro vs w
  rw[List.map_nil]at w
  cases w
  exact .nil
 |cons n ns ih=>
  intro vs w
  rw[Zj]at w
  cases w with
  |cons a b=>
   cases a
   exact .cons _ _ (ih _ b)
theorem zX{l:OpenLaw}{n:Nat}(hn:l.most=some n){P:Params}{h:Heap}{args:List WData}{vals:List Value}
  (hpre:l.row.toRowW.claim.pre args=true) (hwl:WellAll P h vals args):
  ∃a vs ns,vals=[Value.ref a]/\args=[WData.list (ns.map WData.int)]/\h.get? a=some { cls:=.type "list",data:=.seq vs.toArray}/\IntsAre vs ns/\ns.length<=n:=by
 have hsh:WShape.hasAll [] args [.list .int]=true:=(pre_splitW hpre).1
 have hc:l.pre.holds [] { args:=args}=true:=(pre_splitW hpre).2
 obtain⟨d,r,rfl,h1,h2⟩:=hasAllW_cons hsh
 obtain rfl:=hasAllW_nil h2
 obtain⟨xs,rfl,h3⟩:=hasW_list h1
 obtain⟨ns,rfl⟩:=items_int h3
 have hlen:ns.length<=n:=by
  unfold OpenLaw.pre at hc
  have h4:(WTm.not (.lt (.lit (.int (n:Int))) (.len (.arg 0)))).holds [] { args:=[.list (ns.map .int)] }=true:=by
   have h4:=(holds_andW hc).1
   rw[hn]at h4
   exact h4
  have h5:=condW_of h4 (w_not (w_lt w_lit (w_len_list (w_arg rfl))))
  rw[Zu]at h5
  refine Nat.le_of_not_lt λq=>?_
  have q':(n:Int)<((ns.length:Nat):Int):=by omega
  first
   |(rw[decide_eq_true q']at h5;exact absurd h5 (by decide))
   |(simp at h5;omega)
 cases hwl with
 |cons w1 w2=>
  cases w2
  cases w1 with
  |list ho hall=>exact⟨_,_,ns,rfl,rfl,ho,pH ns _ hall,hlen⟩
theorem Bb(l:OpenLaw)(args:List WData):l.row.toRowW.claim.post args (.bool true) args=true:=
 postW_of (r:=l.row.toRowW) (X:=(true==true))
  (show WShape.has [] (.bool true) .bool=true by first|rfl|decide|simp[WShape.has,WShape.arms,WShape.armsAll])
  (show(WTm.eq .res (.lit (.bool true))).value [] { args:=args,res:=some (.bool true),after:=args}=some (.bool (true==true))from w_eq_bool (w_res rfl) w_lit) rfl
theorem attach_call{l:OpenLaw}{n:Nat}{q:Program}{loose:List Str}{XP:(Str->Option Value)->Heap->Prop}{YP:World->Heap->Prop}{d:DefRec}
  (hn:l.most=some n) (hdf:d.params.defaults=[])
  (call:∀(w:World)(s₀ s₁:Shared)(mg mb:Str->Option Value)(fa:Addr)(o:Obj)(pm cd doc:Value)(a:Addr)(vs:List Value)(ns:List Int),
   Ground q loose [] XP w s₀ mg mb s₁.heap->YP w s₁.heap->
   s₁.heap.get? fa=some o->o.data= .func (docDef d.name d.params d.body d.scope pm cd doc)->s₁.heap.CodeRec cd d.name->mg d.name=some (.ref fa)->
   s₁.heap.get? a=some { cls:=.type "list",data:=.seq vs.toArray}->IntsAre vs ns->ns.length<=n->s₁.gens= #[]->
   codeAny (model l.prog w) callerA (.call (.ref fa) ⟨[.ref a],[]⟩) (λr s'=>r= .ok (.ret (.bool true))/\OldK s₁.heap s'.heap/\s'.os=s₁.os/\AllBare s'.gens) s₁):
  WalkO q loose XP YP l.row.toRowW d [] (λf vs=>PySem.call f vs):=by
 intro w s₀ s₁ mg mb G Y fa o pm cd doc dV kV ho hd hcd hD hmg hg args vals as hpre hlay hrd hwl hlo
 obtain rfl:dV= .none:=Dflts.none hD hdf
 obtain rfl:kV= .none:=Dflts.noKw hD
 obtain⟨a,vs,ns,rfl,rfl,hobj,hints,hlen⟩:=zX hn hpre hwl
 refine enter_call (codeAny_mono (call w s₀ s₁ mg mb fa o pm cd doc a vs ns G Y ho (fd_plain hd) hcd hmg hobj hints hlen hg) λr s' hq=>?_)
 obtain⟨rfl,h2,h3,h4⟩:=hq
 exact⟨.inl ⟨.bool true,.bool true,[],rfl,λ_=>rfl,.bool true,Bb l _,λ_=>⟨List.Pairwise.nil,λ_ hm=>(nomatch hm)⟩⟩,h2,h3,h4⟩
end Att
namespace L2
open PySem PySem.Spec PyProof.Rows
theorem oh:∀{vs:List Value}{ns:List Int},IntsAre vs ns->aY (ns.map V.int) vs
 |_,_,.nil=>.nil
 |_,_,.cons n t h=>.cons ⟨t,rfl⟩ (oh h)
def iz(s:Stmt):Arguments:=match s with
 | .FunctionDef _ a _ _ _ _ _ _ _ _=>a
 |_=>{ posonlyargs:=[],args:=[],vararg:=none,kwonlyargs:=[],kw_defaults:=[],kwarg:=none,defaults:=[] }
def fu(s:Stmt):List Stmt:=match s with
 | .FunctionDef _ _ b _ _ _ _ _ _ _=>b
 |_=>[]
def bV(s:Stmt):Scope:=match s with
 | .FunctionDef _ _ _ _ _ _ sc _ _ _=>sc
 |_=>{ kind:=.function,names:=[],isGenerator:=false,isCoroutine:=false}
abbrev CX0:CXT:=λ_ _ _ _ _ _=>False
abbrev E0:XK:=λ_ _ _=>False
theorem Ni{X:Cx}:ye CX0 X E0:=λ_ _ _ _ _ _ _ h=>h.elim
def jW(H H':Hp):Prop:=∀b o,H b=some o->H' b=some o
theorem jW.refl(H:Hp):jW H H:=λ_ _ h=>h
theorem jW.trans{H H1 H2:Hp}(a:jW H H1)(b:jW H1 H2):jW H H2:=λc o h=>b c o (a c o h)
def wI(X:Cx):List Nat->List Str->Prop
 | [],[]=>True
 |i::is,x::xs=>(X.N[i]? =some x/\(X.env.kindOf x=some .cell∨X.env.kindOf x=some .free))/\wI X is xs
 |_,_=>False
theorem wI.length{X:Cx}:∀{is:List Nat}{xs:List Str},wI X is xs->is.length=xs.length
 | [],[],_=>rfl
 |_::_,_::_,h=>by rw[ZH,ZH,wI.length h.2]
theorem wI.get{X:Cx}:∀{is:List Nat}{xs:List Str}{j i:Nat},wI X is xs->is[j]? =some i->∃x,xs[j]? =some x/\X.N[i]? =some x/\(X.env.kindOf x=some .cell∨X.env.kindOf x=some .free)
 | [],[],_,_,_,e=>by simp at e
 |i::is,x::xs,0,k,h,e=>by
  simp at e;subst e
  exact⟨x,rfl,h.1⟩
 |i::is,x::xs,j+1,k,h,e=>by
  obtain⟨y,e1,e2⟩:=wI.get (j:=j) (i:=k) h.2 (by simpa using e)
  exact⟨y,by simpa using e1,e2⟩
def jx(σ:St)(is:List Nat):St:=is.map λi=>(σ[i]?).join
theorem oU{σ:St}{is:List Nat}{j:Nat}{v:V}(e:(jx σ is)[j]? =some (some v)):∃i,is[j]? =some i/\σ[i]? =some (some v):=by
 unfold jx at e
 rw[List.getElem?_map]at e
 cases q:is[j]? with
 |none=>rw[q]at e;cases e
 |some i=>
  rw[q]at e
  have e1:(σ[i]?).join=some v:=by simpa using e
  cases q2:σ[i]? with
  |none=>rw[q2]at e1;cases e1
  |some o=>
   rw[q2]at e1
   have e2:o=some v:=e1
   subst e2
   exact⟨i,rfl,q2⟩
def cg(env:Env):List (Str×NameKind)->List (Str×Addr)->List (Str×Addr)
 | [],acc=>acc
 |(n,k)::r,acc=>cg env r (if k== .free then(match env.cells.lookup n with|some c=>(n,c)::acc|none=>acc)else acc)
theorem wM{env:Env}:∀(names:List (Str×NameKind))(acc:List (Str×Addr)),(∀y∈names,y.2= .free->∃c,env.cells.lookup y.1=some c)->
  (forIn names acc λ(p:Str×NameKind)(r:List (Str×Addr))=>if p.2== .free then(do let c<-cellOf env p.1;pure (ForInStep.yield ((p.1,c)::r)))else pure (ForInStep.yield r):Sem (List (Str×Addr)))=pure (cg env names acc)
 | [],acc,_=>rfl
 |(n,k)::r,acc,h=>by
  have hr:=wM (env:=env) r
  rw[List.forIn_cons]
  unfold cg
  by_cases hk:(k==NameKind.free)=true
  .obtain⟨c,hc⟩:=h (n,k) List.mem_cons_self (by simpa using hk)
   simp only[hk,if_true]
   unfold cellOf
   simp only at hc
   rw[hc]
   simp only[pure_bind]
   exact hr _ λy hy=>h y (ZE _ hy)
  .simp only[hk]
   simp only[pure_bind,Bool.false_eq_true,if_false]
   exact hr _ λy hy=>h y (ZE _ hy)
theorem gV{scope:Scope}{env:Env}(h:∀y∈scope.names,y.2= .free->∃c,env.cells.lookup y.1=some c):closureFor scope env=pure (cg env scope.names []):=by
 have e:=wM (env:=env) scope.names [] h
 rw[<-e]
 unfold closureFor
 simp only[bind_pure]
theorem jw{env:Env}:∀{names:List (Str×NameKind)}{acc:List (Str×Addr)}{p:Str×Addr},p∈cg env names acc->p∈acc∨env.cells.lookup p.1=some p.2
 | [],acc,p,h=>.inl h
 |(n,k)::r,acc,p,h=>by
  unfold cg at h
  rcases jw h with h|h
  .split at h
   .split at h
    .rename_i c hc
     rcases Zi.mp h with e|h
     .subst e;exact .inr hc
     .exact .inl h
    .exact .inl h
   .exact .inl h
  .exact .inr h
theorem lM{env:Env}{x:Str}:∀{names:List (Str×NameKind)}{acc:List (Str×Addr)},(∀k,(x,k)∈names->k≠ .free)->(cg env names acc).lookup x=acc.lookup x
 | [],acc,_=>rfl
 |(n,k)::r,acc,h=>by
  unfold cg
  rw[lM λk hk=>h k (ZE _ hk)]
  by_cases hk:(k==NameKind.free)=true
  .rw[if_pos hk]
   have hne:x≠n:=by
    rintro rfl
    exact h k List.mem_cons_self (by simpa using hk)
   split
   .rw[List.lookup_cons]
    have:(x==n)=false:=by simpa using hne
    rw[this]
   .rfl
  .rw[if_neg hk]
theorem iT{env:Env}{x:Str}{c:Addr}(hc:env.cells.lookup x=some c):∀{names:List (Str×NameKind)}{acc:List (Str×Addr)},(x,NameKind.free)∈names∨acc.lookup x=some c->(cg env names acc).lookup x=some c
 | [],acc,h=>by
  rcases h with h|h
  .simp at h
  .exact h
 |(n,k)::r,acc,h=>by
  unfold cg
  apply iT hc
  by_cases hr:(x,NameKind.free)∈r
  .exact .inl hr
  .right
   by_cases hx:x=n
   .subst hx
    by_cases hk:(k==NameKind.free)=true
    .rw[if_pos hk,hc]
     simp
    .rw[if_neg hk]
     rcases h with h|h
     .rcases Zi.mp h with e|h
      .exfalso;apply hk
       cases e;rfl
      .exact absurd h hr
     .exact h
   .have h':acc.lookup x=some c:=by
     rcases h with h|h
     .rcases Zi.mp h with e|h
      .cases e;exact absurd rfl hx
      .exact absurd h hr
     .exact h
    have hxn:(x==n)=false:=by simpa using hx
    split
    .split
     .rw[List.lookup_cons,hxn];exact h'
     .exact h'
    .exact h'
structure CO(lo:Nat)(h:Heap)(acc:List (Str×Addr)):Prop where
 lt:∀p∈acc,p.2<h.objs.size
 em:∀p∈acc,lo<=p.2->h.IsCell p.2 none
 ap:∀p∈acc,∀q∈acc,p.2=q.2->lo<=p.2->p.1=q.1
theorem CO.go{lo:Nat}:∀(names:List (Str×NameKind))(h:Heap)(acc:List (Str×Addr)),CO lo h acc->lo<=h.objs.size->CO lo (pushCells h names) (cellsFrom h.objs.size names acc)
 | [],h,acc,x,_=>x
 |(n,k)::r,h,acc,x,hl=>by
  unfold pushCells cellsFrom
  by_cases hk:(k==NameKind.cell)=true
  .rw[if_pos hk,if_pos hk]
   have:=CO.go (lo:=lo) r (h.push { cls:=.type "cell",data:=.cell none}) ((n,h.objs.size)::acc) ⟨λp hp=>?_,λp hp hlo=>?_,λp hp q hq e hlo=>?_⟩ (by rw[Heap.size_push];omega)
   .rwa[Heap.size_push]at this
   .rw[Heap.size_push]
    rcases Zi.mp hp with e|hp
    .subst e;exact Nat.lt_succ_self _
    .exact Nat.lt_succ_of_lt (x.lt p hp)
   .rcases Zi.mp hp with e|hp
    .subst e;exact⟨_,Zf _ rfl,rfl⟩
    .exact(x.em p hp hlo).keeps λb o e=>Zb _ e
   .rcases Zi.mp hp with e1|hp<;>rcases Zi.mp hq with e2|hq
    .subst e1;subst e2;rfl
    .subst e1
     have e':h.objs.size=q.2:=e
     exact absurd (x.lt q hq) (by rw[<-e'];exact Nat.lt_irrefl _)
    .subst e2
     have e':p.2=h.objs.size:=e
     exact absurd (x.lt p hp) (by rw[e'];exact Nat.lt_irrefl _)
    .exact x.ap p hp q hq e hlo
  .rw[if_neg hk,if_neg hk]
   exact CO.go r h acc x hl
theorem uJ:∀{names:List (Str×NameKind)}{m:Nat}{acc:List (Str×Addr)}{p:Str×Addr},p∈cellsFrom m names acc->p∈acc∨m<=p.2
 | [],m,acc,p,h=>.inl h
 |(n,k)::r,m,acc,p,h=>by
  unfold cellsFrom at h
  by_cases hk:(k==NameKind.cell)=true
  .rw[if_pos hk]at h
   rcases uJ h with h|h
   .rcases Zi.mp h with e|h
    .subst e;exact .inr (Zg _)
    .exact .inl h
   .exact .inr (by omega)
  .rw[if_neg hk]at h
   exact uJ h
theorem xO{x:Str}:∀{names:List (Str×NameKind)}{m:Nat}{acc:List (Str×Addr)},(∀k,(x,k)∈names->k≠ .cell)->(cellsFrom m names acc).lookup x=acc.lookup x
 | [],m,acc,_=>rfl
 |(n,k)::r,m,acc,h=>by
  unfold cellsFrom
  by_cases hk:(k==NameKind.cell)=true
  .rw[if_pos hk,xO λk hk=>h k (ZE _ hk),List.lookup_cons]
   have hne:x≠n:=by
    rintro rfl
    exact h k List.mem_cons_self (by simpa using hk)
   have:(x==n)=false:=by simpa using hne
   rw[this]
  .rw[if_neg hk]
   exact xO λk hk=>h k (ZE _ hk)
section
variable {M:Model} {A:Around} {E:Value->Shared->Prop} {s:Shared}
theorem mG{scope:Scope}{globals:Addr}{closure:List (Str×Addr)}{qual:Str}{func:Option Addr}{code:Value}{around:Option Env}{builtins:Addr}{Q:Env->Shared->Prop}
  (h:Q (newEnv scope s.heap.objs.size globals (cellsFrom (s.heap.objs.size+1) scope.names closure) qual func code around builtins)
   { s with heap:=pushCells (s.heap.push { cls:=.type (if around.isSome then "dict" else "frame"),data:=.dict #[] }) scope.names}):
  wpAny M A (newFunctionEnv scope globals closure [] qual func code around builtins) Q E s:=by
 simp only[newFunctionEnv]
 refine Zv (wpAny_alloc ?_)
 refine Zv (wpAny_layCells _ (λname kind cells=>by cases hkc:kind==NameKind.cell<;>simp[hkc]) _ _ _ _ ?_)
 rw[List.forIn_nil]
 refine Zv (Zx (Zx ?_))
 have e:(s.heap.push ({ cls:=.type (if around.isSome then "dict" else "frame"),data:=.dict #[] }:Obj)).objs.size=s.heap.objs.size+1:=Heap.size_push ..
 rw[<-e]at h
 cases around<;>exact h
end
structure cH(X:Cx)(own cap:List Str)(capI:List Nat)(scope:Scope):Prop where
 kind:scope.kind= .function
 nd:(scope.names.map (·.1)).Nodup
 caps:wI X capI cap
 fre:∀y∈scope.names,y.2= .free->y.1∈cap
 cfr:∀x∈cap,(x,NameKind.free)∈scope.names
theorem qZ{x:Str}{k k':NameKind}:∀{names:List (Str×NameKind)},(names.map (·.1)).Nodup->(x,k)∈names->(x,k')∈names->k=k'
 | [],_,h,_=>by simp at h
 |p::r,nd,h1,h2=>by
  rw[Zj,List.nodup_cons]at nd
  rcases Zi.mp h1 with e1|h1<;>rcases Zi.mp h2 with e2|h2
  .rw[<-e2]at e1;exact(Prod.mk.inj e1).2
  .exact absurd (by rw[<-e1];exact Zq.mpr ⟨_,h2,rfl⟩) nd.1
  .exact absurd (by rw[<-e2];exact Zq.mpr ⟨_,h1,rfl⟩) nd.1
  .exact qZ nd.2 h1 h2
theorem cM{α:Type}{x:Str}{k:α}:∀{names:List (Str×α)},(names.map (·.1)).Nodup->(x,k)∈names->names.lookup x=some k
 | [],_,h=>by simp at h
 |(n,k')::r,nd,h=>by
  rw[Zj,List.nodup_cons]at nd
  rw[List.lookup_cons]
  rcases Zi.mp h with e|hr
  .cases e;simp
  .have hne:x≠n:=by
    intro e
    subst e
    exact nd.1 (Zq.mpr ⟨_,hr,rfl⟩)
   have:(x==n)=false:=by simpa using hne
   rw[this]
   exact cM nd.2 hr
theorem oX{scope:Scope}{env:Env}{x:Str}{k:NameKind}(h:(x,k)∈(relabel scope env).names):(x,k)∈scope.names∨(k= .cell/\(x,NameKind.free)∈scope.names):=by
 unfold relabel at h
 obtain⟨⟨n,k'⟩,hm,e⟩:=Zq.mp h
 dsimp only at e
 split at e
 .rename_i hc
  cases e
  have hk:k'=NameKind.free:=by
   simp only[Zo,beq_iff_eq]at hc
   exact hc.1.1
  subst hk
  exact .inr ⟨rfl,hm⟩
 .cases e;exact .inl hm
theorem tQ{scope:Scope}{env:Env}:(relabel scope env).names.map (·.1)=scope.names.map (·.1):=by
 unfold relabel
 rw[List.map_map]
 apply List.map_congr_left
 rintro⟨n,k⟩ _
 show(if _ then(n,NameKind.cell)else(n,k)).1=n
 split<;>rfl
theorem ud{scope:Scope}{env:Env}{x:Str}(nd:(scope.names.map (·.1)).Nodup)(h:(x,NameKind.free)∈scope.names):(relabel scope env).names.lookup x=some .cell∨(relabel scope env).names.lookup x=some .free:=by
 have nd':((relabel scope env).names.map (·.1)).Nodup:=by rw[tQ];exact nd
 by_cases hc:(NameKind.free==NameKind.free&&env.scope.kind== .function&&env.kindOf x==some .cell)=true
 .left
  refine cM nd' ?_
  unfold relabel
  refine Zq.mpr ⟨(x,NameKind.free),h,?_⟩
  dsimp only
  rw[if_pos hc]
 .right
  refine cM nd' ?_
  unfold relabel
  refine Zq.mpr ⟨(x,NameKind.free),h,?_⟩
  dsimp only
  rw[if_neg hc]
def cL(X:Cx)(own cap:List Str)(scope:Scope)(cs:List (Str×Addr))(C:Addr)(fp:List Addr)(s2:Shared)(H2:Hp):Cx where
 prog:=X.prog
 w:=X.w
 K:=X.K
 mg:=X.mg
 base:=X.base
 A:=X.A
 N:=own++cap
 s₀:=s2
 H₀:=H2
 env:=compEnvC scope cs C X.env
 outer:=X.stack
 stack:=X.stack
 ex:=fp
 fn:=λx=>own.contains x
 calm:=X.calm
 pn:=[]
 xe:=λ_ _=>False
def cJ(own:List Str)(σ:St)(capI:List Nat):St:=List.replicate own.length none++jx σ capI
section
variable {X:Cx} {pins:List (Addr×Obj)} {σ:St} {H:Hp} {s:Shared} {own cap:List Str} {capI:List Nat} {scope:Scope}
theorem cH.cells(B:cH X own cap capI scope)(I:Inv X pins σ H s):∀y∈scope.names,y.2= .free->∃c,X.env.cells.lookup y.1=some c:=λy hy e=>by
 have hm:=B.fre y hy e
 obtain⟨j,hj⟩:=List.getElem?_of_mem hm
 have hlt:j<capI.length:=by rw[B.caps.length];exact(Zh.mp hj).1
 obtain⟨x,e1,_,k⟩:=B.caps.get (j:=j) (i:=capI[j]) (by simp[hlt])
 rw[hj]at e1
 cases e1
 exact I.ok.has _ k
theorem Inv.comp{fp:List Addr}{h0 h1:Heap}{C:Addr}{tk:Nat}(I:Inv X pins σ H s)(B:cH X own cap capI scope)(hown:∀x∈own,(x,NameKind.free)∉scope.names)(hf:∀b∈fp,jH X pins H b)(ho:∀b∈fp,∃o,s.heap.get? b=some o)
  (hk0:∀b o,s.heap.get? b=some o->h0.get? b=some o) (hsz:s.heap.objs.size<=h0.objs.size) (hC:C=h0.objs.size) (h1e:h1=pushCells (h0.push { cls:=.type "dict",data:=.dict #[] }) scope.names):
  Inv (cL X own cap scope (cellsFrom (C+1) scope.names (cg X.env scope.names [])) C fp s H) [] (cJ own σ capI) H { s with heap:=h1,toks:=tk}:=by
 have hCs:s.heap.objs.size<=C:=by rw[hC];exact hsz
 have hpush:(h0.push ({ cls:=.type "dict",data:=.dict #[] }:Obj)).objs.size=C+1:=by rw[hC];exact Heap.size_push ..
 have keep1:∀b o,h0.get? b=some o->h1.get? b=some o:=λb o e=>by rw[h1e];exact pushCells_keeps _ _ _ _ (Zb _ e)
 have keep:∀b o,s.heap.get? b=some o->h1.get? b=some o:=λb o e=>keep1 b o (hk0 b o e)
 have hCo:h1.get? C=some { cls:=.type "dict",data:=.dict #[] }:=by
  rw[h1e]
  refine pushCells_keeps _ _ _ _ ?_
  rw[hC];exact Zf _ rfl
 have clo_old:∀p∈cg X.env scope.names [],X.env.cells.lookup p.1=some p.2:=λp hp=>(jw hp).elim (λz=>by simp at z) id
 have old_lt:∀x c,X.env.cells.lookup x=some c->c<s.heap.objs.size:=λx c e=>let⟨v,q⟩:=I.cell x c e;q.lt
 have co0:CO (C+1) (h0.push { cls:=.type "dict",data:=.dict #[] }) (cg X.env scope.names []):=by
  refine⟨λp hp=>?_,λp hp hlo=>?_,λp hp q hq e hlo=>?_⟩
  .rw[hpush];exact Nat.lt_succ_of_lt (Zc (old_lt _ _ (clo_old p hp)) hCs)
  .exact absurd (Zc (old_lt _ _ (clo_old p hp)) (Zl hCs (Zl (Nat.le_succ _) hlo))) (Nat.lt_irrefl _)
  .exact absurd (Zc (old_lt _ _ (clo_old p hp)) (Zl hCs (Zl (Nat.le_succ _) hlo))) (Nat.lt_irrefl _)
 have co:=CO.go scope.names _ _ co0 (by rw[hpush];exact Zg _)
 rw[hpush,<-h1e]at co
 have csm:∀x c,(cellsFrom (C+1) scope.names (cg X.env scope.names [])).lookup x=some c->(X.env.cells.lookup x=some c/\c<s.heap.objs.size)∨(C+1<=c/\h1.IsCell c none):=λx c e=>by
  have hm:=Zt e
  rcases uJ hm with z|z
  .have q:=clo_old _ z
   exact .inl ⟨q,old_lt _ _ q⟩
  .exact .inr ⟨z,co.em _ hm z⟩
 have fresh:∀b,s.heap.objs.size<=b->H b=none:=λb hb=>I.hok.fresh hb
 have eout:(cL X own cap scope (cellsFrom (C+1) scope.names (cg X.env scope.names [])) C fp s H).fs=frs X.stack:=rfl
 refine⟨⟨I.ok.mod,?_,I.ok.glob,I.ok.blt,hCs,?_,?_,?_,I.ok.hd,I.ok.frames,.inl rfl,?_,I.bs,Zl I.ok.bsz I.sz,?_,?_,I.stack,I.stkFree⟩,rfl,I.bare.again,Un.kept keep,?_,?_,fresh C hCs,?_,?_,I.hok.kept keep,?_⟩
 .exact B.kind
 .
  intro x y c e1 e2
  have e1':(cellsFrom (C+1) scope.names (cg X.env scope.names [])).lookup x=some c:=e1
  have e2':(cellsFrom (C+1) scope.names (cg X.env scope.names [])).lookup y=some c:=e2
  rcases csm x c e1' with⟨z1,l1⟩|⟨z1,_⟩
  .rcases csm y c e2' with⟨z2,_⟩|⟨z2,_⟩
   .exact I.ok.inj x y c z1 z2
   .exact absurd (Zc l1 (Zl hCs (Zl (Nat.le_succ _) z2))) (Nat.lt_irrefl _)
  .exact co.ap _ (Zt e1') _ (Zt e2') rfl z1
 .
  intro x hx
  have hx':(relabel scope X.env).names.lookup x=some .cell∨(relabel scope X.env).names.lookup x=some .free:=hx
  have hm:(x,NameKind.cell)∈scope.names∨(x,NameKind.free)∈scope.names:=by
   rcases hx' with e|e
   .rcases oX (Zt e)with q|q
    .exact .inl q
    .exact .inr q.2
   .rcases oX (Zt e)with q|q
    .exact .inr q
    .cases q.1
  rcases hm with q|q
  .exact Option.isSome_iff_exists.mp (PySem.W.cellsFrom_some scope.names (C+1) _ (.inl (cM B.nd q)))
  .obtain⟨c,hc⟩:=B.cells I _ q rfl
   exact Option.isSome_iff_exists.mp (PySem.W.cellsFrom_some scope.names (C+1) _ (.inr (by rw[iT hc (.inl q)];rfl)))
 .
  intro x c hx e
  have e':(cellsFrom (C+1) scope.names (cg X.env scope.names [])).lookup x=some c:=e
  have hxo:x∈own:=by simpa[cL]using hx
  rcases uJ (Zt e')with z|z
  .exfalso
   have nf:=hown x hxo
   have:(cg X.env scope.names []).lookup x=none:=by
    rw[lM λk hk=>by rintro rfl;exact nf hk];rfl
   have hl:(cellsFrom (C+1) scope.names (cg X.env scope.names [])).lookup x=some c:=e'
   have q:∀(l:List (Str×Addr)),(x,c)∈l->l.lookup x≠none:=by
    intro l
    induction l with
    |nil=>intro h;simp at h
    |cons p r ih=>
     intro h
     obtain⟨n,d⟩:=p
     rw[List.lookup_cons]
     by_cases hn:(x==n)=true
     .rw[hn];simp
     .have hn':(x==n)=false:=by simpa using hn
      rw[hn']
      rcases Zi.mp h with e|h
      .cases e;simp at hn'
      .exact ih h
   exact q _ z this
  .exact Zl hCs (Zl (Nat.le_succ _) z)
 .
  intro b hb
  obtain⟨o,hbo⟩:=ho b hb
  have hlt:=Ze hbo
  refine⟨Zk (Zc hlt hCs),λx c e=>?_⟩
  rcases csm x c e with⟨z,_⟩|⟨z,_⟩
  .exact(hf b hb).2.2.2.2.1 x c z
  .exact Nat.ne_of_gt (Zc hlt (Zl hCs (Zl (Nat.le_succ _) z)))
 .
  intro b o e hb
  rcases(hf b hb).2.2.2.1 with z|z
  .exact I.ok.noex b o e z
  .exact absurd (Zc (Ze e) (Zl I.ok.bsz z)) (Nat.lt_irrefl _)
 .
  intro b hb hz
  rcases Zi.mp (I.stkSub b hz)with z|z
  .exact(hf b hb).2.1 z
  .exact(hf b hb).2.2.1 z
 .
  obtain⟨m,hn,hl⟩:=I.loc
  refine⟨λ_=>none,⟨_,#[],0,hCo,rfl,by intro e he;simp at he,λ_=>rfl⟩,λi x v e1 e2 hv=>?_⟩
  have e2':(cJ own σ capI)[i]? =some (some v):=e2
  have e1':(own++cap)[i]? =some x:=e1
  unfold cJ at e2'
  by_cases hi:i<own.length
  .rw[Zs (by simpa using hi),List.getElem?_replicate]at e2'
   split at e2'<;>cases e2'
  .rw[List.getElem?_append_right (by simpa using hi)]at e2'
   rw[List.getElem?_append_right (by simpa using hi)]at e1'
   rw[List.length_replicate]at e2'
   obtain⟨i0,q1,q2⟩:=oU e2'
   obtain⟨y,q3,q4,q5⟩:=B.caps.get q1
   rw[e1']at q3
   cases q3
   have hxf:(x,NameKind.free)∈scope.names:=B.cfr x (List.mem_of_getElem? e1')
   have vis:Vis X.env.scope x:=by
    rcases q5 with q5|q5
    .exact .inr (.inl q5)
    .exact .inr (.inr q5)
   obtain⟨u,ru,lk⟩:=hl i0 x v q4 q2 vis
   refine⟨u,ru,.inr ⟨ud B.nd hxf,?_⟩⟩
   rcases lk with⟨k,_⟩|⟨_,c,ec,hc⟩
   .rcases q5 with q5|q5<;>rw[k]at q5<;>cases q5
   .refine⟨c,?_,hc.keeps keep⟩
    show(cellsFrom (C+1) scope.names (cg X.env scope.names [])).lookup x=some c
    rw[xO λk hk=>?_]
    .exact iT ec (.inl hxf)
    .rintro rfl
     cases qZ B.nd hk hxf
 .
  intro x c e
  rcases csm x c e with⟨z,_⟩|⟨_,z⟩
  .obtain⟨v,q⟩:=I.cell x c z
   exact⟨v,q.keeps keep⟩
  .exact⟨none,z⟩
 .
  intro x c e
  rcases csm x c e with⟨z,_⟩|⟨z,_⟩
  .exact I.freeC x c z
  .exact fresh c (Zl hCs (Zl (Nat.le_succ _) z))
 .intro p hp
  exact absurd (show p∈([]:List (Addr×Obj))from hp) (by simp)
 .show(cJ own σ capI).length=(own++cap).length
  unfold cJ jx
  rw[ZG,ZG,List.length_replicate,Zu,B.caps.length]
end
section
variable {prog:Program} {w:World} {A:Around} {R:Result->Shared->Prop} {s:Shared}
theorem sU{elt target iter:Expr}{ifs:List Expr}{scope:Scope}{pos:Pos}{it acc:Value}{env:Env}{E':Value->Shared->Prop}(I:Nat->Shared->Prop)
  (hE:∀e s',E' e s'->notedBy (model prog w) A env (λe s'=>R (.error e) s') e s')
  (turn:∀n s,I n s->wpAny (model prog w) A (pyNext it) (λr s₁=>match r with
   |none=>R (.ok .next) s₁
   |some v=>wpAny (model prog w) A (letOwnedTupleGo target it v) (λ_ s₂=>wpAny (model prog w) A (assign target env v) (λ_ s₃=>
    wpAny (model prog w) A (forIn ifs true λc r=>if r=true then do let ok<-isTrue c env (eval c env);pure (ForInStep.yield ok)else pure (ForInStep.yield r)) (λok s₄=>
     if ok=true then wpAny (model prog w) A (eval elt env) (λx s₅=>
      wpAny (model prog w) A (call (.builtin "list.append") [acc,x]) (λ_ s₆=>∃m,m<n/\I m s₆) E' s₅) E' s₄
     else∃m,m<n/\I m s₄) E' s₃) E' s₂) E' s₁) E' s)
  (n:Nat) (h:I n s):
  codeAny (model prog w) A (.compLoop (.ListComp elt [⟨target,iter,ifs,0⟩] scope pos) 0 it acc env) R s:=by
 refine codeAny_loop rfl I (λn s hI=>?_) n h
 show wpAny _ A ((compTurn (.ListComp elt [⟨target,iter,ifs,0⟩] scope pos) 0 it acc env).onRaise (λx=>do noteFrame x env;theTreesLotGoes x)) _ _ s
 refine wpAny_noted ?_
 rw[compTurn_list]
 refine Zv (wpAny_standAt (Zv (Zy (turn n s hI) (λr s₁ h₁=>?_) hE)))
 cases r with
 |none=>exact Zx h₁
 |some v=>
  refine Zv (Zy h₁ (λ_ s₂ h₂=>?_) hE)
  refine Zv (Zy h₂ (λ_ s₂ h₂=>Zv (Zy h₂ (λok s₃ h₃=>?_) hE)) hE)
  cases ok with
  |false=>exact Zx ⟨rfl,h₃⟩
  |true=>
   exact Zv (Zv (Zy h₃ (λx s₄ h₄=>Zv (Zy h₄ (λ_ s₅ h₅=>Zx (Zx ⟨rfl,h₅⟩)) hE)) hE))
end
def PIf(X:Cx)(ifs:List Expr)(t:TT):Prop:=
 ∀(pins:List (Addr×Obj))(s:Shared)(σ:St)(H:Hp)(Q:Bool->Hp->Prop),Inv X pins σ H s->t σ H Q->
  wpAny (model X.prog X.w) X.A (forIn ifs true λc r=>if r=true then do let ok<-isTrue c X.env (eval c X.env);pure (ForInStep.yield ok)else pure (ForInStep.yield r)) (TP X pins σ Q) X.xe s
def tYes:TT:=λ_ H Q=>Q true H
section
variable {X:Cx} {c:Expr} {t:TT}
theorem Fx:PIf X [] tYes:=λ_ _ _ H _ I h=>wpAny_tests_nil ⟨H,I,h⟩
theorem Fg(h:PT X c t):PIf X [c] t:=λpins s σ H Q I hq=>wpAny_tests_one (h pins s σ H Q I hq)
end
def Fits(a b:St):Prop:=b.length=a.length/\∀(i:Nat) v,a[i]? =some (some v)->b[i]? =some (some v)
def tLC(own:List Str)(capI:List Nat)(wi:TI)(g:TG)(tt:TT)(te:TE):TE:=λσ H Q=>wi σ H λJ H1=>∃W:Nat->Nat->List V->Hp->Prop,(∃m,W 0 m [] H1)/\∀i m ys H,W i m ys H->
 (J.stop i H/\∀l,H l=none->Q (.ref l) (upd H l (.lst ys)))∨
 (J.go i H/\ys.length<sizeLine/\∀x H',J.yld i H x H'->g x (cJ own σ capI) H' λσ2 H2=>Fits (cJ own σ capI) σ2/\tt σ2 H2 λb H3=>
  if b=true then te σ2 H3 (λy H4=>∃m',m'<m/\W (i+1) m' (ys++[y]) H4)else∃m',m'<m/\W (i+1) m' ys H3)
abbrev bQ(us:List Value)(k:Nat):Obj:={ cls:=.type "list",data:=.seq us.toArray k}
section
variable {X:Cx} {tg iter elt:Expr} {ifs:List Expr} {wi:TI} {g:TG} {tt:TT} {te:TE} {own cap:List Str} {capI:List Nat} {scope:Scope} {pos:Pos}
theorem Inv.compEnd{X':Cx}{pins pins':List (Addr×Obj)}{σ σ':St}{H H2:Hp}{s2 s1:Shared}{fp:List Addr}{l C:Addr}{ys:List V}{us:List Value}{k:Nat}{h':Heap}
  (I2:Inv X pins σ H2 s2) (f2:∀b∈fp,jH X pins H2 b) (hP:X'.prog=X.prog) (hw:X'.w=X.w) (hfs:X'.fs=frs X.stack) (hex:X'.ex=fp) (hs:X'.s₀=s2) (hH:X'.H₀=H2) (hC:X'.env.locals=C)
  (I:Inv X' pins' σ' H s1) (hl:s2.heap.objs.size<=l) (hlC:l≠C) (hCs:s2.heap.objs.size<=C) (ho:s1.heap.get? l=some (bQ us k)) (hn:H l=none) (hv:aY ys us) (hz:ys.length<=sizeLine)
  (sb:Heap.SameBut C s1.heap h'):Inv X pins σ (upd H l (.lst ys)) { s1 with heap:=h'}:=by
 subst hs hH hC
 have ne2:∀b o,X'.s₀.heap.get? b=some o->b≠X'.env.locals/\b≠l:=λb o e=>⟨Zk (Zc (Ze e) hCs),Zk (Zc (Ze e) hl)⟩
 have ub:=I.base
 rw[hfs,hex]at ub
 have nl:∀b u,H b=some u->b≠l:=λb u e z=>by rw[z,hn]at e;cases e
 have nC:∀b u,H b=some u->b≠X'.env.locals:=λb u e z=>by rw[z,I.free]at e;cases e
 refine I2.call' (ch:=fp) (s':={ s1 with heap:=h'}) I.os ⟨λb o e n hb hx=>?_,λb o e n hb hx=>?_,λb o e n hx=>?_,λb o e hx=>?_,λb xs e=>?_,λb o u e=>?_,λb ps e=>?_⟩ ?_ I.bare λb hb=>?_
 .exact(sb.2 b (ne2 b o e).1).trans (ub.keep b o e n hb hx)
 .obtain⟨sl,q⟩:=ub.slot b o e n hb hx
  exact⟨sl,(sb.2 b (ne2 b o e).1).trans q⟩
 .rw[aO (ne2 b o e).2]
  exact ub.free b o e n hx
 .obtain⟨o',q⟩:=ub.there b o e hx
  exact⟨o',(sb.2 b (ne2 b o e).1).trans q⟩
 .have q:=ub.tups b xs e
  rw[aO (nl b _ q)];exact q
 .have q:=ub.frzs b o u e
  rw[aO (nl b _ q)];exact q
 .obtain⟨more,q⟩:=ub.tbls b ps e
  exact⟨more,by rw[aO (nl b _ q)];exact q⟩
 .intro a o e
  have hok:=I.hok
  rw[hP,hw]at hok
  by_cases ha:a=l
  .subst ha
   rw[cW]at e
   cases e
   exact⟨hz,us,k,hv,(sb.2 a hlC).trans ho⟩
  .rw[aO ha]at e
   refine(hok a o e).stay (λb u hb q=>(sb.2 b ?_).trans q) (λb q=>by rw[aO (nl b _ q)];exact q) λb xs q=>by rw[aO (nl b _ q)];exact q
   rcases hb with z|z
   .rw[z];exact nC a o e
   .exact nC b _ z
 .obtain⟨q0,q1,q2,q3,q4,q5⟩:=f2 b hb
  exact⟨q3.imp id λz=>z,q1,q4,q5⟩
theorem Qd(hc:X.calm=true)(B:cH X own cap capI scope)(hown:∀x∈own,(x,NameKind.free)∉scope.names)(hi:PI X tg iter wi)
  (hg:∀cs C fp s2 H2,PG (cL X own cap scope cs C fp s2 H2) tg g) (ht:∀cs C fp s2 H2,PIf (cL X own cap scope cs C fp s2 H2) ifs tt) (he:∀cs C fp s2 H2,PE (cL X own cap scope cs C fp s2 H2) elt te)
  (hs:∀x,foldedSetIterable iter X.env x=pure x:=by intro _;rfl):PE X (.ListComp elt [⟨tg,iter,ifs,0⟩] scope pos) (tLC own capI wi g tt te):=by
 intro pins s σ H Q I h
 rw[eval_ListComp]
 refine wpAny_comprehension_free (use:=none) (cl:=cg X.env scope.names []) rfl hs (gV (B.cells I)) B.kind (λy hy e=>cM B.nd (by rw[<-e];exact hy)) ?_
 refine thn (hi pins s σ H _ I h) λv s1 h1=>thn h1 λitv s2 h2=>?_
 obtain⟨it,fp,tn,J,H2,e,I2,T,st2,f2,W,⟨m0,w0⟩,turn⟩:=h2
 subst e
 refine Zz (mG ?_)
 dsimp only
 generalize hl:s2.heap.objs.size=l
 generalize hh0:s2.heap.push { cls:=.type "list",dict:=none,data:=.seq ([]:List Value).toArray}=h0
 have hsz0:h0.objs.size=l+1:=by rw[<-hh0,Heap.size_push,hl]
 generalize hC:h0.objs.size=C
 generalize hh1:pushCells (h0.push { cls:=.type (if(some X.env).isSome=true then "dict" else "frame"),data:=.dict #[] }) scope.names=h1
 have hl0:h0.get? l=some (bQ [] 0):=by rw[<-hh0,<-hl];exact Zf _ rfl
 have hk0:∀b o,s2.heap.get? b=some o->h0.get? b=some o:=λb o e=>by rw[<-hh0];exact Zb _ e
 have hlC:l≠C:=by rw[<-hC,hsz0];exact Zk (Nat.lt_succ_self _)
 have hls:s2.heap.objs.size<=l:=Nat.le_of_eq hl
 have hCs:s2.heap.objs.size<=C:=by rw[<-hC,hsz0,hl];exact Nat.le_succ _
 have ho2:∀b∈fp,∃o,s2.heap.get? b=some o:=λb hb=>let⟨o,e,_⟩:=T.obj 0 _ st2 b hb;⟨o,e⟩
 have hfl:∀b∈fp,b≠l/\b≠C:=λb hb=>let⟨o,e⟩:=ho2 b hb;⟨Zk (Zc (Ze e) hls),Zk (Zc (Ze e) hCs)⟩
 have hl1:h1.get? l=some (bQ [] 0):=by rw[<-hh1];exact pushCells_keeps _ _ _ _ (Zb _ hl0)
 have keep1:∀b o,s2.heap.get? b=some o->h1.get? b=some o:=λb o e=>by rw[<-hh1];exact pushCells_keeps _ _ _ _ (Zb _ (hk0 b o e))
 generalize hcs:cellsFrom (C+1) scope.names (cg X.env scope.names [])=cs
 have I0:Inv (cL X own cap scope cs C fp s2 H2) [] (cJ own σ capI) H2 { s2 with heap:=h1}:=by
  have q:=I2.comp (tk:=s2.toks) B hown f2 ho2 hk0 (by rw[hsz0,hl];exact Nat.le_succ _) hC.symm hh1.symm
  rw[hcs]at q
  exact q
 have henv:(newEnv scope C X.env.globals cs X.env.qual none .none (some X.env) builtinsNs)={ compEnvC scope cs C X.env with scope:=scope}:=rfl
 have henv2:({ newEnv scope C X.env.globals cs X.env.qual none .none (some X.env) builtinsNs with scope:=relabel scope X.env}:Env)=(cL X own cap scope cs C fp s2 H2).env:=rfl
 generalize hX':cL X own cap scope cs C fp s2 H2=X' at I0 henv2
 have eP:X'.prog=X.prog:=by rw[<-hX'];rfl
 have eW:X'.w=X.w:=by rw[<-hX'];rfl
 have eK:X'.K=X.K:=by rw[<-hX'];rfl
 have eA:X'.A=X.A:=by rw[<-hX'];rfl
 have eFs:X'.fs=frs X.stack:=by rw[<-hX'];rfl
 have eEx:X'.ex=fp:=by rw[<-hX'];rfl
 have eS:X'.s₀=s2:=by rw[<-hX'];rfl
 have eH:X'.H₀=H2:=by rw[<-hX'];rfl
 have eL:X'.env.locals=C:=by rw[<-hX'];rfl
 have eC:X'.calm=true:=by rw[<-hX'];exact hc
 have eX:X'.xe=λ_ _=>False:=by rw[<-hX'];rfl
 have ePn:X'.pn=[]:=by rw[<-hX'];rfl
 have hg':PG X' tg g:=by rw[<-hX'];exact hg cs C fp s2 H2
 have ht':PIf X' ifs tt:=by rw[<-hX'];exact ht cs C fp s2 H2
 have he':PE X' elt te:=by rw[<-hX'];exact he cs C fp s2 H2
 have stat:∀{H':Hp}{P:List (Addr×Obj)},X'.Ok->(∀b∈fp,H' b=none)->(∀p∈P,p.1=l)->∀b∈fp,jH X' P H' b:=λ{H' P} ok hn hP b hb=>by
  refine⟨hn b hb,?_,?_,.inl (by rw[eEx];exact hb),?_,λp hp=>?_⟩
  .exact(ok.exf b (by rw[eEx];exact hb)).1
  .exact ok.exfs b (by rw[eEx];exact hb)
  .exact(ok.exf b (by rw[eEx];exact hb)).2
  .rw[ePn,List.nil_append]at hp
   rw[hP p hp]
   exact Ne.symm (hfl b hb).1
 have lfs:X'.Ok->l∉X'.fs:=λok hz=>by
  rw[eFs]at hz
  exact(Inv.nofs (X:=X) I2 hls) ((Zi.mp (I2.stkSub l hz)).elim (λz=>absurd I2.lt (by rw[<-z,hl];exact Nat.lt_irrefl _)) id)
 have pinL:∀{σ':St}{H':Hp}{s':Shared}{us:List Value}{k:Nat},Inv X' [] σ' H' s'->s'.heap.get? l=some (bQ us k)->H' l=none->Inv X' [(l,bQ us k)] σ' H' s':=λ{σ' H' s' us k} I' e n=>
  I'.pins_of λp hp=>by
   obtain rfl:p=(l,bQ us k):=by simpa using hp
   exact⟨e,n,by rw[eL];exact hlC,lfs I'.ok,λv z=>by cases z⟩
 have loop:∀s3:Shared,s3={ s2 with heap:=h1}->codeAny (model X.prog X.w) X.A (.compLoop (.ListComp elt [⟨tg,iter,ifs,0⟩] scope pos) 0 (.ref it) (.ref l) X'.env) (compPost (model X.prog X.w) X.A X.xe none (EP X pins σ Q) (.ref l) C) s3:=by
  rintro s3 rfl
  refine sU (E':=λ_ _=>False) (λn s'=>∃i ys us k H',Inv X' [] (cJ own σ capI) H' s'/\tn i s'.heap/\(∀b∈fp,H' b=none)/\W i n ys H'/\aY ys us/\s'.heap.get? l=some (bQ us k)/\H' l=none/\ys.length<=sizeLine) (λ_ _ z=>z.elim) ?_ m0
   ⟨0,[],[],0,H2,I0,T.keep _ _ _ st2 λb _ o e=>keep1 b o e,λb hb=>(f2 b hb).1,w0,.nil,hl1,I2.hok.fresh hls,Nat.zero_le _⟩
  rintro n s3 ⟨i,ys,us,k,H3,I3,st3,fr3,w3,v3,o3,n3,z3⟩
  have I3p:=pinL I3 o3 n3
  have P1:∀p∈[(l,bQ us k)],p.1=l:=λp hp=>by
   obtain rfl:p=(l,bQ us k):=by simpa using hp
   rfl
  rcases turn i n ys H3 w3 with⟨stop,qn⟩|⟨go,hlt,step⟩
  .have q:=T.done X' eP eW eK eC i _ s3 _ H3 (λ_ _=>False) I3p (stat I3.ok fr3 P1) st3 stop
   rw[eA]at q
   refine Zy q (λr s4 ⟨hr,I4⟩=>?_) λ_ _ z=>z
   subst hr
   have pl:=I4.pin (l,bQ us k) (by simp)
   obtain⟨m4,hn4,_⟩:=I4.loc
   rw[eL]at hn4
   refine⟨m4,hn4,λh' sb=>⟨.ref l,upd H3 l (.lst ys),?_,rfl,qn l n3⟩⟩
   exact I2.compEnd f2 eP eW eFs eEx eS eH eL I4 hls hlC hCs pl.1 n3 v3 z3 sb
  .have q:=T.item X' eP eW eK eC i _ s3 _ H3 (λ_ _=>False) I3p (stat I3.ok fr3 P1) st3 go
   rw[eA]at q
   refine Zy q (λr s4 ⟨u,hr,h4⟩=>?_) λ_ _ z=>z
   subst hr
   refine Zy h4 (λ_ s5 ⟨x,H5,I5,r5,y5,st5,fr5⟩=>?_) λ_ _ z=>z
   have I5':=I5.pinned (stat I5.ok fr5 P1) (T.obj _ _ st5)
   have a1:=hg' _ s5 _ H5 x u _ I5' r5 (step x H5 y5)
   rw[eP,eW,eA,eX]at a1
   refine Zy a1 (λ_ s6 ⟨σ6,H6,I6,ft6,q6⟩=>?_) λ_ _ z=>z
   have a2:=ht' _ s6 σ6 H6 _ I6 q6
   rw[eP,eW,eA,eX]at a2
   refine Zy a2 (λok s7 ⟨H7,I7,q7⟩=>?_) λ_ _ z=>z
   have back:∀{H8:Hp}{s8:Shared},Inv X' ([(l,bQ us k)]++oH fp s5.heap) σ6 H8 s8->Inv X' [] (cJ own σ capI) H8 s8/\tn (i+1) s8.heap/\(∀b∈fp,H8 b=none)/\s8.heap.get? l=some (bQ us k)/\H8 l=none:=λ{H8 s8} I8=>by
    have pl:=I8.pin (l,bQ us k) (by simp)
    refine⟨(I8.weak ft6.1.symm ft6.2).pins_of λp hp=>absurd hp (by simp),T.keep _ _ _ st5 λb hb o e=>?_,λb hb=>?_,pl.1,pl.2.1⟩
    .exact(I8.pin (b,o) (Zn _ (Zn _ (dZ hb e)))).1
    .obtain⟨o,e,d⟩:=T.obj _ _ st5 b hb
     exact(I8.pin (b,o) (Zn _ (Zn _ (dZ hb e)))).2.1
   cases ok with
   |false=>
    rw[if_neg Zr]
    rw[if_neg Zr]at q7
    obtain⟨m',hm,w7⟩:=q7
    obtain⟨I8,st8,fr8,o8,n8⟩:=back I7
    exact⟨m',hm,i+1,ys,us,k,H7,I8,st8,fr8,w7,v3,o8,n8,z3⟩
   |true=>
    rw[if_pos rfl]
    rw[if_pos rfl]at q7
    have a3:=he' _ s7 σ6 H7 _ I7 q7
    rw[eP,eW,eA,eX]at a3
    refine Zy a3 (λyv s8 ⟨y,H8,I8',r8,m',hm,w8⟩=>?_) λ_ _ z=>z
    obtain⟨I8,st8,fr8,o8,n8⟩:=back I8'
    refine append_at (hsz:=by show us.toArray.size<=sizeLine;rw[Zd,<-v3.length];exact z3) o8 λh9 sb9 o9=>?_
    have I9:Inv X' [] (cJ own σ capI) H8 { s8 with heap:=h9}:=I8.turned (t':=s8.toks) (λb o hb e=>(sb9.2 b hb).trans e) n8 (by rw[eL];exact hlC) (.inr (by rw[eS];exact hls)) (λx c e=>by
     rintro rfl
     obtain⟨v',ho',hd',hd''⟩:=I8.cell x c e
     rw[o8]at hd'
     cases hd'
     cases hd'') (λp hp=>by rw[ePn]at hp;exact absurd hp (by simp))
    refine⟨m',hm,i+1,ys++[y],us++[yv],k+1,H8,I9,T.keep _ _ _ st8 λb hb o e=>(sb9.2 b (hfl b hb).1).trans e,fr8,w8,v3.append (.cons r8 .nil),?_,n8,?_⟩
    .rw[o9]
     simp[bQ]
    .rw[ZG]
     exact hlt
 have T0:=T.keep 0 s2.heap h1 st2 λb _ o e=>keep1 b o e
 rw[henv2]
 exact codeAny_compStart_list (loop _ rfl) (T.self X.A 0 _ _ _ T0 (loop _ rfl))
end
def cA(M:Model)(A:Around)(c:Code)(t:Sem Fin)(fs:List Frame)(s:Shared)(Φ:End->Shared->Prop):Prop:=
 ∀Γ p,Γ.code=c->Γ.Woken A->∃e s',Runs M Γ p t fs s e s'/\Φ e s'
section
variable {M:Model} {A:Around} {c:Code} {fs:List Frame} {s:Shared} {Φ:End->Shared->Prop}
theorem cA.wrap{α:Type}{m:Sem α}{K:α->Sem Fin}{H:Value->Sem Fin}{gd:Bool->Bool}{lv:List Value->List Value}
  (h:wpAny M (A.over c fs) m (λa s'=>cA M A c (K a) fs s' Φ) (λx s'=>cA M A c (H x) fs s' Φ) s):cA M A c (m.wrap K H gd lv) fs s Φ:=by
 rintro Γ p rfl hΓ
 exact runs_wrap_of_wp K H gd lv m (h (Γ.over fs) p (hΓ.over fs)) (λa p' s' h'=>h' Γ p' rfl hΓ) (λx p' s' h'=>h' Γ p' rfl hΓ)
theorem cA.bindWrap{α β:Type}{m:Sem α}{K:α->Sem β}{K':β->Sem Fin}{H':Value->Sem Fin}{gd:Bool->Bool}{lv:List Value->List Value}
  (h:wpAny M (A.over c fs) m (λa s'=>cA M A c ((K a).wrap K' H' gd lv) fs s' Φ) (λx s'=>cA M A c (H' x) fs s' Φ) s):cA M A c ((m >>= K).wrap K' H' gd lv) fs s Φ:=by
 rw[Sem.bind_eq_wrap',Sem.wrap_wrap];exact cA.wrap h
theorem cA.at{p':Pos}{k:Unit->Sem Fin}(h:cA M A c (k ()) fs s Φ):cA M A c (.at p' k) fs s Φ:=
 cA.wrap (m:=standAt p') (K:=k) (H:=.raise) (gd:=id) (lv:=id) (wpAny_standAt h)
theorem cA.again{c':Code}(hq:c'.quiet=true)(hc:cA M A c' (M.den c') fs s Φ):cA M A c (.pure (.again c')) fs s Φ:=by
 rintro Γ p rfl hΓ
 obtain⟨e,s',hr,he⟩:=hc (Γ.goto c') p rfl (hΓ.goto c')
 exact⟨e,s',Runs.head (c₁:=c') (λ_ _ x=>.again hq x) hr,he⟩
theorem cA.end(r:Result)(h:Φ (.ret r) s):cA M A c (leafOf r) [] s Φ:=by
 rintro Γ p rfl _
 exact⟨.ret r,s,Runs.leaf r,h⟩
theorem cA.yield{v:Value}{g:Bool}{l:List Value}{k:Resume->Sem Fin}(hfs:splitAtGen fs=none)(h:∀p,Φ (.susp v g l k c p fs) s):cA M A c (.yield v g l k) fs s Φ:=by
 rintro Γ p rfl _
 exact⟨_,s,Runs.yield' fs hfs,h p⟩
def Jj(M:Model)(A:Around)(gs:GenState)(s:Shared)(Φ:End->Shared->Prop):Prop:=
 match gs with
 | .fresh c=>cA M A c (M.den c) [] s Φ
 | .suspended k _ c _ fs _=>cA M A c (k (.send .none)) fs s Φ
 |_=>False
theorem GX{E:Value->Shared->Prop}{g:Nat}{gs:GenState}{l:List Value}{α:Type}{k:GenResult->Sem α}{Q:α->Shared->Prop}(hg:s.gens[g]? =some gs)
  (hgo:Jj M A gs (s.setGen g .running) Φ) (hq:∀e s₁,Φ e s₁->e.quiet=true) (hΦ:∀e s₁,Φ e s₁->wpAny M A (k e.result) Q E (s₁.setGen g e.genState)):
  wpAny M A (.resume g (.send .none) l k) Q E s:=by
 intro Γ p hΓ
 rw[Sem.wp_resume]
 have hB:∀c,(Γ.wake c p).Woken A:=λc=>hΓ.wake c p
 cases gs with
 |fresh c=>
  obtain⟨e₁,s₁,hr,he⟩:=hgo (Γ.wake c p) p rfl (hB c)
  exact⟨_,_,by unfold Wakes;rw[hg];exact⟨e₁,s₁,hr,hq e₁ s₁ he,rfl,rfl⟩,hΦ e₁ s₁ he Γ p hΓ⟩
 |suspended k₀ l₀ c₀ p₀ fs₀ cl=>
  obtain⟨e₁,s₁,hr,he⟩:=hgo (Γ.wake c₀ p) p₀ rfl (hB c₀)
  exact⟨_,_,by unfold Wakes;rw[hg];exact⟨e₁,s₁,hr,hq e₁ s₁ he,rfl,rfl⟩,hΦ e₁ s₁ he Γ p hΓ⟩
 |running=>exact hgo.elim
 |finished=>exact hgo.elim
end
section
variable {prog:Program} {w:World} {A:Around} {E:Value->Shared->Prop} {s:Shared} {Φ:End->Shared->Prop}
theorem ph{a:Addr}{g:Nat}{gs:GenState}{Q:Option Value->Shared->Prop}(hh:A.handled=none)(hl:s.heap.NoLimit)(hroom:A.depth<recursionLimit)
  (hg:s.heap.IsGen a g) (hgs:s.gens[g]? =some gs) (hgo:Jj (model prog w) A.in1 gs (s.setGen g .running) Φ) (hq:∀e s₁,Φ e s₁->e.quiet=true)
  (hΦ:∀e s₁,Φ e s₁->(∃v gd l k c p fs,e= .susp v gd l k c p fs/\Q (some v) (s₁.setGen g e.genState))∨
   (e= .ret (.ok .next)/\∀h',(∀b o,s₁.heap.get? b=some o->h'.get? b=some o)->Q none { s₁.setGen g .finished with heap:=h'})):
  wpAny (model prog w) A (pyNext (.ref a)) Q E s:=by
 unfold pyNext
 refine Zv (wpAny_attempt (wpAny_callSpecial?_slot (name:=Str.ofString "__next__") hg.typeIs slot_gen_next
  (wpAny_call_entry slot_gen_next hg.typeIs entry_gen_next ?_ (args_gen_next _))))
 show wpAny _ A.in1 (Builtin.Generator.genWake (.ref a) (.send .none)) _ _ s
 unfold Builtin.Generator.genWake
 refine Zv (wpAny_holding (wpAny_genNumber hg (Zv (wpAny_genState hgs ?_))))
 cases gs with
 |running=>exact hgo.elim
 |finished=>exact hgo.elim
 |_=>
  refine Zv (wpAny_roomToWake hl hroom ?_)
  show wpAny _ A.in1 (.resume g (.send .none) [] _) _ _ s
  refine GX hgs hgo hq λe s₁ he=>?_
  rcases hΦ e s₁ he with⟨v,gd,l,k,c,p,fs,rfl,hQ⟩|⟨rfl,hP⟩
  .exact Zx ⟨v,rfl,Zx hQ⟩
  .show wpAny _ A.in1 (newExc (.type "StopIteration") [] >>= _) _ _ _
   refine Zv ?_
   simp only[newExc,newTuple]
   refine Zv (Zz ?_ (by size_fits))
   refine Zv (m:=firstArgMember _ _) (wpAny_of_eq (a:=Value.none) (by first|rfl|(simp only[firstArgMember];rfl)) ?_)
   refine Zz ?_ (by size_fits)
   simp only[raiseNew]
   refine Zv (Zv (wpAny_handled ?_))
   first|rw[show A.in1.handled=none from hh]|rw[hh]
   refine wpAny_throw ?_
   refine Zv (wpAny_isInstance (T:="StopIteration") (b:=true) ⟨_,Zf _ rfl,rfl⟩ isSubtype_stop ?_)
   exact Zx (hP _ λb o hb=>Zb _ (Zb _ hb))
end
def oW(X:Cx)(AG:Around)(own cap:List Str)(scope:Scope)(cs:List (Str×Addr))(C:Addr)(code:Value)(fp:List Addr)(s2:Shared)(H2:Hp):Cx where
 prog:=X.prog
 w:=X.w
 K:=X.K
 mg:=X.mg
 base:=X.base
 A:=AG
 N:=own++cap
 s₀:={ s2 with gens:=s2.gens.push .running}
 H₀:=H2
 env:=genEnv scope cs C code builtinsNs X.env
 outer:=X.stack
 stack:=genEnv scope cs C code builtinsNs X.env::X.stack
 ex:=fp
 fn:=λx=>own.contains x
 calm:=true
 pn:=[]
 xe:=λ_ _=>False
section
variable {X:Cx} {pins:List (Addr×Obj)} {σ:St} {H:Hp} {s:Shared} {own cap:List Str} {capI:List Nat} {scope:Scope}
theorem Inv.gen{AG:Around}{fp:List Addr}{h1:Heap}{C:Addr}{tk:Nat}{code:Value}{m:Str->Option Value}(I:Inv X pins σ H s)(B:cH X own cap capI scope)(hown:∀x∈own,(x,NameKind.free)∉scope.names)(hnc:∀y∈scope.names,y.2≠ .cell)
  (hf:∀b∈fp,jH X pins H b) (ho:∀b∈fp,∃o,s.heap.get? b=some o)
  (keep:∀b o,s.heap.get? b=some o->h1.get? b=some o) (hCs:s.heap.objs.size<=C) (hm:h1.Ns C m) (hAf:AG.frames=some (genEnv scope (cg X.env scope.names []) C code builtinsNs X.env::X.stack)) (hAh:AG.handled=none):
  Inv (oW X AG own cap scope (cg X.env scope.names []) C code fp s H) [] (cJ own σ capI) H { s with heap:=h1,toks:=tk,gens:=s.gens.push .running}:=by
 have clo_old:∀p∈cg X.env scope.names [],X.env.cells.lookup p.1=some p.2:=λp hp=>(jw hp).elim (λz=>by simp at z) id
 have old_lt:∀x c,X.env.cells.lookup x=some c->c<s.heap.objs.size:=λx c e=>let⟨v,q⟩:=I.cell x c e;q.lt
 have csm:∀x c,(cg X.env scope.names []).lookup x=some c->X.env.cells.lookup x=some c/\c<s.heap.objs.size:=λx c e=>by
  have q:=clo_old _ (Zt e)
  exact⟨q,old_lt _ _ q⟩
 have fresh:∀b,s.heap.objs.size<=b->H b=none:=λb hb=>I.hok.fresh hb
 have brun:AllBare (s.gens.push .running):=AllBare.push I.bare.bare rfl
 refine⟨⟨I.ok.mod,?_,I.ok.glob,rfl,hCs,?_,?_,?_,λ_=>hAh,hAf,.inr ⟨rfl,rfl⟩,?_,I.bs,Zl I.ok.bsz I.sz,?_,?_,I.stack,I.stkFree⟩,rfl,GK.refl brun,Un.kept keep,?_,?_,fresh C hCs,?_,?_,I.hok.kept keep,?_⟩
 .exact B.kind
 .intro x y c e1 e2
  exact I.ok.inj x y c (csm x c e1).1 (csm y c e2).1
 .intro x hx
  have hx':scope.names.lookup x=some .cell∨scope.names.lookup x=some .free:=hx
  rcases hx' with e|e
  .exact absurd rfl (hnc _ (Zt e))
  .have q:=Zt e
   obtain⟨c,hc⟩:=B.cells I _ q rfl
   exact⟨c,iT hc (.inl q)⟩
 .intro x c hx e
  exfalso
  have hxo:x∈own:=by simpa[oW]using hx
  have nf:=hown x hxo
  have q:(cg X.env scope.names []).lookup x=none:=by
   rw[lM λk hk=>by rintro rfl;exact nf hk];rfl
  have e':(cg X.env scope.names []).lookup x=some c:=e
  rw[q]at e';cases e'
 .intro b hb
  obtain⟨o,hbo⟩:=ho b hb
  have hlt:=Ze hbo
  exact⟨Zk (Zc hlt hCs),λx c e=>(hf b hb).2.2.2.2.1 x c (csm x c e).1⟩
 .intro b o e hb
  rcases(hf b hb).2.2.2.1 with z|z
  .exact I.ok.noex b o e z
  .exact absurd (Zc (Ze e) (Zl I.ok.bsz z)) (Nat.lt_irrefl _)
 .intro b hb hz
  rcases Zi.mp (I.stkSub b hz)with z|z
  .exact(hf b hb).2.1 z
  .exact(hf b hb).2.2.1 z
 .obtain⟨m',hn,hl⟩:=I.loc
  refine⟨m,hm,λi x v e1 e2 hv=>?_⟩
  have e2':(cJ own σ capI)[i]? =some (some v):=e2
  have e1':(own++cap)[i]? =some x:=e1
  unfold cJ at e2'
  by_cases hi:i<own.length
  .rw[Zs (by simpa using hi),List.getElem?_replicate]at e2'
   split at e2'<;>cases e2'
  .rw[List.getElem?_append_right (by simpa using hi)]at e2'
   rw[List.getElem?_append_right (by simpa using hi)]at e1'
   rw[List.length_replicate]at e2'
   obtain⟨i0,q1,q2⟩:=oU e2'
   obtain⟨y,q3,q4,q5⟩:=B.caps.get q1
   rw[e1']at q3
   cases q3
   have hxf:(x,NameKind.free)∈scope.names:=B.cfr x (List.mem_of_getElem? e1')
   have vis:Vis X.env.scope x:=by
    rcases q5 with q5|q5
    .exact .inr (.inl q5)
    .exact .inr (.inr q5)
   obtain⟨u,ru,lk⟩:=hl i0 x v q4 q2 vis
   refine⟨u,ru,.inr ⟨.inr (cM B.nd hxf),?_⟩⟩
   rcases lk with⟨k,_⟩|⟨_,c,ec,hc⟩
   .rcases q5 with q5|q5<;>rw[k]at q5<;>cases q5
   .exact⟨c,iT ec (.inl hxf),hc.keeps keep⟩
 .intro x c e
  obtain⟨v,q⟩:=I.cell x c (csm x c e).1
  exact⟨v,q.keeps keep⟩
 .intro x c e
  exact I.freeC x c (csm x c e).1
 .intro p hp
  exact absurd (show p∈([]:List (Addr×Obj))from hp) (by simp)
 .show(cJ own σ capI).length=(own++cap).length
  unfold cJ jx
  rw[ZG,ZG,List.length_replicate,Zu,B.caps.length]
end
abbrev Az(elt tg iter:Expr)(scope:Scope)(pos:Pos):Expr:=.GeneratorExp elt [⟨tg,iter,[],0⟩] scope pos
abbrev iU(elt tg iter:Expr)(scope:Scope)(pos:Pos)(it:Addr)(cenv:Env):Code:=.compLoop (Az elt tg iter scope pos) 0 (.ref it) .none cenv
abbrev genS(elt tg iter:Expr)(scope:Scope)(pos:Pos)(it:Addr)(cenv:Env):Code:=.compStart (Az elt tg iter scope pos) 0 (.ref it) .none cenv
section
variable {X':Cx} {A1:Around} {elt tg iter:Expr} {scope:Scope} {pos:Pos} {it:Addr} {fp:List Addr} {tn:Nat->Heap->Prop} {J:It} {σb:St} {g:TG} {te:TE}
theorem Et(T:rG X'.prog X'.w X'.K tg J fp it tn)(hA:X'.A=A1.over (iU elt tg iter scope pos it X'.env) [])(hc:X'.calm=true)(hex:X'.ex=fp)(hpn:X'.pn=[])(hco:X'.env.scope.isCoroutine=false)
  (hxe:X'.xe=λ_ _=>False) (hg:PG X' tg g) (he:PE X' elt te) {i:Nat} {H:Hp} {s:Shared} {Q:VK} {P:List (Addr×Obj)} (hP:∀p∈P,p.1∉fp) (I:Inv X' P σb H s) (st:tn i s.heap) (fr:∀b∈fp,H b=none)
  (go:J.go i H) (step:∀x H',J.yld i H x H'->g x σb H' λσ2 H2=>Fits σb σ2/\te σ2 H2 Q):
  cA (model X'.prog X'.w) A1 (iU elt tg iter scope pos it X'.env) ((model X'.prog X'.w).den (iU elt tg iter scope pos it X'.env)) [] s λe s'=>
   ∃v k p y H',e= .susp v false [] k (iU elt tg iter scope pos it X'.env) p []/\k (.send .none)= .pure (.again (iU elt tg iter scope pos it X'.env))/\bY y v/\Q y H'/\Inv X' P σb H' s'/\tn (i+1) s'.heap/\∀b∈fp,H' b=none:=by
 have stat:∀{H':Hp},X'.Ok->(∀b∈fp,H' b=none)->∀b∈fp,jH X' P H' b:=λ{H'} ok hn b hb=>
  ⟨hn b hb,(ok.exf b (by rw[hex];exact hb)).1,ok.exfs b (by rw[hex];exact hb),.inl (by rw[hex];exact hb),(ok.exf b (by rw[hex];exact hb)).2,λp hp e=>by rw[hpn]at hp;exact hP p hp (e▸hb)⟩
 show cA _ A1 _ ((compTurn (Az elt tg iter scope pos) 0 (.ref it) .none X'.env).onRaise (leaving X'.env)) [] s _
 rw[compTurn_gen,Sem.onRaise_eq_wrap]
 refine cA.bindWrap (wpAny_standAt ?_)
 have q:=T.item X' rfl rfl rfl hc i P s σb H (λ_ _=>False) I (stat I.ok fr) st go
 rw[hA]at q
 refine cA.bindWrap (Zy q (λr s1 ⟨u,hr,h1⟩=>?_) λ_ _ z=>z.elim)
 subst hr
 refine cA.bindWrap (Zy h1 (λ_ s2 ⟨x,H2,I2,r2,y2,st2,fr2⟩=>?_) λ_ _ z=>z.elim)
 have I2':=I2.pinned (stat I2.ok fr2) (T.obj _ _ st2)
 have a1:=hg _ s2 σb H2 x u _ I2' r2 (step x H2 y2)
 rw[hA,hxe]at a1
 refine cA.bindWrap (Zy a1 (λ_ s3 ⟨σ3,H3,I3,ft3,q3⟩=>?_) λ_ _ z=>z.elim)
 refine cA.bindWrap (wpAny_tests_nil ?_)
 simp only[if_true]
 have hy:∀v,yieldOut X'.env v=yieldValue v:=λv=>by simp only[yieldOut,hco,Bool.false_eq_true,if_false]
 simp only[hy]
 rw[Sem.bind_eq_wrap',Sem.bind_eq_wrap',Sem.wrap_wrap,Sem.wrap_wrap]
 have a2:=he _ s3 σ3 H3 _ I3 q3
 rw[hA,hxe]at a2
 refine cA.wrap (Zy a2 (λv s4 ⟨y,H4,I4,r4,q4⟩=>?_) λ_ _ z=>z.elim)
 refine cA.at (cA.yield rfl λp=>⟨v,_,p,y,H4,rfl,rfl,r4,q4,(I4.weak ft3.1.symm ft3.2).unpinned,T.keep _ _ _ st2 λb hb o e=>?_,λb hb=>?_⟩)
 .exact(I4.pin (b,o) (Zn _ (Zn _ (dZ hb e)))).1
 .obtain⟨o,e,d⟩:=T.obj _ _ st2 b hb
  exact(I4.pin (b,o) (Zn _ (Zn _ (dZ hb e)))).2.1
theorem Es(T:rG X'.prog X'.w X'.K tg J fp it tn)(hA:X'.A=A1.over (iU elt tg iter scope pos it X'.env) [])(hc:X'.calm=true)(hex:X'.ex=fp)(hpn:X'.pn=[])
  {i:Nat} {H:Hp} {s:Shared} {P:List (Addr×Obj)} (hP:∀p∈P,p.1∉fp) (I:Inv X' P σb H s) (st:tn i s.heap) (fr:∀b∈fp,H b=none) (stop:J.stop i H):
  cA (model X'.prog X'.w) A1 (iU elt tg iter scope pos it X'.env) ((model X'.prog X'.w).den (iU elt tg iter scope pos it X'.env)) [] s λe s'=>e= .ret (.ok .next)/\Inv X' P σb H s':=by
 have stat:∀b∈fp,jH X' P H b:=λb hb=>
  ⟨fr b hb,(I.ok.exf b (by rw[hex];exact hb)).1,I.ok.exfs b (by rw[hex];exact hb),.inl (by rw[hex];exact hb),(I.ok.exf b (by rw[hex];exact hb)).2,λp hp e=>by rw[hpn]at hp;exact hP p hp (e▸hb)⟩
 show cA _ A1 _ ((compTurn (Az elt tg iter scope pos) 0 (.ref it) .none X'.env).onRaise (leaving X'.env)) [] s _
 rw[compTurn_gen,Sem.onRaise_eq_wrap]
 refine cA.bindWrap (wpAny_standAt ?_)
 have q:=T.done X' rfl rfl rfl hc i P s σb H (λ_ _=>False) I stat st stop
 rw[hA]at q
 refine cA.bindWrap (Zy q (λr s1 ⟨hr,I1⟩=>?_) λ_ _ z=>z.elim)
 subst hr
 exact cA.end (.ok .next) ⟨rfl,I1⟩
theorem sy{A0:Around}{P:Program}{w:World}{K:Zw}{cenv:Env}{Φ:End->Shared->Prop}{s:Shared}{i:Nat}(T:rG P w K tg J fp it tn)(st:tn i s.heap)
  (h:cA (model P w) A0 (iU elt tg iter scope pos it cenv) ((model P w).den (iU elt tg iter scope pos it cenv)) [] s Φ):
  cA (model P w) A0 (genS elt tg iter scope pos it cenv) ((model P w).den (genS elt tg iter scope pos it cenv)) [] s Φ:=by
 show cA _ A0 _ ((compStart (Az elt tg iter scope pos) 0 (.ref it) .none cenv).onRaise (leaving cenv)) [] s _
 unfold compStart
 rw[Sem.onRaise_eq_wrap]
 show cA _ A0 _ ((ask >>= _).wrap _ _ _ _) [] s _
 refine cA.bindWrap (wpAny_askSetting ?_)
 split
 .exact cA.again rfl h
 .first
   |exact cA.bindWrap (wpAny_rule (cA.bindWrap (wpAny_standAt (cA.bindWrap (T.self _ i s _ _ st (cA.again rfl h))))))
   |(refine cA.bindWrap (wpAny_rule ?_);show cA _ A0 _ ((standAt iter.pos >>= _).wrap _ _ _ _) [] s _;exact cA.bindWrap (wpAny_standAt (cA.bindWrap (T.self _ i s _ _ st (cA.again rfl h)))))
end
structure mL where
 nxt:Nat->Hp->(V->Hp->Prop)->Prop
 fin:Nat->Hp->(Hp->Prop)->Prop
structure uE(X:Cx)(pins:List (Addr×Obj))(σ:St)(A':Around)(it:Addr)(lo:Nat)(S:mL)(SS:List (Addr×Obj)->Nat->Hp->Shared->Prop):Prop where
 inv:∀{P i H s},SS P i H s->Inv X (pins++P) σ H s
 next:∀{P i H s Q}(E:Value->Shared->Prop),SS P i H s->S.nxt i H Q->wpAny (model X.prog X.w) A' (pyNext (.ref it)) (λr s1=>∃u y H',r=some u/\bY y u/\Q y H'/\SS P (i+1) H' s1) E s
 stop:∀{P i H s Q}(E:Value->Shared->Prop),SS P i H s->S.fin i H Q->wpAny (model X.prog X.w) A' (pyNext (.ref it)) (λr s1=>r=none/\∃H',Q H'/\Inv X (pins++P) σ H' s1) E s
 keep:∀{P i H s h' tk},SS P i H s->(∀b o,s.heap.get? b=some o->h'.get? b=some o)->SS P i H { s with heap:=h',toks:=tk}
 pin:∀{P H s D o},SS P 0 H s->lo<=D->s.heap.get? D=some o->H D=none->(∀v,o.data≠ .cell v)->SS ((D,o)::P) 0 H s
 put:∀{P i H s h' tk D o o'},SS ((D,o)::P) i H s->(∀p∈P,p.1≠D)->(∀b u,b≠D->s.heap.get? b=some u->h'.get? b=some u)->h'.get? D=some o'->(∀v,o'.data≠ .cell v)->SS ((D,o')::P) i H { s with heap:=h',toks:=tk}
theorem uE.mk'{X:Cx}{pins:List (Addr×Obj)}{σ:St}{A':Around}{it:Addr}{lo:Nat}{S:mL}{SS:List (Addr×Obj)->Nat->Hp->Shared->Prop}
  (inv:∀{P i H s},SS P i H s->Inv X (pins++P) σ H s) (low:∀{P i H s},SS P i H s->∀p∈P,lo<=p.1)
  (next:∀{P i H s Q}(E:Value->Shared->Prop),SS P i H s->S.nxt i H Q->wpAny (model X.prog X.w) A' (pyNext (.ref it)) (λr s1=>∃u y H',r=some u/\bY y u/\Q y H'/\SS P (i+1) H' s1) E s)
  (stop:∀{P i H s Q}(E:Value->Shared->Prop),SS P i H s->S.fin i H Q->wpAny (model X.prog X.w) A' (pyNext (.ref it)) (λr s1=>r=none/\∃H',Q H'/\Inv X (pins++P) σ H' s1) E s)
  (keep:∀{P i H s h' tk},SS P i H s->(∀b o,s.heap.get? b=some o->h'.get? b=some o)->SS P i H { s with heap:=h',toks:=tk})
  (pin:∀{P i H s D o},SS P i H s->lo<=D->s.heap.get? D=some o->H D=none->(∀v,o.data≠ .cell v)->SS ((D,o)::P) i H s)
  (unpin:∀{p P i H s},SS (p::P) i H s->SS P i H s)
  (acc:∀{P i H s h' tk D},SS P i H s->lo<=D->H D=none->(∀p∈P,p.1≠D)->(∀b o,b≠D->s.heap.get? b=some o->h'.get? b=some o)->SS P i H { s with heap:=h',toks:=tk}):uE X pins σ A' it lo S SS:=
 ⟨inv,next,stop,keep,pin,λh hP hk ho hc=>by
  have hD:=low h (_,_) List.mem_cons_self
  have hn:=((inv h).pin (_,_) (Zn _ (Zn _ List.mem_cons_self))).2.1
  exact pin (acc (unpin h) hD hn hP hk) hD ho hn hc⟩
def Ready(X:Cx)(pins:List (Addr×Obj))(σ:St)(S:mL)(v:Value)(H:Hp)(s:Shared):Prop:=
 ∀(A':Around)(E:Value->Shared->Prop),A'.handled=none->A'.frames=some X.stack->A'.depth<=X.A.depth+1->A'.units<=X.A.units+8->A'.guards=X.A.guards->
  wpAny (model X.prog X.w) A' (pyIter v) (λitv s2=>∃it lo SS,itv= .ref it/\uE X pins σ A' it lo S SS/\SS [] 0 H s2/\lo<=s2.heap.objs.size) E s
abbrev rD:=St->Hp->(mL->Hp->Prop)->Prop
inductive StP(X:Cx)(pins:List (Addr×Obj))(σ:St)(R:mL->Hp->Prop)(v:Value)(s1:Shared):Prop
 |mk (S) (H1):Inv X pins σ H1 s1->Ready X pins σ S v H1 s1->R S H1->StP X pins σ R v s1
def ym(X:Cx)(e:Expr)(ts:rD):Prop:=
 ∀(pins:List (Addr×Obj))(s:Shared)(σ:St)(H:Hp)(R:mL->Hp->Prop),Inv X pins σ H s->ts σ H R->
  wpAny (model X.prog X.w) X.A (eval e X.env) (StP X pins σ R) X.xe s
def Jr(X:Cx)(pins:List (Addr×Obj))(σ:St)(S:mL)(a:Addr)(H:Hp)(s:Shared):Prop:=
 ∀(A':Around),A'.handled=none->A'.frames=some X.stack->A'.depth<=X.A.depth+1->A'.units<=X.A.units+8->A'.guards=X.A.guards->
  ∃lo SS,uE X pins σ A' a lo S SS/\SS [] 0 H s/\a<lo/\lo<=s.heap.objs.size/\∀P i H s,SS P i H s->∃g,s.heap.IsGen a g
inductive StG(X:Cx)(pins:List (Addr×Obj))(σ:St)(R:mL->Hp->Prop)(v:Value)(s1:Shared):Prop
 |mk (a) (S) (H1):v= .ref a->Inv X pins σ H1 s1->Jr X pins σ S a H1 s1->R S H1->StG X pins σ R v s1
def wj(X:Cx)(e:Expr)(ts:rD):Prop:=
 ∀(pins:List (Addr×Obj))(s:Shared)(σ:St)(H:Hp)(R:mL->Hp->Prop),Inv X pins σ H s->ts σ H R->
  wpAny (model X.prog X.w) X.A (eval e X.env) (StG X pins σ R) X.xe s
theorem uX{X:Cx}{e:Expr}{ts:rD}(h:wj X e ts):ym X e ts:=by
 intro pins s σ H R I hq
 refine thn (h pins s σ H R I hq) λv s1 ⟨a,S,H1,e,I1,rdy,r⟩=>⟨S,H1,I1,?_,r⟩
 subst e
 intro A' E h1 h2 h3 h4 h5
 obtain⟨lo,SS,sm,s0,_,hl,hg⟩:=rdy A' h1 h2 h3 h4 h5
 obtain⟨g,ig⟩:=hg _ _ _ _ s0
 exact wpAny_pyIter_gen ig ⟨a,lo,SS,rfl,sm,s0,hl⟩
section
variable {X:Cx} {pins:List (Addr×Obj)} {σ:St} {H:Hp} {s:Shared}
theorem Inv.grown{h':Heap}{g':Array GenState}{tk:Nat}(I:Inv X pins σ H s)(k:∀b o,s.heap.get? b=some o->h'.get? b=some o)(hg:GK s.gens g'):Inv X pins σ H { s with heap:=h',gens:=g',toks:=tk}:=
 I.call (ch:=[]) (g':=g') (t':=tk) (d':=s.drawn) (Un.kept k) (I.hok.kept k) hg λb hb=>absurd hb (by simp)
theorem Inv.more{Q:List (Addr×Obj)}(I:Inv X pins σ H s)(h:∀p∈Q,s.heap.get? p.1=some p.2/\H p.1=none/\p.1≠X.env.locals/\p.1∉X.fs/\∀v,p.2.data≠ .cell v):Inv X (pins++Q) σ H s:=
 I.pins_of λp hp=>(Zm.mp hp).elim (λz=>I.pin p (Zn _ z)) (h p)
theorem Inv.tbl{P:Addr}{ps ps':Array Value}{h':Heap}{tk:Nat}(I:Inv X pins σ H s)(hP:H P=some (.tbl ps))(hm:∃more,ps'=ps++more)(k:∀b o,b≠P->s.heap.get? b=some o->h'.get? b=some o)
  (ho:h'.get? P=some { cls:=.none,data:=.fields ps'}):Inv X pins σ (upd H P (.tbl ps')) { s with heap:=h',toks:=tk}:=by
 have nP:∀b,H b=none->b≠P:=λb e z=>by rw[z,hP]at e;cases e
 refine I.un ⟨λb o e n _ _=>k b o (nP b n) e,λb o e n _ _=>⟨o.slots,k b o (nP b n) e⟩,λb o e n _=>by rw[aO (nP b n)];exact n,λb o e _=>?_,λb xs e=>?_,λb o u e=>?_,λb qs e=>?_⟩ λa o e=>?_
 .by_cases z:b=P
  .subst z;exact⟨_,ho⟩
  .exact⟨o,k b o z e⟩
 .have z:b≠P:=λz=>by rw[z,hP]at e;cases e
  rw[aO z];exact e
 .have z:b≠P:=λz=>by rw[z,hP]at e;cases e
  rw[aO z];exact e
 .by_cases z:b=P
  .subst z
   rw[hP]at e;cases e
   obtain⟨more,e⟩:=hm
   exact⟨more,by rw[cW,e]⟩
  .exact⟨#[],by rw[aO z,e];simp⟩
 .by_cases z:a=P
  .subst z
   rw[cW]at e;cases e
   exact ho
  .rw[aO z]at e
   refine(I.hok a o e).stay (λb u hb q=>k b u ?_ q) (λb q=>?_) λb xs q=>?_
   .rcases hb with r|r
    .rw[r];exact z
    .exactλy=>by rw[y,hP]at r;cases r
   .have y:b≠P:=λy=>by rw[y,hP]at q;cases q
    rw[aO y];exact q
   .have y:b≠P:=λy=>by rw[y,hP]at q;cases q
    rw[aO y];exact q
def uc(H:Hp)(v:Value):Prop:=∃c o vs u,v= .ref c/\H c=some (.frz o (.own 0))/\o.data= .fields vs/\vs[1]? =some u
def TOk(H:Hp)(ps:Array Value):Prop:=TriplesOk ps.toList/\∀pos v,codeAmong pos ps.toList=some v->uc H v
theorem TOk.mono{H H':Hp}{ps:Array Value}(h:TOk H ps)(k:∀c o,H c=some (.frz o (.own 0))->H' c=some (.frz o (.own 0))):TOk H' ps:=
 ⟨h.1,λpos v e=>let⟨c,o,vs,u,e1,e2,e3⟩:=h.2 pos v e;⟨c,o,vs,u,e1,k c o e2,e3⟩⟩
theorem TOk.nil{H:Hp}:TOk H #[]:=⟨by unfold TriplesOk;trivial,λpos v e=>by simp[codeAmong]at e⟩
theorem xx{pos:Pos}{a b:Int}{c v:Value}:∀(l:List Value),TriplesOk l->codeAmong pos (l++[rawInt a,rawInt b,c])=some v->codeAmong pos l=some v∨v=c:=λl h=>by
 fun_induction TriplesOk l with
 |case1=>
  intro e
  right
  simp only[List.nil_append,rawInt,codeAmong]at e
  split at e
  .cases e;rfl
  .cases e
 |case2 line t col u x rest ih=>
  intro e
  simp only[List.cons_append,codeAmong]at e ⊢
  split at e
  .rename_i hc
   left;rw[if_pos hc];exact e
  .rename_i hc
   rw[if_neg hc]
   exact ih h e
 |case3=>exact h.elim
structure xX(lo:Nat)(P:Addr)(ps ps':Array Value)(H H':Hp):Prop where
 tab:H' P=some (.tbl ps')
 more:∃more,ps'=ps++more
 ok:TOk H' ps'
 keep:∀b o,b≠P->H b=some o->H' b=some o
 none:∀b,b<lo->H b=none->H' b=none
theorem Inv.reg{c:Addr}{o:Obj}(I:Inv X pins σ H s)(ho:s.heap.get? c=some o)(hn:H c=none)(hnew:X.s₀.heap.objs.size<=c)(hL:c≠X.env.locals)(hc:∀x d,X.env.cells.lookup x=some d->d≠c)(hp:∀p∈X.pn++pins,p.1≠c):
  Inv X pins σ (upd H c (.frz o (.own 0))) s:=by
 have ne:∀b u,H b=some u->b≠c:=λb u e z=>by rw[z,hn]at e;cases e
 refine⟨I.ok,I.os,I.bare,⟨I.base.keep,I.base.slot,λb ob e n hx=>?_,I.base.there,λb xs e=>?_,λb ob u e=>?_,λb ps e=>?_⟩,I.loc,I.cell,?_,λx d e=>?_,λp hp'=>?_,λa u e=>?_,I.len⟩
 .rw[aO (Zk (Zc (Ze e) hnew))];exact I.base.free b ob e n hx
 .have q:=I.base.tups b xs e
  rw[aO (ne _ _ q)];exact q
 .have q:=I.base.frzs b ob u e
  rw[aO (ne _ _ q)];exact q
 .obtain⟨more,q⟩:=I.base.tbls b ps e
  exact⟨more,by rw[aO (ne _ _ q)];exact q⟩
 .rw[aO (Ne.symm hL)];exact I.free
 .rw[aO (hc x d e)];exact I.freeC x d e
 .obtain⟨a,b,r⟩:=I.pin p hp'
  exact⟨a,by rw[aO (hp p hp')];exact b,r⟩
 .by_cases z:a=c
  .subst z
   rw[cW]at e;cases e
   exact⟨ho,o,ho⟩
  .rw[aO z]at e
   exact(I.hok a u e).stay (λb v _ q=>q) (λb q=>by rw[aO (ne _ _ q)];exact q) λb xs q=>by rw[aO (ne _ _ q)];exact q
theorem tL{P c':Addr}{ps vs:Array Value}{u:Value}{oc:Obj}{h':Heap}{tk:Nat}{pos:Pos}{G:Prop}(I:Inv X pins σ H s)(hP:H P=some (.tbl ps))(ht:TOk H ps)(hge:s.heap.objs.size<=c')(hoc:h'.get? c'=some oc)(hdd:oc.data= .fields vs)(hv:vs[1]? =some u)
  (k:∀b o,b≠P->s.heap.get? b=some o->h'.get? b=some o) (ho:h'.get? P=some { cls:=.none,data:=.fields (ps++ #[rawInt pos.line,rawInt pos.col,.ref c']) })
  (h:xX s.heap.objs.size P ps (ps++ #[rawInt pos.line,rawInt pos.col,.ref c']) H (upd (upd H P (.tbl (ps++ #[rawInt pos.line,rawInt pos.col,.ref c']))) c' (.frz oc (.own 0)))->Inv X pins σ (upd (upd H P (.tbl (ps++ #[rawInt pos.line,rawInt pos.col,.ref c']))) c' (.frz oc (.own 0))) { s with heap:=h',toks:=tk}->G):G:=by
 have lt:=λ{b:Addr}{o:Obj}(e:s.heap.get? b=some o)=>Zc (Ze e) hge
 have cP:P≠c':=Zk (lt (I.hok P _ hP))
 have hn:H c'=none:=I.hok.fresh hge
 generalize hps:ps++ #[rawInt pos.line,rawInt pos.col,.ref c']=ps' at *
 have I1:Inv X pins σ (upd H P (.tbl ps')) { s with heap:=h',toks:=tk}:=I.tbl hP ⟨_,hps.symm⟩ k ho
 have I2:Inv X pins σ (upd (upd H P (.tbl ps')) c' (.frz oc (.own 0))) { s with heap:=h',toks:=tk}:=I1.reg hoc (by rw[aO (Ne.symm cP)];exact hn) (Zl I.sz hge) (Nat.ne_of_gt (Zc I.lt hge))
  (λx d e=>by
   obtain⟨v,o,e2,_⟩:=I.cell x d e
   exact Zk (lt e2)) λp hp=>Zk (lt (I.pin p hp).1)
 have kp:∀b o,b≠P->H b=some o->upd (upd H P (.tbl ps')) c' (.frz oc (.own 0)) b=some o:=λb o hb e=>by
  have hbc:b≠c':=λz=>by rw[z,hn]at e;cases e
  rw[aO hbc,aO hb];exact e
 refine h ⟨by rw[aO cP,cW],⟨_,hps.symm⟩,⟨?_,λp v e=>?_⟩,kp,λb hb e=>?_⟩ I2
 .rw[<-hps]
  have hl:(ps++ #[rawInt pos.line,rawInt pos.col,Value.ref c']).toList=ps.toList++[rawInt pos.line,rawInt pos.col,.ref c']:=by simp
  rw[hl];exact TriplesOk_snoc _ _ _ _ ht.1
 .rw[<-hps]at e
  have hl:(ps++ #[rawInt pos.line,rawInt pos.col,Value.ref c']).toList=ps.toList++[rawInt pos.line,rawInt pos.col,.ref c']:=by simp
  rw[hl]at e
  rcases xx _ ht.1 e with e|e
  .obtain⟨c,o,ws,w,q1,q2,q3⟩:=ht.2 p v e
   exact⟨c,o,ws,w,q1,kp c _ (λz=>by rw[z,hP]at q2;cases q2) q2,q3⟩
  .exact⟨c',oc,vs,u,e,cW,hdd,hv⟩
 .have hbc:b≠c':=Zk (Zc hb hge)
  have hbP:b≠P:=λz=>by rw[z,hP]at e;cases e
  rw[aO hbc,aO hbP];exact e
theorem Ow{c P:Addr}{ps:Array Value}{pos:Pos}{q:Str}{scope:Scope}{Q:Value->Shared->Prop}{A:Around}{E:Value->Shared->Prop}(I:Inv X pins σ H s)(hc:X.env.code= .ref c)(hd:ZB X.base c P)(hP:H P=some (.tbl ps))(ht:TOk H ps)
  (h:∀code s' H' ps',xX s.heap.objs.size P ps ps' H H'->Inv X pins σ H' s'->s'.gens=s.gens->(∀b o,b≠P->s.heap.get? b=some o->s'.heap.get? b=some o)->Q code s'):
  wpAny (model X.prog X.w) A (genexprCode X.env pos q scope) Q E s:=by
 have hd':ZB s.heap c P:=hd.keeps I.bk
 have oP:s.heap.get? P=some (PySem.W.tabObj ps):=I.hok P _ hP
 have hok:s.heap.IsCode c P ps:=hd'.code oP ht.1
 have htab:s.heap.TableAt c P ps:=hd'.tab oP
 cases hnf:codeAmong pos ps.toList with
 |some cv=>
  obtain⟨o,vs,file,tf,flags,tg,inF,text,tt,op,ho,hdd,h11,h2,h7,h9,h10,hop,hpd,htr,hne⟩:=id hok
  unfold genexprCode codeAt
  rw[hc,if_neg (show¬((Value.ref c==Value.none)=true)from Zr)]
  refine Zv (wpAny_fieldsOf ho hdd ?_)
  rw[h11]
  refine Zv (wpAny_fieldsOf hop hpd ?_)
  rw[hnf]
  exact Zx (h cv s H ps ⟨hP,⟨#[],by simp⟩,ht,λ_ _ _ e=>e,λ_ _ e=>e⟩ I rfl λb o _ e=>e)
 |none=>
  refine wpAny_genexprCodeX hc hok htab hnf λc' h' tk hx hge hlt hcode hrec htab' _=>?_
  obtain⟨c2,oc,vs,t,e2,hoc,hdd,hv⟩:=hrec
  cases e2
  exact tL I hP ht hge hoc hdd hv (λb o hb e=>hx b o hb e) htab'.2 λhG I'=>h (.ref c') _ _ _ hG I' rfl λb o hb e=>hx b o hb e
end
def Er(J:It)(g:TG)(te:TE)(σb:St):mL where
 nxt:=λi H Q=>J.go i H/\∀x H',J.yld i H x H'->g x σb H' λσ2 H2=>Fits σb σ2/\te σ2 H2 Q
 fin:=λi H Q=>J.stop i H/\Q H
def tGen(own:List Str)(capI:List Nat)(P:Addr)(wi:TI)(g:TG)(te:TE):rD:=λσ H R=>wi σ H λJ H1=>∃ps,H1 P=some (.tbl ps)/\TOk H1 ps/\
 ∀lo H2 ps',xX lo P ps ps' H1 H2->R (Er J g te (cJ own σ capI)) H2
theorem vh{A:Around}{elt tg iter:Expr}{scope:Scope}{pos:Pos}{it:Addr}{cenv:Env}{l:List Env}(h:A.frames=some l):(A.over (iU elt tg iter scope pos it cenv) []).frames=some (cenv::l):=by
 unfold Around.over
 show pushEnvs (Code.envs (iU elt tg iter scope pos it cenv)) (pushEnvs (envsOf []) A.frames)=_
 rw[h];rfl
theorem Ax{X:Cx}{A':Around}{elt tg iter:Expr}{scope:Scope}{pos:Pos}{it:Addr}{cenv:Env}(hh:A'.handled=none)(hd:A'.depth<=X.A.depth+1)(hu:A'.units<=X.A.units+8)(hg:A'.guards=X.A.guards):
  ∀k,cO (k+1) X.A->cO k (A'.in1.over (iU elt tg iter scope pos it cenv) []):=λk r=>by
 have e1:(A'.in1.over (iU elt tg iter scope pos it cenv) []).depth=A'.depth+1:=rfl
 have e2:(A'.in1.over (iU elt tg iter scope pos it cenv) []).units=A'.units+1+3:=rfl
 have e3:(A'.in1.over (iU elt tg iter scope pos it cenv) []).handled=A'.handled:=rfl
 have:=r.dp
 have:=r.un
 exact⟨e3.trans hh,by rw[e1];omega,by rw[e2];omega,by show A'.guards=some [];rw[hg];exact r.gd⟩
section
variable {X:Cx} {tg iter elt:Expr} {wi:TI} {g:TG} {te:TE} {own cap:List Str} {capI:List Nat} {scope:Scope} {pos:Pos} {P:Addr} {kr:Nat}
theorem Bu(hc:X.calm=true)(hr:cO kr X.A)(B:cH X own cap capI scope)(hown:∀x∈own,(x,NameKind.free)∉scope.names)(hnc:∀y∈scope.names,y.2≠ .cell)(h0:scope.names.lookup (".0":Str)=some NameKind.local)
  (hco:scope.isCoroutine=false) (htb:∃c,X.env.code= .ref c/\ZB X.base c P) (hi:PI X tg iter wi) (hg:∀AG cs C code fp s2 H2,PG (oW X AG own cap scope cs C code fp s2 H2) tg g)
  (he:∀AG cs C code fp s2 H2,(∀k,cO (k+1) X.A->cO k AG)->PE (oW X AG own cap scope cs C code fp s2 H2) elt te) (hs:∀x,genFold iter X.env x=pure x:=by intro _;rfl):
  wj X (Az elt tg iter scope pos) (tGen own capI P wi g te):=by
 intro pins s σ H R I h
 obtain⟨c,hcode,hhd⟩:=htb
 refine wpAny_GeneratorExp_make hco (gV (B.cells I)) hnc h0 B.kind hr.depth ?_ hs
 refine thn (hi pins s σ H _ I h) λv s1 h1=>thn h1 λitv s2 h2=>?_
 obtain⟨it,fp,tn,J,H2,e,I2,T,st2,f2,ps,hP,htr,hR⟩:=h2
 subst e
 refine⟨I2.nolimit,Ow I2 hcode hhd hP htr λcode s4 H4 ps' hG I4 hgens hk4=>?_⟩
 obtain⟨bm,ob,b1,b2,b3,b4,b5,b6⟩:=I4.mod.bmain
 refine wpAny_builtinsFor (bm:=bm) (by rw[I4.ok.glob];exact I4.mod.glob.keeps I4.bk) b1 b2 (I4.bk _ _ b3) b4 b5 b6 ?_
 intro h5 hn5 hs5
 generalize hC:s4.heap.objs.size=C at hn5 hs5 ⊢
 have hCs:s4.heap.objs.size<=C:=Nat.le_of_eq hC
 have hR':=hR _ H4 ps' hG
 have k5:∀b o,s4.heap.get? b=some o->h5.get? b=some o:=λb o e=>hs5.extBut b o (Zk (Zc (Ze e) hCs)) (Zb _ e)
 have sz5:h5.objs.size=C+1:=by rw[hs5.1,Heap.size_push,hC]
 generalize ha:h5.objs.size=a
 have hCa:C<a:=by rw[<-ha,sz5];exact Nat.lt_succ_self _
 generalize hgi:s4.gens.size=gi
 generalize hgo:({ cls:=.type "generator",data:=.fields #[.int (gi:Int) 0,.str "<genexpr>" (s4.toks+1),.str (X.env.qual++"<genexpr>") (s4.toks+1+1)] }:Obj)=gob
 generalize hh6:h5.push gob=h6
 have k6:∀b o,h5.get? b=some o->h6.get? b=some o:=λb o e=>by rw[<-hh6];exact Zb _ e
 have k46:∀b o,s4.heap.get? b=some o->h6.get? b=some o:=λb o e=>k6 b o (k5 b o e)
 have oa6:h6.get? a=some gob:=by rw[<-hh6,<-ha];refine Zf _ ?_;rw[<-hgo];rfl
 have isg:∀{h:Heap},h.get? a=some gob->h.IsGen a gi:=λ{h} e=>⟨gob,.str "<genexpr>" (s4.toks+1),.str (X.env.qual++"<genexpr>") (s4.toks+1+1),e,by rw[<-hgo],by rw[<-hgo],by rw[<-hgo]⟩
 have hfr4:∀b∈fp,H4 b=none:=λb hb=>let⟨o,e,_⟩:=T.obj 0 _ st2 b hb;hG.none b (Ze e) (f2 b hb).1
 have f4:∀b∈fp,jH X pins H4 b:=λb hb=>⟨hfr4 b hb,(f2 b hb).2⟩
 have hbP:∀b∈fp,b≠P:=λb hb z=>by have n2:=(f2 b hb).1;rw[z,hP]at n2;cases n2
 have o4:∀b∈fp,∃o,s4.heap.get? b=some o:=λb hb=>let⟨o,e,_⟩:=T.obj 0 _ st2 b hb;⟨o,hk4 b o (hbP b hb) e⟩
 have st4:tn 0 s4.heap:=T.keep _ _ _ st2 λb hb o e=>hk4 b o (hbP b hb) e
 have hfa:∀b∈fp,b≠a/\b≠C:=λb hb=>let⟨o,e⟩:=o4 b hb
  have l:=Zc (Ze e) hCs
  ⟨Zk (Nat.lt_trans l hCa),Zk l⟩
 generalize hcenv:genEnv scope (cg X.env scope.names []) C code builtinsNs X.env=cenv
 have gk6:GK s4.gens (s4.gens.push (.fresh (genS elt tg iter scope pos it cenv))):=by
  refine⟨AllBare.push I4.bare.bare rfl,λk x e=>?_⟩
  have hlt:k<s4.gens.size:=by
   rcases Nat.lt_or_ge k s4.gens.size with z|z
   .exact z
   .rw[Array.getElem?_eq_none z]at e;cases e
  rw[Array.getElem?_push_lt hlt,<-Array.getElem?_eq_getElem hlt];exact e
 refine⟨a,Er J g te (cJ own σ capI),H4,rfl,I4.grown k46 gk6,?_,hR'⟩
 intro A' hAh hAf hAd hAu hAg
 have gi6:(s4.gens.push (.fresh (genS elt tg iter scope pos it cenv)))[gi]? =some (.fresh (genS elt tg iter scope pos it cenv)):=by rw[<-hgi];simp
 generalize hX':oW X (A'.in1.over (iU elt tg iter scope pos it cenv) []) own cap scope (cg X.env scope.names []) C code fp s4 H4=X'
 have eP:X'.prog=X.prog:=by rw[<-hX'];rfl
 have eW:X'.w=X.w:=by rw[<-hX'];rfl
 have eK:X'.K=X.K:=by rw[<-hX'];rfl
 have eFs:X'.fs=frs X.stack:=by rw[<-hX'];rfl
 have eEx:X'.ex=fp:=by rw[<-hX'];rfl
 have eS:X'.s₀={ s4 with gens:=s4.gens.push .running}:=by rw[<-hX'];rfl
 have eH:X'.H₀=H4:=by rw[<-hX'];rfl
 have eL:X'.env.locals=C:=by rw[<-hX'];rfl
 have eC:X'.calm=true:=by rw[<-hX'];rfl
 have eX:X'.xe=λ_ _=>False:=by rw[<-hX'];rfl
 have ePn:X'.pn=[]:=by rw[<-hX'];rfl
 have eE:X'.env=cenv:=by rw[<-hX',<-hcenv];rfl
 have eA:X'.A=A'.in1.over (iU elt tg iter scope pos it X'.env) []:=by rw[eE,<-hX'];rfl
 have eCo:X'.env.scope.isCoroutine=false:=by rw[<-hX'];exact hco
 have hg':PG X' tg g:=by rw[<-hX'];exact hg _ _ _ _ _ _ _
 have he':PE X' elt te:=by rw[<-hX'];exact he _ _ _ _ _ _ _ (Ax hAh hAd hAu hAg)
 have T':rG X'.prog X'.w X'.K tg J fp it tn:=by rw[eP,eW,eK];exact T
 have pfp:∀{Q:List (Addr×Obj)},(∀p∈Q,a<p.1)->∀p∈(a,gob)::Q,p.1∉fp:=λ{Q} hQ p hp hb=>by
  obtain⟨o,e⟩:=o4 _ hb
  have l:=Zc (Ze e) hCs
  rcases Zi.mp hp with z|z
  .subst z;exact absurd (Nat.lt_trans l hCa) (Nat.lt_irrefl _)
  .exact absurd (Nat.lt_trans (Nat.lt_trans l hCa) (hQ p z)) (Nat.lt_irrefl _)
 have afs:a∉X'.fs:=λhz=>by
  rw[eFs]at hz
  have l4:s4.heap.objs.size<=a:=Zl hCs (Nat.le_of_lt hCa)
  rcases Zi.mp (I4.stkSub a hz)with z|z
  .exact absurd I4.lt (by rw[<-z];exact Nat.not_lt.mpr l4)
  .exact I4.nofs l4 z
 have setg:∀(s:Shared)(x:GenState),(s.setGen gi x).gens=s.gens.setIfInBounds gi x:=λs x=>rfl
 have hSS:∀{Q:List (Addr×Obj)}{i:Nat}{H:Hp}{s:Shared},(∀p∈Q,a<p.1)->Inv X' ((a,gob)::Q) (cJ own σ capI) H s->s.heap.get? a=some gob/\s.gens[gi]? =some .running/\
   ∀(x:GenState)(h':Heap)(tk:Nat),x.bare=true->(∀b o,s.heap.get? b=some o->h'.get? b=some o)->Inv X (pins++Q) σ H { s.setGen gi x with heap:=h',toks:=tk}:=λ{Q i H s} hQ I'=>by
  have pa:=(I'.pin (a,gob) (by simp)).1
  have gr:s.gens[gi]? =some .running:=I'.bare.kept gi .running (by rw[eS,<-hgi];simp)
  refine⟨pa,gr,λx h' tk hx hk=>?_⟩
  have ub:=I'.base
  rw[eFs,eEx,eS,eH]at ub
  have hok:=I'.hok
  rw[eP,eW]at hok
  refine Inv.more ?_ λp hp=>by
   have q:=I'.pin p (by simp[hp])
   have l4:s4.heap.objs.size<=p.1:=Zl hCs (Nat.le_of_lt (Nat.lt_trans hCa (hQ p hp)))
   exact⟨hk _ _ q.1,q.2.1,λz=>absurd I4.lt (by rw[<-z];exact Nat.not_lt.mpr l4),I4.nofs l4,q.2.2.2.2⟩
  refine I4.call' (ch:=fp) (s':={ s.setGen gi x with heap:=h',toks:=tk}) (by have:=I'.os;rw[eS]at this;exact this)
   ⟨λb o e n hb hx'=>hk b o (ub.keep b o e n hb hx'),λb o e n hb hx'=>let⟨sl,q⟩:=ub.slot b o e n hb hx';⟨sl,hk b _ q⟩,ub.free,λb o e hx'=>let⟨o',q⟩:=ub.there b o e hx';⟨o',hk b o' q⟩,ub.tups,ub.frzs,ub.tbls⟩
   (hok.kept hk) ⟨λy hy=>?_,λk y e=>?_⟩ λb hb=>?_
  .have hy':y∈s.gens.setIfInBounds gi x:=hy
   rcases Array.mem_or_eq_of_mem_setIfInBounds hy' with z|z
   .exact I'.bare.bare y z
   .rw[z];exact hx
  .have hlt:k<gi:=by
    rw[<-hgi]
    rcases Nat.lt_or_ge k s4.gens.size with z|z
    .exact z
    .rw[Array.getElem?_eq_none z]at e;cases e
   have q:=I'.bare.kept k y (by rw[eS];show(s4.gens.push .running)[k]? =some y;rw[Array.getElem?_push_lt (by rw[hgi];exact hlt),<-Array.getElem?_eq_getElem (by rw[hgi];exact hlt)];exact e)
   show(s.gens.setIfInBounds gi x)[k]? =some y
   rw[Array.getElem?_setIfInBounds_ne (Nat.ne_of_gt hlt)]
   exact q
  .obtain⟨q0,q1,q2,q3,q4,q5⟩:=f4 b hb
   exact⟨q3,q1,q4,q5⟩
 refine⟨a+1,λQ i H s=>(∀p∈Q,a<p.1)/\Inv X (pins++Q) σ H s/\(∃gs,s.gens[gi]? =some gs/\gs.bare=true/\(gs= .fresh (genS elt tg iter scope pos it X'.env)∨∃k l p cl,gs= .suspended k l (iU elt tg iter scope pos it X'.env) p [] cl/\k (.send .none)= .pure (.again (iU elt tg iter scope pos it X'.env))))/\
   Inv X' ((a,gob)::Q) (cJ own σ capI) H (s.setGen gi .running)/\tn i s.heap/\∀b∈fp,H b=none,uE.mk' (λst=>st.2.1) (λst=>st.1) ?_ ?_ ?_ ?_ ?_ ?_,?_,Nat.lt_succ_self _,?_,λQ i H s st=>⟨gi,isg (hSS (i:=i) st.1 st.2.2.2.1).1⟩⟩
 .
  rintro PP i H s Q E ⟨hQ,I1,⟨gs,hgs,hb,hgs'⟩,Ib,st,fr⟩ ⟨go,step⟩
  have tr:=Et (A1:=A'.in1) (elt:=elt) (tg:=tg) (iter:=iter) (scope:=scope) (pos:=pos) T' eA eC eEx ePn eCo eX hg' he' (pfp hQ) Ib st fr go step
  have oa:=(hSS (i:=i) hQ Ib).1
  rw[eP,eW]at tr
  refine ph hAh I1.nolimit (by have:=hr.dp;omega) (isg oa) hgs (Φ:=λe s'=>∃v k p y H',e= .susp v false [] k (iU elt tg iter scope pos it X'.env) p []/\k (.send .none)= .pure (.again (iU elt tg iter scope pos it X'.env))/\bY y v/\Q y H'/\Inv X' ((a,gob)::PP) (cJ own σ capI) H' s'/\tn (i+1) s'.heap/\∀b∈fp,H' b=none) ?_ ?_ ?_
  .rcases hgs' with e|⟨k,l,p,cl,e,ek⟩
   .subst e
    exact sy (i:=i) T st tr
   .subst e
    show cA _ _ _ (k (.send .none)) [] _ _
    rw[ek]
    exact cA.again rfl tr
  .rintro e s' ⟨v,k,p,y,H',rfl,_⟩
   rfl
  .rintro e s' ⟨v,k,p,y,H',rfl,ek,ry,qy,I',st',fr'⟩
   left
   refine⟨v,false,[],k,_,p,[],rfl,v,y,H',rfl,ry,qy,?_⟩
   obtain⟨oa',gr',mk⟩:=hSS (i:=i) hQ I'
   have e1:((s'.setGen gi (End.susp v false [] k (iU elt tg iter scope pos it X'.env) p []).genState).setGen gi .running)=s':=by
    have hl:gi<s'.gens.size:=by
     rcases Nat.lt_or_ge gi s'.gens.size with z|z
     .exact z
     .rw[Array.getElem?_eq_none z]at gr';cases gr'
    obtain⟨hh,gg,dd,tt,oo⟩:=s'
    show(Shared.mk hh ((gg.setIfInBounds gi _).setIfInBounds gi .running) dd tt oo)=_
    congr 1
    apply Array.ext_getElem?
    intro j
    by_cases hj:gi=j
    .subst hj
     have gr'':gg[gi]? =some .running:=gr'
     have hl':gi<gg.size:=hl
     rw[gr'']
     simp[hl']
    .simp[hj]
   refine⟨hQ,mk _ s'.heap s'.toks rfl λb o e=>e,⟨_,setGen_self gr',rfl,.inr ⟨k,[],p,_,rfl,ek⟩⟩,by rw[e1];exact I',st',fr'⟩
 .
  rintro PP i H s Q E ⟨hQ,I1,⟨gs,hgs,hb,hgs'⟩,Ib,st,fr⟩ ⟨hfin,hq⟩
  have tr:=Es (A1:=A'.in1) (elt:=elt) (tg:=tg) (iter:=iter) (scope:=scope) (pos:=pos) T' eA eC eEx ePn (pfp hQ) Ib st fr hfin
  have oa:=(hSS (i:=i) hQ Ib).1
  rw[eP,eW]at tr
  refine ph hAh I1.nolimit (by have:=hr.dp;omega) (isg oa) hgs (Φ:=λe s'=>e= .ret (.ok .next)/\Inv X' ((a,gob)::PP) (cJ own σ capI) H s') ?_ ?_ ?_
  .rcases hgs' with e|⟨k,l,p,cl,e,ek⟩
   .subst e
    exact sy (i:=i) T st tr
   .subst e
    show cA _ _ _ (k (.send .none)) [] _ _
    rw[ek]
    exact cA.again rfl tr
  .rintro e s' ⟨rfl,_⟩
   rfl
  .rintro e s' ⟨rfl,I'⟩
   right
   obtain⟨oa',gr',mk⟩:=hSS (i:=i) hQ I'
   exact⟨rfl,λh' hk=>⟨rfl,H,hq,mk .finished h' s'.toks rfl hk⟩⟩
 .
  rintro PP i H s h' tk ⟨hQ,I1,hgs,Ib,st,fr⟩ hk
  exact⟨hQ,I1.kept hk,hgs,Ib.kept (s:=s.setGen gi .running) hk,T.keep _ _ _ st λb _ o e=>hk b o e,fr⟩
 .
  rintro PP i H s D o ⟨hQ,I1,hgs,Ib,st,fr⟩ hD ho hn hcell
  have hDa:a<D:=hD
  have hD4:s4.heap.objs.size<=D:=Nat.le_of_lt (Nat.lt_of_le_of_lt hCs (Nat.lt_trans hCa hDa))
  refine⟨λp hp=>?_,?_,hgs,?_,st,fr⟩
  .rcases Zi.mp hp with z|z
   .subst z;exact hDa
   .exact hQ p z
  .refine I1.pins_of λp hp=>?_
   rcases Zm.mp hp with z|z
   .exact I1.pin p (by simp[z])
   .rcases Zi.mp z with z|z
    .subst z
     exact⟨ho,hn,λz=>absurd I4.lt (by rw[<-z];exact Nat.not_lt.mpr hD4),I4.nofs hD4,hcell⟩
    .exact I1.pin p (by simp[z])
  .refine Ib.pins_of λp hp=>?_
   rcases Zi.mp hp with z|z
   .exact Ib.pin p (by simp[z])
   .rcases Zi.mp z with z|z
    .subst z
     refine⟨ho,hn,by rw[eL];exact Nat.ne_of_gt (Nat.lt_trans hCa hDa),λhz=>?_,hcell⟩
     rw[eFs]at hz
     rcases Zi.mp (I4.stkSub D hz)with z|z
     .exact absurd I4.lt (by rw[<-z];exact Nat.not_lt.mpr hD4)
     .exact I4.nofs hD4 z
    .exact Ib.pin p (by simp[z])
 .
  rintro p PP i H s ⟨hQ,I1,hgs,Ib,st,fr⟩
  exact⟨λq hq=>hQ q (ZE _ hq),I1.pins_of λq hq=>I1.pin q (by rcases Zm.mp hq with z|z<;>simp[z]),hgs,Ib.pins_of λq hq=>Ib.pin q (by rcases Zi.mp hq with z|z<;>simp[z]),st,fr⟩
 .
  rintro PP i H s h' tk D ⟨hQ,I1,hgs,Ib,st,fr⟩ hD hn hPD hk
  have hDa:a<D:=hD
  have hDC:C<D:=Nat.lt_trans hCa hDa
  have hD4:s4.heap.objs.size<=D:=Nat.le_of_lt (Nat.lt_of_le_of_lt hCs hDC)
  have l4:∀b,b<s4.heap.objs.size->b≠D:=λb hb=>Zk (Zc hb hD4)
  have cl4:∀x c,X.env.cells.lookup x=some c->c≠D:=λx c e=>let⟨v,q⟩:=I4.cell x c e;l4 c q.lt
  refine⟨hQ,I1.turned hk hn (Ne.symm (l4 _ I4.lt)) (.inr (Zl I4.sz hD4)) cl4 (λp hp=>?_),hgs,Ib.turned (s:=s.setGen gi .running) hk hn (by rw[eL];exact Nat.ne_of_gt hDC) (.inr (by rw[eS];exact hD4)) (λx c e=>?_) (λp hp=>?_),T.keep _ _ _ st λb hb o e=>hk b o ?_ e,fr⟩
  .rcases Zm.mp hp with z|z
   .exact l4 _ (Ze (I4.pin p (by simp[z])).1)
   .rcases Zm.mp z with z|z
    .exact l4 _ (Ze (I4.pin p (by simp[z])).1)
    .exact hPD p z
  .obtain⟨v,q⟩:=Ib.cell x c e
   have e':(cg X.env scope.names []).lookup x=some c:=by rw[<-hX']at e;exact e
   exact cl4 x c ((jw (Zt e')).elim (λz=>by simp at z) id)
  .rw[ePn,List.nil_append]at hp
   rcases Zi.mp hp with z|z
   .subst z;exact Zk hDa
   .exact hPD p z
  .obtain⟨o',e'⟩:=o4 b hb
   exact l4 b (Ze e')
 .
  have Ib0:Inv X' [] (cJ own σ capI) H4 { s4 with heap:=h6,toks:=s4.toks+1+1+1,gens:=s4.gens.push .running}:=by
   rw[<-hX']
   refine I4.gen B hown hnc f4 o4 k46 hCs (hn5.at' λo e=>k6 _ o e) ?_ hAh
   rw[hcenv]
   exact vh hAf
  refine⟨λp hp=>absurd hp (by simp),by rw[List.append_nil];exact(I4.grown k46 gk6:Inv X pins σ H4 _),⟨_,gi6,rfl,.inl (by rw[eE])⟩,?_,T.keep _ _ _ st4 λb _ o e=>k46 b o e,hfr4⟩
  have e1:(Shared.setGen { s4 with gens:=s4.gens.push (.fresh (genS elt tg iter scope pos it cenv)),toks:=s4.toks+1+1+1,heap:=h6} gi .running)={ s4 with heap:=h6,toks:=s4.toks+1+1+1,gens:=s4.gens.push .running}:=by
   show Shared.mk _ ((s4.gens.push _).setIfInBounds gi .running) _ _ _=_
   congr 1
   rw[<-hgi]
   apply Array.ext_getElem?
   intro j
   by_cases hj:s4.gens.size=j
   .subst hj;simp
   .simp[hj,Array.getElem?_push,Ne.symm hj]
  rw[e1]
  exact Ib0.pins_of λp hp=>by
   obtain rfl:p=(a,gob):=by simpa using hp
   refine⟨oa6,?_,by rw[eL];exact Nat.ne_of_gt hCa,afs,λv z=>?_⟩
   .exact I4.hok.fresh (Zl hCs (Nat.le_of_lt hCa))
   .rw[<-hgo]at z;cases z
 .show a+1<=h6.objs.size
  rw[<-hh6,Heap.size_push,ha]
  exact Zg _
end
structure Two(J1:It)(g1 g2:TG)(tt1 tt2:TT)(wi2:TI)(te:TE)(σb:St)(Y:V->Nat->St->It->Nat->Hp->Prop)(E:Hp->Prop)(O:Nat->Nat->Hp->Prop)(N:Nat->St->It->Nat->Nat->Hp->Prop):Prop where
 out:∀i m H,O i m H->(J1.stop i H/\E H)∨(J1.go i H/\∀x H',J1.yld i H x H'->g1 x σb H' λσ1 H2=>Fits σb σ1/\tt1 σ1 H2 λb H3=>
  if b=true then wi2 σ1 H3 λJ2 H4=>∃m',m'<m/\N (i+1) σ1 J2 0 m' H4 else∃m',m'<m/\O (i+1) m' H3)
 inn:∀i σ1 J2 j m H,N i σ1 J2 j m H->(J2.stop j H/\∃m',m'<m/\O i m' H)∨(J2.go j H/\∀x H',J2.yld j H x H'->g2 x σ1 H' λσ2 H2=>Fits σ1 σ2/\tt2 σ2 H2 λb H3=>
  if b=true then te σ2 H3 λy H4=>Y y i σ1 J2 (j+1) H4 else∃m',m'<m/\N i σ1 J2 (j+1) m' H3)
abbrev S2:=Option (Nat×St×It×Nat)
section
variable {X:Cx} {tg iter elt:Expr} {ifs:List Expr} {wi:TI} {g:TG} {tt:TT} {te:TE} {own cap:List Str} {capI:List Nat} {scope:Scope} {pos:Pos}
theorem Jb{i₀:Nat}{x₀:Str}{px₀ spos:Pos}(hN:X.N.Nodup)(hi₀:X.N[i₀]? =some x₀)(hx₀:Loc X.env.scope x₀)(hc:X.calm=true)(B:cH X own cap capI scope)(hown:∀x∈own,(x,NameKind.free)∉scope.names)(hi:PI X tg iter wi)
  (hg:∀cs C fp s2 H2,PG (cL X own cap scope cs C fp s2 H2) tg g) (ht:∀cs C fp s2 H2,PIf (cL X own cap scope cs C fp s2 H2) ifs tt) (he:∀cs C fp s2 H2,PE (cL X own cap scope cs C fp s2 H2) elt te)
  (hs:∀x,foldedSetIterable iter X.env x=pure x:=by intro _;rfl) (hsw:swapsWith (.ListComp elt [⟨tg,iter,ifs,0⟩] scope pos) (some (.Name x₀ px₀)) spos.line X.env=pure true:=by rfl)
  (hf₀:X.fn x₀=true∨X.env.scope.names.lookup x₀=some .local:=by first|exact .inl rfl|exact .inr rfl|assumption):
  PS X (.Assign [.Name x₀ px₀] (.ListComp elt [⟨tg,iter,ifs,0⟩] scope pos) spos) (Li (tLC own capI wi g tt te) (Eg i₀)):=by
 intro pins s σ H D I h
 rw[exec_Assign_Name_used _ _ _ _ hsw]
 refine Zv (wpAny_standAt (Zv ?_))
 show wpAny _ X.A (do let _<-comprehension (.ListComp elt [⟨tg,iter,ifs,0⟩] scope pos) scope X.env _ (newList []) false (eval iter X.env) (some (assign (.Name x₀ px₀) X.env))) _ _ s
 refine Zv (Zy (wpAny_comprehension_free (use:=some (assign (.Name x₀ px₀) X.env)) (Q:=λ_ s'=>SP X pins D .next s') (cl:=cg X.env scope.names []) rfl hs (gV (B.cells I)) B.kind (λy hy e=>cM B.nd (by rw[<-e];exact hy)) ?_) (λ_ s' hq=>Zx (Zx hq)) λ_ _ e=>e)
 refine thn (hi pins s σ H _ I h) λv s1 h1=>thn h1 λitv s2 h2=>?_
 obtain⟨it,fp,tn,J,H2,e,I2,T,st2,f2,W,⟨m0,w0⟩,turn⟩:=h2
 subst e
 refine Zz (mG ?_)
 dsimp only
 generalize hl:s2.heap.objs.size=l
 generalize hh0:s2.heap.push { cls:=.type "list",dict:=none,data:=.seq ([]:List Value).toArray}=h0
 have hsz0:h0.objs.size=l+1:=by rw[<-hh0,Heap.size_push,hl]
 generalize hC:h0.objs.size=C
 generalize hh1:pushCells (h0.push { cls:=.type (if(some X.env).isSome=true then "dict" else "frame"),data:=.dict #[] }) scope.names=h1
 have hl0:h0.get? l=some (bQ [] 0):=by rw[<-hh0,<-hl];exact Zf _ rfl
 have hk0:∀b o,s2.heap.get? b=some o->h0.get? b=some o:=λb o e=>by rw[<-hh0];exact Zb _ e
 have hlC:l≠C:=by rw[<-hC,hsz0];exact Zk (Nat.lt_succ_self _)
 have hls:s2.heap.objs.size<=l:=Nat.le_of_eq hl
 have hCs:s2.heap.objs.size<=C:=by rw[<-hC,hsz0,hl];exact Nat.le_succ _
 have ho2:∀b∈fp,∃o,s2.heap.get? b=some o:=λb hb=>let⟨o,e,_⟩:=T.obj 0 _ st2 b hb;⟨o,e⟩
 have hfl:∀b∈fp,b≠l/\b≠C:=λb hb=>let⟨o,e⟩:=ho2 b hb;⟨Zk (Zc (Ze e) hls),Zk (Zc (Ze e) hCs)⟩
 have hl1:h1.get? l=some (bQ [] 0):=by rw[<-hh1];exact pushCells_keeps _ _ _ _ (Zb _ hl0)
 have keep1:∀b o,s2.heap.get? b=some o->h1.get? b=some o:=λb o e=>by rw[<-hh1];exact pushCells_keeps _ _ _ _ (Zb _ (hk0 b o e))
 generalize hcs:cellsFrom (C+1) scope.names (cg X.env scope.names [])=cs
 have I0:Inv (cL X own cap scope cs C fp s2 H2) [] (cJ own σ capI) H2 { s2 with heap:=h1}:=by
  have q:=I2.comp (tk:=s2.toks) B hown f2 ho2 hk0 (by rw[hsz0,hl];exact Nat.le_succ _) hC.symm hh1.symm
  rw[hcs]at q
  exact q
 have henv:(newEnv scope C X.env.globals cs X.env.qual none .none (some X.env) builtinsNs)={ compEnvC scope cs C X.env with scope:=scope}:=rfl
 have henv2:({ newEnv scope C X.env.globals cs X.env.qual none .none (some X.env) builtinsNs with scope:=relabel scope X.env}:Env)=(cL X own cap scope cs C fp s2 H2).env:=rfl
 generalize hX':cL X own cap scope cs C fp s2 H2=X' at I0 henv2
 have eP:X'.prog=X.prog:=by rw[<-hX'];rfl
 have eW:X'.w=X.w:=by rw[<-hX'];rfl
 have eK:X'.K=X.K:=by rw[<-hX'];rfl
 have eA:X'.A=X.A:=by rw[<-hX'];rfl
 have eFs:X'.fs=frs X.stack:=by rw[<-hX'];rfl
 have eEx:X'.ex=fp:=by rw[<-hX'];rfl
 have eS:X'.s₀=s2:=by rw[<-hX'];rfl
 have eH:X'.H₀=H2:=by rw[<-hX'];rfl
 have eL:X'.env.locals=C:=by rw[<-hX'];rfl
 have eC:X'.calm=true:=by rw[<-hX'];exact hc
 have eX:X'.xe=λ_ _=>False:=by rw[<-hX'];rfl
 have ePn:X'.pn=[]:=by rw[<-hX'];rfl
 have hg':PG X' tg g:=by rw[<-hX'];exact hg cs C fp s2 H2
 have ht':PIf X' ifs tt:=by rw[<-hX'];exact ht cs C fp s2 H2
 have he':PE X' elt te:=by rw[<-hX'];exact he cs C fp s2 H2
 have stat:∀{H':Hp}{P:List (Addr×Obj)},X'.Ok->(∀b∈fp,H' b=none)->(∀p∈P,p.1=l)->∀b∈fp,jH X' P H' b:=λ{H' P} ok hn hP b hb=>by
  refine⟨hn b hb,?_,?_,.inl (by rw[eEx];exact hb),?_,λp hp=>?_⟩
  .exact(ok.exf b (by rw[eEx];exact hb)).1
  .exact ok.exfs b (by rw[eEx];exact hb)
  .exact(ok.exf b (by rw[eEx];exact hb)).2
  .rw[ePn,List.nil_append]at hp
   rw[hP p hp]
   exact Ne.symm (hfl b hb).1
 have lfs:X'.Ok->l∉X'.fs:=λok hz=>by
  rw[eFs]at hz
  exact(Inv.nofs (X:=X) I2 hls) ((Zi.mp (I2.stkSub l hz)).elim (λz=>absurd I2.lt (by rw[<-z,hl];exact Nat.lt_irrefl _)) id)
 have pinL:∀{σ':St}{H':Hp}{s':Shared}{us:List Value}{k:Nat},Inv X' [] σ' H' s'->s'.heap.get? l=some (bQ us k)->H' l=none->Inv X' [(l,bQ us k)] σ' H' s':=λ{σ' H' s' us k} I' e n=>
  I'.pins_of λp hp=>by
   obtain rfl:p=(l,bQ us k):=by simpa using hp
   exact⟨e,n,by rw[eL];exact hlC,lfs I'.ok,λv z=>by cases z⟩
 have loop:∀s3:Shared,s3={ s2 with heap:=h1}->codeAny (model X.prog X.w) X.A (.compLoop (.ListComp elt [⟨tg,iter,ifs,0⟩] scope pos) 0 (.ref it) (.ref l) X'.env) (compPost (model X.prog X.w) X.A X.xe (some (assign (.Name x₀ px₀) X.env)) (λ_ s'=>SP X pins D .next s') (.ref l) C) s3:=by
  rintro s3 rfl
  refine sU (E':=λ_ _=>False) (λn s'=>∃i ys us k H',Inv X' [] (cJ own σ capI) H' s'/\tn i s'.heap/\(∀b∈fp,H' b=none)/\W i n ys H'/\aY ys us/\s'.heap.get? l=some (bQ us k)/\H' l=none/\ys.length<=sizeLine) (λ_ _ z=>z.elim) ?_ m0
   ⟨0,[],[],0,H2,I0,T.keep _ _ _ st2 λb _ o e=>keep1 b o e,λb hb=>(f2 b hb).1,w0,.nil,hl1,I2.hok.fresh hls,Nat.zero_le _⟩
  rintro n s3 ⟨i,ys,us,k,H3,I3,st3,fr3,w3,v3,o3,n3,z3⟩
  have I3p:=pinL I3 o3 n3
  have P1:∀p∈[(l,bQ us k)],p.1=l:=λp hp=>by
   obtain rfl:p=(l,bQ us k):=by simpa using hp
   rfl
  rcases turn i n ys H3 w3 with⟨stop,qn⟩|⟨go,hlt,step⟩
  .have q:=T.done X' eP eW eK eC i _ s3 _ H3 (λ_ _=>False) I3p (stat I3.ok fr3 P1) st3 stop
   rw[eA]at q
   refine Zy q (λr s4 ⟨hr,I4⟩=>?_) λ_ _ z=>z
   subst hr
   have pl:=I4.pin (l,bQ us k) (by simp)
   obtain⟨m4,hn4,_⟩:=I4.loc
   rw[eL]at hn4
   have fC:H3 C=none:=by have:=I4.free;rw[eL]at this;exact this
   have IE:Inv X pins σ (upd H3 l (.lst ys)) s4:=by
    have:=I2.compEnd f2 eP eW eFs eEx eS eH eL I4 hls hlC hCs pl.1 n3 v3 z3 (Heap.SameBut.refl C s4.heap)
    exact this
   show wpAny _ X.A (assign (.Name x₀ px₀) X.env (.ref l)) _ _ s4
   refine wpAny_assign_Name (sZ IE hN hi₀ hx₀ (v:=.ref l) rfl (λs5 I5 ⟨a,sa,ha⟩=>?_) hf₀)
   have hnL:C≠X.env.locals:=Nat.ne_of_gt (Zc I2.lt hCs)
   have hnc:∀y c,X.env.cells.lookup y=some c->c≠C:=λy c e=>by
    obtain⟨v,q⟩:=I2.cell y c e
    exact Zk (Zc q.lt hCs)
   have haC:C≠a:=by
    rcases ha with q|q
    .rw[q];exact hnL
    .exact Ne.symm (hnc _ _ q)
   obtain⟨o4,es4,ep4,ho4,r4⟩:=hn4
   refine⟨m4,⟨o4,es4,ep4,(sa.2 C haC).trans ho4,r4⟩,λh' sb=>⟨_,_,?_,qn l n3⟩⟩
   refine I5.turned (t':=s5.toks) (it:=C) (λb o hb e=>(sb.2 b hb).trans e) (by rw[aO (Ne.symm hlC)];exact fC) hnL (.inr (Zl I2.sz hCs)) hnc λp hp=>?_
   exact Zk (Zc (Ze (I2.pin p hp).1) hCs)
  .have q:=T.item X' eP eW eK eC i _ s3 _ H3 (λ_ _=>False) I3p (stat I3.ok fr3 P1) st3 go
   rw[eA]at q
   refine Zy q (λr s4 ⟨u,hr,h4⟩=>?_) λ_ _ z=>z
   subst hr
   refine Zy h4 (λ_ s5 ⟨x,H5,I5,r5,y5,st5,fr5⟩=>?_) λ_ _ z=>z
   have I5':=I5.pinned (stat I5.ok fr5 P1) (T.obj _ _ st5)
   have a1:=hg' _ s5 _ H5 x u _ I5' r5 (step x H5 y5)
   rw[eP,eW,eA,eX]at a1
   refine Zy a1 (λ_ s6 ⟨σ6,H6,I6,ft6,q6⟩=>?_) λ_ _ z=>z
   have a2:=ht' _ s6 σ6 H6 _ I6 q6
   rw[eP,eW,eA,eX]at a2
   refine Zy a2 (λok s7 ⟨H7,I7,q7⟩=>?_) λ_ _ z=>z
   have back:∀{H8:Hp}{s8:Shared},Inv X' ([(l,bQ us k)]++oH fp s5.heap) σ6 H8 s8->Inv X' [] (cJ own σ capI) H8 s8/\tn (i+1) s8.heap/\(∀b∈fp,H8 b=none)/\s8.heap.get? l=some (bQ us k)/\H8 l=none:=λ{H8 s8} I8=>by
    have pl:=I8.pin (l,bQ us k) (by simp)
    refine⟨(I8.weak ft6.1.symm ft6.2).pins_of λp hp=>absurd hp (by simp),T.keep _ _ _ st5 λb hb o e=>?_,λb hb=>?_,pl.1,pl.2.1⟩
    .exact(I8.pin (b,o) (Zn _ (Zn _ (dZ hb e)))).1
    .obtain⟨o,e,d⟩:=T.obj _ _ st5 b hb
     exact(I8.pin (b,o) (Zn _ (Zn _ (dZ hb e)))).2.1
   cases ok with
   |false=>
    rw[if_neg Zr]
    rw[if_neg Zr]at q7
    obtain⟨m',hm,w7⟩:=q7
    obtain⟨I8,st8,fr8,o8,n8⟩:=back I7
    exact⟨m',hm,i+1,ys,us,k,H7,I8,st8,fr8,w7,v3,o8,n8,z3⟩
   |true=>
    rw[if_pos rfl]
    rw[if_pos rfl]at q7
    have a3:=he' _ s7 σ6 H7 _ I7 q7
    rw[eP,eW,eA,eX]at a3
    refine Zy a3 (λyv s8 ⟨y,H8,I8',r8,m',hm,w8⟩=>?_) λ_ _ z=>z
    obtain⟨I8,st8,fr8,o8,n8⟩:=back I8'
    refine append_at (hsz:=by show us.toArray.size<=sizeLine;rw[Zd,<-v3.length];exact z3) o8 λh9 sb9 o9=>?_
    have I9:Inv X' [] (cJ own σ capI) H8 { s8 with heap:=h9}:=I8.turned (t':=s8.toks) (λb o hb e=>(sb9.2 b hb).trans e) n8 (by rw[eL];exact hlC) (.inr (by rw[eS];exact hls)) (λx c e=>by
     rintro rfl
     obtain⟨v',ho',hd',hd''⟩:=I8.cell x c e
     rw[o8]at hd'
     cases hd'
     cases hd'') (λp hp=>by rw[ePn]at hp;exact absurd hp (by simp))
    refine⟨m',hm,i+1,ys++[y],us++[yv],k+1,H8,I9,T.keep _ _ _ st8 λb hb o e=>(sb9.2 b (hfl b hb).1).trans e,fr8,w8,v3.append (.cons r8 .nil),?_,n8,?_⟩
    .rw[o9]
     simp[bQ]
    .rw[ZG]
     exact hlt
 have T0:=T.keep 0 s2.heap h1 st2 λb _ o e=>keep1 b o e
 rw[henv2]
 exact codeAny_compStart_list (loop _ rfl) (T.self X.A 0 _ _ _ T0 (loop _ rfl))
end
end L2
namespace L3
open PySem PySem.Spec PyProof.Rows L2
inductive D where
 |non|bl (b:Bool)|int (i:Int)|str (x:Str)|tup (ds:List D)|lst (ds:List D)|ro (ds:List D)|dic (kvs:List (Key×D))|cell (n:Nat)
abbrev Mu:=List (Option (List D))
abbrev En:=List (Option D)
mutual
def bc(K:Zw)(F:Hp)(ad:List Addr):D->V->Prop
 | .non,v=>v= .non
 | .bl b,v=>v= .bl b
 | .int i,v=>v= .int i
 | .str x,v=>v= .str x
 | .tup ds,v=>∃a xs,v= .ref a/\SqT K F a xs/\aC K F ad ds xs
 | .lst ds,v=>∃a xs,v= .ref a/\F a=some (.lst xs)/\aC K F ad ds xs
 | .ro ds,v=>∃a xs,v= .ref a/\SqL K F a xs/\aC K F ad ds xs
 | .dic kvs,v=>∃a ps,v= .ref a/\F a=some (.dK ps)/\ie K F ad kvs ps
 | .cell n,v=>∃a,v= .ref a/\ad[n]? =some a
def aC(K:Zw)(F:Hp)(ad:List Addr):List D->List V->Prop
 | [],vs=>vs=[]
 |d::ds,vs=>∃u us,vs=u::us/\bc K F ad d u/\aC K F ad ds us
def ie(K:Zw)(F:Hp)(ad:List Addr):List (Key×D)->List (Key×V)->Prop
 | [],vs=>vs=[]
 |p::ds,vs=>∃u us,vs=u::us/\(u.1=p.1/\bc K F ad p.2 u.2)/\ie K F ad ds us
end
def lW(a b:List Addr):Prop:=∀(i:Nat) x,a[i]? =some x->b[i]? =some x
theorem lW.refl(a:List Addr):lW a a:=λ_ _ e=>e
theorem lW.trans{a b c:List Addr}(x:lW a b)(y:lW b c):lW a c:=λi z e=>y i z (x i z e)
theorem SqT.mono{K:Zw}{F F':Hp}{a:Addr}{xs:List V}(s:jW F F')(h:SqT K F a xs):SqT K F' a xs:=by
 rcases h with(h|⟨o,h⟩)|h
 .exact .inl (.inl (s _ _ h))
 .exact .inl (.inr ⟨o,s _ _ h⟩)
 .exact .inr h
theorem SqL.mono{K:Zw}{F F':Hp}{a:Addr}{xs:List V}(s:jW F F')(h:SqL K F a xs):SqL K F' a xs:=by
 rcases h with(h|⟨o,h⟩)|h
 .exact .inl (.inl (s _ _ h))
 .exact .inl (.inr ⟨o,s _ _ h⟩)
 .exact .inr h
section
variable {K:Zw} {F F':Hp} {ad ad':List Addr}
mutual
theorem bc.mono(s:jW F F')(l:lW ad ad'):∀(d:D)(v:V),bc K F ad d v->bc K F' ad' d v
 | .non,v,h=>by unfold bc at h ⊢;exact h
 | .bl _,v,h=>by unfold bc at h ⊢;exact h
 | .int _,v,h=>by unfold bc at h ⊢;exact h
 | .str _,v,h=>by unfold bc at h ⊢;exact h
 | .tup ds,v,h=>by
  unfold bc at h ⊢
  obtain⟨a,xs,e,q,r⟩:=h
  exact⟨a,xs,e,SqT.mono s q,aC.mono s l ds xs r⟩
 | .lst ds,v,h=>by
  unfold bc at h ⊢
  obtain⟨a,xs,e,q,r⟩:=h
  exact⟨a,xs,e,s _ _ q,aC.mono s l ds xs r⟩
 | .ro ds,v,h=>by
  unfold bc at h ⊢
  obtain⟨a,xs,e,q,r⟩:=h
  exact⟨a,xs,e,SqL.mono s q,aC.mono s l ds xs r⟩
 | .dic kvs,v,h=>by
  unfold bc at h ⊢
  obtain⟨a,ps,e,q,r⟩:=h
  exact⟨a,ps,e,s _ _ q,ie.mono s l kvs ps r⟩
 | .cell n,v,h=>by
  unfold bc at h ⊢
  obtain⟨a,e,q⟩:=h
  exact⟨a,e,l _ _ q⟩
theorem aC.mono(s:jW F F')(l:lW ad ad'):∀(ds:List D)(vs:List V),aC K F ad ds vs->aC K F' ad' ds vs
 | [],vs,h=>by unfold aC at h ⊢;exact h
 |d::ds,vs,h=>by
  unfold aC at h ⊢
  obtain⟨u,us,e,p,r⟩:=h
  exact⟨u,us,e,bc.mono s l d u p,aC.mono s l ds us r⟩
theorem ie.mono(s:jW F F')(l:lW ad ad'):∀(ds:List (Key×D))(vs:List (Key×V)),ie K F ad ds vs->ie K F' ad' ds vs
 | [],vs,h=>by unfold ie at h ⊢;exact h
 |p::ds,vs,h=>by
  unfold ie at h ⊢
  obtain⟨u,us,e,⟨p1,p2⟩,r⟩:=h
  exact⟨u,us,e,⟨p1,bc.mono s l p.2 u.2 p2⟩,ie.mono s l ds us r⟩
end
theorem aC.nil:aC K F ad [] []:=by unfold aC;rfl
theorem aC.cons{d:D}{v:V}{ds:List D}{vs:List V}(h:bc K F ad d v)(r:aC K F ad ds vs):aC K F ad (d::ds) (v::vs):=by unfold aC;exact⟨v,vs,rfl,h,r⟩
theorem aC.length:∀{ds:List D}{vs:List V},aC K F ad ds vs->ds.length=vs.length
 | [],vs,h=>by unfold aC at h;subst h;rfl
 |d::ds,vs,h=>by
  unfold aC at h
  obtain⟨u,us,rfl,_,r⟩:=h
  rw[ZH,ZH,aC.length r]
theorem aC.get:∀{ds:List D}{vs:List V}{i:Nat}{d:D},aC K F ad ds vs->ds[i]? =some d->∃v,vs[i]? =some v/\bc K F ad d v
 | [],_,_,_,_,e=>by simp at e
 |d::ds,vs,0,x,h,e=>by
  unfold aC at h
  obtain⟨u,us,rfl,p,r⟩:=h
  simp at e;subst e
  exact⟨u,rfl,p⟩
 |d::ds,vs,i+1,x,h,e=>by
  unfold aC at h
  obtain⟨u,us,rfl,p,r⟩:=h
  obtain⟨v,e1,e2⟩:=aC.get (i:=i) r (by simpa using e)
  exact⟨v,by simpa using e1,e2⟩
theorem aC.get':∀{ds:List D}{vs:List V}{i:Nat}{v:V},aC K F ad ds vs->vs[i]? =some v->∃d,ds[i]? =some d/\bc K F ad d v
 | [],vs,i,v,h,e=>by unfold aC at h;subst h;simp at e
 |d::ds,vs,0,x,h,e=>by
  unfold aC at h
  obtain⟨u,us,rfl,p,r⟩:=h
  simp at e;subst e
  exact⟨d,rfl,p⟩
 |d::ds,vs,i+1,x,h,e=>by
  unfold aC at h
  obtain⟨u,us,rfl,p,r⟩:=h
  obtain⟨y,e1,e2⟩:=aC.get' (i:=i) r (by simpa using e)
  exact⟨y,by simpa using e1,e2⟩
theorem aC.append:∀{ds es:List D}{vs us:List V},aC K F ad ds vs->aC K F ad es us->aC K F ad (ds++es) (vs++us)
 | [],es,vs,us,h,r=>by unfold aC at h;subst h;exact r
 |d::ds,es,vs,us,h,r=>by
  unfold aC at h
  obtain⟨u,ws,rfl,p,q⟩:=h
  exact aC.cons p (aC.append q r)
theorem aC.drop:∀{ds:List D}{vs:List V}(n:Nat),aC K F ad ds vs->aC K F ad (ds.drop n) (vs.drop n)
 |ds,vs,0,h=>h
 | [],vs,n+1,h=>by unfold aC at h;subst h;exact aC.nil
 |d::ds,vs,n+1,h=>by
  unfold aC at h
  obtain⟨u,ws,rfl,p,q⟩:=h
  exact aC.drop n q
theorem aC.take:∀{ds:List D}{vs:List V}(n:Nat),aC K F ad ds vs->aC K F ad (ds.take n) (vs.take n)
 |ds,vs,0,h=>aC.nil
 | [],vs,n+1,h=>by unfold aC at h;subst h;exact aC.nil
 |d::ds,vs,n+1,h=>by
  unfold aC at h
  obtain⟨u,ws,rfl,p,q⟩:=h
  exact aC.cons p (aC.take n q)
theorem aC.reverse:∀{ds:List D}{vs:List V},aC K F ad ds vs->aC K F ad ds.reverse vs.reverse
 | [],vs,h=>by unfold aC at h;subst h;exact aC.nil
 |d::ds,vs,h=>by
  unfold aC at h
  obtain⟨u,ws,rfl,p,q⟩:=h
  rw[List.reverse_cons,List.reverse_cons]
  exact aC.append (aC.reverse q) (aC.cons p aC.nil)
theorem aC.two{d e:D}{vs:List V}(h:aC K F ad [d,e] vs):∃u v,vs=[u,v]/\bc K F ad d u/\bc K F ad e v:=by
 unfold aC at h
 obtain⟨u,us,rfl,p,h⟩:=h
 unfold aC at h
 obtain⟨v,ws,rfl,q,h⟩:=h
 unfold aC at h
 subst h
 exact⟨u,v,rfl,p,q⟩
theorem aC.one{d:D}{vs:List V}(h:aC K F ad [d] vs):∃u,vs=[u]/\bc K F ad d u:=by
 unfold aC at h
 obtain⟨u,us,rfl,p,h⟩:=h
 unfold aC at h
 subst h
 exact⟨u,rfl,p⟩
theorem aC.zero{vs:List V}(h:aC K F ad [] vs):vs=[]:=by unfold aC at h;exact h
end
structure Wd where
 H:Hp
 ad:List Addr
 mu:Mu
def kh(ad:List Addr)(mu:Mu)(b:Addr):Prop:=∃(i:Nat)(ds:List D),ad[i]? =some b/\mu[i]? =some (some ds)
open Classical in
def Wd.fz(tb:List Addr)(W:Wd):Hp:=λb=>if kh W.ad W.mu b∨b∈tb then none else W.H b
abbrev Den(K:Zw)(tb:List Addr)(W:Wd):D->V->Prop:=bc K (W.fz tb) W.ad
abbrev cG(K:Zw)(tb:List Addr)(W:Wd):List D->List V->Prop:=aC K (W.fz tb) W.ad
structure WOk(K:Zw)(tb:List Addr)(W:Wd):Prop where
 len:W.ad.length=W.mu.length
 cont:∀(i:Nat) a ds,W.ad[i]? =some a->W.mu[i]? =some (some ds)->∃xs,W.H a=some (.lst xs)/\cG K tb W ds xs
 inj:∀(i j:Nat) a ds es,W.ad[i]? =some a->W.ad[j]? =some a->W.mu[i]? =some (some ds)->W.mu[j]? =some (some es)->i=j
 tab:∀P∈tb,∃ps,W.H P=some (.tbl ps)/\TOk W.H ps
structure Le(tb:List Addr)(W W':Wd):Prop where
 same:jW (W.fz tb) (W'.fz tb)
 ad:lW W.ad W'.ad
theorem Le.refl{tb:List Addr}(W:Wd):Le tb W W:=⟨jW.refl _,lW.refl _⟩
theorem Le.trans{tb:List Addr}{W W1 W2:Wd}(a:Le tb W W1)(b:Le tb W1 W2):Le tb W W2:=⟨a.same.trans b.same,a.ad.trans b.ad⟩
section
variable {K:Zw} {tb:List Addr} {W W':Wd} {d:D} {v:V} {ds:List D} {vs:List V}
theorem Den.mono'(h:Den K tb W d v)(l:Le tb W W'):Den K tb W' d v:=bc.mono l.same l.ad d v h
theorem cG.mono'(h:cG K tb W ds vs)(l:Le tb W W'):cG K tb W' ds vs:=aC.mono l.same l.ad ds vs h
theorem cR{b:Addr}{o:HO}(h:W.fz tb b=some o):W.H b=some o/\¬kh W.ad W.mu b/\b∉tb:=by
 unfold Wd.fz at h
 split at h
 .cases h
 .rename_i q
  exact⟨h,λz=>q (.inl z),λz=>q (.inr z)⟩
theorem my{b:Addr}(h1:¬kh W.ad W.mu b)(h2:b∉tb):W.fz tb b=W.H b:=by
 unfold Wd.fz
 rw[if_neg]
 rintro(z|z)
 .exact h1 z
 .exact h2 z
theorem SqT.fz{a:Addr}{xs:List V}(h:SqT K (W.fz tb) a xs):SqT K W.H a xs:=by
 rcases h with(h|⟨o,h⟩)|h
 .exact .inl (.inl (cR h).1)
 .exact .inl (.inr ⟨o,(cR h).1⟩)
 .exact .inr h
theorem SqL.fz{a:Addr}{xs:List V}(h:SqL K (W.fz tb) a xs):SqL K W.H a xs:=by
 rcases h with(h|⟨o,h⟩)|h
 .exact .inl (.inl (cR h).1)
 .exact .inl (.inr ⟨o,(cR h).1⟩)
 .exact .inr h
theorem WOk.live(ok:WOk K tb W){b:Addr}(h:kh W.ad W.mu b):∃xs,W.H b=some (.lst xs):=by
 obtain⟨i,ds,e1,e2⟩:=h
 obtain⟨xs,e,_⟩:=ok.cont i b ds e1 e2
 exact⟨xs,e⟩
theorem WOk.alloc(ok:WOk K tb W){p:Addr}{o:HO}(hp:W.H p=none):WOk K tb ⟨upd W.H p o,W.ad,W.mu⟩/\Le tb W ⟨upd W.H p o,W.ad,W.mu⟩/\(Wd.fz tb ⟨upd W.H p o,W.ad,W.mu⟩) p=some o:=by
 have nl:¬kh W.ad W.mu p:=λz=>by obtain⟨xs,e⟩:=ok.live z;rw[hp]at e;cases e
 have nt:p∉tb:=λz=>by obtain⟨ps,e,_⟩:=ok.tab p z;rw[hp]at e;cases e
 have le:Le tb W ⟨upd W.H p o,W.ad,W.mu⟩:=⟨λb u e=>by
  obtain⟨e1,e2,e3⟩:=cR e
  have hb:b≠p:=cD e1 hp
  have q:=my (tb:=tb) (W:=⟨upd W.H p o,W.ad,W.mu⟩) e2 e3
  rw[q]
  show upd W.H p o b=some u
  rw[aO hb];exact e1,lW.refl _⟩
 refine⟨⟨ok.len,λi a ds e1 e2=>?_,ok.inj,λP hP=>?_⟩,le,?_⟩
 .obtain⟨xs,e,r⟩:=ok.cont i a ds e1 e2
  refine⟨xs,?_,cG.mono' r le⟩
  show upd W.H p o a=_
  rw[aO (cD e hp)];exact e
 .obtain⟨ps,e,r⟩:=ok.tab P hP
  refine⟨ps,?_,r.mono λc u q=>(aO (cD q hp)).trans q⟩
  show upd W.H p o P=_
  rw[aO (cD e hp)];exact e
 .have q:=my (tb:=tb) (W:=⟨upd W.H p o,W.ad,W.mu⟩) nl nt
  rw[q];exact cW
theorem WOk.new(ok:WOk K tb W){p:Addr}(hp:W.H p=none)(r:cG K tb W ds vs):
  WOk K tb ⟨upd W.H p (.lst vs),W.ad++[p],W.mu++[some ds]⟩/\Le tb W ⟨upd W.H p (.lst vs),W.ad++[p],W.mu++[some ds]⟩/\Den K tb ⟨upd W.H p (.lst vs),W.ad++[p],W.mu++[some ds]⟩ (.cell W.mu.length) (.ref p):=by
 have adl:lW W.ad (W.ad++[p]):=λi x e=>by
  rw[Zs (Zh.mp e).1];exact e
 have lv:∀b,kh (W.ad++[p]) (W.mu++[some ds]) b->kh W.ad W.mu b∨b=p:=λb zq1=>by
  obtain⟨i,es,e1,e2⟩:=zq1
  by_cases hi:i<W.ad.length
  .rw[Zs hi]at e1
   rw[Zs (by rw[<-ok.len];exact hi)]at e2
   exact .inl ⟨i,es,e1,e2⟩
  .rw[List.getElem?_append_right (Nat.le_of_not_lt hi)]at e1
   right
   have:(i-W.ad.length)=0:=by
    have:=(Zh.mp e1).1
    simp at this
    omega
   rw[this]at e1
   simpa using e1.symm
 have le:Le tb W ⟨upd W.H p (.lst vs),W.ad++[p],W.mu++[some ds]⟩:=⟨λb u e=>by
  obtain⟨e1,e2,e3⟩:=cR e
  have hb:b≠p:=cD e1 hp
  have q:=my (tb:=tb) (W:=⟨upd W.H p (.lst vs),W.ad++[p],W.mu++[some ds]⟩) (b:=b) (λz=>(lv b z).elim e2 hb) e3
  rw[q]
  show upd W.H p (.lst vs) b=some u
  rw[aO hb];exact e1,adl⟩
 refine⟨⟨by simp[ok.len],λi a es e1 e2=>?_,λi j a es fs e1 e2 e3 e4=>?_,λP hP=>?_⟩,le,?_⟩
 .by_cases hi:i<W.ad.length
  .have e1':W.ad[i]? =some a:=by rw[<-Zs (l₂:=[p]) hi];exact e1
   have e2':W.mu[i]? =some (some es):=by rw[<-Zs (l₂:=[some ds]) (by rw[<-ok.len];exact hi)];exact e2
   obtain⟨xs,e,q⟩:=ok.cont i a es e1' e2'
   refine⟨xs,?_,cG.mono' q le⟩
   show upd W.H p (.lst vs) a=_
   rw[aO (cD e hp)];exact e
  .have h0:i=W.ad.length:=by
    have h1:i<(W.ad++[p]).length:=(Zh.mp e1).1
    simp at h1
    omega
   have e1':(W.ad++[p])[i]? =some a:=e1
   have e2':(W.mu++[some ds])[i]? =some (some es):=e2
   rw[h0]at e1' e2'
   rw[ok.len]at e2'
   simp at e1' e2'
   subst e1' e2'
   exact⟨vs,cW,cG.mono' r le⟩
 .have old:∀(k:Nat) es,(W.ad++[p])[k]? =some a->(W.mu++[some ds])[k]? =some (some es)->(k<W.ad.length/\W.ad[k]? =some a/\W.mu[k]? =some (some es))∨(k=W.ad.length/\a=p):=λk es q1 q2=>by
   by_cases hk:k<W.ad.length
   .left
    refine⟨hk,?_,?_⟩
    .rw[<-Zs (l₂:=[p]) hk];exact q1
    .rw[<-Zs (l₂:=[some ds]) (by rw[<-ok.len];exact hk)];exact q2
   .right
    have h1:k<(W.ad++[p]).length:=(Zh.mp q1).1
    simp at h1
    have h0:k=W.ad.length:=by omega
    subst h0
    simp at q1
    exact⟨rfl,q1.symm⟩
  rcases old i es e1 e3 with⟨_,a1,a2⟩|⟨a1,a2⟩<;>rcases old j fs e2 e4 with⟨_,b1,b2⟩|⟨b1,b2⟩
  .exact ok.inj i j a es fs a1 b1 a2 b2
  .obtain⟨xs,e,_⟩:=ok.cont i a es a1 a2
   rw[b2,hp]at e;cases e
  .obtain⟨xs,e,_⟩:=ok.cont j a fs b1 b2
   rw[a2,hp]at e;cases e
  .rw[a1,b1]
 .obtain⟨ps,e,q⟩:=ok.tab P hP
  refine⟨ps,?_,q.mono λc u q=>(aO (cD q hp)).trans q⟩
  show upd W.H p (.lst vs) P=_
  rw[aO (cD e hp)];exact e
 .show bc K _ _ (.cell W.mu.length) (.ref p)
  unfold bc
  refine⟨p,rfl,?_⟩
  rw[<-ok.len]
  simp
theorem WOk.write(ok:WOk K tb W){i:Nat}{a:Addr}{es:List D}(e1:W.ad[i]? =some a)(e2:W.mu[i]? =some (some es))(r:cG K tb W ds vs):
  WOk K tb ⟨upd W.H a (.lst vs),W.ad,W.mu.set i (some ds)⟩/\Le tb W ⟨upd W.H a (.lst vs),W.ad,W.mu.set i (some ds)⟩:=by
 have hi:i<W.mu.length:=(Zh.mp e2).1
 have lv:∀b,kh W.ad (W.mu.set i (some ds)) b->kh W.ad W.mu b:=λb zq2=>by
  obtain⟨j,fs,q1,q2⟩:=zq2
  by_cases hj:i=j
  .subst hj;exact⟨i,es,q1,e2⟩
  .rw[List.getElem?_set_ne hj]at q2;exact⟨j,fs,q1,q2⟩
 have la:kh W.ad W.mu a:=⟨i,es,e1,e2⟩
 have le:Le tb W ⟨upd W.H a (.lst vs),W.ad,W.mu.set i (some ds)⟩:=⟨λb u e=>by
  obtain⟨p1,p2,p3⟩:=cR e
  have hb:b≠a:=λz=>p2 (z▸la)
  have q:=my (tb:=tb) (W:=⟨upd W.H a (.lst vs),W.ad,W.mu.set i (some ds)⟩) (b:=b) (λz=>p2 (lv b z)) p3
  rw[q]
  show upd W.H a (.lst vs) b=some u
  rw[aO hb];exact p1,lW.refl _⟩
 refine⟨⟨by show W.ad.length=(W.mu.set i (some ds)).length;rw[List.length_set];exact ok.len,λj b fs q1 q2=>?_,λj k b fs gs q1 q2 q3 q4=>?_,λP hP=>?_⟩,le⟩
 .have q2':(W.mu.set i (some ds))[j]? =some (some fs):=q2
  by_cases hj:i=j
  .subst hj
   have q1':W.ad[i]? =some b:=q1
   rw[e1]at q1';cases q1'
   rw[List.getElem?_set_self hi]at q2'
   cases q2'
   exact⟨vs,cW,cG.mono' r le⟩
  .rw[List.getElem?_set_ne hj]at q2'
   obtain⟨xs,e,q⟩:=ok.cont j b fs q1 q2'
   refine⟨xs,?_,cG.mono' q le⟩
   show upd W.H a (.lst vs) b=_
   have hba:b≠a:=by
    intro z
    subst z
    exact hj (ok.inj i j b es fs e1 q1 e2 q2')
   rw[aO hba];exact e
 .have up:∀(j:Nat) fs,(W.mu.set i (some ds))[j]? =some (some fs)->∃gs,W.mu[j]? =some (some gs):=λj fs q=>by
   by_cases hj:i=j
   .subst hj;exact⟨es,e2⟩
   .rw[List.getElem?_set_ne hj]at q;exact⟨fs,q⟩
  obtain⟨fs',q3'⟩:=up j fs q3
  obtain⟨gs',q4'⟩:=up k gs q4
  exact ok.inj j k b fs' gs' q1 q2 q3' q4'
 .obtain⟨ps,e,q⟩:=ok.tab P hP
  obtain⟨xs,ea,_⟩:=ok.cont i a es e1 e2
  refine⟨ps,?_,q.mono λc u q=>(aO (uU q ea (by intro z;cases z))).trans q⟩
  show upd W.H a (.lst vs) P=_
  rw[aO (uU e ea (by intro z;cases z))];exact e
theorem WOk.freeze(ok:WOk K tb W){i:Nat}{a:Addr}{es:List D}(e1:W.ad[i]? =some a)(e2:W.mu[i]? =some (some es)):
  WOk K tb ⟨W.H,W.ad,W.mu.set i none⟩/\Le tb W ⟨W.H,W.ad,W.mu.set i none⟩/\Den K tb ⟨W.H,W.ad,W.mu.set i none⟩ (.lst es) (.ref a):=by
 have hi:i<W.mu.length:=(Zh.mp e2).1
 have up:∀(j:Nat) fs,(W.mu.set i none)[j]? =some (some fs)->i≠j/\W.mu[j]? =some (some fs):=λj fs q=>by
  by_cases hj:i=j
  .subst hj;rw[List.getElem?_set_self hi]at q;cases q
  .rw[List.getElem?_set_ne hj]at q;exact⟨hj,q⟩
 have lv:∀b,kh W.ad (W.mu.set i none) b->kh W.ad W.mu b:=λb ⟨j,fs,q1,q2⟩=>⟨j,fs,q1,(up j fs q2).2⟩
 have le:Le tb W ⟨W.H,W.ad,W.mu.set i none⟩:=⟨λb u e=>by
  obtain⟨p1,p2,p3⟩:=cR e
  have q:=my (tb:=tb) (W:=⟨W.H,W.ad,W.mu.set i none⟩) (b:=b) (λz=>p2 (lv b z)) p3
  rw[q];exact p1,lW.refl _⟩
 obtain⟨xs,ea,ra⟩:=ok.cont i a es e1 e2
 refine⟨⟨by show W.ad.length=(W.mu.set i none).length;rw[List.length_set];exact ok.len,λj b fs q1 q2=>?_,λj k b fs gs q1 q2 q3 q4=>?_,ok.tab⟩,le,?_⟩
 .obtain⟨xs,e,q⟩:=ok.cont j b fs q1 (up j fs q2).2
  exact⟨xs,e,cG.mono' q le⟩
 .exact ok.inj j k b fs gs q1 q2 (up j fs q3).2 (up k gs q4).2
 .show bc K _ _ (.lst es) (.ref a)
  unfold bc
  refine⟨a,xs,rfl,?_,cG.mono' ra le⟩
  have nl:¬kh W.ad (W.mu.set i none) a:=λzq3=>by
   obtain⟨j,fs,q1,q2⟩:=zq3
   obtain⟨hj,q⟩:=up j fs q2
   exact hj (ok.inj i j a es fs e1 q1 e2 q)
  have nt:a∉tb:=λz=>by
   obtain⟨ps,e,_⟩:=ok.tab a z
   rw[ea]at e;cases e
  have q:=my (tb:=tb) (W:=⟨W.H,W.ad,W.mu.set i none⟩) nl nt
  rw[q];exact ea
theorem WOk.tbl(ok:WOk K tb W){P:Addr}{lo:Nat}{ps ps':Array Value}{H':Hp}(hP:P∈tb)(e:W.H P=some (.tbl ps))(hG:xX lo P ps ps' W.H H'):
  WOk K tb ⟨H',W.ad,W.mu⟩/\Le tb W ⟨H',W.ad,W.mu⟩:=by
 have le:Le tb W ⟨H',W.ad,W.mu⟩:=⟨λb u q=>by
  obtain⟨p1,p2,p3⟩:=cR q
  have q:=my (tb:=tb) (W:=⟨H',W.ad,W.mu⟩) (b:=b) p2 p3
  rw[q]
  exact hG.keep b u (λz=>p3 (z▸hP)) p1,lW.refl _⟩
 refine⟨⟨ok.len,λi a ds e1 e2=>?_,ok.inj,λQ hQ=>?_⟩,le⟩
 .obtain⟨xs,ea,r⟩:=ok.cont i a ds e1 e2
  exact⟨xs,hG.keep a _ (uU ea e (by intro z;cases z)) ea,cG.mono' r le⟩
 .by_cases hq:Q=P
  .subst hq;exact⟨ps',hG.tab,hG.ok⟩
  .obtain⟨qs,e',r⟩:=ok.tab Q hQ
   exact⟨qs,hG.keep Q _ hq e',r.mono λc u q=>hG.keep c _ (uU q e (by intro z;cases z)) q⟩
end
abbrev SV:=L2.St
abbrev EF:=En->Mu->Option (D×Mu)
abbrev AF:=En->Mu->Option (List D×Mu)
abbrev TF:=En->Mu->Option (Bool×Mu)
inductive Fl where
 |nx|bk|ct|rt (d:D)
abbrev SF:=En->Mu->Option (Fl×En×Mu)
def iy(K:Zw)(tb:List Addr)(W:Wd)(δ:En)(σ:SV):Prop:=δ.length=σ.length/\∀(i:Nat) d,δ[i]? =some (some d)->∃v,σ[i]? =some (some v)/\Den K tb W d v
section
variable {K:Zw} {tb:List Addr} {W W':Wd} {δ:En} {σ:SV}
theorem iy.mono'(h:iy K tb W δ σ)(l:Le tb W W'):iy K tb W' δ σ:=⟨h.1,λi d e=>let⟨v,e1,e2⟩:=h.2 i d e;⟨v,e1,Den.mono' e2 l⟩⟩
theorem iy.set(h:iy K tb W δ σ){i:Nat}{d:D}{v:V}(r:Den K tb W d v):iy K tb W (δ.set i (some d)) (σ.set i (some v)):=by
 refine⟨by rw[List.length_set,List.length_set];exact h.1,λj e q=>?_⟩
 by_cases hj:i=j
 .subst hj
  have hi:i<δ.length:=by
   have:=(Zh.mp q).1
   rwa[List.length_set]at this
  rw[List.getElem?_set_self hi]at q
  cases q
  exact⟨v,by rw[List.getElem?_set_self (by rw[<-h.1];exact hi)],r⟩
 .rw[List.getElem?_set_ne hj]at q ⊢
  exact h.2 j e q
end
inductive tD(K:Zw)(tb:List Addr)(f:EF)(σ:SV)(H:Hp)(Q:VK):Prop
 |mk (W) (δ) (d) (μ'):(W.H=H)->(WOk K tb W)->(iy K tb W δ σ)->(f δ W.mu=some (d,μ'))->(∀v W',WOk K tb W'->Le tb W W'->W'.mu=μ'->Den K tb W' d v->Q v W'.H)->tD K tb f σ H Q
inductive tDA(K:Zw)(tb:List Addr)(f:AF)(σ:SV)(H:Hp)(Q:List V->Hp->Prop):Prop
 |mk (W) (δ) (ds) (μ'):(W.H=H)->(WOk K tb W)->(iy K tb W δ σ)->(f δ W.mu=some (ds,μ'))->(∀vs W',WOk K tb W'->Le tb W W'->W'.mu=μ'->cG K tb W' ds vs->Q vs W'.H)->tDA K tb f σ H Q
inductive tDT(K:Zw)(tb:List Addr)(f:TF)(σ:SV)(H:Hp)(Q:Bool->Hp->Prop):Prop
 |mk (W) (δ) (b) (μ'):(W.H=H)->(WOk K tb W)->(iy K tb W δ σ)->(f δ W.mu=some (b,μ'))->(∀W',WOk K tb W'->Le tb W W'->W'.mu=μ'->Q b W'.H)->tDT K tb f σ H Q
def EndD(K:Zw)(tb:List Addr)(E:Ends)(fl:Fl)(σ:SV)(W:Wd):Prop:=match fl with
 | .nx=>E.nx σ W.H
 | .bk=>E.bk σ W.H
 | .ct=>E.ct σ W.H
 | .rt d=>∀v,Den K tb W d v->E.rt v W.H
inductive tDS(K:Zw)(tb:List Addr)(g:SF)(E:Ends)(σ:SV)(H:Hp):Prop
 |mk (W) (δ) (fl) (δ') (μ'):(W.H=H)->(WOk K tb W)->(iy K tb W δ σ)->(g δ W.mu=some (fl,δ',μ'))->(∀σ' W',WOk K tb W'->Le tb W W'->W'.mu=μ'->iy K tb W' δ' σ'->EndD K tb E fl σ' W')->tDS K tb g E σ H
def PD(X:Cx)(tb:List Addr)(e:Expr)(f:EF):Prop:=PE X e (tD X.K tb f)
def PAD(X:Cx)(tb:List Addr)(es:List Expr)(f:AF):Prop:=PA X es (tDA X.K tb f)
def PTD(X:Cx)(tb:List Addr)(e:Expr)(f:TF):Prop:=PT X e (tDT X.K tb f)
def PWD(X:Cx)(tb:List Addr)(e:Expr)(f:TF):Prop:=PW X e (tDT X.K tb f)
def PSD(X:Cx)(tb:List Addr)(st:Stmt)(g:SF):Prop:=PS X st (tDS X.K tb g)
def pD(X:Cx)(tb:List Addr)(st:List Stmt)(g:SF):Prop:=PSs X st (tDS X.K tb g)
theorem dG{X:Cx}{e:Expr}{t t':TE}(h:PE X e t)(k:∀σ H Q,t' σ H Q->t σ H Q):PE X e t':=λpins s σ H Q I hq=>h pins s σ H Q I (k σ H Q hq)
theorem IW{X:Cx}{e:List Expr}{t t':TA}(h:PA X e t)(k:∀σ H Q,t' σ H Q->t σ H Q):PA X e t':=λpos pins s σ H Q I hq=>h pos pins s σ H Q I (k σ H Q hq)
theorem Ez{X:Cx}{e:Expr}{t t':TT}(h:PT X e t)(k:∀σ H Q,t' σ H Q->t σ H Q):PT X e t':=λpins s σ H Q I hq=>h pins s σ H Q I (k σ H Q hq)
theorem Jk{X:Cx}{e:Expr}{t t':TT}(h:PW X e t)(k:∀σ H Q,t' σ H Q->t σ H Q):PW X e t':=λwh pins s σ H Q I hq=>h wh pins s σ H Q I (k σ H Q hq)
theorem kJ{X:Cx}{e:Stmt}{t t':TS}(h:PS X e t)(k:∀E σ H,t' E σ H->t E σ H):PS X e t':=λpins s σ H E I hq=>h pins s σ H E I (k E σ H hq)
theorem Df{X:Cx}{e:List Stmt}{t t':TS}(h:PSs X e t)(k:∀E σ H,t' E σ H->t E σ H):PSs X e t':=λpins s σ H E I hq=>h pins s σ H E I (k E σ H hq)
def aq(i:Nat):EF:=λδ μ=>match δ[i]? with
 |some (some d)=>some (d,μ)
 |_=>none
def mC(d:D):EF:=λ_ μ=>some (d,μ)
def M1(fa:EF)(op:D->Mu->Option (D×Mu)):EF:=λδ μ=>(fa δ μ).bind λr=>op r.1 r.2
def M2(fa fb:EF)(op:D->D->Mu->Option (D×Mu)):EF:=λδ μ=>(fa δ μ).bind λr=>(fb δ r.2).bind λq=>op r.1 q.1 q.2
def aB:AF:=λ_ μ=>some ([],μ)
def ao(f:EF)(fs:AF):AF:=λδ μ=>(f δ μ).bind λr=>(fs δ r.2).bind λq=>some (r.1::q.1,q.2)
def MC(fs:AF)(op:List D->Mu->Option (D×Mu)):EF:=λδ μ=>(fs δ μ).bind λr=>op r.1 r.2
def RD1(K:Zw)(tb:List Addr)(r:V->Hp->VK->Prop)(op:D->Mu->Option (D×Mu)):Prop:=∀(W:Wd)(x:D)(v:V)(d:D)(μ':Mu)(Q:VK),WOk K tb W->Den K tb W x v->op x W.mu=some (d,μ')->
 (∀v W',WOk K tb W'->Le tb W W'->W'.mu=μ'->Den K tb W' d v->Q v W'.H)->r v W.H Q
def RD2(K:Zw)(tb:List Addr)(r:R2)(op:D->D->Mu->Option (D×Mu)):Prop:=∀(W:Wd)(x y:D)(v u:V)(d:D)(μ':Mu)(Q:VK),WOk K tb W->Den K tb W x v->Den K tb W y u->op x y W.mu=some (d,μ')->
 (∀v W',WOk K tb W'->Le tb W W'->W'.mu=μ'->Den K tb W' d v->Q v W'.H)->r v u W.H Q
def RDN(K:Zw)(tb:List Addr)(r:List V->Hp->VK->Prop)(op:List D->Mu->Option (D×Mu)):Prop:=∀(W:Wd)(xs:List D)(vs:List V)(d:D)(μ':Mu)(Q:VK),WOk K tb W->cG K tb W xs vs->op xs W.mu=some (d,μ')->
 (∀v W',WOk K tb W'->Le tb W W'->W'.mu=μ'->Den K tb W' d v->Q v W'.H)->r vs W.H Q
section
variable {K:Zw} {tb:List Addr}
theorem put{W:Wd}{Q:VK}{d:D}{v:V}(ok:WOk K tb W)(h:∀v W',WOk K tb W'->Le tb W W'->W'.mu=W.mu->Den K tb W' d v->Q v W'.H)(r:Den K tb W d v):Q v W.H:=h v W ok (Le.refl _) rfl r
theorem di{W:Wd}{i:Int}:Den K tb W (.int i) (.int i):=by show bc _ _ _ _ _;unfold bc;rfl
theorem gQ{W:Wd}{b:Bool}:Den K tb W (.bl b) (.bl b):=by show bc _ _ _ _ _;unfold bc;rfl
theorem pK{W:Wd}:Den K tb W .non .non:=by show bc _ _ _ _ _;unfold bc;rfl
theorem yL{W:Wd}{x:Str}:Den K tb W (.str x) (.str x):=by show bc _ _ _ _ _;unfold bc;rfl
theorem bz{W:Wd}{i:Int}{v:V}(h:Den K tb W (.int i) v):v= .int i:=by have h:bc _ _ _ _ _:=h;unfold bc at h;exact h
theorem qI{W:Wd}{b:Bool}{v:V}(h:Den K tb W (.bl b) v):v= .bl b:=by have h:bc _ _ _ _ _:=h;unfold bc at h;exact h
theorem EY{W:Wd}{v:V}(h:Den K tb W .non v):v= .non:=by have h:bc _ _ _ _ _:=h;unfold bc at h;exact h
theorem uf{W:Wd}{x:Str}{v:V}(h:Den K tb W (.str x) v):v= .str x:=by have h:bc _ _ _ _ _:=h;unfold bc at h;exact h
theorem gO{W:Wd}{ds:List D}{v:V}(h:Den K tb W (.tup ds) v):∃a xs,v= .ref a/\SqT K (W.fz tb) a xs/\cG K tb W ds xs:=by have h:bc _ _ _ _ _:=h;unfold bc at h;exact h
theorem lV{W:Wd}{ds:List D}{v:V}(h:Den K tb W (.lst ds) v):∃a xs,v= .ref a/\W.fz tb a=some (.lst xs)/\cG K tb W ds xs:=by have h:bc _ _ _ _ _:=h;unfold bc at h;exact h
theorem jl{W:Wd}{ds:List D}{v:V}(h:Den K tb W (.lst ds) v):∃a xs,v= .ref a/\SqL K (W.fz tb) a xs/\cG K tb W ds xs:=let⟨a,xs,e,q,r⟩:=lV h;⟨a,xs,e,SqL.of q,r⟩
theorem sH{W:Wd}{ds:List D}{v:V}(h:Den K tb W (.ro ds) v):∃a xs,v= .ref a/\SqL K (W.fz tb) a xs/\cG K tb W ds xs:=by have h:bc _ _ _ _ _:=h;unfold bc at h;exact h
theorem Ko{W:Wd}{kvs:List (Key×D)}{v:V}(h:Den K tb W (.dic kvs) v):∃a ps,v= .ref a/\W.fz tb a=some (.dK ps)/\ie K (W.fz tb) W.ad kvs ps:=by have h:bc _ _ _ _ _:=h;unfold bc at h;exact h
theorem gD{W:Wd}{n:Nat}{v:V}(h:Den K tb W (.cell n) v):∃a,v= .ref a/\W.ad[n]? =some a:=by have h:bc _ _ _ _ _:=h;unfold bc at h;exact h
theorem lJ{W:Wd}{Q:VK}{ds:List D}{vs:List V}{p:Addr}(ok:WOk K tb W)(h:∀v W',WOk K tb W'->Le tb W W'->W'.mu=W.mu->Den K tb W' (.tup ds) v->Q v W'.H)(r:cG K tb W ds vs)(hp:W.H p=none):Q (.ref p) (upd W.H p (.tup vs)):=by
 obtain⟨ok',le,e⟩:=ok.alloc (o:=.tup vs) hp
 refine h (.ref p) _ ok' le rfl ?_
 show bc _ _ _ _ _
 unfold bc
 exact⟨p,vs,rfl,.inl (.inl e),cG.mono' r le⟩
theorem iH{W:Wd}{Q:VK}{ds:List D}{vs:List V}{p:Addr}(ok:WOk K tb W)(h:∀v W',WOk K tb W'->Le tb W W'->W'.mu=W.mu->Den K tb W' (.lst ds) v->Q v W'.H)(r:cG K tb W ds vs)(hp:W.H p=none):Q (.ref p) (upd W.H p (.lst vs)):=by
 obtain⟨ok',le,e⟩:=ok.alloc (o:=.lst vs) hp
 refine h (.ref p) _ ok' le rfl ?_
 show bc _ _ _ _ _
 unfold bc
 exact⟨p,vs,rfl,e,cG.mono' r le⟩
end
section
variable {X:Cx} {tb:List Addr} {a b c e:Expr} {fa fb fc f:EF} {pos:Pos}
theorem JQ{i:Nat}{x:Str}(hN:X.N[i]? =some x)(hv:Vis X.env.scope x)(hd:(x==("__debug__":Str))=false:=by decide)(hcd:(x==("__classdict__":Str))=false:=by decide):PD X tb (.Name x pos) (aq i):=
 dG (KC hN hv hd hcd) λσ H Q zq1=>by
  obtain⟨W,δ,d,μ',e,ok,hd,hf,h⟩:=zq1
  subst e
  unfold aq at hf
  split at hf
  .rename_i d' e
   cases hf
   obtain⟨v,ev,r⟩:=hd.2 i _ e
   exact⟨v,ev,put ok h r⟩
  .cases hf
theorem wz{d:D}{v:V}(hp:PE X e (tC v))(hd:∀W,Den X.K tb W d v):PD X tb e (mC d):=
 dG hp λσ H Q zq2=>by
  obtain⟨W,δ,d',μ',e,ok,_,hf,h⟩:=zq2
  subst e
  cases hf
  exact put ok h (hd W)
theorem az{i j}:PD X tb (.Constant (.int i) j pos) (mC (.int i)):=wz yj λ_=>di
theorem su{i j}:PD X tb (.Constant (.bool i) j pos) (mC (.bl i)):=wz Pn λ_=>gQ
theorem JM{r:V->Hp->VK->Prop}{op:D->Mu->Option (D×Mu)}(hp:∀ta,PE X a ta->PE X e (tUn r ta))(ho:RD1 X.K tb r op)(ha:PD X tb a fa):PD X tb e (M1 fa op):=
 dG (hp _ ha) λσ H Q zq3=>by
  obtain⟨W,δ,d,μ',e,ok,hd,hf,h⟩:=zq3
  unfold M1 at hf
  obtain⟨⟨x,μ1⟩,e1,e2⟩:=Za.mp hf
  exact⟨W,δ,x,μ1,e,ok,hd,e1,λv W1 ok1 l1 m1 d1=>ho W1 x v d μ' Q ok1 d1 (by rw[m1];exact e2) λv' W' ok' l' m' d'=>h v' W' ok' (l1.trans l') m' d'⟩
theorem xJ{r:R2}{op:D->D->Mu->Option (D×Mu)}(hp:∀ta tb,PE X a ta->PE X b tb->PE X e (tOp r ta tb))(ho:RD2 X.K tb r op)(ha:PD X tb a fa)(hb:PD X tb b fb):PD X tb e (M2 fa fb op):=
 dG (hp _ _ ha hb) λσ H Q zq4=>by
  obtain⟨W,δ,d,μ',e,ok,hd,hf,h⟩:=zq4
  unfold M2 at hf
  obtain⟨⟨x,μ1⟩,e1,hf⟩:=Za.mp hf
  obtain⟨⟨y,μ2⟩,e2,e3⟩:=Za.mp hf
  refine⟨W,δ,x,μ1,e,ok,hd,e1,λv W1 ok1 l1 m1 d1=>⟨W1,δ,y,μ2,rfl,ok1,hd.mono' l1,(by rw[m1];exact e2),λu W2 ok2 l2 m2 d2=>?_⟩⟩
  exact ho W2 x y v u d μ' Q ok2 (Den.mono' d1 l2) d2 (by rw[m2];exact e3) λv' W' ok' l' m' d'=>h v' W' ok' ((l1.trans l2).trans l') m' d'
theorem au:PAD X tb [] aB:=IW uy λσ H Q zq5=>by
 obtain⟨W,δ,d,μ',e,ok,hd,hf,h⟩:=zq5
 subst e;cases hf
 exact h [] W ok (Le.refl _) rfl aC.nil
theorem aa{es:List Expr}{fs:AF}(ha:PD X tb e f)(hr:PAD X tb es fs)(hs:starEach (e::es) X.env=(false,eval e X.env)::starEach es X.env:=by rfl):PAD X tb (e::es) (ao f fs):=
 IW (nM ha hr hs) λσ H Q zq6=>by
  obtain⟨W,δ,ds,μ',e,ok,hd,hf,h⟩:=zq6
  unfold ao at hf
  obtain⟨⟨x,μ1⟩,e1,hf⟩:=Za.mp hf
  obtain⟨⟨xs,μ2⟩,e2,e3⟩:=Za.mp hf
  cases e3
  refine⟨W,δ,x,μ1,e,ok,hd,e1,λv W1 ok1 l1 m1 d1=>⟨W1,δ,xs,_,rfl,ok1,hd.mono' l1,(by rw[m1];exact e2),λvs W2 ok2 l2 m2 d2=>?_⟩⟩
  exact h (v::vs) W2 ok2 (l1.trans l2) m2 (aC.cons (Den.mono' d1 l2) d2)
theorem vX{es:List Expr}{fs:AF}{r:List V->Hp->VK->Prop}{op:List D->Mu->Option (D×Mu)}(hp:∀ta,PA X es ta->PE X e (tCB r ta))(ho:RDN X.K tb r op)(ha:PAD X tb es fs):PD X tb e (MC fs op):=
 dG (hp _ ha) λσ H Q zq7=>by
  obtain⟨W,δ,d,μ',e,ok,hd,hf,h⟩:=zq7
  unfold MC at hf
  obtain⟨⟨x,μ1⟩,e1,e2⟩:=Za.mp hf
  exact⟨W,δ,x,μ1,e,ok,hd,e1,λv W1 ok1 l1 m1 d1=>ho W1 x v d μ' Q ok1 d1 (by rw[m1];exact e2) λv' W' ok' l' m' d'=>h v' W' ok' (l1.trans l') m' d'⟩
def gY(ds:List D)(μ:Mu):Option (D×Mu):=if ds.length<=sizeLine then some (.tup ds,μ)else none
def gf(ds:List D)(μ:Mu):Option (D×Mu):=if ds.length<=sizeLine then some (.lst ds,μ)else none
theorem gC{es:List Expr}{fs:AF}{x1}(h:PAD X tb es fs):PD X tb (.Tuple es x1 pos) (MC fs gY):=
 vX (r:=λxs H Q=>xs.length<=sizeLine/\∀p,H p=none->Q (.ref p) (upd H p (.tup xs))) (λta h=>LK h) (λW xs vs d μ' Q ok r ho h=>by
  unfold gY at ho
  split at ho
  .rename_i hl
   cases ho
   exact⟨by rw[<-aC.length r];exact hl,λp hp=>lJ ok h r hp⟩
  .cases ho) h
theorem gm{es:List Expr}{fs:AF}(h:PAD X tb es fs):PD X tb (.List es pos) (MC fs gf):=
 vX (r:=λxs H Q=>xs.length<=sizeLine/\∀p,H p=none->Q (.ref p) (upd H p (.lst xs))) (λta h=>BR h) (λW xs vs d μ' Q ok r ho h=>by
  unfold gf at ho
  split at ho
  .rename_i hl
   cases ho
   exact⟨by rw[<-aC.length r];exact hl,λp hp=>iH ok h r hp⟩
  .cases ho) h
def ur:D->Mu->Option Bool
 | .bl b,_=>some b
 | .int i,_=>some (i != 0)
 | .non,_=>some false
 | .tup ds,_=>some !ds.isEmpty
 | .lst ds,_=>some !ds.isEmpty
 | .cell n,μ=>match μ[n]? with
  |some (some ds)=>some !ds.isEmpty
  |_=>none
 |_,_=>none
end
section
variable {K:Zw} {tb:List Addr}
theorem GR{W:Wd}{x:D}{v:V}{k:Bool}(ok:WOk K tb W)(h:Den K tb W x v)(e:ur x W.mu=some k):Kw K v W.H k:=by
 cases x with
 |non=>rw[EY h];cases e;rfl
 |bl b=>rw[qI h];cases e;rfl
 |int i=>rw[bz h];cases e;rfl
 |str y=>cases e
 |dic y=>cases e
 |ro y=>cases e
 |tup ds=>
  obtain⟨a,xs,rfl,q,r⟩:=gO h
  cases e
  refine .inr (.inl ⟨xs,SqT.fz q,?_⟩)
  have:=aC.length r
  cases ds<;>cases xs<;>simp_all
 |lst ds=>
  obtain⟨a,xs,rfl,q,r⟩:=jl h
  cases e
  refine .inl ⟨xs,SqL.fz q,?_⟩
  have:=aC.length r
  cases ds<;>cases xs<;>simp_all
 |cell n=>
  obtain⟨a,rfl,q⟩:=gD h
  have e':(match W.mu[n]? with|some (some ds)=>some !ds.isEmpty|_=>none)=some k:=e
  cases e2:W.mu[n]? with
  |none=>rw[e2]at e';cases e'
  |some o=>
   cases o with
   |none=>rw[e2]at e';cases e'
   |some ds=>
    rw[e2]at e'
    have e'':some (!ds.isEmpty)=some k:=e'
    cases e''
    obtain⟨xs,e3,r⟩:=ok.cont n a ds q e2
    refine .inl ⟨xs,SqL.of e3,?_⟩
    have:=aC.length r
    cases ds<;>cases xs<;>simp_all
end
section
variable {X:Cx} {tb:List Addr} {a b c e:Expr} {fa fb fc f:EF} {ta tc:TF} {pos:Pos}
def qR(f:EF):TF:=λδ μ=>(f δ μ).bind λr=>(ur r.1 r.2).map λk=>(k,r.2)
theorem ni(h:PD X tb e f)(he:∀whole,isTrue e X.env whole=(do let v<-whole;standAt e.pos;holding [v] (truthy v)):=by intro _;rfl):PTD X tb e (qR f):=
 Ez (Cd h he) λσ H Q zq1=>by
  obtain⟨W,δ,k,μ',e,ok,hd,hf,h⟩:=zq1
  unfold qR at hf
  obtain⟨⟨x,μ1⟩,e1,e2⟩:=Za.mp hf
  obtain⟨k',e3,e4⟩:=Zp.mp e2
  cases e4
  exact⟨W,δ,x,_,e,ok,hd,e1,λv W1 ok1 l1 m1 d1=>⟨k,GR ok1 d1 (by rw[m1];exact e3),h W1 ok1 l1 m1⟩⟩
structure OpD(X:Cx)(tb:List Addr)(sem:Value->Value->Sem Value)(op:D->D->Mu->Option (D×Mu)):Prop where
 ex:∃r,OpR X sem r/\RD2 X.K tb r op
theorem aF{o:Operator}{op:D->D->Mu->Option (D×Mu)}(ho:OpD X tb (binaryOp o) op)(ha:PD X tb a fa)(hb:PD X tb b fb):PD X tb (.BinOp a o b pos) (M2 fa fb op):=by
 obtain⟨r,h1,h2⟩:=ho.ex
 exact xJ (λta tb ha hb=>Ji h1 ha hb) h2 ha hb
theorem xf{o:CmpOp}{op:D->D->Mu->Option (D×Mu)}(ho:OpD X tb (compareOp o) op)(ha:PD X tb a fa)(hb:PD X tb b fb)(hm:behindInMarks o b=false:=by first|exact wG _ (by decide) (by decide)|rfl):PD X tb (.Compare a [o] [b] pos) (M2 fa fb op):=by
 obtain⟨r,h1,h2⟩:=ho.ex
 exact xJ (λta tb ha hb=>Gk h1 ha hb hm) h2 ha hb
def toB(f:EF):TF:=λδ μ=>(f δ μ).bind λr=>match r.1 with
 | .bl k=>some (k,r.2)
 |_=>none
theorem bj{o:CmpOp}{op:D->D->Mu->Option (D×Mu)}(ho:OpD X tb (compareOp o) op)(ha:PD X tb a fa)(hb:PD X tb b fb)(hm:behindInMarks o b=false:=by first|exact wG _ (by decide) (by decide)|rfl):PTD X tb (.Compare a [o] [b] pos) (toB (M2 fa fb op)):=by
 obtain⟨r,h1,h2⟩:=ho.ex
 refine Ez (Ii h1 ha hb hm) λσ H Q zq2=>?_
 obtain⟨W,δ,k,μ',e,ok,hd,hf,h⟩:=zq2
 unfold toB at hf
 obtain⟨⟨z,μz⟩,hf,ez⟩:=Za.mp hf
 unfold M2 at hf
 obtain⟨⟨x,μ1⟩,e1,hf⟩:=Za.mp hf
 obtain⟨⟨y,μ2⟩,e2,e3⟩:=Za.mp hf
 cases z with
 |bl k'=>
  cases ez
  refine⟨W,δ,x,μ1,e,ok,hd,e1,λv W1 ok1 l1 m1 d1=>⟨W1,δ,y,μ2,rfl,ok1,hd.mono' l1,(by rw[m1];exact e2),λu W2 ok2 l2 m2 d2=>?_⟩⟩
  refine h2 W2 x y v u _ _ _ ok2 (Den.mono' d1 l2) d2 (by rw[m2];exact e3) λv' W' ok' l' m' d'=>?_
  exact⟨k,qI d',h W' ok' ((l1.trans l2).trans l') m'⟩
 |_=>cases ez
def MCh(fa fb fc:EF)(op op':D->D->Mu->Option (D×Mu)):EF:=λδ μ=>(fa δ μ).bind λr=>(fb δ r.2).bind λq=>(op r.1 q.1 q.2).bind λz=>match z.1 with
 | .bl true=>(fc δ z.2).bind λt=>op' q.1 t.1 t.2
 | .bl false=>some (.bl false,z.2)
 |_=>none
def jV(ta tc:TF):TF:=λδ μ=>(ta δ μ).bind λr=>if r.1=true then tc δ r.2 else some (false,r.2)
def vY(ta tc:TF):TF:=λδ μ=>(ta δ μ).bind λr=>if r.1=true then some (true,r.2)else tc δ r.2
def pA(ta:TF):TF:=λδ μ=>(ta δ μ).bind λr=>some (!r.1,r.2)
theorem uV(ha:PTD X tb a ta):PWD X tb (.BoolOp .And [a] pos) ta:=Hr ha
theorem uC(ha:PTD X tb a ta):PWD X tb (.BoolOp .Or [a] pos) ta:=Jv ha
theorem ut{rest:List Expr}(ha:PTD X tb a ta)(hb:PWD X tb (.BoolOp .And (b::rest) pos) tc):PWD X tb (.BoolOp .And (a::b::rest) pos) (jV ta tc):=
 Jk (Mj ha hb) λσ H Q zq4=>by
  obtain⟨W,δ,k,μ',e,ok,hd,hf,h⟩:=zq4
  unfold jV at hf
  obtain⟨⟨z,μz⟩,e1,e2⟩:=Za.mp hf
  refine⟨W,δ,z,μz,e,ok,hd,e1,λW1 ok1 l1 m1=>?_⟩
  cases z with
  |true=>exact⟨W1,δ,k,μ',rfl,ok1,hd.mono' l1,(by rw[m1];exact e2),λW' ok' l' m'=>h W' ok' (l1.trans l') m'⟩
  |false=>cases e2;exact h W1 ok1 l1 m1
theorem wU{rest:List Expr}(ha:PTD X tb a ta)(hb:PWD X tb (.BoolOp .Or (b::rest) pos) tc):PWD X tb (.BoolOp .Or (a::b::rest) pos) (vY ta tc):=
 Jk (Nh ha hb) λσ H Q zq5=>by
  obtain⟨W,δ,k,μ',e,ok,hd,hf,h⟩:=zq5
  unfold vY at hf
  obtain⟨⟨z,μz⟩,e1,e2⟩:=Za.mp hf
  refine⟨W,δ,z,μz,e,ok,hd,e1,λW1 ok1 l1 m1=>?_⟩
  cases z with
  |false=>exact⟨W1,δ,k,μ',rfl,ok1,hd.mono' l1,(by rw[m1];exact e2),λW' ok' l' m'=>h W' ok' (l1.trans l') m'⟩
  |true=>cases e2;exact h W1 ok1 l1 m1
theorem qJ(h:PWD X tb a ta):PTD X tb a ta:=PW.pt h
theorem tR(ha:PTD X tb a ta):PTD X tb (.UnaryOp .Not a pos) (pA ta):=
 Ez (Jz ha) λσ H Q zq6=>by
  obtain⟨W,δ,k,μ',e,ok,hd,hf,h⟩:=zq6
  unfold pA at hf
  obtain⟨⟨z,μz⟩,e1,e2⟩:=Za.mp hf
  cases e2
  exact⟨W,δ,z,_,e,ok,hd,e1,λW1 ok1 l1 m1=>h W1 ok1 l1 m1⟩
def qL(fa fb:EF):EF:=λδ μ=>(fa δ μ).bind λr=>match r.1 with
 | .bl true=>fb δ r.2
 | .bl false=>some (.bl false,r.2)
 |_=>none
theorem HF{o}(ha:PD X tb a fa):PD X tb (.BoolOp o [a] pos) fa:=Mq ha
theorem LQ{rest:List Expr}(ha:PD X tb a fa)(hb:PD X tb (.BoolOp .And (b::rest) pos) fb):PD X tb (.BoolOp .And (a::b::rest) pos) (qL fa fb):=
 dG (Lj ha hb) λσ H Q zq7=>by
  obtain⟨W,δ,d,μ',e,ok,hd,hf,h⟩:=zq7
  unfold qL at hf
  obtain⟨⟨z,μz⟩,e1,e2⟩:=Za.mp hf
  refine⟨W,δ,z,μz,e,ok,hd,e1,λv W1 ok1 l1 m1 d1=>?_⟩
  cases z with
  |bl k=>
   cases k with
   |true=>
   refine⟨true,qI d1,?_⟩
   rw[if_pos rfl]
   exact⟨W1,δ,d,μ',rfl,ok1,hd.mono' l1,(by rw[m1];exact e2),λv W' ok' l' m' d'=>h v W' ok' (l1.trans l') m' d'⟩
   |false=>
   cases e2
   refine⟨false,qI d1,?_⟩
   rw[if_neg Zr]
   exact h _ W1 ok1 l1 m1 gQ
  |_=>cases e2
end
def bZ:SF:=λδ μ=>some (.nx,δ,μ)
def aM(g h:SF):SF:=λδ μ=>(g δ μ).bind λr=>match r.1 with
 | .nx=>h r.2.1 r.2.2
 |_=>some r
def dH(f:EF):SF:=λδ μ=>(f δ μ).bind λr=>some (.nx,δ,r.2)
def bN(f:EF):SF:=λδ μ=>(f δ μ).bind λr=>some (.rt r.1,δ,r.2)
def sIf(c:TF)(g h:SF):SF:=λδ μ=>(c δ μ).bind λr=>if r.1=true then g δ r.2 else h δ r.2
def aR(i:Nat)(f:EF):SF:=λδ μ=>(f δ μ).bind λr=>some (.nx,δ.set i (some r.1),r.2)
section
variable {X:Cx} {tb:List Addr} {e:Expr} {f:EF} {g h:SF} {st:Stmt} {rest:List Stmt} {pos:Pos}
theorem bA:pD X tb [] bZ:=Df Gs λE σ H zq11=>by
 obtain⟨W,δ,fl,δ',μ',e,ok,hd,hf,h⟩:=zq11
 subst e;cases hf
 exact h σ W ok (Le.refl _) rfl hd
theorem aG(h1:PSD X tb st g):pD X tb [st] g:=Hw h1
theorem aA(h1:PSD X tb st g)(h2:pD X tb rest h):pD X tb (st::rest) (aM g h):=
 Df (Dj h1 h2) λE σ H zq12=>by
  obtain⟨W,δ,fl,δ',μ',e,ok,hd,hf,k⟩:=zq12
  unfold aM at hf
  obtain⟨⟨fl1,δ1,μ1⟩,e1,e2⟩:=Za.mp hf
  refine⟨W,δ,fl1,δ1,μ1,e,ok,hd,e1,λσ1 W1 ok1 l1 m1 d1=>?_⟩
  cases fl1 with
  |nx=>exact⟨W1,δ1,fl,δ',μ',rfl,ok1,d1,(by rw[m1];exact e2),λσ' W' ok' l' m' d'=>k σ' W' ok' (l1.trans l') m' d'⟩
  |bk=>cases e2;exact k σ1 W1 ok1 l1 m1 d1
  |ct=>cases e2;exact k σ1 W1 ok1 l1 m1 d1
  |rt d=>cases e2;exact k σ1 W1 ok1 l1 m1 d1
theorem gB(he:PD X tb e f)(hs:swapsWith e none pos.line X.env=pure false:=by rfl):PSD X tb (.Expr e pos) (dH f):=
 kJ (Gj he hs) λE σ H zq16=>by
  obtain⟨W,δ,fl,δ',μ',e,ok,hd,hf,h⟩:=zq16
  unfold dH at hf
  obtain⟨⟨x,μ1⟩,e1,e2⟩:=Za.mp hf
  cases e2
  exact⟨W,δ,x,_,e,ok,hd,e1,λv W1 ok1 l1 m1 d1=>h σ W1 ok1 l1 m1 (hd.mono' l1)⟩
theorem aU(he:PD X tb e f):PSD X tb (.Return (some e) pos) (bN f):=
 kJ (Lz he) λE σ H zq17=>by
  obtain⟨W,δ,fl,δ',μ',e,ok,hd,hf,h⟩:=zq17
  unfold bN at hf
  obtain⟨⟨x,μ1⟩,e1,e2⟩:=Za.mp hf
  cases e2
  exact⟨W,δ,x,_,e,ok,hd,e1,λv W1 ok1 l1 m1 d1=>h σ W1 ok1 l1 m1 (hd.mono' l1) v d1⟩
theorem cI{c:Expr}{tc:TF}{as bs:List Stmt}(hc:PTD X tb c tc)(ha:pD X tb as g)(hb:pD X tb bs h):PSD X tb (.If c as bs pos) (sIf tc g h):=
 kJ (Px hc ha hb) λE σ H zq18=>by
  obtain⟨W,δ,fl,δ',μ',e,ok,hd,hf,k⟩:=zq18
  unfold sIf at hf
  obtain⟨⟨z,μ1⟩,e1,e2⟩:=Za.mp hf
  refine⟨W,δ,z,μ1,e,ok,hd,e1,λW1 ok1 l1 m1=>?_⟩
  cases z with
  |true=>exact⟨W1,δ,fl,δ',μ',rfl,ok1,hd.mono' l1,(by rw[m1];exact e2),λσ' W' ok' l' m' d'=>k σ' W' ok' (l1.trans l') m' d'⟩
  |false=>exact⟨W1,δ,fl,δ',μ',rfl,ok1,hd.mono' l1,(by rw[m1];exact e2),λσ' W' ok' l' m' d'=>k σ' W' ok' (l1.trans l') m' d'⟩
theorem aP{i:Nat}{x:Str}{pos':Pos}(hN:X.N.Nodup)(he:PD X tb e f)(hi:X.N[i]? =some x:=by rfl)(hx:Loc X.env.scope x:=by first|exact Or.inl rfl|exact Or.inr rfl)(hs:swapsWith e (some (.Name x pos')) pos.line X.env=pure false:=by rfl)
  (hf:X.fn x=true∨X.env.scope.names.lookup x=some .local:=by first|exact .inl rfl|exact .inr rfl|assumption):PSD X tb (.Assign [.Name x pos'] e pos) (aR i f):=
 kJ (Ju hN hi hx he hs hf) λE σ H zq19=>by
  obtain⟨W,δ,fl,δ',μ',e,ok,hd,hf,h⟩:=zq19
  unfold aR at hf
  obtain⟨⟨x,μ1⟩,e1,e2⟩:=Za.mp hf
  cases e2
  exact⟨W,δ,x,_,e,ok,hd,e1,λv W1 ok1 l1 m1 d1=>h _ W1 ok1 l1 m1 ((hd.mono' l1).set d1)⟩
def xF(i j:Nat)(fs:AF):SF:=λδ μ=>(fs δ μ).bind λr=>match r.1 with
 | [x,y]=>some (.nx,(δ.set i (some x)).set j (some y),r.2)
 |_=>none
theorem yR{i j:Nat}{x y:Str}{a b:Expr}{fs:AF}{px py pt:Pos}{kt k2 pt2}(hc:X.calm=true)(hN:X.N.Nodup)(ha:PAD X tb [a,b] fs)(hij:i≠j:=by decide)(hi:X.N[i]? =some x:=by rfl)(hj:X.N[j]? =some y:=by rfl)
  (hx:X.env.scope.names.lookup x=some .local:=by rfl) (hy:X.env.scope.names.lookup y=some .local:=by rfl)
  (hw:swappedStores [.Tuple [.Name x px,.Name y py] kt pt] (.Tuple [a,b] k2 pt2) X.env=pure (some [x,y]):=by rfl)
  (hs:swapsWithSole [.Tuple [.Name x px,.Name y py] kt pt] (.Tuple [a,b] k2 pt2) pos.line X.env=pure false:=by rfl):
  PSD X tb (.Assign [.Tuple [.Name x px,.Name y py] kt pt] (.Tuple [a,b] k2 pt2) pos) (xF i j fs):=
 kJ (Lx hc hN hi hj hij hx hy ha hw hs) λE σ H zq20=>by
  obtain⟨W,δ,fl,δ',μ',e,ok,hd,hf,h⟩:=zq20
  unfold xF at hf
  obtain⟨⟨xs,μ1⟩,e1,e2⟩:=Za.mp hf
  match xs,e1,e2 with
  | [x,y],e1,e2=>
   cases e2
   refine⟨W,δ,_,_,e,ok,hd,e1,λvs W1 ok1 l1 m1 d1=>?_⟩
   obtain⟨u,v,rfl,du,dv⟩:=aC.two d1
   exact⟨u,v,rfl,h _ W1 ok1 l1 m1 (((hd.mono' l1).set du).set dv)⟩
def dJ(c:TF)(b:SF):Nat->SF
 |0=>λ_ _=>none
 |n+1=>λδ μ=>(c δ μ).bind λr=>if r.1=true then(b δ r.2).bind λq=>match q.1 with
  | .nx=>dJ c b n q.2.1 q.2.2
  | .ct=>dJ c b n q.2.1 q.2.2
  | .bk=>some (.nx,q.2)
  | .rt d=>some (.rt d,q.2)
  else some (.nx,δ,r.2)
theorem jj{c:TF}{b:SF}:∀{n m:Nat}{δ:En}{μ:Mu}{r:Fl×En×Mu},n<=m->dJ c b n δ μ=some r->dJ c b m δ μ=some r
 |0,_,_,_,_,_,h=>by cases h
 |n+1,0,_,_,_,hl,_=>by omega
 |n+1,m+1,δ,μ,r,hl,h=>by
  unfold dJ at h ⊢
  obtain⟨q,e1,e2⟩:=Za.mp h
  rw[e1]
  show(if q.1=true then _ else _)=_
  by_cases hq:q.1=true
  .rw[if_pos hq]at e2 ⊢
   obtain⟨t,e3,e4⟩:=Za.mp e2
   rw[e3]
   show(match t.1 with| .nx=>_| .ct=>_| .bk=>_| .rt d=>_)=_
   cases ht:t.1 with
   |nx=>rw[ht]at e4;exact jj (by omega) e4
   |ct=>rw[ht]at e4;exact jj (by omega) e4
   |bk=>rw[ht]at e4;exact e4
   |rt d=>rw[ht]at e4;exact e4
  .rw[if_neg hq]at e2 ⊢;exact e2
open Classical in
def lA(c:TF)(b:SF):SF:=λδ μ=>if h:∃n r,dJ c b n δ μ=some r then some (choose (choose_spec h))else none
theorem tO{c:TF}{b:SF}{n:Nat}{δ:En}{μ:Mu}{r:Fl×En×Mu}(h:dJ c b n δ μ=some r):lA c b δ μ=some r:=by
 have hx:∃n r,dJ c b n δ μ=some r:=⟨n,r,h⟩
 unfold lA
 rw[dif_pos hx]
 have q:=Classical.choose_spec (Classical.choose_spec hx)
 have a:=jj (Nat.le_max_left n (Classical.choose hx)) h
 have b:=jj (Nat.le_max_right n (Classical.choose hx)) q
 rw[a]at b
 exact b.symm
theorem zO{c:TF}{b:SF}{δ:En}{μ:Mu}{r:Fl×En×Mu}(h:lA c b δ μ=some r):∃n,dJ c b n δ μ=some r:=by
 unfold lA at h
 split at h
 .rename_i hx
  cases h
  exact⟨_,Classical.choose_spec (Classical.choose_spec hx)⟩
 .cases h
theorem sW{c:Expr}{tc:TF}{body:List Stmt}(hp:PassesOwn (model X.prog X.w) X.A X.env X.xe)(hc:PTD X tb c tc)(hb:pD X tb body g):PSD X tb (.While c body [] pos) (lA tc g):=
 kJ (Cw hp hc hb) λE σ H zq21=>by
  obtain⟨W,δ,fl,δ',μ',e,ok,hd,hf,h⟩:=zq21
  obtain⟨n0,hn0⟩:=zO hf
  refine⟨λm σ1 H1=>∃W1 δ1,W1.H=H1/\WOk X.K tb W1/\Le tb W W1/\iy X.K tb W1 δ1 σ1/\dJ tc g m δ1 W1.mu=some (fl,δ',μ'),⟨n0,W,δ,e,ok,Le.refl _,hd,hn0⟩,?_⟩
  rintro m σ1 H1 ⟨W1,δ1,rfl,ok1,l1,d1,hn⟩
  cases m with
  |zero=>cases hn
  |succ m=>
   unfold dJ at hn
   obtain⟨⟨k,μ2⟩,e1,e2⟩:=Za.mp hn
   refine⟨W1,δ1,k,μ2,rfl,ok1,d1,e1,λW2 ok2 l2 m2=>?_⟩
   cases k with
   |false=>
    cases e2
    rw[if_neg Zr]
    exact h σ1 W2 ok2 (l1.trans l2) m2 (d1.mono' l2)
   |true=>
    rw[if_pos rfl]
    obtain⟨⟨fl3,δ3,μ3⟩,e3,e4⟩:=Za.mp e2
    refine⟨λσ3 H3=>∃W3,W3.H=H3/\WOk X.K tb W3/\Le tb W W3/\iy X.K tb W3 δ3 σ3/\dJ tc g m δ3 W3.mu=some (fl,δ',μ'),λσ3 H3 ⟨W3,q1,q2,q3,q4,q5⟩=>⟨m,Nat.lt_succ_self _,W3,δ3,q1,q2,q3,q4,q5⟩,?_⟩
    refine⟨W2,δ1,fl3,δ3,μ3,rfl,ok2,d1.mono' l2,(by rw[m2];exact e3),λσ3 W3 ok3 l3 m3 d3=>?_⟩
    cases fl3 with
    |nx=>exact⟨W3,rfl,ok3,(l1.trans l2).trans l3,d3,by rw[m3];exact e4⟩
    |ct=>exact⟨W3,rfl,ok3,(l1.trans l2).trans l3,d3,by rw[m3];exact e4⟩
    |bk=>cases e4;exact h σ3 W3 ok3 ((l1.trans l2).trans l3) m3 d3
    |rt d=>cases e4;exact h σ3 W3 ok3 ((l1.trans l2).trans l3) m3 d3
end
abbrev GF:=D->En->Mu->Option En
abbrev GsF:=List D->En->Mu->Option En
inductive tDG(K:Zw)(tb:List Addr)(ts:List Nat)(h:GF)(v:V)(σ:SV)(H:Hp)(Q:SV->Hp->Prop):Prop
 |mk (W) (δ) (d) (δ'):(W.H=H)->(WOk K tb W)->(iy K tb W δ σ)->(Den K tb W d v)->(h d δ W.mu=some δ')->(∀σ',iy K tb W δ' σ'->σ'.length=σ.length->(∀i,i∉ts->σ'[i]? =σ[i]?)->Q σ' H)->tDG K tb ts h v σ H Q
inductive Qc(K:Zw)(tb:List Addr)(ts:List Nat)(h:GsF)(vs:List V)(σ:SV)(H:Hp)(Q:SV->Hp->Prop):Prop
 |mk (W) (δ) (ds) (δ'):(W.H=H)->(WOk K tb W)->(iy K tb W δ σ)->(cG K tb W ds vs)->(h ds δ W.mu=some δ')->(∀σ',iy K tb W δ' σ'->σ'.length=σ.length->(∀i,i∉ts->σ'[i]? =σ[i]?)->Q σ' H)->Qc K tb ts h vs σ H Q
def PGD(X:Cx)(tb:List Addr)(tg:Expr)(ts:List Nat)(h:GF):Prop:=PG X tg (tDG X.K tb ts h)
def FP(X:Cx)(tb:List Addr)(tg:List Expr)(ts:List Nat)(h:GsF):Prop:=PGs X tg (Qc X.K tb ts h)
theorem Ja{X:Cx}{e:Expr}{t t':TG}(h:PG X e t)(k:∀v σ H Q,t' v σ H Q->t v σ H Q):PG X e t':=λpins s σ H v u Q I r hq=>h pins s σ H v u Q I r (k v σ H Q hq)
theorem Bw{X:Cx}{e:List Expr}{t t':TGs}(h:PGs X e t)(k:∀v σ H Q,t' v σ H Q->t v σ H Q):PGs X e t':=λpins s σ H v u Q I r hq=>h pins s σ H v u Q I r (k v σ H Q hq)
def aJ(i:Nat):GF:=λd δ _=>some (δ.set i (some d))
def jd:GsF:=λds δ _=>match ds with
 | []=>some δ
 |_=>none
def bO(h:GF)(hs:GsF):GsF:=λds δ μ=>match ds with
 | []=>none
 |d::r=>(h d δ μ).bind λδ1=>hs r δ1 μ
def jb(n:Nat)(hs:GsF):GF:=λd δ μ=>match d with
 | .tup ds=>if ds.length=n then hs ds δ μ else none
 |_=>none
section
variable {X:Cx} {tb:List Addr} {e tg iter elt:Expr} {f:EF} {pos:Pos}
theorem aV{i:Nat}{x:Str}(hN:X.N.Nodup)(hi:X.N[i]? =some x:=by rfl)(hx:Loc X.env.scope x:=by first|exact Or.inl rfl|exact Or.inr rfl)
  (hf:X.fn x=true∨X.env.scope.names.lookup x=some .local:=by first|exact .inl rfl|exact .inr rfl|assumption):PGD X tb (.Name x pos) [i] (aJ i):=
 Ja (HW hN hi hx hf) λv σ H Q zq1=>by
  obtain⟨W,δ,d,δ',e,ok,hd,dv,hh,h⟩:=zq1
  cases hh
  refine h _ (hd.set dv) (by rw[List.length_set]) λj hj=>?_
  rw[List.getElem?_set_ne (λz=>hj (by simp[z]))]
theorem gw:FP X tb [] [] jd:=
 Bw Hk λvs σ H Q zq2=>by
  obtain⟨W,δ,ds,δ',e,ok,hd,dv,hh,h⟩:=zq2
  match ds,dv,hh with
  | [],dv,hh=>
   cases hh
   exact⟨aC.zero dv,h σ hd rfl λ_ _=>rfl⟩
theorem bM{es:List Expr}{ts us:List Nat}{h:GF}{hs:GsF}(h1:PGD X tb e ts h)(h2:FP X tb es us hs)
  (ha:(assignEach (e::es) X.env).map (·.2)=assign e X.env::(assignEach es X.env).map (·.2):=by rfl):FP X tb (e::es) (ts++us) (bO h hs):=
 Bw (Bj h1 h2 ha) λvs σ H Q zq3=>by
  obtain⟨W,δ,ds,δ',e,ok,hd,dv,hh,k⟩:=zq3
  match ds,dv,hh with
  |d::r,dv,hh=>
   obtain⟨δ1,e1,e2⟩:=Za.mp hh
   have dv':aC _ _ _ _ _:=dv
   unfold aC at dv'
   obtain⟨u,us',rfl,p,q⟩:=dv'
   refine⟨u,us',rfl,W,δ,d,δ1,e,ok,hd,p,e1,λσ1 d1 l1 s1=>⟨W,δ1,r,δ',e,ok,d1,q,e2,λσ2 d2 l2 s2=>?_⟩⟩
   exact k σ2 d2 (l2.trans l1) λi hi=>(s2 i λz=>hi (Zn _ z)).trans (s1 i λz=>hi (List.mem_append_left _ z))
theorem iG{es:List Expr}{k:Nat}{ts:List Nat}{hs:GsF}{n:Nat}(hc:X.calm=true)(h:FP X tb es ts hs)(hn:(assignEach es X.env).length=n:=by rfl)(hst:(assignEach es X.env).findIdx? (·.1)=none:=by rfl):
  PGD X tb (.Tuple es k pos) ts (jb n hs):=
 Ja (Jw hc h hn hst) λv σ H Q zq4=>by
  obtain⟨W,δ,d,δ',e,ok,hd,dv,hh,k⟩:=zq4
  cases d with
  |tup ds=>
   obtain⟨a,xs,rfl,q,r⟩:=gO dv
   have hh':(if ds.length=n then hs ds δ W.mu else none)=some δ':=hh
   by_cases hl:ds.length=n
   .rw[if_pos hl]at hh'
    have q':SqT X.K H a xs:=by rw[<-e];exact SqT.fz q
    have hl':xs.length=n:=by rw[<-aC.length r];exact hl
    exact⟨a,xs,rfl,q',hl',⟨W,δ,ds,δ',e,ok,hd,r,hh',k⟩⟩
   .rw[if_neg hl]at hh';cases hh'
  |_=>cases hh
def zY(f:EF)(h:GF):SF:=λδ μ=>(f δ μ).bind λr=>(h r.1 δ r.2).bind λδ'=>some (.nx,δ',r.2)
theorem ug{ts:List Nat}{h:GF}(he:PD X tb e f)(hg:PGD X tb tg ts h)(hs:swapsWithSole [tg] e pos.line X.env=pure false:=by rfl)(hw:swappedStores [tg] e X.env=pure none:=by rfl)
  (h1:(assignEach [tg] X.env).map (·.2)=[assign tg X.env]:=by rfl):PSD X tb (.Assign [tg] e pos) (zY f h):=
 kJ (Cj he hg hs hw h1) λE σ H zq5=>by
  obtain⟨W,δ,fl,δ',μ',e,ok,hd,hf,k⟩:=zq5
  unfold zY at hf
  obtain⟨⟨x,μ1⟩,e1,hf⟩:=Za.mp hf
  obtain⟨δ1,e2,e3⟩:=Za.mp hf
  cases e3
  refine⟨W,δ,x,_,e,ok,hd,e1,λv W1 ok1 l1 m1 d1=>⟨W1,δ,x,_,rfl,ok1,hd.mono' l1,d1,(by rw[m1];exact e2),λσ1 d2 _ _=>?_⟩⟩
  exact k σ1 W1 ok1 l1 m1 d2
structure Src where
 items:List D
 cel:Option Nat
def Src.ok(S:Src)(μ:Mu):Prop:=∀n,S.cel=some n->μ[n]? =some (some S.items)
theorem Src.bx{S:Src}{μ:Mu}(h:S.cel=none):S.ok μ:=λn e=>by rw[h]at e;cases e
abbrev IF:=En->Mu->Option (Src×Mu)
structure zL(K:Zw)(tb:List Addr)(J:It)(S:Src)(W0:Wd):Prop where
 go:∀(i:Nat) W d,Le tb W0 W->WOk K tb W->S.ok W.mu->S.items[i]? =some d->J.go i W.H/\∀x H',J.yld i W.H x H'->∃W',W'.H=H'/\WOk K tb W'/\Le tb W W'/\W'.mu=W.mu/\Den K tb W' d x
 stop:∀(i:Nat) W,Le tb W0 W->WOk K tb W->S.ok W.mu->S.items.length<=i->J.stop i W.H
inductive tDI(K:Zw)(tb:List Addr)(f:IF)(σ:SV)(H:Hp)(R:It->Hp->Prop):Prop
 |mk (W) (δ) (S) (μ'):(W.H=H)->(WOk K tb W)->(iy K tb W δ σ)->(f δ W.mu=some (S,μ'))->(∀J W',WOk K tb W'->Le tb W W'->W'.mu=μ'->zL K tb J S W'->R J W'.H)->tDI K tb f σ H R
def PID(X:Cx)(tb:List Addr)(tg iter:Expr)(f:IF):Prop:=PI X tg iter (tDI X.K tb f)
theorem Dl{w w':TI}(h:PI X tg iter w)(k:∀σ H R,w' σ H R->w σ H R):PI X tg iter w':=λpins s σ H R I hq=>h pins s σ H R I (k σ H R hq)
theorem Lh{l:Expr}{tl:TE}(hl:PE X l tl):PI X tg l (λσ H R=>tl σ H λx H1=>∃a,x= .ref a/\((∃xs,SqL X.K H1 a xs)/\R (Itl X.K a) H1∨(∃xs,SqT X.K H1 a xs)/\R (Itt X.K a) H1)):=by
 intro pins s σ H R I h
 refine thn (hl pins s σ H _ I h) λv s1 zq6=>?_
 obtain⟨x,H1,I1,r1,q1⟩:=zq6
 obtain⟨a,e,q⟩:=q1
 subst e
 cases r1
 rcases q with⟨⟨xs,hq⟩,q⟩|⟨⟨xs,hq⟩,q⟩
 .obtain⟨its,rv,p,hz⟩:=I1.list hq
  refine wpAny_pyIter_list p.isList ?_
  refine⟨s1.heap.objs.size,[s1.heap.objs.size],_,_,H1,rfl,I1.kept (t':=s1.toks) λb o e=>Zb _ e,rY a _,⟨_,Zf _ rfl,rfl,rfl⟩,λb hb=>?_,q⟩
  have e:b=s1.heap.objs.size:=by simpa using hb
  subst e
  exact I1.fpOk (Zg _) (I1.hok.fresh (Zg _))
 .obtain⟨its,rv,p,hz⟩:=I1.tuple hq
  refine wpAny_pyIter_tuple (show s1.heap.IsTuple a its.toArray from p) ?_
  refine⟨s1.heap.objs.size,[s1.heap.objs.size],_,_,H1,rfl,I1.kept (t':=s1.toks) λb o e=>Zb _ e,qO a _,⟨_,Zf _ rfl,rfl,rfl⟩,λb hb=>?_,q⟩
  have e:b=s1.heap.objs.size:=by simpa using hb
  subst e
  exact I1.fpOk (Zg _) (I1.hok.fresh (Zg _))
def nu(d:D)(μ:Mu):Option Src:=match d with
 | .tup ds=>some ⟨ds,none⟩
 | .lst ds=>some ⟨ds,none⟩
 | .cell n=>match μ[n]? with
  |some (some ds)=>some ⟨ds,some n⟩
  |_=>none
 |_=>none
theorem Dk{K:Zw}{W0:Wd}{a:Addr}{xs:List V}{ds:List D}(q:SqL K (W0.fz tb) a xs)(r:cG K tb W0 ds xs):zL K tb (Itl K a) ⟨ds,none⟩ W0 where
 go:=λi W d l ok _ e=>by
  have q':SqL K W.H a xs:=SqL.fz (SqL.mono l.same q)
  obtain⟨v,ev,dv⟩:=aC.get (cG.mono' r l) e
  exact⟨⟨xs,v,q',ev⟩,λx H' ⟨e1,e2⟩=>⟨W,e1.symm,ok,Le.refl _,rfl,by have:=e2 xs q';rw[ev]at this;cases this;exact dv⟩⟩
 stop:=λi W l ok _ hi=>⟨xs,SqL.fz (SqL.mono l.same q),by rw[<-aC.length r];exact hi⟩
theorem Cy{K:Zw}{W0:Wd}{a:Addr}{xs:List V}{ds:List D}(q:SqT K (W0.fz tb) a xs)(r:cG K tb W0 ds xs):zL K tb (Itt K a) ⟨ds,none⟩ W0 where
 go:=λi W d l ok _ e=>by
  have q':SqT K W.H a xs:=SqT.fz (SqT.mono l.same q)
  obtain⟨v,ev,dv⟩:=aC.get (cG.mono' r l) e
  exact⟨⟨xs,v,q',ev⟩,λx H' ⟨e1,e2⟩=>⟨W,e1.symm,ok,Le.refl _,rfl,by have:=e2 xs q';rw[ev]at this;cases this;exact dv⟩⟩
 stop:=λi W l ok _ hi=>⟨xs,SqT.fz (SqT.mono l.same q),by rw[<-aC.length r];exact hi⟩
theorem KD{K:Zw}{W0:Wd}{a:Addr}{n:Nat}{ds:List D}(q:W0.ad[n]? =some a):zL K tb (Itl K a) ⟨ds,some n⟩ W0 where
 go:=λi W d l ok hs e=>by
  obtain⟨xs,ex,r⟩:=ok.cont n a ds (l.ad _ _ q) (hs n rfl)
  obtain⟨v,ev,dv⟩:=aC.get r e
  exact⟨⟨xs,v,SqL.of ex,ev⟩,λx H' ⟨e1,e2⟩=>⟨W,e1.symm,ok,Le.refl _,rfl,by have:=e2 xs (SqL.of ex);rw[ev]at this;cases this;exact dv⟩⟩
 stop:=λi W l ok hs hi=>by
  obtain⟨xs,ex,r⟩:=ok.cont n a ds (l.ad _ _ q) (hs n rfl)
  exact⟨xs,SqL.of ex,by rw[<-aC.length r];exact hi⟩
def fV(f:EF):IF:=λδ μ=>(f δ μ).bind λr=>(nu r.1 r.2).map λS=>(S,r.2)
theorem dO(he:PD X tb e f):PID X tb tg e (fV f):=
 Dl (Lh he) λσ H R zq7=>by
  obtain⟨W,δ,S,μ',e,ok,hd,hf,h⟩:=zq7
  unfold fV at hf
  obtain⟨⟨x,μ1⟩,e1,hf⟩:=Za.mp hf
  obtain⟨S',e2,e3⟩:=Zp.mp hf
  cases e3
  refine⟨W,δ,x,_,e,ok,hd,e1,λv W1 ok1 l1 m1 d1=>?_⟩
  cases x with
  |tup ds=>
   cases e2
   obtain⟨a,xs,rfl,q,r⟩:=gO d1
   exact⟨a,rfl,.inr ⟨⟨xs,SqT.fz q⟩,h _ W1 ok1 l1 m1 (Cy q r)⟩⟩
  |lst ds=>
   cases e2
   obtain⟨a,xs,rfl,q,r⟩:=jl d1
   exact⟨a,rfl,.inl ⟨⟨xs,SqL.fz q⟩,h _ W1 ok1 l1 m1 (Dk q r)⟩⟩
  |cell n=>
   obtain⟨a,rfl,q⟩:=gD d1
   have e2':(match μ1[n]? with|some (some ds)=>some (⟨ds,some n⟩:Src)|_=>none)=some S:=e2
   cases e4:μ1[n]? with
   |none=>rw[e4]at e2';cases e2'
   |some o=>
    cases o with
    |none=>rw[e4]at e2';cases e2'
    |some ds=>
     rw[e4]at e2'
     cases e2'
     obtain⟨xs,ex,_⟩:=ok1.cont n a ds q (by rw[m1];exact e4)
     exact⟨a,rfl,.inl ⟨⟨xs,SqL.of ex⟩,h _ W1 ok1 l1 m1 (KD q)⟩⟩
  |_=>cases e2
def cu(lo:Int)(n:Nat):List D:=(List.range n).map λ(k:Nat)=>D.int (lo+(k:Int))
theorem Jy{K:Zw}{W0:Wd}{lo:Int}{n:Nat}:zL K tb (Itr lo n) ⟨cu lo n,none⟩ W0 where
 go:=λi W d l ok _ e=>by
  unfold cu at e
  rw[List.getElem?_map]at e
  by_cases hi:i<n
  .rw[List.getElem?_range hi]at e
   cases e
   exact⟨hi,λx H' ⟨e1,e2⟩=>⟨W,e1.symm,ok,Le.refl _,rfl,by rw[e2];exact di⟩⟩
  .rw[List.getElem?_eq_none (by simpa using hi)]at e;cases e
 stop:=λi W l ok _ hi=>by
  unfold cu at hi
  have hi':n<=i:=by simpa using hi
  exact hi'
def bH(fs:AF):IF:=λδ μ=>(fs δ μ).bind λr=>match r.1 with
 | [.int j]=>if -(2 ^ 62)<=j/\j<2 ^ 62 then some (⟨cu 0 j.toNat,none⟩,r.2)else none
 |_=>none
theorem bT{a:Expr}{fs:AF}{p:Pos}(hm:X.mg "range"=none)(ha:PAD X tb [a] fs)(hg:Gl X "range":=by rfl)(hs:starEach [a] X.env=[(false,eval a X.env)]:=by rfl):PID X tb tg (.Call (.Name "range" p) [a] [] pos) (bH fs):=
 Dl (Al hg hm ha hs) λσ H R zq8=>by
  obtain⟨W,δ,S,μ',e,ok,hd,hf,h⟩:=zq8
  unfold bH at hf
  obtain⟨⟨xs,μ1⟩,e1,e2⟩:=Za.mp hf
  match xs,e1,e2 with
  | [.int j],e1,e2=>
   have e2':(if -(2 ^ 62)<=j/\j<2 ^ 62 then some ((⟨cu 0 j.toNat,none⟩:Src),μ1)else none)=some (S,μ'):=e2
   split at e2'
   .rename_i hj
    cases e2'
    refine⟨W,δ,_,_,e,ok,hd,e1,λvs W1 ok1 l1 m1 d1=>?_⟩
    obtain⟨u,rfl,du⟩:=aC.one d1
    rw[bz du]
    exact⟨j,rfl,hj.1,hj.2,h _ W1 ok1 l1 m1 Jy⟩
   .cases e2'
open Classical in
def gn(S:Src)(h:GF)(b:SF):List D->SF
 | [],δ,μ=>if S.ok μ then some (.nx,δ,μ)else none
 |d::r,δ,μ=>if S.ok μ then(h d δ μ).bind λδ1=>(b δ1 μ).bind λq=>match q.1 with
  | .nx=>gn S h b r q.2.1 q.2.2
  | .ct=>gn S h b r q.2.1 q.2.2
  | .bk=>some (.nx,q.2)
  | .rt d=>some (.rt d,q.2)
  else none
def fH(f:IF)(h:GF)(b:SF):SF:=λδ μ=>(f δ μ).bind λr=>gn r.1 h b r.1.items δ r.2
theorem dU{body:List Stmt}{fi:IF}{ts:List Nat}{h:GF}{b:SF}(hp:PassesOwn (model X.prog X.w) X.A X.env X.xe)(hc:X.calm=true)(hi:PID X tb tg iter fi)(hg:PGD X tb tg ts h)(hb:pD X tb body b)
  (hs:∀x,foldedSetIterable iter X.env x=pure x:=by intro _;rfl):PSD X tb (.For tg iter body [] pos) (fH fi h b):=
 kJ (Jx hp hc hi hg hb hs) λE σ H zq10=>by
  obtain⟨W,δ,fl,δ',μ',e,ok,hd,hf,k⟩:=zq10
  unfold fH at hf
  obtain⟨⟨S,μ1⟩,e1,e2⟩:=Za.mp hf
  refine⟨W,δ,S,μ1,e,ok,hd,e1,λJ W1 ok1 l1 m1 io=>?_⟩
  refine⟨λi m σ2 H2=>m=S.items.length-i/\i<=S.items.length/\∃W2 δ2,W2.H=H2/\WOk X.K tb W2/\Le tb W1 W2/\iy X.K tb W2 δ2 σ2/\gn S h b (S.items.drop i) δ2 W2.mu=some (fl,δ',μ'),
   ⟨S.items.length,rfl,Nat.zero_le _,W1,δ,rfl,ok1,Le.refl _,hd.mono' l1,by rw[m1];exact e2⟩,?_⟩
  rintro i m σ2 H2 ⟨hm,hi',W2,δ2,rfl,ok2,l2,d2,hn⟩
  by_cases hlt:i<S.items.length
  .right
   have hdr:S.items.drop i=S.items[i]::S.items.drop (i+1):=ZJ hlt
   rw[hdr]at hn
   unfold gn at hn
   split at hn
   .rename_i hok
    obtain⟨δ3,e3,hn⟩:=Za.mp hn
    obtain⟨⟨fl4,δ4,μ4⟩,e4,e5⟩:=Za.mp hn
    obtain⟨go,yl⟩:=io.go i W2 S.items[i] l2 ok2 hok (by simp[hlt])
    refine⟨go,λσ5 H5=>∃W5,W5.H=H5/\WOk X.K tb W5/\Le tb W1 W5/\iy X.K tb W5 δ4 σ5/\gn S h b (S.items.drop (i+1)) δ4 W5.mu=some (fl,δ',μ'),λσ5 H5 ⟨W5,q1,q2,q3,q4,q5⟩=>⟨S.items.length-(i+1),by omega,rfl,hlt,W5,δ4,q1,q2,q3,q4,q5⟩,λx H' y=>?_⟩
    obtain⟨W3,rfl,ok3,l3,m3,d3⟩:=yl x H' y
    refine⟨W3,δ2,S.items[i],δ3,rfl,ok3,d2.mono' l3,d3,(by rw[m3];exact e3),λσ3 d3' _ _=>?_⟩
    refine⟨W3,δ3,fl4,δ4,μ4,rfl,ok3,d3',(by rw[m3];exact e4),λσ4 W4 ok4 l4 m4 d4=>?_⟩
    cases fl4 with
    |nx=>exact⟨W4,rfl,ok4,(l2.trans l3).trans l4,d4,by rw[m4];exact e5⟩
    |ct=>exact⟨W4,rfl,ok4,(l2.trans l3).trans l4,d4,by rw[m4];exact e5⟩
    |bk=>cases e5;exact k σ4 W4 ok4 (((l1.trans l2).trans l3).trans l4) m4 d4
    |rt d=>cases e5;exact k σ4 W4 ok4 (((l1.trans l2).trans l3).trans l4) m4 d4
   .cases hn
  .left
   have hdr:S.items.drop i=[]:=List.drop_of_length_le (by omega)
   rw[hdr]at hn
   unfold gn at hn
   split at hn
   .rename_i hok
    have hn':some (Fl.nx,δ2,W2.mu)=some (fl,δ',μ'):=hn
    cases hn'
    exact⟨io.stop i W2 l2 ok2 hok (by omega),k σ2 W2 ok2 (l1.trans l2) rfl d2⟩
   .cases hn
abbrev LF:=En->Mu->Option (List D×Mu)
inductive tDN(K:Zw)(tb:List Addr)(f:LF)(σ:SV)(H:Hp)(Q:VK):Prop
 |mk (W) (δ) (ds) (μ'):(W.H=H)->(WOk K tb W)->(iy K tb W δ σ)->(f δ W.mu=some (ds,μ'))->(∀p vs W',WOk K tb W'->Le tb W W'->W'.mu=μ'->W'.H p=none->cG K tb W' ds vs->Q (.ref p) (upd W'.H p (.lst vs)))->tDN K tb f σ H Q
def PDN(X:Cx)(tb:List Addr)(e:Expr)(f:LF):Prop:=PE X e (tDN X.K tb f)
def mFz(f:LF):EF:=λδ μ=>(f δ μ).bind λr=>some (.lst r.1,r.2)
def iw(f:LF):EF:=λδ μ=>(f δ μ).bind λr=>some (.cell r.2.length,r.2++[some r.1])
theorem fW{f:LF}(h:PDN X tb e f):PD X tb e (mFz f):=dG h λσ H Q zq11=>by
 obtain⟨W,δ,d,μ',e,ok,hd,hf,k⟩:=zq11
 unfold mFz at hf
 obtain⟨⟨ds,μ1⟩,e1,e2⟩:=Za.mp hf
 cases e2
 refine⟨W,δ,ds,_,e,ok,hd,e1,λp vs W1 ok1 l1 m1 hp r=>?_⟩
 exact iH ok1 (λv W' ok' l' m' d'=>k v W' ok' (l1.trans l') (m'.trans m1) d') r hp
theorem jk{f:LF}(h:PDN X tb e f):PD X tb e (iw f):=dG h λσ H Q zq12=>by
 obtain⟨W,δ,d,μ',e,ok,hd,hf,k⟩:=zq12
 unfold iw at hf
 obtain⟨⟨ds,μ1⟩,e1,e2⟩:=Za.mp hf
 cases e2
 refine⟨W,δ,ds,μ1,e,ok,hd,e1,λp vs W1 ok1 l1 m1 hp r=>?_⟩
 obtain⟨ok2,l2,d2⟩:=ok1.new hp r
 exact k _ _ ok2 (l1.trans l2) (by show W1.mu++[some ds]=_;rw[m1]) (by rw[<-m1];exact d2)
def oO(fs:AF):LF:=λδ μ=>(fs δ μ).bind λr=>if r.1.length<=sizeLine then some r else none
theorem lF{es:List Expr}{fs:AF}(h:PAD X tb es fs):PDN X tb (.List es pos) (oO fs):=dG (BR h) λσ H Q zq13=>by
 obtain⟨W,δ,ds,μ',e,ok,hd,hf,k⟩:=zq13
 unfold oO at hf
 obtain⟨⟨xs,μ1⟩,e1,e2⟩:=Za.mp hf
 split at e2
 .rename_i hl
  cases e2
  exact⟨W,δ,_,_,e,ok,hd,e1,λvs W1 ok1 l1 m1 d1=>⟨by rw[<-aC.length d1];exact hl,λp hp=>k p vs W1 ok1 l1 m1 hp d1⟩⟩
 .cases e2
def dg(own:List Str)(δ:En)(capI:List Nat):En:=List.replicate own.length none++capI.map λi=>(δ[i]?).join
theorem pL{K:Zw}{W:Wd}{own:List Str}{capI:List Nat}{δ:En}{σ:SV}(h:iy K tb W δ σ):iy K tb W (dg own δ capI) (cJ own σ capI):=by
 refine⟨by unfold dg cJ jx;simp,λi d e=>?_⟩
 unfold dg at e
 unfold cJ jx
 by_cases hi:i<own.length
 .rw[Zs (by simpa using hi),List.getElem?_replicate]at e
  split at e<;>cases e
 .rw[List.getElem?_append_right (by simpa using hi),List.getElem?_map]at e
  rw[List.getElem?_append_right (by simpa using hi),List.getElem?_map]
  rw[List.length_replicate]at e ⊢
  cases q:capI[i-own.length]? with
  |none=>rw[q]at e;cases e
  |some j=>
   rw[q]at e
   have e':(δ[j]?).join=some d:=by simpa using e
   cases q2:δ[j]? with
   |none=>rw[q2]at e';cases e'
   |some o=>
    rw[q2]at e'
    have e2:o=some d:=e'
    subst e2
    obtain⟨v,ev,dv⟩:=h.2 j d q2
    exact⟨v,by simp[ev],dv⟩
theorem fits_of{own:List Str}{capI:List Nat}{σ σ':SV}{ts:List Nat}(hts:∀i∈ts,i<own.length)(hl:σ'.length=(cJ own σ capI).length)(h:∀i,i∉ts->σ'[i]? =(cJ own σ capI)[i]?):Fits (cJ own σ capI) σ':=
 ⟨hl,λi v e=>by
  rw[h i λz=>?_]
  .exact e
  .unfold cJ at e
   rw[Zs (by simpa using hts i z),List.getElem?_replicate]at e
   split at e<;>cases e⟩
open Classical in
def lcL(S:Src)(h:GF)(tt:TF)(fe:EF)(δb:En):List D->Mu->Option (List D×Mu)
 | [],μ=>if S.ok μ then some ([],μ)else none
 |d::r,μ=>if S.ok μ then(h d δb μ).bind λδ1=>(tt δ1 μ).bind λk=>if k.1=true then(fe δ1 k.2).bind λy=>(lcL S h tt fe δb r y.2).bind λys=>some (y.1::ys.1,ys.2)else lcL S h tt fe δb r k.2 else none
def lLC(own:List Str)(capI:List Nat)(fi:IF)(h:GF)(tt:TF)(fe:EF):LF:=λδ μ=>(fi δ μ).bind λr=>if r.1.items.length<=sizeLine then lcL r.1 h tt fe (dg own δ capI) r.1.items r.2 else none
def vo(X:Cx)(tb:List Addr)(ifs:List Expr)(t:TF):Prop:=PIf X ifs (tDT X.K tb t)
def bK:TF:=λ_ μ=>some (true,μ)
theorem Js{X:Cx}{e:List Expr}{t t':TT}(h:PIf X e t)(k:∀σ H Q,t' σ H Q->t σ H Q):PIf X e t':=λpins s σ H Q I hq=>h pins s σ H Q I (k σ H Q hq)
theorem qP:vo X tb [] bK:=Js Fx λσ H Q zq14=>by
 obtain⟨W,δ,k,μ',e,ok,hd,hf,h⟩:=zq14
 subst e;cases hf
 exact h W ok (Le.refl _) rfl
theorem nT{c:Expr}{t:TF}(h:PTD X tb c t):vo X tb [c] t:=Fg h
theorem KR{ifs:List Expr}{fi:IF}{h:GF}{tt:TF}{fe:EF}{own cap:List Str}{capI ts:List Nat}{scope:Scope}(hc:X.calm=true)(B:cH X own cap capI scope)(hown:∀x∈own,(x,NameKind.free)∉scope.names)(hi:PID X tb tg iter fi)
  (hg:∀cs C fp s2 H2,PGD (cL X own cap scope cs C fp s2 H2) tb tg ts h) (ht:∀cs C fp s2 H2,vo (cL X own cap scope cs C fp s2 H2) tb ifs tt) (he:∀cs C fp s2 H2,PD (cL X own cap scope cs C fp s2 H2) tb elt fe)
  (hts:∀i∈ts,i<own.length:=by decide) (hs:∀x,foldedSetIterable iter X.env x=pure x:=by intro _;rfl):PDN X tb (.ListComp elt [⟨tg,iter,ifs,0⟩] scope pos) (lLC own capI fi h tt fe):=
 dG (Qd (g:=tDG X.K tb ts h) (tt:=tDT X.K tb tt) (te:=tD X.K tb fe) hc B hown hi hg ht he hs) λσ H Q zq15=>by
  obtain⟨W,δ,ds,μ',e,ok,hd,hf,k⟩:=zq15
  unfold lLC at hf
  obtain⟨⟨S,μ1⟩,e1,e2⟩:=Za.mp hf
  split at e2
  .rename_i hz
   refine⟨W,δ,S,μ1,e,ok,hd,e1,λJ W1 ok1 l1 m1 io=>?_⟩
   refine⟨λi m ys H2=>m=S.items.length-i/\i<=S.items.length/\ys.length<=i/\∃W2 zs rs,W2.H=H2/\WOk X.K tb W2/\Le tb W1 W2/\cG X.K tb W2 zs ys/\lcL S h tt fe (dg own δ capI) (S.items.drop i) W2.mu=some (rs,μ')/\zs++rs=ds,
    ⟨S.items.length,rfl,Nat.zero_le _,Nat.zero_le _,W1,[],ds,rfl,ok1,Le.refl _,aC.nil,by rw[m1];exact e2,rfl⟩,?_⟩
   rintro i m ys H2 ⟨hm,hi',hy,W2,zs,rs,rfl,ok2,l2,d2,hn,hzs⟩
   by_cases hlt:i<S.items.length
   .right
    have hdr:S.items.drop i=S.items[i]::S.items.drop (i+1):=ZJ hlt
    rw[hdr]at hn
    unfold lcL at hn
    split at hn
    .rename_i hok
     obtain⟨δ3,e3,hn⟩:=Za.mp hn
     obtain⟨⟨kk,μ4⟩,e4,hn⟩:=Za.mp hn
     obtain⟨go,yl⟩:=io.go i W2 S.items[i] l2 ok2 hok (by simp[hlt])
     refine⟨go,Zc (Nat.lt_of_le_of_lt hy hlt) hz,λx H' y=>?_⟩
     obtain⟨W3,rfl,ok3,l3,m3,d3⟩:=yl x H' y
     refine⟨W3,dg own δ capI,S.items[i],δ3,rfl,ok3,(pL hd).mono' ((l1.trans l2).trans l3),d3,(by rw[m3];exact e3),λσ3 d3' hl3 ht3=>⟨fits_of hts hl3 ht3,?_⟩⟩
     refine⟨W3,δ3,kk,μ4,rfl,ok3,d3',(by rw[m3];exact e4),λW4 ok4 l4 m4=>?_⟩
     cases kk with
     |false=>
      rw[if_neg Zr]
      exact⟨S.items.length-(i+1),by omega,rfl,hlt,by omega,W4,zs,rs,rfl,ok4,(l2.trans l3).trans l4,cG.mono' d2 (l3.trans l4),by rw[m4];exact hn,hzs⟩
     |true=>
      rw[if_pos rfl]
      have hn':((fe δ3 μ4).bind λy=>(lcL S h tt fe (dg own δ capI) (S.items.drop (i+1)) y.2).bind λys=>some (y.1::ys.1,ys.2))=some (rs,μ'):=hn
      obtain⟨⟨yd,μ5⟩,e5,hn'⟩:=Za.mp hn'
      obtain⟨⟨rs',μ6⟩,e6,e7⟩:=Za.mp hn'
      cases e7
      refine⟨W4,δ3,yd,μ5,rfl,ok4,d3'.mono' l4,(by rw[m4];exact e5),λv W5 ok5 l5 m5 d5=>?_⟩
      refine⟨S.items.length-(i+1),by omega,rfl,hlt,by rw[ZG];simp;omega,W5,zs++[yd],rs',rfl,ok5,((l2.trans l3).trans l4).trans l5,aC.append (cG.mono' d2 ((l3.trans l4).trans l5)) (aC.cons d5 aC.nil),by rw[m5];exact e6,by rw[List.append_assoc];exact hzs⟩
    .cases hn
   .left
    have hdr:S.items.drop i=[]:=List.drop_of_length_le (by omega)
    rw[hdr]at hn
    unfold lcL at hn
    split at hn
    .rename_i hok
     cases hn
     rw[List.append_nil]at hzs
     subst hzs
     exact⟨io.stop i W2 l2 ok2 hok (by omega),λl hl=>k l ys W2 ok2 (l1.trans l2) rfl hl d2⟩
    .cases hn
  .cases e2
end
end L3
namespace L2
open PySem PySem.Spec PyProof.Rows
theorem yc{X:Cx}{pins:List (Addr×Obj)}{σ:L2.St}{H:Hp}{s:Shared}(I:Inv X pins σ H s)(hc:X.calm=true){A':Around}(h1:A'.handled=X.A.handled)(h2:A'.frames=X.A.frames):A'.handled=none/\A'.frames=some X.stack:=
 ⟨h1.trans (I.ok.hd hc),h2.trans I.ok.frames⟩
theorem tW{X:Cx}{e:Expr}{pos:Pos}{s:Shared}{Q:List Value->Shared->Prop}(h:wpAny (model X.prog X.w) X.A (eval e X.env) (λu s1=>Q [u] s1) X.xe s)(hs:starEach [e] X.env=(false,eval e X.env)::starEach [] X.env:=by rfl):
  wpAny (model X.prog X.w) X.A (spliced (backTo pos (starEach [e] X.env))) Q X.xe s:=by
 rw[hs]
 show wpAny _ _ (spliced ((false,eval e X.env)::backTo pos (starEach [] X.env))) _ _ s
 exact Calls.spliced_cons (thn h λu s1 q=>Calls.spliced_nil q)
def Hb(y:V)(k:Bool):Prop:=y= .bl k∨∃i,y= .int i/\k=(i != 0)
theorem Hx{P:Program}{w:World}{A:Around}{E:Value->Shared->Prop}{s:Shared}{y:V}{v:Value}{k:Bool}{Q:Bool->Shared->Prop}(r:bY y v)(h:Hb y k)(hq:Q k s):wpAny (model P w) A (truthy v) Q E s:=by
 rcases h with rfl|⟨i,rfl,rfl⟩
 .cases r;exact wpAny_truthy_bool hq
 .obtain⟨t,rfl⟩:=r;exact PySem.P.truthy_int hq
theorem wL{M:Model}{A:Around}{E:Value->Shared->Prop}{s:Shared}{t:Sem (Option Value)}{P:Value->Shared->Prop}{f:Value->Sem Unit}(hf:∀u,f u=pure ())
  (h:wpAny M A t (λr s1=>∃u,r=some u/\wpAny M A (f u) (λ_ s2=>P u s2) E s1) E s):wpAny M A t (λr s1=>∃u,r=some u/\P u s1) E s:=λΓ p hΓ=>
 Sem.wp_mono M Γ t (λa p' s ⟨u,e,q⟩=>⟨u,e,by rw[hf]at q;exact q Γ p' hΓ⟩) (λ_ _ _ e=>e) p s (h Γ p hΓ)
section
variable {X:Cx} {e:Expr} {ts:rD} {p pos:Pos} {pins:List (Addr×Obj)} {σ:L2.St}
def Pg(ts:rD):TE:=λσ H Q=>ts σ H λS H1=>∃W:Nat->Nat->Hp->Prop,(∃m,W 0 m H1)/\∀i m H,W i m H->
 S.fin i H (λH'=>Q (.bl true) H')∨S.nxt i H λy H'=>∃k,Hb y k/\if k=true then∃m',m'<m/\W (i+1) m' H' else Q (.bl false) H'
theorem Ec{it:Addr}{lo:Nat}{S:mL}{SS:List (Addr×Obj)->Nat->Hp->Shared->Prop}{Q:VK}{W:Nat->Nat->Hp->Prop}(sm:uE X pins σ X.A.in1 it lo S SS)
  (st:∀i m H,W i m H->S.fin i H (λH'=>Q (.bl true) H')∨S.nxt i H λy H'=>∃k,Hb y k/\if k=true then∃m',m'<m/\W (i+1) m' H' else Q (.bl false) H'):
  ∀(m i:Nat)(H:Hp)(s:Shared),SS [] i H s->W i m H->codeAny (model X.prog X.w) X.A (.builtin "all.loop" ⟨[.ref it],[]⟩) (λr s'=>∃u,r= .ok (.ret u)/\EP X pins σ Q u s') s:=by
 intro m
 induction m using Nat.strongRecOn with
 |ind m ih=>
  intro i H s hs hw
  refine codeAny_builtin F.entry_all_loop ?_
  rw[Around.under_plainId F.plain_all_loop _]
  show wpAny _ X.A.in1 (pyNext (.ref it) >>= _) _ _ s
  rcases st i m H hw with hf|hn
  .refine Zv (Zy (sm.stop (λ_ _=>False) hs hf) (λr s1 ⟨hr,H1,q,I1⟩=>?_) λ_ _ z=>z.elim)
   subst hr
   refine Zv (wpAny_rule (Zx ⟨_,rfl,.bl true,H1,?_,rfl,q⟩))
   rw[List.append_nil]at I1
   exact I1
  .refine Zv (Zy (sm.next (λ_ _=>False) hs hn) (λr s1 ⟨u,y,H',hr,ry,⟨k,tk,q⟩,hs'⟩=>?_) λ_ _ z=>z.elim)
   subst hr
   refine Zv (wpAny_holding (Hx ry tk ?_))
   refine Zv (wpAny_letGo ?_)
   cases k with
   |true=>
    simp only[if_true]
    rw[if_pos rfl]at q
    obtain⟨m',hm,hw'⟩:=q
    exact Zx ⟨plainId_quiet F.plain_all_loop _,ih m' hm (i+1) H' s1 hs' hw'⟩
   |false=>
    simp only[Bool.false_eq_true,if_false]
    rw[if_neg Zr]at q
    refine Zv (wpAny_rule (Zx ⟨_,rfl,.bl false,H',?_,rfl,q⟩))
    have I1:=sm.inv hs'
    rw[List.append_nil]at I1
    exact I1
theorem HD(hc:X.calm=true)(hm:X.mg "all"=none)(hstr:ym X e ts)(hg:Gl X "all":=by rfl)(hs:starEach [e] X.env=(false,eval e X.env)::starEach [] X.env:=by rfl):PE X (.Call (.Name "all" p) [e] [] pos) (Pg ts):=by
 intro pins s σ H Q I h
 refine wpAny_Call_Name_kw (kW I hg hm boot_all ?_ (by decide) (by decide))
 refine PyProof.Rows.callWith_builtin1 (tW (thn (hstr pins s σ H _ I h) λu s1 ⟨S,H1,I1,rdy,W,⟨m,w0⟩,st⟩=>?_) hs) hs rfl
 refine call_function_tree F.kind_all F.plain_all F.entry_all (F.args_all1 _) ?_
 unfold Builtin.«all»
 refine Zv (m:=oneArg "all" _) (Zx ?_)
 obtain⟨a1,a2⟩:=yc I1 hc (A':=X.A.in1) rfl rfl
 refine Zv (Zy (rdy X.A.in1 (λ_ _=>False) a1 a2 (Nat.le_succ _) (by show X.A.units+1<=_;omega) rfl) (λitv s2 ⟨it,lo,SS,e,sm,s0,_⟩=>?_) λ_ _ z=>z.elim)
 subst e
 refine Zx ⟨plainId_quiet F.plain_all_loop _,codeAny_mono (Ec sm st m 0 H1 s2 s0 w0) λr s' ⟨u,hr,q⟩=>?_⟩
 subst hr
 exact q
def yP(J:It):mL:=⟨λi H Q=>J.go i H/\∀x H',J.yld i H x H'->Q x H',λi H Q=>J.stop i H/\Q H⟩
theorem rR{A':Around}{it:Addr}{fp:List Addr}{tn:Nat->Heap->Prop}{J:It}{H:Hp}{s:Shared}(hc:X.calm=true)(hP:A'.handled=none)(hf:A'.frames=some X.stack)
  (T:rG X.prog X.w X.K (.Name "x" ⟨0,0,0,0⟩) J fp it tn) (I:Inv X pins σ H s) (st:tn 0 s.heap) (fk:∀b∈fp,jH X pins H b):
  ∃lo SS,uE X pins σ A' it lo (yP J) SS/\SS [] 0 H s/\lo<=s.heap.objs.size:=by
 have toA:∀{P:List (Addr×Obj)}{H:Hp}{s:Shared},Inv X P σ H s->Inv ({ X with A:=A'}:Cx) P σ H s:=λI=>
  ⟨⟨I.ok.mod,I.ok.kind,I.ok.glob,I.ok.blt,I.ok.above,I.ok.inj,I.ok.has,I.ok.cab,λ_=>hP,hf,I.ok.stk,I.ok.exf,I.ok.bs,I.ok.bsz,I.ok.noex,I.ok.exfs,I.ok.funs,I.ok.frf⟩,I.os,I.bare,I.base,I.loc,I.cell,I.free,I.freeC,I.pin,I.hok,I.len⟩
 have ofA:∀{P:List (Addr×Obj)}{H:Hp}{s:Shared},X.Ok->Inv ({ X with A:=A'}:Cx) P σ H s->Inv X P σ H s:=λok I=>
  ⟨ok,I.os,I.bare,I.base,I.loc,I.cell,I.free,I.freeC,I.pin,I.hok,I.len⟩
 have flt:∀b∈fp,b<s.heap.objs.size:=λb hb=>let⟨o,e,_⟩:=T.obj 0 _ st b hb;Ze e
 have fkA:∀{P:List (Addr×Obj)}{H':Hp},(∀p∈P,s.heap.objs.size<=p.1)->(∀b∈fp,H' b=none)->∀b∈fp,jH ({ X with A:=A'}:Cx) (pins++P) H' b:=λ{P H'} hP hn b hb=>by
  obtain⟨q0,q1,q2,q3,q4,q5⟩:=fk b hb
  refine⟨hn b hb,q1,q2,q3,q4,λp hp=>?_⟩
  rcases Zm.mp hp with z|z
  .exact q5 p (by simp only[Zm];exact .inl z)
  .rcases Zm.mp z with z|z
   .exact q5 p (by simp only[Zm];exact .inr z)
   .exactλe=>absurd (flt b hb) (by rw[<-e];exact Nat.not_lt.mpr (hP p z))
 refine⟨s.heap.objs.size,λP i H' s'=>(∀p∈P,s.heap.objs.size<=p.1)/\Inv X (pins++P) σ H' s'/\tn i s'.heap/\∀b∈fp,H' b=none,uE.mk' (λst=>st.2.1) (λst=>st.1) ?_ ?_ ?_ ?_ ?_ ?_,⟨λp hp=>absurd hp (by simp),by rw[List.append_nil];exact I,st,λb hb=>(fk b hb).1⟩,Zg _⟩
 .rintro P i H1 s1 Q E ⟨hP1,I1,st1,fr1⟩ ⟨go,yl⟩
  have q:=T.item ({ X with A:=A'}:Cx) rfl rfl rfl hc i (pins++P) s1 σ H1 (λ_ _=>False) (toA I1) (fkA hP1 fr1) st1 go
  refine Zy (wL (λu=>rfl) q) (λr s2 ⟨u,hr,x,H',I3,r3,y3,st3,fr3⟩=>?_) λ_ _ z=>z.elim
  exact⟨u,x,H',hr,r3,yl x H' y3,hP1,ofA I1.ok I3,st3,fr3⟩
 .rintro P i H1 s1 Q E ⟨hP1,I1,st1,fr1⟩ ⟨hf,hq⟩
  exact Zy (T.done ({ X with A:=A'}:Cx) rfl rfl rfl hc i (pins++P) s1 σ H1 (λ_ _=>False) (toA I1) (fkA hP1 fr1) st1 hf) (λr s2 ⟨hr,I2⟩=>⟨hr,H1,hq,ofA I1.ok I2⟩) λ_ _ z=>z.elim
 .rintro P i H1 s1 h' tk ⟨hP1,I1,st1,fr1⟩ hk
  exact⟨hP1,I1.kept hk,T.keep _ _ _ st1 λb _ o e=>hk b o e,fr1⟩
 .rintro P i H1 s1 D o ⟨hP1,I1,st1,fr1⟩ hD ho hn hcell
  refine⟨λp hp=>?_,I1.pins_of λp hp=>?_,st1,fr1⟩
  .rcases Zi.mp hp with z|z
   .subst z;exact hD
   .exact hP1 p z
  .rcases Zm.mp hp with z|z
   .exact I1.pin p (by simp[z])
   .rcases Zi.mp z with z|z
    .subst z
     exact⟨ho,hn,λz=>absurd I.lt (by rw[<-z];exact Nat.not_lt.mpr hD),I.nofs hD,hcell⟩
    .exact I1.pin p (by simp[z])
 .rintro p P i H1 s1 ⟨hP1,I1,st1,fr1⟩
  exact⟨λq hq=>hP1 q (ZE _ hq),I1.pins_of λq hq=>I1.pin q (by rcases Zm.mp hq with z|z<;>simp[z]),st1,fr1⟩
 .rintro P i H1 s1 h' tk D ⟨hP1,I1,st1,fr1⟩ hD hn hPD hk
  have l4:∀b,b<s.heap.objs.size->b≠D:=λb hb=>Zk (Zc hb hD)
  refine⟨hP1,I1.turned hk hn (Ne.symm (l4 _ I.lt)) (.inr (Zl I.sz hD)) (λx c e=>let⟨v,q⟩:=I.cell x c e;l4 c q.lt) (λp hp=>?_),T.keep _ _ _ st1 λb hb o e=>hk b o (l4 b (flt b hb)) e,fr1⟩
  rcases Zm.mp hp with z|z
  .exact l4 _ (Ze (I.pin p (by simp[z])).1)
  .rcases Zm.mp z with z|z
   .exact l4 _ (Ze (I.pin p (by simp[z])).1)
   .exact hPD p z
theorem Ef{te:TE}(hc:X.calm=true)(he:PE X e te):ym X e (λσ H R=>te σ H λx H1=>∃a,x= .ref a/\((∃xs,SqL X.K H1 a xs)/\R (yP (Itl X.K a)) H1∨(∃xs,SqT X.K H1 a xs)/\R (yP (Itt X.K a)) H1)):=by
 intro pins s σ H R I h
 refine thn (he pins s σ H _ I h) λv s1 zq1=>?_
 obtain⟨x,H1,I1,r1,a,e,q⟩:=zq1
 subst e
 cases r1
 rcases q with⟨⟨xs,hq⟩,q⟩|⟨⟨xs,hq⟩,q⟩
 .refine⟨_,H1,I1,λA' E h1 h2 h3 h4 _=>?_,q⟩
  obtain⟨its,rv,p,hz⟩:=I1.list hq
  refine wpAny_pyIter_list p.isList ?_
  obtain⟨lo,SS,sm,s0,hl⟩:=rR (A':=A') (H:=H1) (s:={ s1 with heap:=s1.heap.push { cls:=.type "list_iterator",data:=.fields #[.ref a,.int 0 0] } }) hc h1 h2 (rY a s1.heap.objs.size) (I1.kept (t':=s1.toks) λb o e=>Zb _ e) ⟨_,Zf _ rfl,rfl,rfl⟩ λb hb=>by
   have e:b=s1.heap.objs.size:=by simpa using hb
   subst e
   exact I1.fpOk (Zg _) (I1.hok.fresh (Zg _))
  exact⟨_,lo,SS,rfl,sm,s0,hl⟩
 .refine⟨_,H1,I1,λA' E h1 h2 h3 h4 _=>?_,q⟩
  obtain⟨its,rv,p,hz⟩:=I1.tuple hq
  refine wpAny_pyIter_tuple (show s1.heap.IsTuple a its.toArray from p) ?_
  obtain⟨lo,SS,sm,s0,hl⟩:=rR (A':=A') (H:=H1) (s:={ s1 with heap:=s1.heap.push { cls:=.type "tuple_iterator",data:=.fields #[.ref a,.int 0 0] } }) hc h1 h2 (qO a s1.heap.objs.size) (I1.kept (t':=s1.toks) λb o e=>Zb _ e) ⟨_,Zf _ rfl,rfl,rfl⟩ λb hb=>by
   have e:b=s1.heap.objs.size:=by simpa using hb
   subst e
   exact I1.fpOk (Zg _) (I1.hok.fresh (Zg _))
  exact⟨_,lo,SS,rfl,sm,s0,hl⟩
end
section
variable {X:Cx} {e:Expr} {ts:rD} {p pos:Pos} {pins:List (Addr×Obj)} {σ:L2.St}
def PN(ts:rD):TE:=λσ H Q=>ts σ H λS H1=>∃W:Nat->Nat->Int->Hp->Prop,(∃m,W 0 m 0 H1)/\∀i m t H,W i m t H->
 S.fin i H (λH'=>Q (.int t) H')∨S.nxt i H λy H'=>∃j,y= .int j/\∃m',m'<m/\W (i+1) m' (t+j) H'
theorem Dz{A:Around}{it D:Addr}{lo:Nat}{S:mL}{SS:List (Addr×Obj)->Nat->Hp->Shared->Prop}{Q:VK}{W:Nat->Nat->Int->Hp->Prop}(sm:uE X pins σ A.in1 it lo S SS)(hD:lo<=D)
  (st:∀i m t H,W i m t H->S.fin i H (λH'=>Q (.int t) H')∨S.nxt i H λy H'=>∃j,y= .int j/\∃m',m'<m/\W (i+1) m' (t+j) H'):
  ∀(m i:Nat)(t:Int)(tA:Tok)(c:Nat)(stage:Int)(H:Hp)(s:Shared),(stage=0∨stage=2)->SS [(D,bQ [.int t tA] c)] i H s->W i m t H->
   codeAny (model X.prog X.w) A (.builtin "sum.loop" ⟨[.ref it,.ref D,rawInt stage,rawInt 0],[]⟩) (λr s'=>∃u,r= .ok (.ret u)/\EP X pins σ Q u s') s:=by
 intro m
 induction m using Nat.strongRecOn with
 |ind m ih=>
  intro i t tA c stage H s hstg hsp hw
  have ho:s.heap.get? D=some (bQ [.int t tA] c):=((sm.inv hsp).pin (D,bQ [.int t tA] c) (by simp)).1
  refine codeAny_builtin F.entry_sum_loop ?_
  rw[Around.under_plainId F.plain_sum_loop _]
  show wpAny _ A.in1 (seqItems? (.ref D) >>= _) _ _ s
  refine Zv (wpAny_seqItems ho rfl ?_)
  show wpAny _ A.in1 (tryCatch (pyNext (.ref it)) _ >>= _) _ _ s
  rcases st i m t H hw with hf|hn'
  .refine Zv (wpAny_tryCatch (Zy (sm.stop (λ_ _=>False) hsp hf) (λr s1 ⟨hr,H1,q,I1⟩=>?_) λ_ _ z=>z.elim))
   subst hr
   exact Zx ⟨_,rfl,.int t,H1,I1.pins_of λp hp=>I1.pin p (by simp[hp]),⟨tA,rfl⟩,q⟩
  .refine Zv (wpAny_tryCatch (Zy (sm.next (λ_ _=>False) hsp hn') (λr s1 ⟨u,y,H',hr,ry,⟨j,ey,m',hm,hw'⟩,hs'⟩=>?_) λ_ _ z=>z.elim))
   subst hr ey
   obtain⟨tj,rfl⟩:=ry
   have pl:=(sm.inv hs').pin (D,bQ [.int t tA] c) (by simp)
   have plain:∀(next:Value->Int),(∀r,next r=2)->wpAny (model X.prog X.w) A.in1 (do
     match<-(holding [Value.int j tj] (binaryOp .Add (Value.int t tA) (Value.int j tj))).attempt with
     | .ok r=>updateSeq D λ_=> #[r];letGo [Value.int t tA,Value.int j tj];(do updateSeq D λ_=> #[r];again (.builtin "sum.loop" ⟨[.ref it,.ref D,rawInt (next r),rawInt 0],[]⟩))
     | .error e=>updateSeq D λ_=> #[];letGo [Value.int t tA,Value.int j tj] [e];throw e) (λfin s'=>match fin with
      | .done f=>∃u,(Except.ok f:Result)= .ok (.ret u)/\EP X pins σ Q u s'
      | .again c=>c.quiet=true/\codeAny (model X.prog X.w) A c (λr s'=>∃u,r= .ok (.ret u)/\EP X pins σ Q u s') s') (λe s'=>∃u,(Except.error e:Result)= .ok (.ret u)/\EP X pins σ Q u s') s1:=by
    intro next hnx
    refine Zv (wpAny_attempt (wpAny_holding (add_int ?_)))
    refine Zv (wpAny_updateSeq (s:={ s1 with toks:=s1.toks+1}) pl.1 rfl ?_)
    have o1:=Heap.get?_update_self (Obj.mapSeq (λ_=> #[Value.int (t+j) s1.toks])) pl.1 rfl
    refine Zv (wpAny_letGo ?_)
    refine Zv (wpAny_updateSeq o1 rfl ?_)
    have o2:=Heap.get?_update_self (Obj.mapSeq (λ_=> #[Value.int (t+j) s1.toks])) o1 rfl
    rw[hnx]
    refine Zx ⟨plainId_quiet F.plain_sum_loop _,ih m' hm (i+1) (t+j) s1.toks _ 2 H' _ (.inr rfl) (sm.put (s:=s1) (h':=(s1.heap.update D (Obj.mapSeq (λ_=> #[Value.int (t+j) s1.toks]))).update D (Obj.mapSeq (λ_=> #[Value.int (t+j) s1.toks]))) (tk:=s1.toks+1) hs' (λp hp=>absurd hp (by simp)) (λb o hb e=>(Heap.get?_update_other _ _ (Ne.symm hb)).trans ((Heap.get?_update_other _ _ (Ne.symm hb)).trans e)) o2 (λv z=>by cases z)) hw'⟩
   rcases hstg with rfl|rfl
   .show wpAny _ A.in1 (if(_:Bool)=true then(mkInt (t+j) >>= _)else _) _ _ _
    split
    .refine Zv (wpAny_mkInt ?_)
     show wpAny _ A.in1 (updateSeq D (λ_=> #[.int (t+j) s1.toks]) >>= _) _ _ _
     refine Zv (wpAny_updateSeq (s:={ s1 with toks:=s1.toks+1}) pl.1 rfl ?_)
     have o1:=Heap.get?_update_self (Obj.mapSeq (λ_=> #[Value.int (t+j) s1.toks])) pl.1 rfl
     exact Zx ⟨plainId_quiet F.plain_sum_loop _,ih m' hm (i+1) (t+j) s1.toks _ 0 H' _ (.inl rfl) (sm.put (s:=s1) (h':=s1.heap.update D (Obj.mapSeq (λ_=> #[Value.int (t+j) s1.toks]))) (tk:=s1.toks+1) hs' (λp hp=>absurd hp (by simp)) (λb o hb e=>(Heap.get?_update_other _ _ (Ne.symm hb)).trans e) o1 (λv z=>by cases z)) hw'⟩
    .exact Zv (wpAny_rule (plain (λ_=>2) λ_=>rfl))
   .exact plain (λ_=>2) λ_=>rfl
theorem HH(hc:X.calm=true)(hm:X.mg "sum"=none)(hstr:ym X e ts)(hg:Gl X "sum":=by rfl)(hs:starEach [e] X.env=(false,eval e X.env)::starEach [] X.env:=by rfl):PE X (.Call (.Name "sum" p) [e] [] pos) (PN ts):=by
 intro pins s σ H Q I h
 refine wpAny_Call_Name_kw (kW I hg hm boot_sum ?_ (by decide) (by decide))
 refine PyProof.Rows.callWith_builtin1 (tW (thn (hstr pins s σ H _ I h) λu s1 ⟨S,H1,I1,rdy,W,⟨m,w0⟩,st⟩=>?_) hs) hs rfl
 refine call_function_tree F.kind_sum F.plain_sum F.entry_sum (F.args_sum1 _) ?_
 unfold Builtin.«sum»
 simp only[ZH,List.length_nil]
 rw[if_neg (by decide)]
 refine Zv (wpAny_of_eq (show Builtin.Builtins.bindParams "sum" ["start"] 0 { }=pure [none]from rfl) ?_)
 obtain⟨a1,a2⟩:=yc I1 hc (A':=X.A.in1) rfl rfl
 refine Zv (Zy (rdy X.A.in1 (λ_ _=>False) a1 a2 (Nat.le_succ _) (by show X.A.units+1<=_;omega) rfl) (λitv s2 ⟨it,lo,SS,e,sm,s0,hlo⟩=>?_) λ_ _ z=>z.elim)
 subst e
 refine Zv (wpAny_mkInt ?_)
 refine Zv (Zx ?_)
 simp only[List.forIn_cons,List.forIn_nil]
 refine Zv (Zv (Zv (wpAny_isInstance (T:="int") (b:=false) (typeIs_int _ _ _) PySem.sub_int_str ?_)))
 simp only[Bool.false_eq_true,if_false]
 refine Zx (Zv (Zv (wpAny_isInstance (T:="int") (b:=false) (typeIs_int _ _ _) PySem.sub_int_bytes ?_)))
 simp only[Bool.false_eq_true,if_false]
 refine Zx (Zv (Zv (wpAny_isInstance (T:="int") (b:=false) (typeIs_int _ _ _) PySem.sub_int_bytearray ?_)))
 simp only[Bool.false_eq_true,if_false]
 refine Zx (Zx ?_)
 refine Zv (Zz ?_)
 have hn:H1 s2.heap.objs.size=none:=(sm.inv s0).hok.fresh (Zg _)
 refine Zx ⟨plainId_quiet F.plain_sum_loop _,codeAny_mono (Dz sm hlo st m 0 0 s2.toks 0 0 H1 _ (.inl rfl) (sm.pin (sm.keep (s:=s2) (h':=s2.heap.push { cls:=.type "list",dict:=none,data:=.seq [Value.int 0 s2.toks].toArray}) (tk:=s2.toks+1) s0 λb o e=>Zb _ e) hlo (Zf _ rfl) hn (λv z=>by cases z)) w0) λr s' ⟨u,hr,q⟩=>?_⟩
 subst hr
 exact q
end
end L2
namespace L3
open PySem PySem.Spec PyProof.Rows L2
abbrev gq:=Mu->Option (D×Mu)
structure Jm(K:Zw)(tb:List Addr)(S:mL)(ths:List gq)(W0:Wd):Prop where
 nxt:∀(i:Nat) W th d μ' Q,Le tb W0 W->WOk K tb W->ths[i]? =some th->th W.mu=some (d,μ')->(∀v W',WOk K tb W'->Le tb W W'->W'.mu=μ'->Den K tb W' d v->Q v W'.H)->S.nxt i W.H Q
 fin:∃P:Mu->Prop,P W0.mu/\(∀th∈ths,∀μ d μ',P μ->th μ=some (d,μ')->P μ')/\∀(i:Nat) W Q,Le tb W0 W->WOk K tb W->P W.mu->ths.length<=i->(∀W',WOk K tb W'->Le tb W W'->W'.mu=W.mu->Q W'.H)->S.fin i W.H Q
abbrev StF:=En->Mu->Option (List gq×Mu)
inductive CW(K:Zw)(tb:List Addr)(f:StF)(σ:SV)(H:Hp)(R:mL->Hp->Prop):Prop
 |mk (W) (δ) (ths) (μ'):(W.H=H)->(WOk K tb W)->(iy K tb W δ σ)->(f δ W.mu=some (ths,μ'))->(∀S W',WOk K tb W'->Le tb W W'->W'.mu=μ'->Jm K tb S ths W'->R S W'.H)->CW K tb f σ H R
def yQ(X:Cx)(tb:List Addr)(e:Expr)(f:StF):Prop:=ym X e (CW X.K tb f)
def xY(X:Cx)(tb:List Addr)(e:Expr)(f:StF):Prop:=wj X e (CW X.K tb f)
section
variable {X:Cx} {tb:List Addr} {e tg iter elt:Expr} {f:EF} {pos p:Pos} {fs:StF}
theorem GC{t t':rD}(h:ym X e t)(k:∀σ H R,t' σ H R->t σ H R):ym X e t':=λpins s σ H R I hq=>h pins s σ H R I (k σ H R hq)
theorem CV{t t':rD}(h:wj X e t)(k:∀σ H R,t' σ H R->t σ H R):wj X e t':=λpins s σ H R I hq=>h pins s σ H R I (k σ H R hq)
theorem By(h:xY X tb e fs):yQ X tb e fs:=uX h
def thE(d:D):gq:=λμ=>some (d,μ)
def qK(f:EF):StF:=λδ μ=>(f δ μ).bind λr=>match r.1 with
 | .tup ds=>some (ds.map thE,r.2)
 | .lst ds=>some (ds.map thE,r.2)
 |_=>none
theorem Bl{K:Zw}{J:It}{ds:List D}{W0:Wd}(io:zL K tb J ⟨ds,none⟩ W0):Jm K tb (yP J) (ds.map thE) W0 where
 nxt:=λi W th d μ' Q l ok e1 e2 hQ=>by
  rw[List.getElem?_map]at e1
  cases q:ds[i]? with
  |none=>rw[q]at e1;cases e1
  |some d0=>
   rw[q]at e1
   cases e1
   cases e2
   obtain⟨go,yl⟩:=io.go i W d l ok (Src.bx rfl) q
   exact⟨go,λx H' y=>by
    obtain⟨W',rfl,ok',l',m',d'⟩:=yl x H' y
    exact hQ x W' ok' l' m' d'⟩
 fin:=⟨λ_=>True,trivial,λ_ _ _ _ _ _ _=>trivial,λi W Q l ok _ hi hq=>⟨io.stop i W l ok (Src.bx rfl) (by simpa using hi),hq W ok (Le.refl _) rfl⟩⟩
theorem tE(hc:X.calm=true)(he:PD X tb e f):yQ X tb e (qK f):=
 GC (Ef hc he) λσ H R zq1=>by
  obtain⟨W,δ,ths,μ',e,ok,hd,hf,h⟩:=zq1
  unfold qK at hf
  obtain⟨⟨x,μ1⟩,e1,e2⟩:=Za.mp hf
  refine⟨W,δ,x,μ1,e,ok,hd,e1,λv W1 ok1 l1 m1 d1=>?_⟩
  cases x with
  |tup ds=>
   cases e2
   obtain⟨a,xs,rfl,q,r⟩:=gO d1
   exact⟨a,rfl,.inr ⟨⟨xs,SqT.fz q⟩,h _ W1 ok1 l1 m1 (Bl (Cy q r))⟩⟩
  |lst ds=>
   cases e2
   obtain⟨a,xs,rfl,q,r⟩:=jl d1
   exact⟨a,rfl,.inl ⟨⟨xs,SqL.fz q⟩,h _ W1 ok1 l1 m1 (Bl (Dk q r))⟩⟩
  |_=>cases e2
def thG(h:GF)(fe:EF)(δb:En)(d:D):gq:=λμ=>(h d δb μ).bind λδ1=>fe δ1 μ
def pY(own:List Str)(capI:List Nat)(fi:IF)(h:GF)(fe:EF):StF:=λδ μ=>(fi δ μ).bind λr=>match r.1.cel with
 |none=>some (r.1.items.map (thG h fe (dg own δ capI)),r.2)
 |some _=>none
theorem Aw{fi:IF}{h:GF}{fe:EF}{own cap:List Str}{capI ts:List Nat}{scope:Scope}{P:Addr}{kr:Nat}(hc:X.calm=true)(hr:cO kr X.A)(B:cH X own cap capI scope)(hown:∀x∈own,(x,NameKind.free)∉scope.names)(hnc:∀y∈scope.names,y.2≠ .cell)
  (hP:P∈tb) (htb:∃c,X.env.code= .ref c/\ZB X.base c P) (hi:PID X tb tg iter fi)
  (hg:∀AG cs C code fp s2 H2,PGD (oW X AG own cap scope cs C code fp s2 H2) tb tg ts h)
  (he:∀AG cs C code fp s2 H2,(∀k,cO (k+1) X.A->cO k AG)->PD (oW X AG own cap scope cs C code fp s2 H2) tb elt fe)
  (hts:∀i∈ts,i<own.length:=by decide) (h0:scope.names.lookup (".0":Str)=some NameKind.local:=by rfl) (hco:scope.isCoroutine=false:=by rfl) (hs:∀x,genFold iter X.env x=pure x:=by intro _;rfl):
  xY X tb (.GeneratorExp elt [⟨tg,iter,[],0⟩] scope pos) (pY own capI fi h fe):=
 CV (Bu (g:=tDG X.K tb ts h) (te:=tD X.K tb fe) hc hr B hown hnc h0 hco htb hi hg he hs) λσ H R zq2=>by
  obtain⟨W,δ,ths,μ',e,ok,hd,hf,k⟩:=zq2
  unfold pY at hf
  obtain⟨⟨S,μ1⟩,e1,e2⟩:=Za.mp hf
  obtain⟨items,cel⟩:=S
  cases cel with
  |some n=>cases e2
  |none=>
   cases e2
   refine⟨W,δ,⟨items,none⟩,_,e,ok,hd,e1,λJ W1 ok1 l1 m1 io=>?_⟩
   obtain⟨ps,ep,tp⟩:=ok1.tab P hP
   refine⟨ps,ep,tp,λlo H2 ps' hG=>?_⟩
   obtain⟨ok2,l2⟩:=ok1.tbl hP ep hG
   refine k _ ⟨H2,W1.ad,W1.mu⟩ ok2 (l1.trans l2) m1 ⟨λi W3 th d μ3 Q l3 ok3 e3 e4 hQ=>?_,⟨λ_=>True,trivial,λ_ _ _ _ _ _ _=>trivial,λi W3 Q l3 ok3 _ hi3 hq=>?_⟩⟩
   .rw[List.getElem?_map]at e3
    cases q:items[i]? with
    |none=>rw[q]at e3;cases e3
    |some d0=>
     rw[q]at e3
     cases e3
     unfold thG at e4
     obtain⟨δ1,e5,e6⟩:=Za.mp e4
     obtain⟨go,yl⟩:=io.go i W3 d0 (l2.trans l3) ok3 (Src.bx rfl) q
     refine⟨go,λx H' y=>?_⟩
     obtain⟨W4,rfl,ok4,l4,m4,d4⟩:=yl x H' y
     refine⟨W4,dg own δ capI,d0,δ1,rfl,ok4,(pL hd).mono' (((l1.trans l2).trans l3).trans l4),d4,(by rw[m4];exact e5),λσ' d' hl ht=>⟨fits_of hts hl ht,?_⟩⟩
     exact⟨W4,δ1,d,μ3,rfl,ok4,d',(by rw[m4];exact e6),λv W5 ok5 l5 m5 d5=>hQ v W5 ok5 (l4.trans l5) m5 d5⟩
   .exact⟨io.stop i W3 (l2.trans l3) ok3 (Src.bx rfl) (by simpa using hi3),hq W3 ok3 (Le.refl _) rfl⟩
def Nq:D->Option Bool
 | .bl b=>some b
 | .int i=>some (i != 0)
 |_=>none
theorem Fb{K:Zw}{W:Wd}{x:D}{v:V}{k:Bool}(h:Den K tb W x v)(e:Nq x=some k):Hb v k:=by
 cases x with
 |bl b=>cases e;exact .inl (qI h)
 |int i=>cases e;exact .inr ⟨i,bz h,rfl⟩
 |_=>cases e
def Dq:List gq->Mu->Option (Bool×Mu)
 | [],μ=>some (true,μ)
 |t::r,μ=>(t μ).bind λx=>(Nq x.1).bind λk=>if k=true then Dq r x.2 else some (false,x.2)
def Ak:List gq->Mu->Option (List D×Mu)
 | [],μ=>some ([],μ)
 |t::r,μ=>(t μ).bind λx=>(Ak r x.2).bind λq=>some (x.1::q.1,q.2)
def pG:Int->List gq->Mu->Option (Int×Mu)
 |a,[],μ=>some (a,μ)
 |a,t::r,μ=>(t μ).bind λx=>match x.1 with
  | .int j=>pG (a+j) r x.2
  |_=>none
def GZ(f:StF):EF:=λδ μ=>(f δ μ).bind λr=>(Dq r.1 r.2).bind λq=>some (.bl q.1,q.2)
def Dn(f:StF):EF:=λδ μ=>(f δ μ).bind λr=>if r.1.length<=sizeLine then(Ak r.1 r.2).bind λq=>some (.tup q.1,q.2)else none
def yp(f:StF):EF:=λδ μ=>(f δ μ).bind λr=>(pG 0 r.1 r.2).bind λq=>some (.int q.1,q.2)
theorem Ld(hc:X.calm=true)(hm:X.mg "all"=none)(hstr:yQ X tb e fs)(hg:Gl X "all":=by rfl)(hs:starEach [e] X.env=(false,eval e X.env)::starEach [] X.env:=by rfl):PD X tb (.Call (.Name "all" p) [e] [] pos) (GZ fs):=
 dG (HD hc hm hstr hg hs) λσ H Q zq3=>by
  obtain⟨W,δ,d,μ',e,ok,hd,hf,h⟩:=zq3
  unfold GZ at hf
  obtain⟨⟨ths,μ1⟩,e1,hf⟩:=Za.mp hf
  obtain⟨⟨b,μ2⟩,e2,e3⟩:=Za.mp hf
  cases e3
  refine⟨W,δ,ths,μ1,e,ok,hd,e1,λS W1 ok1 l1 m1 so=>?_⟩
  obtain⟨P,p0,pk,fin⟩:=so.fin
  refine⟨λi m H2=>m=ths.length-i/\∃W2,W2.H=H2/\WOk X.K tb W2/\Le tb W1 W2/\P W2.mu/\Dq (ths.drop i) W2.mu=some (b,μ2),⟨_,rfl,W1,rfl,ok1,Le.refl _,p0,by rw[m1];exact e2⟩,?_⟩
  rintro i m H2 ⟨rfl,W2,rfl,ok2,l2,hp2,ha⟩
  by_cases hlt:i<ths.length
  .right
   rw[ZJ hlt]at ha
   unfold Dq at ha
   obtain⟨⟨x,μ3⟩,e3,ha⟩:=Za.mp ha
   obtain⟨k,e4,ha⟩:=Za.mp ha
   refine so.nxt i W2 ths[i] x μ3 _ l2 ok2 (by simp[hlt]) e3 λv W3 ok3 l3 m3 d3=>⟨k,Fb d3 e4,?_⟩
   cases k with
   |true=>
    rw[if_pos rfl]
    exact⟨ths.length-(i+1),by omega,rfl,W3,rfl,ok3,l2.trans l3,(by rw[m3];exact pk _ (List.getElem_mem hlt) _ _ _ hp2 e3),by rw[m3];exact ha⟩
   |false=>
    rw[if_neg Zr]
    cases ha
    exact h _ W3 ok3 ((l1.trans l2).trans l3) m3 gQ
  .left
   rw[List.drop_of_length_le (by omega)]at ha
   cases ha
   exact fin i W2 _ l2 ok2 hp2 (by omega) λW3 ok3 l3 m3=>h _ W3 ok3 ((l1.trans l2).trans l3) m3 gQ
theorem Bt(hc:X.calm=true)(hm:X.mg "sum"=none)(hstr:yQ X tb e fs)(hg:Gl X "sum":=by rfl)(hs:starEach [e] X.env=(false,eval e X.env)::starEach [] X.env:=by rfl):PD X tb (.Call (.Name "sum" p) [e] [] pos) (yp fs):=
 dG (HH hc hm hstr hg hs) λσ H Q zq5=>by
  obtain⟨W,δ,d,μ',e,ok,hd,hf,h⟩:=zq5
  unfold yp at hf
  obtain⟨⟨ths,μ1⟩,e1,hf⟩:=Za.mp hf
  obtain⟨⟨b,μ2⟩,e2,e3⟩:=Za.mp hf
  cases e3
  refine⟨W,δ,ths,μ1,e,ok,hd,e1,λS W1 ok1 l1 m1 so=>?_⟩
  obtain⟨P,p0,pk,fin⟩:=so.fin
  refine⟨λi m t H2=>m=ths.length-i/\∃W2,W2.H=H2/\WOk X.K tb W2/\Le tb W1 W2/\P W2.mu/\pG t (ths.drop i) W2.mu=some (b,μ2),⟨_,rfl,W1,rfl,ok1,Le.refl _,p0,by rw[m1];exact e2⟩,?_⟩
  rintro i m t H2 ⟨rfl,W2,rfl,ok2,l2,hp2,ha⟩
  by_cases hlt:i<ths.length
  .right
   rw[ZJ hlt]at ha
   unfold pG at ha
   obtain⟨⟨x,μ3⟩,e3,ha⟩:=Za.mp ha
   cases x with
   |int j=>
    refine so.nxt i W2 ths[i] _ μ3 _ l2 ok2 (by simp[hlt]) e3 λv W3 ok3 l3 m3 d3=>⟨j,bz d3,ths.length-(i+1),by omega,rfl,W3,rfl,ok3,l2.trans l3,(by rw[m3];exact pk _ (List.getElem_mem hlt) _ _ _ hp2 e3),by rw[m3];exact ha⟩
   |_=>cases ha
  .left
   rw[List.drop_of_length_le (by omega)]at ha
   cases ha
   exact fin i W2 _ l2 ok2 hp2 (by omega) λW3 ok3 l3 m3=>h _ W3 ok3 ((l1.trans l2).trans l3) m3 di
end
abbrev FF:=List D->Mu->Option (D×Mu)
inductive spD(K:Zw)(tb:List Addr)(n:Nat)(φ:FF)(vs:List V)(H:Hp)(Q:VK)(E:XK):Prop
 |mk (W) (ds) (d) (μ'):W.H=H->WOk K tb W->cG K tb W ds vs->ds.length=n->φ ds W.mu=some (d,μ')->(∀v W',WOk K tb W'->Le tb W W'->W'.mu=μ'->Den K tb W' d v->Q v W'.H)->spD K tb n φ vs H Q E
structure FI(P:Program)(w:World)(K:Zw)(mg:Str->Option Value)(base:Heap)(tb:List Addr)(x:Str)(n k:Nat)(φ:FF):Prop where
 is:∃f fd ps,lX P w K mg base CX0 k f fd ps (spD K tb n φ)/\mg x=some (.ref f)/\PySem.W.keepIn K (.ref f)=true/\Binds K fd ps []
theorem FI.more{P:Program}{w:World}{K:Zw}{mg:Str->Option Value}{base:Heap}{tb:List Addr}{x:Str}{n k k':Nat}{φ:FF}(F:FI P w K mg base tb x n k φ)(h:k<=k'):FI P w K mg base tb x n k' φ:=by
 obtain⟨f,fd,ps,h1,h2⟩:=F.is
 exact⟨f,fd,ps,h1.mono h,h2⟩
def aL(m:Nat)(g:SF):FF:=λds μ=>(g (ds.map some++List.replicate (m-ds.length) none) μ).bind λr=>match r.1 with
 | .rt d=>some (d,r.2.2)
 | .nx=>some (.non,r.2.2)
 |_=>none
section
variable {X:Cx} {tb:List Addr} {e:Expr} {es:List Expr} {fs:AF} {x:Str} {n k:Nat} {φ:FF} {p pos:Pos}
theorem Hh(F:FI X.prog X.w X.K X.mg X.base tb x n k φ)(hr:cO k X.A)(ha:PAD X tb (e::es) fs)(hn:∀δ μ r,fs δ μ=some r->r.1.length=n)(hg:Gl X x:=by rfl)(hdb:(x==("__debug__":Str))=false:=by decide)
  (he:starEach (e::es) X.env=(false,eval e X.env)::starEach es X.env:=by rfl) (hpl:(backTo pos (starEach es X.env)).any (·.1)=false:=by rfl):PD X tb (.Call (.Name x p) (e::es) [] pos) (MC fs φ):=by
 obtain⟨f,fd,ps,h1,h2,h3,h4⟩:=F.is
 refine dG (Hc (E:=E0) h1 hr hg h2 h3 h4 .nil Ni ha hdb he hpl) λσ H Q zq7=>?_
 obtain⟨W,δ,d,μ',e,ok,hd,hf,h⟩:=zq7
 unfold MC at hf
 obtain⟨⟨xs,μ1⟩,e1,e2⟩:=Za.mp hf
 refine⟨W,δ,xs,μ1,e,ok,hd,e1,λvs W1 ok1 l1 m1 d1=>?_⟩
 refine⟨W1,xs,d,μ',rfl,ok1,by rw[List.append_nil];exact d1,hn _ _ _ e1,(by rw[m1];exact e2),λv W' ok' l' m' d'=>h v W' ok' (l1.trans l') m' d'⟩
theorem GJ(δ:En)(μ:Mu)(r:List D×Mu)(h:aB δ μ=some r):r.1.length=0:=by cases h;rfl
theorem Dm{f:EF}{fs:AF}{n:Nat}(hk:∀δ μ r,fs δ μ=some r->r.1.length=n)(δ:En)(μ:Mu)(r:List D×Mu)(h:ao f fs δ μ=some r):r.1.length=n+1:=by
 unfold ao at h
 obtain⟨q,_,h⟩:=Za.mp h
 obtain⟨t,e,h⟩:=Za.mp h
 cases h
 rw[ZH,hk _ _ _ e]
end
structure zJ(K:Zw)(x qual:Str)(st:Stmt)(f:Addr)(fd:FuncData)(P:Addr):Prop where
 ex:∃(oc:Value)(od:Option Addr)(kV doc pm:Value)(an:Option Addr)(c:Addr)(ct:Value)(osl:Array (Option Value)),
  fd=PySem.W.fnOf x qual (iz st) (fu st) (bV st) .none kV doc pm an (.ref c) ct/\K.lookup f=some ⟨oc,od,.func fd,osl⟩/\PySem.W.codeIn K (.ref c) qual=true/\∀h:Heap,K.In h->ZB h c P
 kp:PySem.W.keepIn K (.ref f)=true
theorem NQ{P:Program}{w:World}{K:Zw}{mg:Str->Option Value}{base:Heap}{tb:List Addr}{x qual:Str}{st:Stmt}{f:Addr}{fd:FuncData}{T:Addr}{N ps:List Str}{n k:Nat}{g:SF}(F:zJ K x qual st f fd T)(KB:K.In base)(hmg:mg x=some (.ref f))(S:lL N ps (bV st))(hps:ps.length=n)
  (hb:∀(kV doc pm:Value)(an:Option Addr)(cdv ct:Value)(us:List Value),us.length=ps.length->bindArgs (PySem.W.fnOf x qual (iz st) (fu st) (bV st) .none kV doc pm an cdv ct) ⟨us,[]⟩=pure (ps.zip us))
  (hbody:∀(c:Addr)(A:Around)(outer:List Env)(s:Shared)(H:Hp)(E:XK),ZB base c T->cO k (A.deeper (envOfC qual (bV st) s.heap.objs.size f (.ref c)))->
   pD (vI CX0 P w K mg base N qual (bV st) f (.ref c) A outer s H E).nox tb (fu st) g):FI P w K mg base tb x n (k+1) (aL N.length g):=by
 obtain⟨oc,od,kV,doc,pm,an,c,ct,osl,rfl,lk,hcd,hhd⟩:=F.ex
 refine⟨f,_,ps,Je lk hcd S (λvs H Q E ⟨W,ds,d,μ',e,ok,dl,hl,_,_⟩=>by rw[<-aC.length dl,hl,hps]) λA outer s H vs Q E hr hsp=>?_,hmg,F.kp,.all (hb kV doc pm an (.ref c) ct)⟩
 obtain⟨W,ds,d,μ',e,ok,dl,hl,hf,k⟩:=hsp
 refine⟨_,(hbody c A outer s H E (hhd base KB) hr).nox,?_⟩
 unfold aL at hf
 obtain⟨⟨fl,δ',μ1⟩,e1,e2⟩:=Za.mp hf
 refine⟨W,_,fl,δ',μ1,e,ok,?_,e1,λσ' W' ok' l' m' d'=>?_⟩
 .have hlen:=aC.length dl
  refine⟨by unfold L2.start;simp[hlen],λi y q=>?_⟩
  unfold L2.start
  by_cases hi:i<ds.length
  .rw[Zs (by simpa using hi),List.getElem?_map]at q
   cases q2:ds[i]? with
   |none=>rw[q2]at q;cases q
   |some z=>
    rw[q2]at q
    cases q
    obtain⟨v,ev,dv⟩:=aC.get dl q2
    exact⟨v,by rw[Zs (by rw[Zu,<-hlen];exact hi),List.getElem?_map,ev];rfl,dv⟩
  .rw[List.getElem?_append_right (by simpa using hi),List.getElem?_replicate]at q
   split at q<;>cases q
 .cases fl with
  |nx=>cases e2;exact k .non W' ok' l' m' pK
  |rt d0=>cases e2;exactλv dv=>k v W' ok' l' m' dv
  |bk=>cases e2
  |ct=>cases e2
end L3
namespace L2
open PySem PySem.Spec PyProof.Rows
section
variable {X:Cx} {a b c e:Expr} {ta tb tc te:TE} {pos:Pos}
def lG(i j:Int):Nat:=Builtin.Int.intBits i+Builtin.Int.intBits j
theorem Hs:OpR X (binaryOp .Mult) (rI (λi j=>lG i j<=134217728) λi j=>.int (i*j)):=opI λ_ _ _ _ _ _ _ hc q=>mul_int q (IntMulOk.of_le (Zg _) (Zg _) hc)
theorem DX:OpR X (binaryOp .FloorDiv) (rI (λ_ j=>j≠0/\j.natAbs.log2<9000) λi j=>.int (i.fdiv j)):=opI λ_ _ _ _ _ _ _ hc q=>floordiv_int hc.1 q (.inl (PyProof.noPylong_of_log2 hc.2))
theorem HR:OpR X (binaryOp .Pow) (rI (λi j=>0<=j/\(Builtin.Int.intBits i:Int)*j<=2 ^ 27) λi j=>.int (i ^ j.toNat)):=opI λ_ _ _ _ _ _ _ hc q=>pow_int hc.1 hc.2 q
def Oi(K:Zw):R2:=λx y H Q=>∃a b xs ys,x= .ref a/\y= .ref b/\SqT K H a xs/\SqT K H b ys/\xs.length+ys.length<=sizeLine/\
 (xs=[]->Q (.ref b) H)/\(xs≠[]->ys=[]->Q (.ref a) H)/\(xs≠[]->ys≠[]->∀p,H p=none->Q (.ref p) (upd H p (.tup (xs++ys))))
theorem Fp:OpR X (binaryOp .Add) (Oi X.K):=by
 intro pins s σ H x y v u Q I rx ry h
 obtain⟨t,b,xs,ys,rfl,rfl,ha,hb,hz,q0,q1,q2⟩:=h
 by_cases hx:xs=[]
 .subst hx
  cases rx
  cases ry
  obtain⟨its,r1,p1,_⟩:=I.tuple ha
  obtain⟨its2,r2,p2,_⟩:=I.tuple hb
  cases r1
  obtain⟨⟨cls,dd,data,sl⟩,ho,hc,n,hd⟩:=id p1
  obtain⟨⟨cls2,dd2,data2,sl2⟩,ho2,hc2,n2,hd2⟩:=id p2
  simp only at hc hd hc2 hd2
  subst hc hd hc2 hd2
  exact concat_meets ⟨_,ho,rfl⟩ ⟨_,ho2,rfl⟩ noFill_tuple_add seq_tuple_add PySem.F.slot_tuple_add PySem.F.entry_tuple_add (PySem.F.args_tuple_add_2 _ _)
   (tuple_addW0 t b _ _ n n2 dd dd2 sl sl2 (by simp)) ⟨ho,ho2,⟨.ref b,H,I,rfl,q0 rfl⟩⟩
 .exact Ge pins s σ H _ _ v u Q I rx ry ⟨t,b,xs,ys,rfl,rfl,ha,hb,hx,hz,q1 hx,q2 hx⟩
theorem oF:fillsNumberSlot (.type "tuple") "mul"=pure false:=
 PySem.fillsNumberSlot_seq (id:="tuple.__mul__") (r:=some (.builtin "tuple.__rmul__")) F.slot_tuple_mul.lookup (by decide +kernel) F.slot_tuple_rmul.lookup (by decide +kernel)
theorem uB:seqRepeat? (.type "tuple")=pure (some (.builtin "tuple.__mul__")):=by
 unfold seqRepeat?
 rw[PySem.seqSlot_of (T:="tuple") (name:="__mul__") (id:="tuple.__mul__") F.slot_tuple_mul.lookup (by decide +kernel),PySem.seqSlot_of (T:="tuple") (name:="__rmul__") (id:="tuple.__rmul__") F.slot_tuple_rmul.lookup (by decide +kernel)]
 rfl
theorem qi(a:Int)(t:Tok)(l:Addr)(items:Array Value)(n:Nat)(dd:Option Addr)(sl:Array (Option Value)):
  Meets (Builtin.«int.__rmul__» ⟨[.int a t,.ref l],[]⟩) (λ_ R s=>s.heap.get? l=some { cls:=.type "tuple",dict:=dd,data:=.seq items n,slots:=sl}/\R (.ok (.ret Value.notImplemented)) s):=
 .of_wp λprog w A R s h=>by obtain⟨hp,g,d,tk,os⟩:=s;obtain⟨hl,h⟩:=h;wp_walk;exact⟨_,rfl,h⟩
theorem qW(l:Addr)(items:Array Value)(n:Nat)(x:Int)(u:Tok)(dd:Option Addr)(sl:Array (Option Value))(h0:(decide (x< -2 ^ 63)||decide (x>=2 ^ 63))=false)(h1:(items.isEmpty||x==1)=true):
  Meets (Builtin.«tuple.__mul__» ⟨[.ref l,.int x u],[]⟩) (λ_ R s=>s.heap.get? l=some { cls:=.type "tuple",dict:=dd,data:=.seq items n,slots:=sl}/\R (.ok (.ret (Value.ref l))) s):=
 .of_wp λprog w A R s h=>by
  obtain⟨hp,g,d,tk,os⟩:=s;obtain⟨hl,h⟩:=h
  unfold Builtin.«tuple.__mul__»
  wp_walk using AutoSeq1.wpAny_loadPart' hl
  refine wpAny_ite_false (decide_eq_false (by rw[h0];exact Zr)) ?_
  wp_walk using AutoSeq1.wpAny_loadPart' hl
  exact⟨_,rfl,h⟩
theorem pU(l:Addr)(items:Array Value)(n:Nat)(x:Int)(u:Tok)(dd:Option Addr)(sl:Array (Option Value))(h0:(decide (x< -2 ^ 63)||decide (x>=2 ^ 63))=false)(h1:(items.isEmpty||x==1)=false)(h2:(decide (x<=0)||items.isEmpty)=true):
  Meets (Builtin.«tuple.__mul__» ⟨[.ref l,.int x u],[]⟩) (λ_ R s=>s.heap.get? l=some { cls:=.type "tuple",dict:=dd,data:=.seq items n,slots:=sl}/\R (.ok (.ret (Value.ref s.heap.objs.size))) { s with heap:=s.heap.push { cls:=Value.type "tuple",data:=Data.seq #[] },toks:=s.toks}):=
 .of_wp λprog w A R s h=>by
  obtain⟨hp,g,d,tk,os⟩:=s;obtain⟨hl,h⟩:=h
  unfold Builtin.«tuple.__mul__»
  wp_walk using AutoSeq1.wpAny_loadPart' hl
  refine wpAny_ite_false (decide_eq_false (by rw[h0];exact Zr)) ?_
  wp_walk using AutoSeq1.wpAny_loadPart' hl
  exact⟨_,rfl,h⟩
theorem rK(l:Addr)(items:Array Value)(n:Nat)(x:Int)(u:Tok)(dd:Option Addr)(sl:Array (Option Value))(h0:(decide (x< -2 ^ 63)||decide (x>=2 ^ 63))=false)(h1:(items.isEmpty||x==1)=false)(h2:(decide (x<=0)||items.isEmpty)=false)
  (h3:¬(items.size:Int)*x>(2 ^ 63-1) / 8) (h4:Builtin.Tuple.tupleTooMany ((items.size:Int)*x)=false) (h5:((List.replicate x.toNat items).foldl (· ++ ·) #[]).size<=sizeLine):
  Meets (Builtin.«tuple.__mul__» ⟨[.ref l,.int x u],[]⟩) (λ_ R s=>s.heap.get? l=some { cls:=.type "tuple",dict:=dd,data:=.seq items n,slots:=sl}/\R (.ok (.ret (Value.ref s.heap.objs.size))) { s with heap:=s.heap.push { cls:=Value.type "tuple",data:=Data.seq ((List.replicate x.toNat items).foldl (· ++ ·) #[]) },toks:=s.toks}):=
 .of_wp λprog w A R s h=>by
  obtain⟨hp,g,d,tk,os⟩:=s;obtain⟨hl,h⟩:=h
  unfold Builtin.«tuple.__mul__»
  wp_walk using AutoSeq1.wpAny_loadPart' hl
  refine wpAny_ite_false (decide_eq_false (by rw[h0];exact Zr)) ?_
  wp_walk using AutoSeq1.wpAny_loadPart' hl
  refine wpAny_ite_false (decide_eq_false h3) ?_
  wp_walk using AutoSeq1.wpAny_loadPart' hl
  exact⟨_,rfl,h⟩
def Ob(K:Zw):R2:=λx y H Q=>∃l k xs,x= .ref l/\y= .int k/\SqT K H l xs/\ -(2 ^ 63)<=k/\k<2 ^ 63/\xs.length*k.toNat<=sizeLine/\
 ((xs=[]∨k=1)->Q (.ref l) H)/\(¬(xs=[]∨k=1)->∀p,H p=none->Q (.ref p) (upd H p (.tup (List.replicate k.toNat xs).flatten)))
theorem Gp:OpR X (binaryOp .Mult) (Ob X.K):=by
 intro pins s σ H x y v u Q I rx ry h
 obtain⟨l,k,xs,rfl,rfl,hH,h1,h2,hz,q1,q2⟩:=h
 cases rx
 obtain⟨t,rfl⟩:=ry
 obtain⟨its,r,p,hz0⟩:=I.tuple hH
 have hl:=r.length
 obtain⟨⟨cls,dd,data,sl⟩,e,hc,n,hd⟩:=id p
 simp only at hc hd
 subst hc hd
 have h0:(decide (k< -2 ^ 63)||decide (k>=2 ^ 63))=false:=by
  rw[decide_eq_false (by omega),decide_eq_false (by omega)];rfl
 refine wpAny_binaryOp_repeat_ref (T:="tuple") (U:="int") (by decide) ⟨_,e,rfl⟩ (λs'=>typeIs_int s' k t) oF F.fills_int_mul F.slot_int_rmul uB F.slot_int_index.lookup
  (call_meets F.slot_int_rmul (typeIs_int s k t) F.entry_int_rmul (F.args_int_rmul_2 _ _) (qi k t l its.toArray n dd sl) ⟨e,rfl,⟨_,e,rfl⟩,?_⟩)
 by_cases hs:xs=[]∨k=1
 .refine call_meets F.slot_tuple_mul ⟨_,e,rfl⟩ F.entry_tuple_mul (F.args_tuple_mul_2 _ _) (qW l its.toArray n k t dd sl h0 ?_) ⟨e,⟨.ref l,H,I,rfl,q1 hs⟩⟩
  rcases hs with hs|hs
  .subst hs;cases r;rfl
  .subst hs;simp
 .have hne:(its.toArray.isEmpty||k==1)=false:=by
   rw[Bool.or_eq_false_iff]
   refine⟨?_,by simpa usingλz=>hs (.inr z)⟩
   cases its with
   |nil=>cases r;exact absurd (Or.inl rfl) hs
   |cons a b=>simp
  have hne':its.toArray.isEmpty=false:=(Bool.or_eq_false_iff.mp hne).1
  by_cases hk:k<=0
  .refine call_meets F.slot_tuple_mul ⟨_,e,rfl⟩ F.entry_tuple_mul (F.args_tuple_mul_2 _ _) (pU l its.toArray n k t dd sl h0 hne (by rw[decide_eq_true hk];rfl)) ⟨e,?_⟩
   have hk0:k.toNat=0:=by omega
   refine⟨.ref s.heap.objs.size,_,I.laid (t':=s.toks) (o:=.tup []) (λb ob q=>Zb _ q) (Zg _) ⟨Nat.zero_le _,[],.nil,IsTup.new _ _⟩,rfl,?_⟩
   have:=q2 hs _ (I.hok.fresh (Zg _))
   rw[hk0]at this
   exact this
  .have hp:its.length*k.toNat<=sizeLine:=by rw[<-hl];exact hz
   have hsz:=sizeLine_eq
   have hcast:((its.toArray.size:Int))*k=((its.length*k.toNat:Nat):Int):=by
    rw[Zd,Int.natCast_mul,Int.toNat_of_nonneg (by omega)]
   have hfold:List.foldl (λx1 x2=>x1++x2) #[] (List.replicate k.toNat its.toArray)=(List.replicate k.toNat its).flatten.toArray:=by
    have:=foldl_rep its k.toNat []
    rw[List.nil_append]at this
    exact this
   have hlen:(List.replicate k.toNat its).flatten.length<=sizeLine:=by rw[len_rep,Nat.mul_comm];exact hp
   refine call_meets F.slot_tuple_mul ⟨_,e,rfl⟩ F.entry_tuple_mul (F.args_tuple_mul_2 _ _) (rK l its.toArray n k t dd sl h0 hne (by rw[decide_eq_false hk,hne'];rfl) ?_ ?_ ?_) ⟨e,?_⟩
   .rw[hcast]
    have:(sizeLine:Int)<=(2 ^ 63-1) / 8:=by decide
    omega
   .rw[hcast]
    unfold Builtin.Tuple.tupleTooMany
    exact decide_eq_false (by omega)
   .rw[hfold,Zd];exact hlen
   .rw[hfold]
    refine⟨.ref s.heap.objs.size,_,I.laid (t':=s.toks) (o:=.tup (List.replicate k.toNat xs).flatten) (λb ob q=>Zb _ q) (Zg _) ⟨by rw[len_rep,Nat.mul_comm];exact hz,_,r.rep k.toNat,IsTup.new _ _⟩,rfl,q2 hs _ (I.hok.fresh (Zg _))⟩
def La(K:Zw)(T:String)(x:V)(H:Hp)(k:Bool):Prop:=match x with
 | .non=>k=false
 | .bl _=>k=(T=="bool"||T=="int")
 | .int _=>k=(T=="int")
 | .str _=>k=(T=="str")
 | .ref p=>(k=(T=="list")/\∃xs,SqL K H p xs)∨(k=(T=="tuple")/\∃xs,SqT K H p xs)∨(k=(T=="dict")/\∃xs,H p=some (.dK xs))
 |_=>False
def Fq:List String:=["bool","int","str","list","tuple","dict"]
theorem Eo:gG X (.builtin "isinstance") (λxs H Q=>∃x T k,xs=[x,.ty T]/\T∈Fq/\La X.K T x H k/\Q (.bl k) H):=by
 intro pins s σ H xs us Q I r h
 obtain⟨x,T,k,rfl,hT,hx,q⟩:=h
 obtain⟨u,w',rfl,rx,rt⟩:=vals2 r
 cases rt
 have fin:EP X pins σ Q (.bool k) s:=⟨.bl k,H,I,rfl,q⟩
 have fin1:EP X pins σ Q (.bool k) { s with toks:=s.toks+1}:=⟨.bl k,H,I.tok _,rfl,q⟩
 simp only[Fq,Zi,ZF,or_false]at hT
 cases x with
 |non=>
  cases rx
  have hk:k=false:=hx
  subst hk
  rcases hT with rfl|rfl|rfl|rfl|rfl|rfl
  .exact IsiPair.NoneType_bool fin1
  .exact IsiPair.NoneType_int fin1
  .exact IsiPair.NoneType_str fin1
  .exact IsiPair.NoneType_list fin1
  .exact IsiPair.NoneType_tuple fin1
  .exact IsiPair.NoneType_dict fin1
 |bl b=>
  cases rx
  have hk:k=_:=hx
  subst hk
  rcases hT with rfl|rfl|rfl|rfl|rfl|rfl
  .exact IsiPair.bool_bool fin
  .exact IsiPair.bool_int fin
  .exact IsiPair.bool_str fin1
  .exact IsiPair.bool_list fin1
  .exact IsiPair.bool_tuple fin1
  .exact IsiPair.bool_dict fin1
 |int b=>
  obtain⟨t,rfl⟩:=rx
  have hk:k=_:=hx
  subst hk
  rcases hT with rfl|rfl|rfl|rfl|rfl|rfl
  .exact IsiPair.int_bool fin1
  .exact IsiPair.int_int fin
  .exact IsiPair.int_str fin1
  .exact IsiPair.int_list fin1
  .exact IsiPair.int_tuple fin1
  .exact IsiPair.int_dict fin1
 |str b=>
  obtain⟨t,rfl⟩:=rx
  have hk:k=_:=hx
  subst hk
  rcases hT with rfl|rfl|rfl|rfl|rfl|rfl
  .exact IsiPair.str_bool fin1
  .exact IsiPair.str_int fin1
  .exact IsiPair.str_str fin
  .exact IsiPair.str_list fin1
  .exact IsiPair.str_tuple fin1
  .exact IsiPair.str_dict fin1
 |ref p=>
  cases rx
  rcases hx with⟨hk,xs,hq⟩|⟨hk,xs,hq⟩|⟨hk,xs,hq⟩
  .subst hk
   obtain⟨its,_,pl,_⟩:=I.list hq
   obtain⟨o,ho,hc,_⟩:=pl.isList
   rcases hT with rfl|rfl|rfl|rfl|rfl|rfl
   .exact IsiPair.list_bool ho hc fin1
   .exact IsiPair.list_int ho hc fin1
   .exact IsiPair.list_str ho hc fin1
   .exact IsiPair.list_list ho hc fin
   .exact IsiPair.list_tuple ho hc fin1
   .exact IsiPair.list_dict ho hc fin1
  .subst hk
   obtain⟨its,_,pl,_⟩:=I.tuple hq
   obtain⟨o,ho,hc,_⟩:=pl
   rcases hT with rfl|rfl|rfl|rfl|rfl|rfl
   .exact IsiPair.tuple_bool ho hc fin1
   .exact IsiPair.tuple_int ho hc fin1
   .exact IsiPair.tuple_str ho hc fin1
   .exact IsiPair.tuple_list ho hc fin1
   .exact IsiPair.tuple_tuple ho hc fin
   .exact IsiPair.tuple_dict ho hc fin1
  .subst hk
   obtain⟨_,_,vs,_,o,_,_,ho,ex,_⟩:=I.hok p _ hq
   have hc:=ex.1
   rcases hT with rfl|rfl|rfl|rfl|rfl|rfl
   .exact IsiPair.dict_bool ho hc fin1
   .exact IsiPair.dict_int ho hc fin1
   .exact IsiPair.dict_str ho hc fin1
   .exact IsiPair.dict_list ho hc fin1
   .exact IsiPair.dict_tuple ho hc fin1
   .exact IsiPair.dict_dict ho hc fin
 |_=>exact hx.elim
end
end L2
namespace L3
open PySem PySem.Spec PyProof.Rows L2
abbrev O2:=D->D->Mu->Option (D×Mu)
abbrev O1':=D->Mu->Option (D×Mu)
abbrev ON:=List D->Mu->Option (D×Mu)
def bD:O2
 | .int i,.int j,μ=>some (.int (i+j),μ)
 | .tup xs,.tup ys,μ=>if xs.length+ys.length<=sizeLine then some (.tup (xs++ys),μ)else none
 | .lst xs,.lst ys,μ=>if xs.length+ys.length<=sizeLine then some (.lst (xs++ys),μ)else none
 | .str x,.str y,μ=>if x.length+y.length<=sizeLine then some (.str (x++y),μ)else none
 |_,_,_=>none
def dF:O2
 | .int i,.int j,μ=>some (.int (i-j),μ)
 |_,_,_=>none
def bI:O2
 | .int i,.int j,μ=>if lG i j<=134217728 then some (.int (i*j),μ)else none
 | .tup xs,.int k,μ=>if -(2 ^ 63)<=k/\k<2 ^ 63/\xs.length*k.toNat<=sizeLine then some (.tup (List.replicate k.toNat xs).flatten,μ)else none
 | .lst xs,.int k,μ=>if -(2 ^ 63)<=k/\k<2 ^ 63/\xs.length*k.toNat<=sizeLine then some (.lst (List.replicate k.toNat xs).flatten,μ)else none
 |_,_,_=>none
def dm:O2
 | .int i,.int j,μ=>if j≠0/\j.natAbs.log2<9000 then some (.int (i.fdiv j),μ)else none
 |_,_,_=>none
def bw:O2
 | .int i,.int j,μ=>if j≠0 then some (.int (i.fmod j),μ)else none
 |_,_,_=>none
def qG:O2
 | .int i,.int j,μ=>if 0<=j/\(Builtin.Int.intBits i:Int)*j<=2 ^ 27 then some (.int (i ^ j.toNat),μ)else none
 |_,_,_=>none
def oLt:O2
 | .int i,.int j,μ=>some (.bl (decide (i<j)),μ)
 |_,_,_=>none
def oLe:O2
 | .int i,.int j,μ=>some (.bl (decide (i<=j)),μ)
 |_,_,_=>none
def oGt:O2
 | .int i,.int j,μ=>some (.bl (decide (j<i)),μ)
 |_,_,_=>none
def oGe:O2
 | .int i,.int j,μ=>some (.bl (decide (j<=i)),μ)
 |_,_,_=>none
section
variable {X:Cx} {tb:List Addr}
theorem pM{K:Zw}{F:Hp}{ad:List Addr}{ds:List D}{vs:List V}(h:aC K F ad ds vs):∀k:Nat,aC K F ad (List.replicate k ds).flatten (List.replicate k vs).flatten
 |0=>aC.nil
 |k+1=>by
  rw[List.replicate_succ,List.replicate_succ,List.flatten_cons,List.flatten_cons]
  exact aC.append h (pM h k)
theorem jR{K:Zw}{F:Hp}{ad:List Addr}{ds:List D}{vs:List V}(h:aC K F ad ds vs):vs=[]↔ds=[]:=by
 have:=aC.length h
 cases ds<;>cases vs<;>simp_all
theorem Fi{α:Type}(xs:List α):(List.replicate (1:Int).toNat xs).flatten=xs:=by simp
theorem bU:OpD X tb (binaryOp .Add) bD:=⟨_,JP.or (Fp.or (JZ.or xy)),λW x y v u d μ' Q ok dx dy ho h=>by
 cases x with
 |int i=>
  cases y with
  |int j=>cases ho;rw[bz dx,bz dy];exact .inl ⟨i,j,rfl,rfl,put ok h di⟩
  |_=>cases ho
 |tup xs=>
  cases y with
  |tup ys=>
   have ho':(if xs.length+ys.length<=sizeLine then some (D.tup (xs++ys),W.mu)else none)=some (d,μ'):=ho
   split at ho'
   .rename_i hz
    cases ho'
    obtain⟨a,us,rfl,q1,r1⟩:=gO dx
    obtain⟨b,ws,rfl,q2,r2⟩:=gO dy
    refine .inr (.inl ⟨a,b,us,ws,rfl,rfl,SqT.fz q1,SqT.fz q2,by rw[<-aC.length r1,<-aC.length r2];exact hz,λe=>?_,λ_ e=>?_,λ_ _ p hp=>lJ ok h (aC.append r1 r2) hp⟩)
    .have e':=(jR r1).mp e
     subst e'
     exact put ok h dy
    .have e':=(jR r2).mp e
     subst e'
     rw[List.append_nil]at h
     exact put ok h dx
   .cases ho'
  |_=>cases ho
 |lst xs=>
  cases y with
  |lst ys=>
   have ho':(if xs.length+ys.length<=sizeLine then some (D.lst (xs++ys),W.mu)else none)=some (d,μ'):=ho
   split at ho'
   .rename_i hz
    cases ho'
    obtain⟨a,us,rfl,q1,r1⟩:=lV dx
    obtain⟨b,ws,rfl,q2,r2⟩:=lV dy
    exact .inr (.inr (.inl ⟨a,b,us,ws,rfl,rfl,(cR q1).1,(cR q2).1,by rw[<-aC.length r1,<-aC.length r2];exact hz,λp hp=>iH ok h (aC.append r1 r2) hp⟩))
   .cases ho'
  |_=>cases ho
 |str x=>
  cases y with
  |str y=>
   have ho':(if x.length+y.length<=sizeLine then some (D.str (x++y),W.mu)else none)=some (d,μ'):=ho
   split at ho'
   .rename_i hz
    cases ho'
    rw[uf dx,uf dy]
    exact .inr (.inr (.inr ⟨x,y,rfl,rfl,hz,put ok h yL⟩))
   .cases ho'
  |_=>cases ho
 |_=>cases y<;>cases ho⟩
theorem dB:OpD X tb (binaryOp .Sub) dF:=⟨_,Lb,λW x y v u d μ' Q ok dx dy ho h=>by
 cases x with
 |int i=>
  cases y with
  |int j=>cases ho;rw[bz dx,bz dy];exact⟨i,j,rfl,rfl,put ok h di⟩
  |_=>cases ho
 |_=>cases y<;>cases ho⟩
theorem cj:OpD X tb (binaryOp .Mult) bI:=⟨_,Hs.or (Gp.or BW),λW x y v u d μ' Q ok dx dy ho h=>by
 cases x with
 |int i=>
  cases y with
  |int j=>
   have ho':(if lG i j<=134217728 then some (D.int (i*j),W.mu)else none)=some (d,μ'):=ho
   split at ho'
   .rename_i hz
    cases ho'
    rw[bz dx,bz dy];exact .inl ⟨i,j,rfl,rfl,hz,put ok h di⟩
   .cases ho'
  |_=>cases ho
 |tup xs=>
  cases y with
  |int k=>
   have ho':(if -(2 ^ 63)<=k/\k<2 ^ 63/\xs.length*k.toNat<=sizeLine then some (D.tup (List.replicate k.toNat xs).flatten,W.mu)else none)=some (d,μ'):=ho
   split at ho'
   .rename_i hz
    cases ho'
    obtain⟨a,us,rfl,q1,r1⟩:=gO dx
    rw[bz dy]
    refine .inr (.inl ⟨a,k,us,rfl,rfl,SqT.fz q1,hz.1,hz.2.1,by rw[<-aC.length r1];exact hz.2.2,λe=>?_,λ_ p hp=>lJ ok h (pM r1 _) hp⟩)
    rcases e with e|e
    .have e':=(jR r1).mp e
     subst e'
     have e2:(List.replicate k.toNat ([]:List D)).flatten=[]:=by simp
     rw[e2]at h
     exact put ok h dx
    .subst e
     rw[Fi]at h
     exact put ok h dx
   .cases ho'
  |_=>cases ho
 |lst xs=>
  cases y with
  |int k=>
   have ho':(if -(2 ^ 63)<=k/\k<2 ^ 63/\xs.length*k.toNat<=sizeLine then some (D.lst (List.replicate k.toNat xs).flatten,W.mu)else none)=some (d,μ'):=ho
   split at ho'
   .rename_i hz
    cases ho'
    obtain⟨a,us,rfl,q1,r1⟩:=lV dx
    rw[bz dy]
    exact .inr (.inr ⟨a,k,us,rfl,rfl,(cR q1).1,hz.1,hz.2.1,by rw[<-aC.length r1];exact hz.2.2,λp hp=>iH ok h (pM r1 _) hp⟩)
   .cases ho'
  |_=>cases ho
 |_=>cases y<;>cases ho⟩
theorem cV:OpD X tb (binaryOp .FloorDiv) dm:=⟨_,DX,λW x y v u d μ' Q ok dx dy ho h=>by
 cases x with
 |int i=>
  cases y with
  |int j=>
   have ho':(if j≠0/\j.natAbs.log2<9000 then some (D.int (i.fdiv j),W.mu)else none)=some (d,μ'):=ho
   split at ho'
   .rename_i hz
    cases ho'
    rw[bz dx,bz dy];exact⟨i,j,rfl,rfl,hz,put ok h di⟩
   .cases ho'
  |_=>cases ho
 |_=>cases y<;>cases ho⟩
theorem aX:OpD X tb (binaryOp .Mod) bw:=⟨_,HQ,λW x y v u d μ' Q ok dx dy ho h=>by
 cases x with
 |int i=>
  cases y with
  |int j=>
   have ho':(if j≠0 then some (D.int (i.fmod j),W.mu)else none)=some (d,μ'):=ho
   split at ho'
   .rename_i hz
    cases ho'
    rw[bz dx,bz dy];exact⟨i,j,rfl,rfl,hz,put ok h di⟩
   .cases ho'
  |_=>cases ho
 |_=>cases y<;>cases ho⟩
theorem xg:OpD X tb (binaryOp .Pow) qG:=⟨_,HR,λW x y v u d μ' Q ok dx dy ho h=>by
 cases x with
 |int i=>
  cases y with
  |int j=>
   have ho':(if 0<=j/\(Builtin.Int.intBits i:Int)*j<=2 ^ 27 then some (D.int (i ^ j.toNat),W.mu)else none)=some (d,μ'):=ho
   split at ho'
   .rename_i hz
    cases ho'
    rw[bz dx,bz dy];exact⟨i,j,rfl,rfl,hz,put ok h di⟩
   .cases ho'
  |_=>cases ho
 |_=>cases y<;>cases ho⟩
theorem uN:OpD X tb (compareOp .Lt) oLt:=⟨_,Oa,λW x y v u d μ' Q ok dx dy ho h=>by
 cases x with
 |int i=>
  cases y with
  |int j=>cases ho;rw[bz dx,bz dy];exact⟨i,j,rfl,rfl,put ok h gQ⟩
  |_=>cases ho
 |_=>cases y<;>cases ho⟩
theorem Nj:OpD X tb (compareOp .LtE) oLe:=⟨_,Oz,λW x y v u d μ' Q ok dx dy ho h=>by
 cases x with
 |int i=>
  cases y with
  |int j=>cases ho;rw[bz dx,bz dy];exact⟨i,j,rfl,rfl,put ok h gQ⟩
  |_=>cases ho
 |_=>cases y<;>cases ho⟩
theorem Cr:OpD X tb (compareOp .Gt) oGt:=⟨_,PB,λW x y v u d μ' Q ok dx dy ho h=>by
 cases x with
 |int i=>
  cases y with
  |int j=>cases ho;rw[bz dx,bz dy];exact⟨i,j,rfl,rfl,put ok h gQ⟩
  |_=>cases ho
 |_=>cases y<;>cases ho⟩
theorem Eu:OpD X tb (compareOp .GtE) oGe:=⟨_,MP,λW x y v u d μ' Q ok dx dy ho h=>by
 cases x with
 |int i=>
  cases y with
  |int j=>cases ho;rw[bz dx,bz dy];exact⟨i,j,rfl,rfl,put ok h gQ⟩
  |_=>cases ho
 |_=>cases y<;>cases ho⟩
end
open PySem.SeqAt
mutual
def eqD:D->D->Bool
 | .non,.non=>true
 | .bl a,.bl b=>a==b
 | .bl a,.int b=>(if a then 1 else 0)==b
 | .int a,.bl b=>a==(if b then 1 else 0)
 | .int a,.int b=>a==b
 | .str a,.str b=>a==b
 | .tup xs,.tup ys=>gU xs ys
 | .lst xs,.lst ys=>gU xs ys
 |_,_=>false
def gU:List D->List D->Bool
 | [],[]=>true
 |x::xs,y::ys=>eqD x y&&gU xs ys
 |_,_=>false
end
mutual
def dh:D->Nat
 | .tup ds=>fD ds+1
 | .lst ds=>fD ds+1
 |_=>0
def fD:List D->Nat
 | []=>0
 |d::ds=>max (dh d) (fD ds)
end
mutual
def bL:D->Bool
 | .non=>true
 | .bl _=>true
 | .int _=>true
 | .str _=>true
 | .tup ds=>cN ds
 | .lst ds=>cN ds
 |_=>false
def cN:List D->Bool
 | []=>true
 |d::ds=>bL d&&cN ds
end
mutual
def DV(K:Zw)(H:Hp):D->V->Prop
 | .non,v=>v= .non
 | .bl b,v=>v= .bl b
 | .int i,v=>v= .int i
 | .str x,v=>v= .str x
 | .tup ds,v=>∃a xs,v= .ref a/\SqT K H a xs/\DVL K H ds xs
 | .lst ds,v=>∃a xs,v= .ref a/\SqL K H a xs/\DVL K H ds xs
 | .ro _,_=>False
 | .dic _,_=>False
 | .cell _,_=>False
def DVL(K:Zw)(H:Hp):List D->List V->Prop
 | [],vs=>vs=[]
 |d::ds,vs=>∃u us,vs=u::us/\DV K H d u/\DVL K H ds us
end
section
variable {K:Zw} {tb:List Addr} {W:Wd}
mutual
theorem Bm:∀(d:D)(v:V),bL d=true->bc K (W.fz tb) W.ad d v->DV K W.H d v
 | .non,v,_,h=>by unfold bc at h;unfold DV;exact h
 | .bl _,v,_,h=>by unfold bc at h;unfold DV;exact h
 | .int _,v,_,h=>by unfold bc at h;unfold DV;exact h
 | .str _,v,_,h=>by unfold bc at h;unfold DV;exact h
 | .tup ds,v,p,h=>by
  unfold bc at h;unfold DV;unfold bL at p
  obtain⟨a,xs,e,q,r⟩:=h
  exact⟨a,xs,e,SqT.fz q,qU ds xs p r⟩
 | .lst ds,v,p,h=>by
  unfold bc at h;unfold DV;unfold bL at p
  obtain⟨a,xs,e,q,r⟩:=h
  exact⟨a,xs,e,SqL.of (cR q).1,qU ds xs p r⟩
 | .ro ds,v,p,h=>by unfold bL at p;cases p
 | .dic ds,v,p,h=>by unfold bL at p;cases p
 | .cell ds,v,p,h=>by unfold bL at p;cases p
theorem qU:∀(ds:List D)(vs:List V),cN ds=true->aC K (W.fz tb) W.ad ds vs->DVL K W.H ds vs
 | [],vs,_,h=>by unfold aC at h;unfold DVL;exact h
 |d::ds,vs,p,h=>by
  unfold aC at h;unfold DVL;unfold cN at p
  rw[Zo]at p
  obtain⟨u,us,e,q,r⟩:=h
  exact⟨u,us,e,Bm d u p.1 q,qU ds us p.2 r⟩
end
end
def oY(xs ys:List D)(j:Nat):Bool:=match xs[j]?,ys[j]? with
 |some x,some y=>eqD x y
 |_,_=>false
theorem jQ:∀(xs ys:List D),xs.length=ys.length->(List.range xs.length).all (oY xs ys)=gU xs ys
 | [],[],_=>by unfold gU;rfl
 |x::xs,y::ys,h=>by
  unfold gU
  rw[ZH,List.range_succ_eq_map,List.all_cons,List.all_map,<-jQ xs ys (by simpa using h)]
  rfl
theorem nj:∀(xs ys:List D),xs.length≠ys.length->gU xs ys=false
 | [],[],h=>absurd rfl h
 | [],y::ys,_=>by unfold gU;rfl
 |x::xs,[],_=>by unfold gU;rfl
 |x::xs,y::ys,h=>by
  unfold gU
  rw[nj xs ys (by simpa using h),Bool.and_false]
theorem vM(xs ys:List D):((List.range (min xs.length ys.length)).all (oY xs ys)&&xs.length==ys.length)=gU xs ys:=by
 by_cases h:xs.length=ys.length
 .rw[<-h,Nat.min_self,jQ xs ys h];simp
 .rw[nj xs ys h,beq_false_of_ne h,Bool.and_false]
section
variable {X:Cx} {pins:List (Addr×Obj)} {σ:L2.St} {H:Hp} {s:Shared}
theorem DVL.length{K:Zw}:∀{ds:List D}{vs:List V},DVL K H ds vs->ds.length=vs.length
 | [],vs,h=>by unfold DVL at h;subst h;rfl
 |d::ds,vs,h=>by
  unfold DVL at h
  obtain⟨u,us,rfl,_,r⟩:=h
  rw[ZH,ZH,DVL.length r]
theorem DVL.get'{K:Zw}:∀{ds:List D}{vs:List V}{i:Nat}{v:V},DVL K H ds vs->vs[i]? =some v->∃d,ds[i]? =some d/\DV K H d v
 | [],vs,i,v,h,e=>by unfold DVL at h;subst h;simp at e
 |d::ds,vs,0,x,h,e=>by
  unfold DVL at h
  obtain⟨u,us,rfl,p,r⟩:=h
  simp at e;subst e
  exact⟨d,rfl,p⟩
 |d::ds,vs,i+1,x,h,e=>by
  unfold DVL at h
  obtain⟨u,us,rfl,p,r⟩:=h
  obtain⟨y,e1,e2⟩:=DVL.get' (i:=i) r (by simpa using e)
  exact⟨y,by simpa using e1,e2⟩
theorem uQ{a:Addr}{xs ys:List V}(I:Inv X pins σ H s)(h:SqL X.K H a xs)(h':SqT X.K H a ys):False:=by
 obtain⟨its,_,pl,_⟩:=I.list h
 obtain⟨its',_,pt,_⟩:=I.tuple h'
 obtain⟨o,ho,hc,_⟩:=pl.isList
 obtain⟨o',ho',hc',_⟩:=pt
 rw[ho]at ho';cases ho'
 rw[hc]at hc'
 exact absurd hc' (by decide)
mutual
theorem qY(I:Inv X pins σ H s):∀(x y:D)(v:V),DV X.K H x v->DV X.K H y v->eqD x y=true
 | .non,.non,v,h,k=>by unfold eqD;rfl
 | .non,.bl b,v,h,k=>by unfold DV at h k;subst h;cases k
 | .non,.int b,v,h,k=>by unfold DV at h k;subst h;cases k
 | .non,.str b,v,h,k=>by unfold DV at h k;subst h;cases k
 | .non,.tup ys,v,h,k=>by unfold DV at h k;obtain⟨a,us,rfl,q,r⟩:=k;cases h
 | .non,.lst ys,v,h,k=>by unfold DV at h k;obtain⟨a,us,rfl,q,r⟩:=k;cases h
 | .bl a,.non,v,h,k=>by unfold DV at h k;subst h;cases k
 | .bl a,.bl b,v,h,k=>by unfold DV at h k;subst h;cases k;unfold eqD;simp
 | .bl a,.int b,v,h,k=>by unfold DV at h k;subst h;cases k
 | .bl a,.str b,v,h,k=>by unfold DV at h k;subst h;cases k
 | .bl a,.tup ys,v,h,k=>by unfold DV at h k;obtain⟨a,us,rfl,q,r⟩:=k;cases h
 | .bl a,.lst ys,v,h,k=>by unfold DV at h k;obtain⟨a,us,rfl,q,r⟩:=k;cases h
 | .int a,.non,v,h,k=>by unfold DV at h k;subst h;cases k
 | .int a,.bl b,v,h,k=>by unfold DV at h k;subst h;cases k
 | .int a,.int b,v,h,k=>by unfold DV at h k;subst h;cases k;unfold eqD;simp
 | .int a,.str b,v,h,k=>by unfold DV at h k;subst h;cases k
 | .int a,.tup ys,v,h,k=>by unfold DV at h k;obtain⟨a,us,rfl,q,r⟩:=k;cases h
 | .int a,.lst ys,v,h,k=>by unfold DV at h k;obtain⟨a,us,rfl,q,r⟩:=k;cases h
 | .str a,.non,v,h,k=>by unfold DV at h k;subst h;cases k
 | .str a,.bl b,v,h,k=>by unfold DV at h k;subst h;cases k
 | .str a,.int b,v,h,k=>by unfold DV at h k;subst h;cases k
 | .str a,.str b,v,h,k=>by unfold DV at h k;subst h;cases k;unfold eqD;simp
 | .str a,.tup ys,v,h,k=>by unfold DV at h k;obtain⟨a,us,rfl,q,r⟩:=k;cases h
 | .str a,.lst ys,v,h,k=>by unfold DV at h k;obtain⟨a,us,rfl,q,r⟩:=k;cases h
 | .tup xs,.non,v,h,k=>by unfold DV at h k;obtain⟨a,us,rfl,q,r⟩:=h;cases k
 | .tup xs,.bl b,v,h,k=>by unfold DV at h k;obtain⟨a,us,rfl,q,r⟩:=h;cases k
 | .tup xs,.int b,v,h,k=>by unfold DV at h k;obtain⟨a,us,rfl,q,r⟩:=h;cases k
 | .tup xs,.str b,v,h,k=>by unfold DV at h k;obtain⟨a,us,rfl,q,r⟩:=h;cases k
 | .tup xs,.tup ys,v,h,k=>by
  unfold DV at h k
  obtain⟨a,us,rfl,q,r⟩:=h
  obtain⟨a',us',e,q',r'⟩:=k
  cases e
  have:=I.tuple_inj q q'
  subst this
  unfold eqD
  exact ou I xs ys us r r'
 | .tup xs,.lst ys,v,h,k=>by
  unfold DV at h k
  obtain⟨a,us,rfl,q,r⟩:=h
  obtain⟨a',us',e,q',r'⟩:=k
  cases e
  exact(uQ I q' q).elim
 | .lst xs,.non,v,h,k=>by unfold DV at h k;obtain⟨a,us,rfl,q,r⟩:=h;cases k
 | .lst xs,.bl b,v,h,k=>by unfold DV at h k;obtain⟨a,us,rfl,q,r⟩:=h;cases k
 | .lst xs,.int b,v,h,k=>by unfold DV at h k;obtain⟨a,us,rfl,q,r⟩:=h;cases k
 | .lst xs,.str b,v,h,k=>by unfold DV at h k;obtain⟨a,us,rfl,q,r⟩:=h;cases k
 | .lst xs,.tup ys,v,h,k=>by
  unfold DV at h k
  obtain⟨a,us,rfl,q,r⟩:=h
  obtain⟨a',us',e,q',r'⟩:=k
  cases e
  exact(uQ I q q').elim
 | .lst xs,.lst ys,v,h,k=>by
  unfold DV at h k
  obtain⟨a,us,rfl,q,r⟩:=h
  obtain⟨a',us',e,q',r'⟩:=k
  cases e
  have:=I.list_inj q q'
  subst this
  unfold eqD
  exact ou I xs ys us r r'
 | .ro _,_,v,h,_=>by unfold DV at h;exact h.elim
 | .dic _,_,v,h,_=>by unfold DV at h;exact h.elim
 | .cell _,_,v,h,_=>by unfold DV at h;exact h.elim
 |_,.ro _,v,_,k=>by unfold DV at k;exact k.elim
 |_,.dic _,v,_,k=>by unfold DV at k;exact k.elim
 |_,.cell _,v,_,k=>by unfold DV at k;exact k.elim
theorem ou(I:Inv X pins σ H s):∀(xs ys:List D)(vs:List V),DVL X.K H xs vs->DVL X.K H ys vs->gU xs ys=true
 | [],[],vs,_,_=>by unfold gU;rfl
 | [],y::ys,vs,h,k=>by unfold DVL at h k;subst h;obtain⟨u,us,e,_⟩:=k;cases e
 |x::xs,[],vs,h,k=>by unfold DVL at h k;subst k;obtain⟨u,us,e,_⟩:=h;cases e
 |x::xs,y::ys,vs,h,k=>by
  unfold DVL at h k
  obtain⟨u,us,rfl,p,r⟩:=h
  obtain⟨u',us',e,p',r'⟩:=k
  cases e
  unfold gU
  rw[qY I x y u p p',ou I xs ys us r r'];rfl
end
def sk:D->D->Bool
 | .tup _,.tup _=>true
 | .lst _,.lst _=>true
 |_,_=>false
def Vw(s:Shared):D->Value->Prop
 | .non,v=>v= .none
 | .bl b,v=>v= .bool b
 | .int i,v=>∃t,v= .int i t
 | .str z,v=>∃t,v= .str z t
 | .tup _,v=>∃a its,v= .ref a/\IsTup s.heap a its
 | .lst _,v=>∃a its,v= .ref a/\s.heap.IsList a its
 |_,_=>False
theorem vw{x:D}{v:V}{vv:Value}(I:Inv X pins σ H s)(h:DV X.K H x v)(rv:bY v vv):Vw s x vv:=by
 cases x<;>unfold DV at h
 case tup=>obtain⟨a,us,rfl,q,r⟩:=h;obtain⟨_,_,pl,_⟩:=I.tuple q;exact⟨a,_,rv,pl⟩
 case lst=>obtain⟨a,us,rfl,q,r⟩:=h;obtain⟨_,_,pl,_⟩:=I.list q;exact⟨a,_,rv,pl.isList⟩
 case ro=>exact h.elim
 case dic=>exact h.elim
 case cell=>exact h.elim
 all_goals subst h;exact rv
theorem jJ{vv uu:Value}{A:Around}(hu:A.units<cLine):∀(x y:D),Vw s x vv->Vw s y uu->sk x y=false->EqAt A s vv uu (eqD x y)
 | .non,.non,rfl,rfl,_=>by unfold eqD;exact EqAt.same _
 | .non,.bl _,rfl,rfl,_=>by unfold eqD;exact EqAt.none_bool _
 | .non,.int _,rfl,⟨_,rfl⟩,_=>by unfold eqD;exact EqAt.none_int _ _
 | .non,.str _,rfl,⟨_,rfl⟩,_=>by unfold eqD;exact EqAt.none_str _ _
 | .non,.tup _,rfl,⟨_,_,rfl,m⟩,_=>by unfold eqD;exact EqAt.none_tuple m hu
 | .non,.lst _,rfl,⟨_,_,rfl,m⟩,_=>by unfold eqD;exact EqAt.none_list m hu
 | .bl _,.non,rfl,rfl,_=>by unfold eqD;exact EqAt.bool_none _
 | .bl _,.bl _,rfl,rfl,_=>by unfold eqD;exact EqAt.bool_bool _ _
 | .bl _,.int _,rfl,⟨_,rfl⟩,_=>by unfold eqD;exact EqAt.bool_int _ _ _
 | .bl _,.str _,rfl,⟨_,rfl⟩,_=>by unfold eqD;exact EqAt.bool_str _ _ _
 | .bl _,.tup _,rfl,⟨_,_,rfl,m⟩,_=>by unfold eqD;exact EqAt.bool_tuple _ m hu
 | .bl _,.lst _,rfl,⟨_,_,rfl,m⟩,_=>by unfold eqD;exact EqAt.bool_list _ m hu
 | .int _,.non,⟨_,rfl⟩,rfl,_=>by unfold eqD;exact EqAt.int_none _ _
 | .int _,.bl _,⟨_,rfl⟩,rfl,_=>by unfold eqD;exact EqAt.int_bool _ _ _
 | .int _,.int _,⟨_,rfl⟩,⟨_,rfl⟩,_=>by unfold eqD;exact EqAt.int_int _ _ _ _
 | .int _,.str _,⟨_,rfl⟩,⟨_,rfl⟩,_=>by unfold eqD;exact EqAt.int_str _ _ _ _
 | .int _,.tup _,⟨_,rfl⟩,⟨_,_,rfl,m⟩,_=>by unfold eqD;exact EqAt.int_tuple _ _ m hu
 | .int _,.lst _,⟨_,rfl⟩,⟨_,_,rfl,m⟩,_=>by unfold eqD;exact EqAt.int_list _ _ m hu
 | .str _,.non,⟨_,rfl⟩,rfl,_=>by unfold eqD;exact EqAt.str_none _ _
 | .str _,.bl _,⟨_,rfl⟩,rfl,_=>by unfold eqD;exact EqAt.str_bool _ _ _
 | .str _,.int _,⟨_,rfl⟩,⟨_,rfl⟩,_=>by unfold eqD;exact EqAt.str_int _ _ _ _
 | .str _,.str _,⟨_,rfl⟩,⟨_,rfl⟩,_=>by unfold eqD;exact EqAt.str_str _ _ _ _
 | .str _,.tup _,⟨_,rfl⟩,⟨_,_,rfl,m⟩,_=>by unfold eqD;exact EqAt.str_tuple _ _ m hu
 | .str _,.lst _,⟨_,rfl⟩,⟨_,_,rfl,m⟩,_=>by unfold eqD;exact EqAt.str_list _ _ m hu
 | .tup _,.non,⟨_,_,rfl,l⟩,rfl,_=>by unfold eqD;exact EqAt.tuple_none l hu
 | .tup _,.bl _,⟨_,_,rfl,l⟩,rfl,_=>by unfold eqD;exact EqAt.tuple_bool _ l hu
 | .tup _,.int _,⟨_,_,rfl,l⟩,⟨_,rfl⟩,_=>by unfold eqD;exact EqAt.tuple_int _ _ l hu
 | .tup _,.str _,⟨_,_,rfl,l⟩,⟨_,rfl⟩,_=>by unfold eqD;exact EqAt.tuple_str _ _ l hu
 | .tup _,.tup _,_,_,h=>nomatch h
 | .tup _,.lst _,⟨_,_,rfl,l⟩,⟨_,_,rfl,m⟩,_=>by unfold eqD;exact EqAt.tuple_list l m hu
 | .lst _,.non,⟨_,_,rfl,l⟩,rfl,_=>by unfold eqD;exact EqAt.list_none l hu
 | .lst _,.bl _,⟨_,_,rfl,l⟩,rfl,_=>by unfold eqD;exact EqAt.list_bool _ l hu
 | .lst _,.int _,⟨_,_,rfl,l⟩,⟨_,rfl⟩,_=>by unfold eqD;exact EqAt.list_int _ _ l hu
 | .lst _,.str _,⟨_,_,rfl,l⟩,⟨_,rfl⟩,_=>by unfold eqD;exact EqAt.list_str _ _ l hu
 | .lst _,.tup _,⟨_,_,rfl,l⟩,⟨_,_,rfl,m⟩,_=>by unfold eqD;exact EqAt.list_tuple l m hu
 | .lst _,.lst _,_,_,h=>nomatch h
 | .ro _,_,p,_,_=>p.elim
 |_,.ro _,_,p,_=>p.elim
 | .dic _,_,p,_,_=>p.elim
 |_,.dic _,_,p,_=>p.elim
 | .cell _,_,p,_,_=>p.elim
 |_,.cell _,_,p,_=>p.elim
theorem jK{vv uu:Value}{A:Around}(hu:A.units<cLine):∀(x y:D),Vw s x vv->Vw s y uu->sk x y=false->RcAt A s vv uu (eqD x y)
 | .non,.non,rfl,rfl,_=>by unfold eqD;exact RcAt.none_none
 | .non,.bl _,rfl,rfl,_=>by unfold eqD;exact RcAt.none_bool _
 | .non,.int _,rfl,⟨_,rfl⟩,_=>by unfold eqD;exact RcAt.none_int _ _
 | .non,.str _,rfl,⟨_,rfl⟩,_=>by unfold eqD;exact RcAt.none_str _ _
 | .non,.tup _,rfl,⟨_,_,rfl,m⟩,_=>by unfold eqD;exact RcAt.none_tuple m hu
 | .non,.lst _,rfl,⟨_,_,rfl,m⟩,_=>by unfold eqD;exact RcAt.none_list m hu
 | .bl _,.non,rfl,rfl,_=>by unfold eqD;exact RcAt.bool_none _
 | .bl _,.bl _,rfl,rfl,_=>by unfold eqD;exact RcAt.bool_bool _ _
 | .bl _,.int _,rfl,⟨_,rfl⟩,_=>by unfold eqD;exact RcAt.bool_int _ _ _
 | .bl _,.str _,rfl,⟨_,rfl⟩,_=>by unfold eqD;exact RcAt.bool_str _ _ _
 | .bl _,.tup _,rfl,⟨_,_,rfl,m⟩,_=>by unfold eqD;exact RcAt.bool_tuple _ m hu
 | .bl _,.lst _,rfl,⟨_,_,rfl,m⟩,_=>by unfold eqD;exact RcAt.bool_list _ m hu
 | .int _,.non,⟨_,rfl⟩,rfl,_=>by unfold eqD;exact RcAt.int_none _ _
 | .int _,.bl _,⟨_,rfl⟩,rfl,_=>by unfold eqD;exact RcAt.int_bool _ _ _
 | .int _,.int _,⟨_,rfl⟩,⟨_,rfl⟩,_=>by unfold eqD;exact RcAt.int_int _ _ _ _
 | .int _,.str _,⟨_,rfl⟩,⟨_,rfl⟩,_=>by unfold eqD;exact RcAt.int_str _ _ _ _
 | .int _,.tup _,⟨_,rfl⟩,⟨_,_,rfl,m⟩,_=>by unfold eqD;exact RcAt.int_tuple _ _ m hu
 | .int _,.lst _,⟨_,rfl⟩,⟨_,_,rfl,m⟩,_=>by unfold eqD;exact RcAt.int_list _ _ m hu
 | .str _,.non,⟨_,rfl⟩,rfl,_=>by unfold eqD;exact RcAt.str_none _ _
 | .str _,.bl _,⟨_,rfl⟩,rfl,_=>by unfold eqD;exact RcAt.str_bool _ _ _
 | .str _,.int _,⟨_,rfl⟩,⟨_,rfl⟩,_=>by unfold eqD;exact RcAt.str_int _ _ _ _
 | .str _,.str _,⟨_,rfl⟩,⟨_,rfl⟩,_=>by unfold eqD;exact RcAt.str_str _ _ _ _
 | .str _,.tup _,⟨_,rfl⟩,⟨_,_,rfl,m⟩,_=>by unfold eqD;exact RcAt.str_tuple _ _ m hu
 | .str _,.lst _,⟨_,rfl⟩,⟨_,_,rfl,m⟩,_=>by unfold eqD;exact RcAt.str_list _ _ m hu
 | .tup _,.non,⟨_,_,rfl,l⟩,rfl,_=>by unfold eqD;exact RcAt.tuple_none l hu
 | .tup _,.bl _,⟨_,_,rfl,l⟩,rfl,_=>by unfold eqD;exact RcAt.tuple_bool _ l hu
 | .tup _,.int _,⟨_,_,rfl,l⟩,⟨_,rfl⟩,_=>by unfold eqD;exact RcAt.tuple_int _ _ l hu
 | .tup _,.str _,⟨_,_,rfl,l⟩,⟨_,rfl⟩,_=>by unfold eqD;exact RcAt.tuple_str _ _ l hu
 | .tup _,.tup _,_,_,h=>nomatch h
 | .tup _,.lst _,⟨_,_,rfl,l⟩,⟨_,_,rfl,m⟩,_=>by unfold eqD;exact RcAt.tuple_list l m hu
 | .lst _,.non,⟨_,_,rfl,l⟩,rfl,_=>by unfold eqD;exact RcAt.list_none l hu
 | .lst _,.bl _,⟨_,_,rfl,l⟩,rfl,_=>by unfold eqD;exact RcAt.list_bool _ l hu
 | .lst _,.int _,⟨_,_,rfl,l⟩,⟨_,rfl⟩,_=>by unfold eqD;exact RcAt.list_int _ _ l hu
 | .lst _,.str _,⟨_,_,rfl,l⟩,⟨_,rfl⟩,_=>by unfold eqD;exact RcAt.list_str _ _ l hu
 | .lst _,.tup _,⟨_,_,rfl,l⟩,⟨_,_,rfl,m⟩,_=>by unfold eqD;exact RcAt.list_tuple l m hu
 | .lst _,.lst _,_,_,h=>nomatch h
 | .ro _,_,p,_,_=>p.elim
 |_,.ro _,_,p,_=>p.elim
 | .dic _,_,p,_,_=>p.elim
 |_,.dic _,_,p,_=>p.elim
 | .cell _,_,p,_,_=>p.elim
 |_,.cell _,_,p,_=>p.elim
theorem jG{vv uu:Value}{A:Around}(hu:A.units<cLine):∀(x y:D),Vw s x vv->Vw s y uu->sk x y=false->RcNeAt A s vv uu (!eqD x y)
 | .non,.non,rfl,rfl,_=>by unfold eqD;exact RcNeAt.none_none
 | .non,.bl _,rfl,rfl,_=>by unfold eqD;exact RcNeAt.none_bool _
 | .non,.int _,rfl,⟨_,rfl⟩,_=>by unfold eqD;exact RcNeAt.none_int _ _
 | .non,.str _,rfl,⟨_,rfl⟩,_=>by unfold eqD;exact RcNeAt.none_str _ _
 | .non,.tup _,rfl,⟨_,_,rfl,m⟩,_=>by unfold eqD;exact RcNeAt.none_tuple m hu
 | .non,.lst _,rfl,⟨_,_,rfl,m⟩,_=>by unfold eqD;exact RcNeAt.none_list m hu
 | .bl _,.non,rfl,rfl,_=>by unfold eqD;exact RcNeAt.bool_none _
 | .bl _,.bl _,rfl,rfl,_=>by unfold eqD;exact RcNeAt.bool_bool _ _
 | .bl _,.int _,rfl,⟨_,rfl⟩,_=>by unfold eqD;exact RcNeAt.bool_int _ _ _
 | .bl _,.str _,rfl,⟨_,rfl⟩,_=>by unfold eqD;exact RcNeAt.bool_str _ _ _
 | .bl _,.tup _,rfl,⟨_,_,rfl,m⟩,_=>by unfold eqD;exact RcNeAt.bool_tuple _ m hu
 | .bl _,.lst _,rfl,⟨_,_,rfl,m⟩,_=>by unfold eqD;exact RcNeAt.bool_list _ m hu
 | .int _,.non,⟨_,rfl⟩,rfl,_=>by unfold eqD;exact RcNeAt.int_none _ _
 | .int _,.bl _,⟨_,rfl⟩,rfl,_=>by unfold eqD;exact RcNeAt.int_bool _ _ _
 | .int _,.int _,⟨_,rfl⟩,⟨_,rfl⟩,_=>by unfold eqD;exact RcNeAt.int_int _ _ _ _
 | .int _,.str _,⟨_,rfl⟩,⟨_,rfl⟩,_=>by unfold eqD;exact RcNeAt.int_str _ _ _ _
 | .int _,.tup _,⟨_,rfl⟩,⟨_,_,rfl,m⟩,_=>by unfold eqD;exact RcNeAt.int_tuple _ _ m hu
 | .int _,.lst _,⟨_,rfl⟩,⟨_,_,rfl,m⟩,_=>by unfold eqD;exact RcNeAt.int_list _ _ m hu
 | .str _,.non,⟨_,rfl⟩,rfl,_=>by unfold eqD;exact RcNeAt.str_none _ _
 | .str _,.bl _,⟨_,rfl⟩,rfl,_=>by unfold eqD;exact RcNeAt.str_bool _ _ _
 | .str _,.int _,⟨_,rfl⟩,⟨_,rfl⟩,_=>by unfold eqD;exact RcNeAt.str_int _ _ _ _
 | .str _,.str _,⟨_,rfl⟩,⟨_,rfl⟩,_=>by unfold eqD;exact RcNeAt.str_str _ _ _ _
 | .str _,.tup _,⟨_,rfl⟩,⟨_,_,rfl,m⟩,_=>by unfold eqD;exact RcNeAt.str_tuple _ _ m hu
 | .str _,.lst _,⟨_,rfl⟩,⟨_,_,rfl,m⟩,_=>by unfold eqD;exact RcNeAt.str_list _ _ m hu
 | .tup _,.non,⟨_,_,rfl,l⟩,rfl,_=>by unfold eqD;exact RcNeAt.tuple_none l hu
 | .tup _,.bl _,⟨_,_,rfl,l⟩,rfl,_=>by unfold eqD;exact RcNeAt.tuple_bool _ l hu
 | .tup _,.int _,⟨_,_,rfl,l⟩,⟨_,rfl⟩,_=>by unfold eqD;exact RcNeAt.tuple_int _ _ l hu
 | .tup _,.str _,⟨_,_,rfl,l⟩,⟨_,rfl⟩,_=>by unfold eqD;exact RcNeAt.tuple_str _ _ l hu
 | .tup _,.tup _,_,_,h=>nomatch h
 | .tup _,.lst _,⟨_,_,rfl,l⟩,⟨_,_,rfl,m⟩,_=>by unfold eqD;exact RcNeAt.tuple_list l m hu
 | .lst _,.non,⟨_,_,rfl,l⟩,rfl,_=>by unfold eqD;exact RcNeAt.list_none l hu
 | .lst _,.bl _,⟨_,_,rfl,l⟩,rfl,_=>by unfold eqD;exact RcNeAt.list_bool _ l hu
 | .lst _,.int _,⟨_,_,rfl,l⟩,⟨_,rfl⟩,_=>by unfold eqD;exact RcNeAt.list_int _ _ l hu
 | .lst _,.str _,⟨_,_,rfl,l⟩,⟨_,rfl⟩,_=>by unfold eqD;exact RcNeAt.list_str _ _ l hu
 | .lst _,.tup _,⟨_,_,rfl,l⟩,⟨_,_,rfl,m⟩,_=>by unfold eqD;exact RcNeAt.list_tuple l m hu
 | .lst _,.lst _,_,_,h=>nomatch h
 | .ro _,_,p,_,_=>p.elim
 |_,.ro _,_,p,_=>p.elim
 | .dic _,_,p,_,_=>p.elim
 |_,.dic _,_,p,_=>p.elim
 | .cell _,_,p,_,_=>p.elim
 |_,.cell _,_,p,_=>p.elim
theorem uv{xs ys:List D}{us ws:List V}{its0 its1:List Value}{A:Around}(r:DVL X.K H xs us)(r2:DVL X.K H ys ws)(iv0:aY us its0)(iv1:aY ws its1)
  (E:∀(j:Nat)(x y:D),xs[j]? =some x->ys[j]? =some y->∀(z z':Value),its0[j]? =some z->its1[j]? =some z'->EqAt A.in1 s z z' (eqD x y)) (j:Nat) (h1:j<its0.toArray.size) (h2:j<its1.toArray.size):EqAt A.in1 s its0.toArray[j] its1.toArray[j] (oY xs ys j):=by
 have h1':j<its0.length:=by simpa using h1
 have h2':j<its1.length:=by simpa using h2
 obtain⟨d,e1,dv⟩:=DVL.get' r (show us[j]? =some (us[j]'(by rw[iv0.length];exact h1')) by simp)
 obtain⟨d',e2,dv'⟩:=DVL.get' r2 (show ws[j]? =some (ws[j]'(by rw[iv1.length];exact h2')) by simp)
 obtain⟨z,ez,rz⟩:=iv0.get (show us[j]? =some (us[j]'(by rw[iv0.length];exact h1')) by simp)
 obtain⟨z',ez',rz'⟩:=iv1.get (show ws[j]? =some (ws[j]'(by rw[iv1.length];exact h2')) by simp)
 have f1:its0.toArray[j]=z:=by simpa[h1']using ez
 have f2:its1.toArray[j]=z':=by simpa[h2']using ez'
 rw[f1,f2]
 have:=E j d d' e1 e2 z z' ez ez'
 unfold oY
 rw[e1,e2]
 exact this
theorem yx{xs ys:List D}{us ws:List V}{its0 its1:List Value}{a b:Addr}{A:Around}(pl0:IsTup s.heap a its0.toArray)(pl1:IsTup s.heap b its1.toArray)(r:DVL X.K H xs us)(r2:DVL X.K H ys ws)(iv0:aY us its0)(iv1:aY ws its1)(hu:A.units<cLine)
  (E:∀(j:Nat)(x y:D),xs[j]? =some x->ys[j]? =some y->∀(z z':Value),its0[j]? =some z->its1[j]? =some z'->EqAt A.in1 s z z' (eqD x y)):RcAt A s (.ref a) (.ref b) (gU xs ys):=by
 have hl0:its0.toArray.size=xs.length:=by rw[Zd,<-iv0.length,<-DVL.length r]
 have hl1:its1.toArray.size=ys.length:=by rw[Zd,<-iv1.length,<-DVL.length r2]
 have rc:=RcAt.tuples (A:=A) (e:=oY xs ys) pl0 pl1 (by omega) (uv r r2 iv0 iv1 E)
 rw[hl0,hl1,vM]at rc
 exact rc
theorem zq{xs ys:List D}{us ws:List V}{its0 its1:List Value}{a b:Addr}{A:Around}(pl0:PlainL s.heap a its0.toArray)(pl1:PlainL s.heap b its1.toArray)(r:DVL X.K H xs us)(r2:DVL X.K H ys ws)(iv0:aY us its0)(iv1:aY ws its1)(hu:A.units<cLine)
  (E:∀(j:Nat)(x y:D),xs[j]? =some x->ys[j]? =some y->∀(z z':Value),its0[j]? =some z->its1[j]? =some z'->EqAt A.in1 s z z' (eqD x y)):RcAt A s (.ref a) (.ref b) (gU xs ys):=by
 have hl0:its0.toArray.size=xs.length:=by rw[Zd,<-iv0.length,<-DVL.length r]
 have hl1:its1.toArray.size=ys.length:=by rw[Zd,<-iv1.length,<-DVL.length r2]
 by_cases hlen:xs.length=ys.length
 .have rc:=RcAt.lists (A:=A) (e:=oY xs ys) pl0.isList pl1.isList (by rw[hl0,hl1,hlen]) (by omega) (uv r r2 iv0 iv1 E)
  rw[hl0,jQ _ _ hlen]at rc
  exact rc
 .rw[nj _ _ hlen]
  exact RcAt.lists_lengths pl0.isList pl1.isList (by rw[hl0,hl1];simpa using hlen) (by omega)
theorem Gd{xs ys:List D}{us ws:List V}{its0 its1:List Value}{a b:Addr}{A:Around}(pl0:IsTup s.heap a its0.toArray)(pl1:IsTup s.heap b its1.toArray)(r:DVL X.K H xs us)(r2:DVL X.K H ys ws)(iv0:aY us its0)(iv1:aY ws its1)(hu:A.units<cLine)
  (E:∀(j:Nat)(x y:D),xs[j]? =some x->ys[j]? =some y->∀(z z':Value),its0[j]? =some z->its1[j]? =some z'->EqAt A.in1 s z z' (eqD x y)):RcNeAt A s (.ref a) (.ref b) (!gU xs ys):=by
 have hl0:its0.toArray.size=xs.length:=by rw[Zd,<-iv0.length,<-DVL.length r]
 have hl1:its1.toArray.size=ys.length:=by rw[Zd,<-iv1.length,<-DVL.length r2]
 have rc:=RcNeAt.tuples (A:=A) (e:=oY xs ys) pl0 pl1 (by omega) (uv r r2 iv0 iv1 E)
 rw[hl0,hl1,vM]at rc
 exact rc
theorem Ig{xs ys:List D}{us ws:List V}{its0 its1:List Value}{a b:Addr}{A:Around}(pl0:PlainL s.heap a its0.toArray)(pl1:PlainL s.heap b its1.toArray)(r:DVL X.K H xs us)(r2:DVL X.K H ys ws)(iv0:aY us its0)(iv1:aY ws its1)(hu:A.units<cLine)
  (E:∀(j:Nat)(x y:D),xs[j]? =some x->ys[j]? =some y->∀(z z':Value),its0[j]? =some z->its1[j]? =some z'->EqAt A.in1 s z z' (eqD x y)):RcNeAt A s (.ref a) (.ref b) (!gU xs ys):=by
 have hl0:its0.toArray.size=xs.length:=by rw[Zd,<-iv0.length,<-DVL.length r]
 have hl1:its1.toArray.size=ys.length:=by rw[Zd,<-iv1.length,<-DVL.length r2]
 by_cases hlen:xs.length=ys.length
 .have rc:=RcNeAt.lists (A:=A) (e:=oY xs ys) pl0.isList pl1.isList (by rw[hl0,hl1,hlen]) (by omega) (uv r r2 iv0 iv1 E)
  rw[hl0,jQ _ _ hlen]at rc
  exact rc
 .rw[nj _ _ hlen]
  exact RcNeAt.lists_lengths pl0.isList pl1.isList (by rw[hl0,hl1];simpa using hlen) (by omega)
mutual
theorem Kd(I:Inv X pins σ H s):∀(x y:D)(v u:V)(vv uu:Value)(A:Around),DV X.K H x v->DV X.K H y u->bY v vv->bY u uu->A.units+dh x<cLine->EqAt A s vv uu (eqD x y)
 | .tup xs,y,v,u,vv,uu,A,h,k,rv,ru,hu=>by
  cases y with
  |tup ys=>
   have h0:=h
   have k0:=k
   unfold DV at h k;unfold dh at hu
   obtain⟨a,us,rfl,q,r⟩:=h;cases rv;obtain⟨its0,iv0,pl0,hz0⟩:=I.tuple q;obtain⟨b,ws,rfl,p,r2⟩:=k;cases ru;obtain⟨its1,iv1,pl1,hz1⟩:=I.tuple p
   by_cases hab:a=b
   .subst hab
    rw[qY I _ _ _ h0 k0]
    exact EqAt.same _
   .unfold eqD
    exact EqAt.of_refs hab (yx pl0 pl1 r r2 iv0 iv1 (by omega) (jT I xs ys us ws its0 its1 A.in1 r r2 iv0 iv1 (by rw[units_in1];omega)))
  |_=>exact jJ (by omega) _ _ (vw I h rv) (vw I k ru) rfl
 | .lst xs,y,v,u,vv,uu,A,h,k,rv,ru,hu=>by
  cases y with
  |lst ys=>
   have h0:=h
   have k0:=k
   unfold DV at h k;unfold dh at hu
   obtain⟨a,us,rfl,q,r⟩:=h;cases rv;obtain⟨its0,iv0,pl0,hz0⟩:=I.list q;obtain⟨b,ws,rfl,p,r2⟩:=k;cases ru;obtain⟨its1,iv1,pl1,hz1⟩:=I.list p
   by_cases hab:a=b
   .subst hab
    rw[qY I _ _ _ h0 k0]
    exact EqAt.same _
   .unfold eqD
    exact EqAt.of_refs hab (zq pl0 pl1 r r2 iv0 iv1 (by omega) (jT I xs ys us ws its0 its1 A.in1 r r2 iv0 iv1 (by rw[units_in1];omega)))
  |_=>exact jJ (by omega) _ _ (vw I h rv) (vw I k ru) rfl
 | .non,y,v,u,vv,uu,A,h,k,rv,ru,hu=>jJ (by omega) _ _ (vw I h rv) (vw I k ru) (by cases y<;>rfl)
 | .bl _,y,v,u,vv,uu,A,h,k,rv,ru,hu=>jJ (by omega) _ _ (vw I h rv) (vw I k ru) (by cases y<;>rfl)
 | .int _,y,v,u,vv,uu,A,h,k,rv,ru,hu=>jJ (by omega) _ _ (vw I h rv) (vw I k ru) (by cases y<;>rfl)
 | .str _,y,v,u,vv,uu,A,h,k,rv,ru,hu=>jJ (by omega) _ _ (vw I h rv) (vw I k ru) (by cases y<;>rfl)
 | .ro _,y,v,u,vv,uu,A,h,k,rv,ru,hu=>jJ (by omega) _ _ (vw I h rv) (vw I k ru) (by cases y<;>rfl)
 | .dic _,y,v,u,vv,uu,A,h,k,rv,ru,hu=>jJ (by omega) _ _ (vw I h rv) (vw I k ru) (by cases y<;>rfl)
 | .cell _,y,v,u,vv,uu,A,h,k,rv,ru,hu=>jJ (by omega) _ _ (vw I h rv) (vw I k ru) (by cases y<;>rfl)
theorem jT(I:Inv X pins σ H s):∀(xs ys:List D)(vs us:List V)(vvs uus:List Value)(A:Around),DVL X.K H xs vs->DVL X.K H ys us->aY vs vvs->aY us uus->A.units+fD xs<cLine->
  ∀(j:Nat)(x y:D),xs[j]? =some x->ys[j]? =some y->∀(z z':Value),vvs[j]? =some z->uus[j]? =some z'->EqAt A s z z' (eqD x y)
 | [],ys,vs,us,vvs,uus,A,_,_,_,_,_=>λj x y e=>by simp at e
 |x::xs,[],vs,us,vvs,uus,A,_,_,_,_,_=>λj _ y _ e=>by simp at e
 |x::xs,y::ys,vs,us,vvs,uus,A,h,k,rv,ru,hu=>by
  unfold DVL at h k
  unfold fD at hu
  obtain⟨v,vs',rfl,p,r⟩:=h
  obtain⟨u,us',rfl,p',r'⟩:=k
  cases rv with
  |cons rv1 rv2=>
   cases ru with
   |cons ru1 ru2=>
    intro j x' y' e1 e2 z z' ez ez'
    cases j with
    |zero=>
     simp at e1 e2 ez ez'
     subst e1 e2 ez ez'
     exact Kd I x y v u _ _ A p p' rv1 ru1 (by omega)
    |succ j=>
     exact jT I xs ys vs' us' _ _ A r r' rv2 ru2 (by omega) j x' y' (by simpa using e1) (by simpa using e2) z z' (by simpa using ez) (by simpa using ez')
end
theorem Mi(I:Inv X pins σ H s):∀(x y:D)(v u:V)(vv uu:Value)(A:Around),DV X.K H x v->DV X.K H y u->bY v vv->bY u uu->A.units+dh x<cLine->RcAt A s vv uu (eqD x y)
 | .tup xs,y,v,u,vv,uu,A,h,k,rv,ru,hu=>by
  cases y with
  |tup ys=>
   unfold DV at h k;unfold dh at hu
   obtain⟨a,us,rfl,q,r⟩:=h;cases rv;obtain⟨its0,iv0,pl0,hz0⟩:=I.tuple q;obtain⟨b,ws,rfl,p,r2⟩:=k;cases ru;obtain⟨its1,iv1,pl1,hz1⟩:=I.tuple p
   unfold eqD
   exact yx pl0 pl1 r r2 iv0 iv1 (by omega) (jT I xs ys us ws its0 its1 A.in1 r r2 iv0 iv1 (by rw[units_in1];omega))
  |_=>exact jK (by omega) _ _ (vw I h rv) (vw I k ru) rfl
 | .lst xs,y,v,u,vv,uu,A,h,k,rv,ru,hu=>by
  cases y with
  |lst ys=>
   unfold DV at h k;unfold dh at hu
   obtain⟨a,us,rfl,q,r⟩:=h;cases rv;obtain⟨its0,iv0,pl0,hz0⟩:=I.list q;obtain⟨b,ws,rfl,p,r2⟩:=k;cases ru;obtain⟨its1,iv1,pl1,hz1⟩:=I.list p
   unfold eqD
   exact zq pl0 pl1 r r2 iv0 iv1 (by omega) (jT I xs ys us ws its0 its1 A.in1 r r2 iv0 iv1 (by rw[units_in1];omega))
  |_=>exact jK (by omega) _ _ (vw I h rv) (vw I k ru) rfl
 | .non,y,v,u,vv,uu,A,h,k,rv,ru,hu=>jK (by omega) _ _ (vw I h rv) (vw I k ru) (by cases y<;>rfl)
 | .bl _,y,v,u,vv,uu,A,h,k,rv,ru,hu=>jK (by omega) _ _ (vw I h rv) (vw I k ru) (by cases y<;>rfl)
 | .int _,y,v,u,vv,uu,A,h,k,rv,ru,hu=>jK (by omega) _ _ (vw I h rv) (vw I k ru) (by cases y<;>rfl)
 | .str _,y,v,u,vv,uu,A,h,k,rv,ru,hu=>jK (by omega) _ _ (vw I h rv) (vw I k ru) (by cases y<;>rfl)
 | .ro _,y,v,u,vv,uu,A,h,k,rv,ru,hu=>jK (by omega) _ _ (vw I h rv) (vw I k ru) (by cases y<;>rfl)
 | .dic _,y,v,u,vv,uu,A,h,k,rv,ru,hu=>jK (by omega) _ _ (vw I h rv) (vw I k ru) (by cases y<;>rfl)
 | .cell _,y,v,u,vv,uu,A,h,k,rv,ru,hu=>jK (by omega) _ _ (vw I h rv) (vw I k ru) (by cases y<;>rfl)
theorem Kc(I:Inv X pins σ H s):∀(x y:D)(v u:V)(vv uu:Value)(A:Around),DV X.K H x v->DV X.K H y u->bY v vv->bY u uu->A.units+dh x<cLine->RcNeAt A s vv uu (!eqD x y)
 | .tup xs,y,v,u,vv,uu,A,h,k,rv,ru,hu=>by
  cases y with
  |tup ys=>
   unfold DV at h k;unfold dh at hu
   obtain⟨a,us,rfl,q,r⟩:=h;cases rv;obtain⟨its0,iv0,pl0,hz0⟩:=I.tuple q;obtain⟨b,ws,rfl,p,r2⟩:=k;cases ru;obtain⟨its1,iv1,pl1,hz1⟩:=I.tuple p
   unfold eqD
   exact Gd pl0 pl1 r r2 iv0 iv1 (by omega) (jT I xs ys us ws its0 its1 A.in1 r r2 iv0 iv1 (by rw[units_in1];omega))
  |_=>exact jG (by omega) _ _ (vw I h rv) (vw I k ru) rfl
 | .lst xs,y,v,u,vv,uu,A,h,k,rv,ru,hu=>by
  cases y with
  |lst ys=>
   unfold DV at h k;unfold dh at hu
   obtain⟨a,us,rfl,q,r⟩:=h;cases rv;obtain⟨its0,iv0,pl0,hz0⟩:=I.list q;obtain⟨b,ws,rfl,p,r2⟩:=k;cases ru;obtain⟨its1,iv1,pl1,hz1⟩:=I.list p
   unfold eqD
   exact Ig pl0 pl1 r r2 iv0 iv1 (by omega) (jT I xs ys us ws its0 its1 A.in1 r r2 iv0 iv1 (by rw[units_in1];omega))
  |_=>exact jG (by omega) _ _ (vw I h rv) (vw I k ru) rfl
 | .non,y,v,u,vv,uu,A,h,k,rv,ru,hu=>jG (by omega) _ _ (vw I h rv) (vw I k ru) (by cases y<;>rfl)
 | .bl _,y,v,u,vv,uu,A,h,k,rv,ru,hu=>jG (by omega) _ _ (vw I h rv) (vw I k ru) (by cases y<;>rfl)
 | .int _,y,v,u,vv,uu,A,h,k,rv,ru,hu=>jG (by omega) _ _ (vw I h rv) (vw I k ru) (by cases y<;>rfl)
 | .str _,y,v,u,vv,uu,A,h,k,rv,ru,hu=>jG (by omega) _ _ (vw I h rv) (vw I k ru) (by cases y<;>rfl)
 | .ro _,y,v,u,vv,uu,A,h,k,rv,ru,hu=>jG (by omega) _ _ (vw I h rv) (vw I k ru) (by cases y<;>rfl)
 | .dic _,y,v,u,vv,uu,A,h,k,rv,ru,hu=>jG (by omega) _ _ (vw I h rv) (vw I k ru) (by cases y<;>rfl)
 | .cell _,y,v,u,vv,uu,A,h,k,rv,ru,hu=>jG (by omega) _ _ (vw I h rv) (vw I k ru) (by cases y<;>rfl)
end
def rsv(d:D)(μ:Mu):D:=match d with
 | .cell n=>match μ[n]? with
  |some (some ds)=>.lst ds
  |_=>d
 | .ro ds=>.lst ds
 |_=>d
theorem oJ{K:Zw}{tb:List Addr}{W:Wd}{d:D}{v:V}(ok:WOk K tb W)(h:Den K tb W d v)(p:bL (rsv d W.mu)=true):DV K W.H (rsv d W.mu) v:=by
 cases d with
 |cell n=>
  obtain⟨a,rfl,q⟩:=gD h
  unfold rsv at p ⊢
  dsimp only at p ⊢
  cases e:W.mu[n]? with
  |none=>rw[e]at p;cases p
  |some o=>
   rw[e]at p
   cases o with
   |none=>cases p
   |some ds=>
    dsimp only at p ⊢
    unfold bL at p
    obtain⟨xs,ex,r⟩:=ok.cont n a ds q e
    unfold DV
    exact⟨a,xs,rfl,SqL.of ex,qU ds xs p r⟩
 |ro ds=>
  obtain⟨a,xs,rfl,q,r⟩:=sH h
  have p':bL (.lst ds)=true:=p
  unfold bL at p'
  show DV K W.H (.lst ds) _
  unfold DV
  exact⟨a,xs,rfl,SqL.fz q,qU ds xs p' r⟩
 |_=>exact Bm _ _ p h
def oEq:O2:=λx y μ=>if(bL (rsv x μ)&&bL (rsv y μ))=true/\dh (rsv x μ)<100 then some (.bl (eqD (rsv x μ) (rsv y μ)),μ)else none
def oNe:O2:=λx y μ=>if(bL (rsv x μ)&&bL (rsv y μ))=true/\dh (rsv x μ)<100 then some (.bl (!eqD (rsv x μ) (rsv y μ)),μ)else none
def rEqD(K:Zw):R2:=λv u H Q=>∃x y,DV K H x v/\DV K H y u/\dh x<100/\Q (.bl (eqD x y)) H
def rNeD(K:Zw):R2:=λv u H Q=>∃x y,DV K H x v/\DV K H y u/\dh x<100/\Q (.bl (!eqD x y)) H
section
variable {X:Cx} {tb:List Addr} {k:Nat}
theorem JW(hr:cO k X.A):OpR X (compareOp .Eq) (rEqD X.K):=by
 intro pins s σ H v u vv uu Q I rv ru h
 obtain⟨x,y,hx,hy,hd,q⟩:=h
 have hun:=hr.un
 exact Mi I x y v u vv uu X.A hx hy rv ru (by omega) X.prog X.w X.xe _ ⟨.bl _,H,I,rfl,q⟩
theorem Fe(hr:cO k X.A):OpR X (compareOp .NotEq) (rNeD X.K):=by
 intro pins s σ H v u vv uu Q I rv ru h
 obtain⟨x,y,hx,hy,hd,q⟩:=h
 have hun:=hr.un
 exact Kc I x y v u vv uu X.A hx hy rv ru (by omega) X.prog X.w X.xe _ ⟨.bl _,H,I,rfl,q⟩
theorem gJ(hr:cO k X.A):OpD X tb (compareOp .Eq) oEq:=⟨_,JW hr,λW x y v u d μ' Q ok dx dy ho h=>by
 unfold oEq at ho
 split at ho
 .rename_i hc
  cases ho
  rw[Zo]at hc
  exact⟨_,_,oJ ok dx hc.1.1,oJ ok dy hc.1.2,hc.2,put ok h gQ⟩
 .cases ho⟩
theorem vB(hr:cO k X.A):OpD X tb (compareOp .NotEq) oNe:=⟨_,Fe hr,λW x y v u d μ' Q ok dx dy ho h=>by
 unfold oNe at ho
 split at ho
 .rename_i hc
  cases ho
  rw[Zo]at hc
  exact⟨_,_,oJ ok dx hc.1.1,oJ ok dy hc.1.2,hc.2,put ok h gQ⟩
 .cases ho⟩
end
end L3
namespace L2
open PySem PySem.Spec PyProof.Rows
section
variable {prog:Program} {w:World} {A:Around} {E:Value->Shared->Prop} {s:Shared}
theorem mW{it l:Addr}{i:Nat}{items}{x:Value}{Q:Value->Shared->Prop}(hit:s.heap.IsTupleIter it l i)(hl:s.heap.IsTuple l items)(hx:items[i]? =some x)
  (hQ:∀h',h'.IsTupleIter it l (i+1)->Heap.SameBut it s.heap h'->Q x { s with heap:=h'}):wpAny (model prog w) A (Builtin.SmallTypes.nextOf (.ref it)) Q E s:=by
 obtain⟨o,ho,hc,hd⟩:=id hit
 obtain⟨ol,hol,_,nl,hdl⟩:=hl
 unfold Builtin.SmallTypes.nextOf
 refine Zv (wpAny_callSpecial?_slot (name:=Str.ofString "__next__") hit.typeIs F.slot_tuple_iterator_next
  (wpAny_call_entry F.slot_tuple_iterator_next hit.typeIs F.entry_tuple_iterator_next ?_ (F.args_tuple_iterator_next_1 _)))
 show wpAny _ _ (field (.ref it) 0 >>= _) _ _ s
 refine Zv (wpAny_field ho hd (x:=.ref l) rfl ?_)
 show wpAny _ _ (if(Value.ref l==Value.none)=true then _ else _) _ _ s
 rw[if_neg (show¬((Value.ref l==Value.none)=true)from Zr)]
 show wpAny _ _ (field (.ref it) 1 >>= _) _ _ s
 refine Zv (wpAny_field ho hd (x:=.int i 0) rfl ?_)
 show wpAny _ _ (seqItems? (.ref l) >>= _) _ _ s
 refine Zv (wpAny_seqItems hol hdl ?_)
 simp only[Int.toNat_natCast,hx]
 refine Zv (wpAny_setField ho hd (by simp) (Zx ⟨x,rfl,Zx (hQ _ ?_ (Heap.SameBut.update ..))⟩))
 exact⟨_,Heap.get?_update_self _ ho (Obj.isFreed_of_fields (Obj.data_mapFields hd _)),(Obj.cls_mapFields ..).trans hc,by
  rw[Obj.data_mapFields hd];simp[rawInt]⟩
theorem oA{it l:Addr}{i:Nat}{items}{Q:Value->Shared->Prop}(hh:A.handled=none)(hit:s.heap.IsTupleIter it l i)(hl:s.heap.IsTuple l items)(hx:items[i]? =none)
  (hE:∀h' e,Heap.ExtBut it s.heap h'->(∃o,h'.get? e=some o/\o.cls= .type "StopIteration")->E (.ref e) { s with heap:=h'}):wpAny (model prog w) A (Builtin.SmallTypes.nextOf (.ref it)) Q E s:=by
 obtain⟨o,ho,hc,hd⟩:=id hit
 obtain⟨ol,hol,_,nl,hdl⟩:=hl
 unfold Builtin.SmallTypes.nextOf
 refine Zv (wpAny_callSpecial?_slot (name:=Str.ofString "__next__") hit.typeIs F.slot_tuple_iterator_next
  (wpAny_call_entry F.slot_tuple_iterator_next hit.typeIs F.entry_tuple_iterator_next ?_ (F.args_tuple_iterator_next_1 _)))
 show wpAny _ _ (field (.ref it) 0 >>= _) _ _ s
 refine Zv (wpAny_field ho hd (x:=.ref l) rfl ?_)
 show wpAny _ _ (if(Value.ref l==Value.none)=true then _ else _) _ _ s
 rw[if_neg (show¬((Value.ref l==Value.none)=true)from Zr)]
 show wpAny _ _ (field (.ref it) 1 >>= _) _ _ s
 refine Zv (wpAny_field ho hd (x:=.int i 0) rfl ?_)
 show wpAny _ _ (seqItems? (.ref l) >>= _) _ _ s
 refine Zv (wpAny_seqItems hol hdl ?_)
 simp only[Int.toNat_natCast,hx]
 refine Zv (wpAny_rule (Zv (wpAny_setField ho hd (by simp) ?_)))
 show wpAny _ _ (newExc (.type "StopIteration") [] >>= _) _ _ _
 refine Zv ?_
 simp only[newExc,newTuple]
 refine Zv (Zz ?_ (by size_fits))
 refine Zv (m:=firstArgMember _ _) (wpAny_of_eq (a:=Value.none) (by first|rfl|(simp only[firstArgMember];rfl)) ?_)
 refine Zz ?_ (by size_fits)
 simp only[raiseNew]
 refine Zv (wpAny_handled ?_)
 first|rw[show A.in1.handled=none from hh]|rw[hh]
 refine Zv (Zx (wpAny_throw ?_))
 exact hE _ _ (((Heap.SameBut.update ..).extBut.push _).push _) ⟨_,Zf _ rfl,rfl⟩
end
def fQ(k:Bool)(h:Heap)(it l:Addr)(i:Nat):Prop:=if k=true then h.IsTupleIter it l i else h.IsListIter it l i
def jn(k:Bool)(h:Heap)(l:Addr)(xs:Array Value):Prop:=if k=true then h.IsTuple l xs else h.IsList l xs
section
variable {prog:Program} {w:World} {A:Around} {E:Value->Shared->Prop} {s:Shared} {k:Bool} {it l:Addr} {i:Nat} {xs:Array Value} {h h':Heap}
theorem fQ.obj(x:fQ k h it l i):∃o,h.get? it=some o/\(∀v,o.data≠ .cell v)/\(o.cls= .type "tuple_iterator"∨o.cls= .type "list_iterator"):=by
 cases k
 .obtain⟨o,e,c,d⟩:h.IsListIter it l i:=x
  exact⟨o,e,(λv z=>by rw[d]at z;cases z),.inr c⟩
 .obtain⟨o,e,c,d⟩:h.IsTupleIter it l i:=x
  exact⟨o,e,(λv z=>by rw[d]at z;cases z),.inl c⟩
theorem fQ.at'(x:fQ k h it l i)(hk:∀o,h.get? it=some o->h'.get? it=some o):fQ k h' it l i:=by
 cases k
 .obtain⟨o,e,c,d⟩:h.IsListIter it l i:=x
  exact(⟨o,hk o e,c,d⟩:h'.IsListIter it l i)
 .obtain⟨o,e,c,d⟩:h.IsTupleIter it l i:=x
  exact(⟨o,hk o e,c,d⟩:h'.IsTupleIter it l i)
theorem jn.at'(x:jn k h l xs)(hk:∀o,h.get? l=some o->h'.get? l=some o):jn k h' l xs:=by
 cases k
 .obtain⟨o,e,c⟩:h.IsList l xs:=x
  exact(⟨o,hk o e,c⟩:h'.IsList l xs)
 .obtain⟨o,e,c⟩:h.IsTuple l xs:=x
  exact(⟨o,hk o e,c⟩:h'.IsTuple l xs)
theorem iY{x:Value}{Q:Value->Shared->Prop}(hit:fQ k s.heap it l i)(hl:jn k s.heap l xs)(hx:xs[i]? =some x)
  (hQ:∀h',fQ k h' it l (i+1)->Heap.SameBut it s.heap h'->Q x { s with heap:=h'}):wpAny (model prog w) A (Builtin.SmallTypes.nextOf (.ref it)) Q E s:=by
 cases k
 .exact wpAny_nextOf_list_item hit hl hx hQ
 .exact mW hit hl hx hQ
theorem mx{Q:Value->Shared->Prop}(hh:A.handled=none)(hit:fQ k s.heap it l i)(hl:jn k s.heap l xs)(hx:xs[i]? =none)
  (hE:∀h' e,Heap.ExtBut it s.heap h'->(∃o,h'.get? e=some o/\o.cls= .type "StopIteration")->E (.ref e) { s with heap:=h'}):wpAny (model prog w) A (Builtin.SmallTypes.nextOf (.ref it)) Q E s:=by
 cases k
 .exact wpAny_nextOf_list_end hh hit hl hx hE
 .exact oA hh hit hl hx hE
end
structure ZA(z TI TO i1 i2:Addr):Prop where
 TIz:TI≠z
 TOz:TO≠z
 i1z:i1≠z
 i2z:i2≠z
 TITO:TI≠TO
 TIi1:TI≠i1
 TIi2:TI≠i2
 TOi1:TO≠i1
 TOi2:TO≠i2
 i12:i1≠i2
section
variable {prog:Program} {w:World} {A:Around} {E:Value->Shared->Prop} {s:Shared}
theorem Ae{z TI TO i1 i2 l1 l2:Addr}{c1 c2:Bool}{k1 k2:Nat}{xs ys:Array Value}{x y a b:Value}{Q:Value->Shared->Prop}(D:ZA z TI TO i1 i2)
  (l1z:l1≠z) (l2z:l2≠z) (l2i1:l2≠i1) (l2TO:l2≠TO)
  (hz:IsZip s.heap z TI TO .none) (hTI:IsPair s.heap TI (.ref i1) (.ref i2)) (hTO:IsPair s.heap TO a b)
  (h1:fQ c1 s.heap i1 l1 k1) (h2:fQ c2 s.heap i2 l2 k2) (hl1:jn c1 s.heap l1 xs) (hl2:jn c2 s.heap l2 ys) (hx:xs[k1]? =some x) (hy:ys[k2]? =some y)
  (hQ:∀h',IsZip h' z TI TO (rawInt s.heap.objs.size)->IsPair h' TO x y->fQ c1 h' i1 l1 (k1+1)->fQ c2 h' i2 l2 (k2+1)->IsPair h' s.heap.objs.size x y->h'.objs.size=s.heap.objs.size+1->
   (∀c o,c≠z->c≠TO->c≠i1->c≠i2->s.heap.get? c=some o->h'.get? c=some o)->Q (.ref s.heap.objs.size) { s with heap:=h'}):
  wpAny (model prog w) A (Builtin.«zip.__next__» ⟨[.ref z],[]⟩) (λfin s'=>∃v,fin= .done (.ret v)/\Q v s') E s:=by
 show wpAny _ _ (field (.ref z) 2 >>= _) _ _ _
 refine Zv (wpAny_field hz rfl (x:=.bool false) rfl ?_)
 show wpAny _ _ (field (.ref z) 3 >>= _) _ _ _
 refine Zv (wpAny_field hz rfl (x:=.ref TI) rfl ?_)
 refine Zv (wpAny_seqItems hTI rfl ?_)
 show wpAny _ _ (Builtin.SmallTypes.ownedTupleIsFree (.ref z) >>= _) _ _ _
 refine Zv ?_
 unfold Builtin.SmallTypes.ownedTupleIsFree
 refine Zv (wpAny_field hz rfl (x:=.none) rfl (Zx ?_))
 simp only[if_true]
 refine Zv (wpAny_rule ?_)
 refine Zv (wpAny_field hz rfl (x:=.ref TO) rfl ?_)
 refine Zv (wpAny_setField_rec hz (by simp) λh₁ hz₁ hs₁=>?_)
 replace hz₁:IsZip h₁ z TI TO .ellipsis:=hz₁
 refine Zv ?_
 simp only[List.zipIdx_cons,List.zipIdx_nil,List.forIn_cons,List.forIn_nil]
 refine Zv (Zv (wpAny_onRaise ?_))
 show wpAny _ _ (Builtin.SmallTypes.nextOf (.ref i1) >>= _) _ _ _
 refine Zv (iY (h1.at' λo e=>hs₁.extBut _ _ D.i1z e) (hl1.at' λo e=>hs₁.extBut _ _ l1z e) hx λh₂ h1₂ hs₂=>Zx ?_)
 have hTO₂:IsPair h₂ TO a b:=hs₂.extBut _ _ D.TOi1 (hs₁.extBut _ _ D.TOz hTO)
 refine Zv (wpAny_seqItems hTO₂ rfl ?_)
 refine Zv (wpAny_updateSeq_pair hTO₂ λh₃ hTO₃ hs₃=>?_)
 replace hTO₃:IsPair h₃ TO x b:=hTO₃
 refine Zv (wpAny_letGo (Zx ?_))
 refine Zv (Zv (wpAny_onRaise ?_))
 show wpAny _ _ (Builtin.SmallTypes.nextOf (.ref i2) >>= _) _ _ _
 refine Zv (iY (h2.at' λo e=>hs₃.extBut _ _ D.TOi2.symm (hs₂.extBut _ _ D.i12.symm (hs₁.extBut _ _ D.i2z e))) (hl2.at' λo e=>hs₃.extBut _ _ l2TO (hs₂.extBut _ _ l2i1 (hs₁.extBut _ _ l2z e))) hy λh₄ h2₄ hs₄=>Zx ?_)
 have hTO₄:IsPair h₄ TO x b:=hs₄.extBut _ _ D.TOi2 hTO₃
 refine Zv (wpAny_seqItems hTO₄ rfl ?_)
 refine Zv (wpAny_updateSeq_pair hTO₄ λh₅ hTO₅ hs₅=>?_)
 replace hTO₅:IsPair h₅ TO x y:=hTO₅
 refine Zv (wpAny_letGo (Zx (Zx ?_)))
 refine Zv (wpAny_seqItems hTO₅ rfl ?_)
 refine Zv (wpAny_newTuple ?_)
 have hsz:h₅.objs.size=s.heap.objs.size:=by rw[hs₅.1,hs₄.1,hs₃.1,hs₂.1,hs₁.1]
 have hz₅:IsZip h₅ z TI TO .ellipsis:=hs₅.extBut _ _ D.TOz.symm (hs₄.extBut _ _ D.i2z.symm (hs₃.extBut _ _ D.TOz.symm (hs₂.extBut _ _ D.i1z.symm hz₁)))
 have hk₅:∀c o,c≠z->c≠TO->c≠i1->c≠i2->s.heap.get? c=some o->h₅.get? c=some o:=λc o q1 q2 q3 q4 e=>
  hs₅.extBut _ _ q2 (hs₄.extBut _ _ q4 (hs₃.extBut _ _ q2 (hs₂.extBut _ _ q3 (hs₁.extBut _ _ q1 e))))
 have h1₅:fQ c1 h₅ i1 l1 (k1+1):=h1₂.at' λo e=>hs₅.extBut _ _ D.TOi1.symm (hs₄.extBut _ _ D.i12 (hs₃.extBut _ _ D.TOi1.symm e))
 have h2₅:fQ c2 h₅ i2 l2 (k2+1):=h2₄.at' λo e=>hs₅.extBut _ _ D.TOi2.symm e
 have hzlt:z<h₅.objs.size:=Ze hz₅
 show wpAny _ _ (Builtin.SmallTypes.ownedTupleHandOut (.ref z) (.ref h₅.objs.size) >>= _) _ _ _
 refine Zv ?_
 unfold Builtin.SmallTypes.ownedTupleHandOut
 have hz₆:IsZip (h₅.push { cls:=.type "tuple",data:=.seq #[x,y] }) z TI TO .ellipsis:=Zb _ hz₅
 refine Zv (wpAny_setField_rec hz₆ (by simp) λh₇ hz₇ hs₇=>?_)
 replace hz₇:IsZip h₇ z TI TO (rawInt h₅.objs.size):=hz₇
 refine wpAny_setField_rec hz₇ (by simp) λh₈ hz₈ hs₈=>?_
 replace hz₈:IsZip h₈ z TI TO (rawInt h₅.objs.size):=hz₈
 have up:∀c o,c≠z->h₅.get? c=some o->h₈.get? c=some o:=λc o q1 e=>hs₈.extBut _ _ q1 (hs₇.extBut _ _ q1 (Zb _ e))
 have hT₈:IsPair h₈ h₅.objs.size x y:=hs₈.extBut _ _ (Nat.ne_of_gt hzlt) (hs₇.extBut _ _ (Nat.ne_of_gt hzlt) (Zf _ rfl))
 have hz8:h₈.objs.size=h₅.objs.size+1:=by rw[hs₈.1,hs₇.1,Heap.size_push]
 rw[hsz]at hz₈ hT₈ hz8
 refine Zx ⟨_,rfl,?_⟩
 show Q (.ref h₅.objs.size) _
 rw[hsz]
 exact hQ h₈ hz₈ (up _ _ D.TOz hTO₅) (h1₅.at' λo e=>up _ o D.i1z e) (h2₅.at' λo e=>up _ o D.i2z e) hT₈ hz8 λc o q1 q2 q3 q4 e=>up c o q1 (hk₅ c o q1 q2 q3 q4 e)
theorem CT{z TI TO i1 i2 l1 l2:Addr}{c1 c2:Bool}{k1 k2:Nat}{xs ys:Array Value}{a b:Value}{Q:PySem.Fin->Shared->Prop}(hh:A.handled=none)(D:ZA z TI TO i1 i2)
  (l1z:l1≠z) (l2z:l2≠z) (l2i1:l2≠i1) (l2TO:l2≠TO)
  (hz:IsZip s.heap z TI TO .none) (hTI:IsPair s.heap TI (.ref i1) (.ref i2)) (hTO:IsPair s.heap TO a b)
  (h1:fQ c1 s.heap i1 l1 k1) (h2:fQ c2 s.heap i2 l2 k2) (hl1:jn c1 s.heap l1 xs) (hl2:jn c2 s.heap l2 ys) (hend:xs[k1]? =none∨ys[k2]? =none)
  (hE:∀h' e,(∀c o,c≠z->c≠TO->c≠i1->c≠i2->s.heap.get? c=some o->h'.get? c=some o)->(∃o,h'.get? e=some o/\o.cls= .type "StopIteration")->E (.ref e) { s with heap:=h'}):
  wpAny (model prog w) A (Builtin.«zip.__next__» ⟨[.ref z],[]⟩) Q E s:=by
 show wpAny _ _ (field (.ref z) 2 >>= _) _ _ _
 refine Zv (wpAny_field hz rfl (x:=.bool false) rfl ?_)
 show wpAny _ _ (field (.ref z) 3 >>= _) _ _ _
 refine Zv (wpAny_field hz rfl (x:=.ref TI) rfl ?_)
 refine Zv (wpAny_seqItems hTI rfl ?_)
 show wpAny _ _ (Builtin.SmallTypes.ownedTupleIsFree (.ref z) >>= _) _ _ _
 refine Zv ?_
 unfold Builtin.SmallTypes.ownedTupleIsFree
 refine Zv (wpAny_field hz rfl (x:=.none) rfl (Zx ?_))
 simp only[if_true]
 refine Zv (wpAny_rule ?_)
 refine Zv (wpAny_field hz rfl (x:=.ref TO) rfl ?_)
 refine Zv (wpAny_setField_rec hz (by simp) λh₁ hz₁ hs₁=>?_)
 replace hz₁:IsZip h₁ z TI TO .ellipsis:=hz₁
 refine Zv ?_
 simp only[List.zipIdx_cons,List.zipIdx_nil,List.forIn_cons,List.forIn_nil]
 refine Zv (Zv (wpAny_onRaise ?_))
 show wpAny _ _ (Builtin.SmallTypes.nextOf (.ref i1) >>= _) _ _ _
 cases hx:xs[k1]? with
 |none=>
  refine Zv (mx hh (h1.at' λo e=>hs₁.extBut _ _ D.i1z e) (hl1.at' λo e=>hs₁.extBut _ _ l1z e) hx λh₂ e hs₂ he=>?_)
  obtain⟨oe,hoe,hce⟩:=he
  have hz₂:IsZip h₂ z TI TO .ellipsis:=hs₂ _ _ D.i1z.symm hz₁
  have hez:e≠z:=λx=>by subst x;rw[hz₂]at hoe;cases hoe;simp at hce
  exact wpAny_setField_rec hz₂ (by simp) λh₃ _ hs₃=>hE h₃ e (λc o q1 _ q3 _ x=>hs₃.extBut _ _ q1 (hs₂ _ _ q3 (hs₁.extBut _ _ q1 x))) ⟨oe,hs₃.extBut _ _ hez hoe,hce⟩
 |some x=>
  have hy:ys[k2]? =none:=by rcases hend with h|h;rw[hx]at h;cases h;exact h
  refine Zv (iY (h1.at' λo e=>hs₁.extBut _ _ D.i1z e) (hl1.at' λo e=>hs₁.extBut _ _ l1z e) hx λh₂ h1₂ hs₂=>Zx ?_)
  have hTO₂:IsPair h₂ TO a b:=hs₂.extBut _ _ D.TOi1 (hs₁.extBut _ _ D.TOz hTO)
  refine Zv (wpAny_seqItems hTO₂ rfl ?_)
  refine Zv (wpAny_updateSeq_pair hTO₂ λh₃ hTO₃ hs₃=>?_)
  refine Zv (wpAny_letGo (Zx ?_))
  refine Zv (Zv (wpAny_onRaise ?_))
  show wpAny _ _ (Builtin.SmallTypes.nextOf (.ref i2) >>= _) _ _ _
  refine Zv (mx hh (h2.at' λo e=>hs₃.extBut _ _ D.TOi2.symm (hs₂.extBut _ _ D.i12.symm (hs₁.extBut _ _ D.i2z e))) (hl2.at' λo e=>hs₃.extBut _ _ l2TO (hs₂.extBut _ _ l2i1 (hs₁.extBut _ _ l2z e))) hy λh₄ e hs₄ he=>?_)
  obtain⟨oe,hoe,hce⟩:=he
  have hz₄:IsZip h₄ z TI TO .ellipsis:=hs₄ _ _ D.i2z.symm (hs₃.extBut _ _ D.TOz.symm (hs₂.extBut _ _ D.i1z.symm hz₁))
  have hez:e≠z:=λx=>by subst x;rw[hz₄]at hoe;cases hoe;simp at hce
  exact wpAny_setField_rec hz₄ (by simp) λh₅ _ hs₅=>hE h₅ e (λc o q1 q2 q3 q4 x=>hs₅.extBut _ _ q1 (hs₄ _ _ q4 (hs₃.extBut _ _ q2 (hs₂.extBut _ _ q3 (hs₁.extBut _ _ q1 x))))) ⟨oe,hs₅.extBut _ _ hez hoe,hce⟩
end
section
variable {prog:Program} {w:World} {A:Around} {E:Value->Shared->Prop} {s:Shared}
theorem oK{z TI TO i1 i2 l1 l2:Addr}{c1 c2:Bool}{k1 k2:Nat}{xs ys:Array Value}{x y a b:Value}{Q:Option Value->Shared->Prop}(D:ZA z TI TO i1 i2)
  (l1z:l1≠z) (l2z:l2≠z) (l2i1:l2≠i1) (l2TO:l2≠TO)
  (hz:IsZip s.heap z TI TO .none) (hTI:IsPair s.heap TI (.ref i1) (.ref i2)) (hTO:IsPair s.heap TO a b)
  (h1:fQ c1 s.heap i1 l1 k1) (h2:fQ c2 s.heap i2 l2 k2) (hl1:jn c1 s.heap l1 xs) (hl2:jn c2 s.heap l2 ys) (hx:xs[k1]? =some x) (hy:ys[k2]? =some y)
  (hQ:∀h',IsZip h' z TI TO (rawInt s.heap.objs.size)->IsPair h' TO x y->fQ c1 h' i1 l1 (k1+1)->fQ c2 h' i2 l2 (k2+1)->IsPair h' s.heap.objs.size x y->h'.objs.size=s.heap.objs.size+1->
   (∀c o,c≠z->c≠TO->c≠i1->c≠i2->s.heap.get? c=some o->h'.get? c=some o)->Q (some (.ref s.heap.objs.size)) { s with heap:=h'}):
  wpAny (model prog w) A (pyNext (.ref z)) Q E s:=by
 have hT:s.TypeIs (.ref z) "zip":=⟨_,hz,rfl⟩
 unfold pyNext
 exact Zv (wpAny_attempt (wpAny_callSpecial?_slot (name:=Str.ofString "__next__") hT F.slot_zip_next
  (wpAny_call_entry F.slot_zip_next hT F.entry_zip_next
   (Ae D l1z l2z l2i1 l2TO hz hTI hTO h1 h2 hl1 hl2 hx hy λh' a1 a2 a3 a4 a5 a6 a7=>Zx (hQ h' a1 a2 a3 a4 a5 a6 a7)) (F.args_zip_next_1 _))))
theorem pB{z TI TO i1 i2 l1 l2:Addr}{c1 c2:Bool}{k1 k2:Nat}{xs ys:Array Value}{a b:Value}{Q:Option Value->Shared->Prop}(hh:A.handled=none)(D:ZA z TI TO i1 i2)
  (l1z:l1≠z) (l2z:l2≠z) (l2i1:l2≠i1) (l2TO:l2≠TO)
  (hz:IsZip s.heap z TI TO .none) (hTI:IsPair s.heap TI (.ref i1) (.ref i2)) (hTO:IsPair s.heap TO a b)
  (h1:fQ c1 s.heap i1 l1 k1) (h2:fQ c2 s.heap i2 l2 k2) (hl1:jn c1 s.heap l1 xs) (hl2:jn c2 s.heap l2 ys) (hend:xs[k1]? =none∨ys[k2]? =none)
  (hQ:∀h',(∀c o,c≠z->c≠TO->c≠i1->c≠i2->s.heap.get? c=some o->h'.get? c=some o)->Q none { s with heap:=h'}):wpAny (model prog w) A (pyNext (.ref z)) Q E s:=by
 have hT:s.TypeIs (.ref z) "zip":=⟨_,hz,rfl⟩
 unfold pyNext
 refine Zv (wpAny_attempt (wpAny_callSpecial?_slot (name:=Str.ofString "__next__") hT F.slot_zip_next
  (wpAny_call_entry F.slot_zip_next hT F.entry_zip_next (CT hh D l1z l2z l2i1 l2TO hz hTI hTO h1 h2 hl1 hl2 hend λh' e hk he=>?_) (F.args_zip_next_1 _))))
 obtain⟨o,ho,hc⟩:=he
 refine Zv (wpAny_isInstance (T:="StopIteration") (b:=true) ⟨o,ho,hc⟩ isSubtype_stop ?_)
 exact Zx (hQ _ hk)
def itTy(k:Bool):String:=if k=true then "tuple_iterator" else "list_iterator"
abbrev mH(k:Bool)(l:Addr):Obj:={ cls:=.type (itTy k),data:=.fields #[.ref l,.int 0 0] }
theorem rO{k:Bool}{l:Addr}{xs:Array Value}{Q:Value->Shared->Prop}(hl:jn k s.heap l xs)(hQ:Q (.ref s.heap.objs.size) { s with heap:=s.heap.push (mH k l) }):wpAny (model prog w) A (pyIter (.ref l)) Q E s:=by
 cases k
 .exact wpAny_pyIter_list hl hQ
 .exact wpAny_pyIter_tuple hl hQ
end
abbrev zH2(h:Heap)(c1 c2:Bool)(l1 l2:Addr):Heap:=(h.push (mH c1 l1)).push (mH c2 l2)
abbrev zH3(h:Heap)(c1 c2:Bool)(l1 l2:Addr):Heap:=(zH2 h c1 c2 l1 l2).push { cls:=.type "tuple",data:=.seq #[.ref h.objs.size,.ref (h.push (mH c1 l1)).objs.size] }
abbrev zH4(h:Heap)(c1 c2:Bool)(l1 l2:Addr):Heap:=(zH3 h c1 c2 l1 l2).push { cls:=.type "tuple",data:=.seq #[.none,.none] }
abbrev zH5(h:Heap)(c1 c2:Bool)(l1 l2:Addr):Heap:=(zH4 h c1 c2 l1 l2).push { cls:=.type "zip",data:=.fields #[.none,.bool false,.bool false,.ref (zH2 h c1 c2 l1 l2).objs.size,.ref (zH3 h c1 c2 l1 l2).objs.size] }
theorem DP(c1 c2:Bool)(l1 l2:Addr)(xs ys:Array Value):
  Meets (Builtin.«zip.__new__» ⟨[.type "zip",.ref l1,.ref l2],[]⟩) (λ_ R s=>jn c1 s.heap l1 xs/\jn c2 s.heap l2 ys/\
   R (.ok (.ret (.ref (zH4 s.heap c1 c2 l1 l2).objs.size))) { s with heap:=zH5 s.heap c1 c2 l1 l2}):=
 .of_wp λprog w A R s h=>by
  obtain⟨hp,g,d,tk,os⟩:=s;obtain⟨hl1,hl2,h⟩:=h
  have hsub:=sub_zip
  have hL1:jn c1 (Shared.heap ⟨hp,g,d,tk,os⟩) l1 xs:=hl1
  have hL2:jn c2 (Shared.heap ⟨hp.push (mH c1 l1),g,d,tk,os⟩) l2 ys:=hl2.at' λo e=>Zb _ e
  wp_walk using rO hL1,rO hL2
  exact⟨_,rfl,h⟩
section
variable {prog:Program} {w:World} {A:Around} {E:Value->Shared->Prop} {s:Shared}
theorem fQ.new(k:Bool)(h:Heap)(l:Addr):fQ k (h.push (mH k l)) h.objs.size l 0:=by
 cases k
 .exact(⟨mH false l,Zf _ rfl,rfl,rfl⟩:Heap.IsListIter _ _ _ 0)
 .exact(⟨mH true l,Zf _ rfl,rfl,rfl⟩:Heap.IsTupleIter _ _ _ 0)
theorem Ao{c1 c2:Bool}{l1 l2:Addr}{xs ys:Array Value}{Q:Value->Shared->Prop}(hl1:jn c1 s.heap l1 xs)(hl2:jn c2 s.heap l2 ys)
  (h:∀h',IsZip h' (s.heap.objs.size+4) (s.heap.objs.size+2) (s.heap.objs.size+3) .none->IsPair h' (s.heap.objs.size+2) (.ref s.heap.objs.size) (.ref (s.heap.objs.size+1))->
   IsPair h' (s.heap.objs.size+3) .none .none->fQ c1 h' s.heap.objs.size l1 0->fQ c2 h' (s.heap.objs.size+1) l2 0->h'.objs.size=s.heap.objs.size+5->
   (∀c o,s.heap.get? c=some o->h'.get? c=some o)->Q (.ref (s.heap.objs.size+4)) { s with heap:=h'}):
  wpAny (model prog w) A (call (.type "zip") [.ref l1,.ref l2]) Q E s:=by
 refine callType_new F.called_zip (by decide) (F.typeCall_zip_2 _ _) (F.newCall_zip_2 _ _) (λobj=>F.args_object_init_3 obj _ _) F.entry_zip_new
  (DP c1 c2 l1 l2 xs ys) ⟨hl1,hl2,?_⟩
 have z1:(s.heap.push (mH c1 l1)).objs.size=s.heap.objs.size+1:=Heap.size_push ..
 have z2:(zH2 s.heap c1 c2 l1 l2).objs.size=s.heap.objs.size+2:=by rw[Heap.size_push,z1]
 have z3:(zH3 s.heap c1 c2 l1 l2).objs.size=s.heap.objs.size+3:=by rw[Heap.size_push,z2]
 have z4:(zH4 s.heap c1 c2 l1 l2).objs.size=s.heap.objs.size+4:=by rw[Heap.size_push,z3]
 have z5:(zH5 s.heap c1 c2 l1 l2).objs.size=s.heap.objs.size+5:=by rw[Heap.size_push,z4]
 have g5:(zH5 s.heap c1 c2 l1 l2).get? (zH4 s.heap c1 c2 l1 l2).objs.size=some _:=Zf _ rfl
 have g4:(zH5 s.heap c1 c2 l1 l2).get? (zH3 s.heap c1 c2 l1 l2).objs.size=some _:=Zb _ (Zf _ rfl)
 have g3:(zH5 s.heap c1 c2 l1 l2).get? (zH2 s.heap c1 c2 l1 l2).objs.size=some _:=Zb _ (Zb _ (Zf _ rfl))
 have g2:fQ c2 (zH5 s.heap c1 c2 l1 l2) (s.heap.push (mH c1 l1)).objs.size l2 0:=(fQ.new c2 _ l2).at' λo e=>Zb _ (Zb _ (Zb _ e))
 have g1:fQ c1 (zH5 s.heap c1 c2 l1 l2) s.heap.objs.size l1 0:=(fQ.new c1 _ l1).at' λo e=>Zb _ (Zb _ (Zb _ (Zb _ e)))
 show _/\_
 rw[z2,z3,z4]at g5
 rw[z1,z2]at g3
 rw[z3]at g4
 rw[z1]at g2
 rw[z4]
 exact⟨⟨_,g5,rfl⟩,h _ g5 g3 g4 g1 g2 z5 λc o x=>
  Zb _ (Zb _ (Zb _ (Zb _ (Zb _ x))))⟩
end
def SqB(c:Bool)(K:Zw)(H:Hp)(a:Addr)(xs:List V):Prop:=if c=true then SqT K H a xs else SqL K H a xs
section
variable {X:Cx} {pins:List (Addr×Obj)} {σ:L2.St} {H H':Hp} {s:Shared} {h':Heap}
theorem Inv.sqB{c:Bool}{a:Addr}{xs:List V}(I:Inv X pins σ H s)(h:SqB c X.K H a xs):∃its:List Value,aY xs its/\jn c s.heap a its.toArray/\xs.length<=sizeLine:=by
 cases c
 .obtain⟨its,r,p,hz⟩:=I.list (show SqL X.K H a xs from h)
  exact⟨its,r,p.isList,hz⟩
 .obtain⟨its,r,p,hz⟩:=I.tuple (show SqT X.K H a xs from h)
  exact⟨its,r,p,hz⟩
theorem Inv.sqB_inj{c:Bool}{a:Addr}{xs ys:List V}(I:Inv X pins σ H s)(h:SqB c X.K H a xs)(h':SqB c X.K H a ys):xs=ys:=by
 cases c
 .exact I.list_inj (show SqL X.K H a xs from h) h'
 .exact I.tuple_inj (show SqT X.K H a xs from h) h'
theorem Inv.sqB_ne{c:Bool}{a b:Addr}{xs:List V}(I:Inv X pins σ H s)(h:SqB c X.K H a xs)(f:jH X pins H b):a≠b:=by
 have key:(∃o,H a=some o)∨∃o,X.K.lookup a=some o:=by
  cases c
  .rcases(show SqL X.K H a xs from h)with(h|⟨o,h⟩)|⟨o,_,_,h,_⟩
   .exact .inl ⟨_,h⟩
   .exact .inl ⟨_,h⟩
   .exact .inr ⟨_,h⟩
  .rcases(show SqT X.K H a xs from h)with(h|⟨o,h⟩)|⟨o,_,_,h,_⟩
   .exact .inl ⟨_,h⟩
   .exact .inl ⟨_,h⟩
   .exact .inr ⟨_,h⟩
 intro z
 subst z
 rcases key with⟨o,e⟩|⟨o,e⟩
 .rw[f.1]at e;cases e
 .have e':=I.ok.mod.kin a o e
  rcases f.2.2.2.1 with q|q
  .exact I.ok.noex a o e' q
  .exact absurd (Zc (Ze (I.ok.bs a o e').1) q) (Nat.lt_irrefl _)
theorem Inv.turnedL{t':Nat}{fp:List Addr}(I:Inv X pins σ H s)(k:∀b o,b∉fp->s.heap.get? b=some o->h'.get? b=some o)(hf:∀b∈fp,jH X pins H b):Inv X pins σ H { s with heap:=h',toks:=t'}:=by
 have nit:∀b u,H b=some u->b∉fp:=λb u e z=>by rw[(hf b z).1]at e;cases e
 refine I.step (g':=s.gens) (d':=s.drawn) (ch:=fp) (λb hb=>?_) (λb o _ _ hc e _=>k b o hc e) (λb o _ _ hc e _=>⟨o.slots,k b o hc e⟩) (λ_ _ _ _ n=>n)
  (λb o hc e=>⟨o,k b o hc e⟩) (λ_ _ e=>e) (λ_ _ _ e=>e) (λb ps e=>⟨#[],by rw[e];simp⟩) (λm hm=>?_) (λb u e=>?_) I.bare.again
 .obtain⟨f0,f1,f2,f3,f4,f5⟩:=hf b hb
  exact⟨f3,f1,f4,f5⟩
 .obtain⟨o,es,ep,ho,r⟩:=hm
  exact⟨o,es,ep,k _ o (λz=>(hf _ z).2.1 rfl) ho,r⟩
 .refine(I.hok b u e).stay (λc v hc q=>k c v ?_ q) (λ_ q=>q) λ_ _ q=>q
  rcases hc with z|z
  .rw[z];exact nit b u e
  .exact nit c _ z
end
def Itz(K:Zw)(c1 c2:Bool)(a1 a2:Addr):It:=
 ⟨λi H=>(∃xs x,SqB c1 K H a1 xs/\xs[i]? =some x)/\∃ys y,SqB c2 K H a2 ys/\ys[i]? =some y,
  λi H v H'=>∃p x y,v= .ref p/\H p=none/\H'=upd H p (.tup [x,y])/\(∀xs,SqB c1 K H a1 xs->xs[i]? =some x)/\∀ys,SqB c2 K H a2 ys->ys[i]? =some y,
  λi H=>∃xs ys,SqB c1 K H a1 xs/\SqB c2 K H a2 ys/\(xs.length<=i∨ys.length<=i)⟩
def ZSt(c1 c2:Bool)(z TI TO i1 i2 a1 a2:Addr)(i:Nat)(h:Heap):Prop:=
 IsZip h z TI TO .none/\IsPair h TI (.ref i1) (.ref i2)/\(∃a b,IsPair h TO a b)/\fQ c1 h i1 a1 i/\fQ c2 h i2 a2 i
theorem BL{h:Heap}{o u:Obj}{b:Addr}(e:(h.push o).get? b=some u)(hb:b≠h.objs.size):h.get? b=some u:=by
 unfold Heap.get? at e ⊢
 have hp:(h.push o).objs[b]? =h.objs[b]? :=by
  show(h.objs.push o)[b]? =h.objs[b]?
  rw[Array.getElem?_push,if_neg hb]
 rw[hp]at e
 exact e
theorem Bv{P:Program}{w:World}{K:Zw}{elts:List Expr}{kk:Nat}{pos:Pos}(c1 c2:Bool)(z TI TO i1 i2 a1 a2:Addr)(D:ZA z TI TO i1 i2):
  rG P w K (.Tuple elts kk pos) (Itz K c1 c2 a1 a2) [z,TI,TO,i1,i2] z (ZSt c1 c2 z TI TO i1 i2 a1 a2) where
 mem:=by simp
 obj:=λi h st b hb=>by
  obtain⟨hz,hTI,⟨a,b',hTO⟩,h1,h2⟩:=st
  simp only[Zi,ZF,or_false]at hb
  rcases hb with rfl|rfl|rfl|rfl|rfl
  .exact⟨_,hz,λv q=>by cases q⟩
  .exact⟨_,hTI,λv q=>by cases q⟩
  .exact⟨_,hTO,λv q=>by cases q⟩
  .obtain⟨o,e,d,_⟩:=h1.obj;exact⟨o,e,d⟩
  .obtain⟨o,e,d,_⟩:=h2.obj;exact⟨o,e,d⟩
 keep:=λi h h' st k=>by
  obtain⟨hz,hTI,⟨a,b',hTO⟩,h1,h2⟩:=st
  exact⟨k z (by simp) _ hz,k TI (by simp) _ hTI,⟨a,b',k TO (by simp) _ hTO⟩,h1.at' λo e=>k i1 (by simp) o e,h2.at' λo e=>k i2 (by simp) o e⟩
 item:=by
  intro X hP hw hK hc i pins s σ H E I hf st hg
  subst hP hw hK
  obtain⟨hz,hTI,⟨a,b',hTO⟩,h1,h2⟩:=st
  obtain⟨⟨xs,x,hx,ex⟩,ys,y,hy,ey⟩:=hg
  obtain⟨its1,r1,p1,z1⟩:=I.sqB hx
  obtain⟨its2,r2,p2,z2⟩:=I.sqB hy
  obtain⟨u1,eu1,ru1⟩:=r1.get ex
  obtain⟨u2,eu2,ru2⟩:=r2.get ey
  have fz:=hf z (by simp)
  have fTO:=hf TO (by simp)
  have fi1:=hf i1 (by simp)
  have ltz:z<s.heap.objs.size:=Ze hz
  have ltTI:TI<s.heap.objs.size:=Ze hTI
  have ltTO:TO<s.heap.objs.size:=Ze hTO
  have lti1:i1<s.heap.objs.size:=let⟨_,e,_⟩:=h1.obj;Ze e
  have lti2:i2<s.heap.objs.size:=let⟨_,e,_⟩:=h2.obj;Ze e
  refine oK D (I.sqB_ne hx fz) (I.sqB_ne hy fz) (I.sqB_ne hy fi1) (I.sqB_ne hy fTO) hz hTI hTO h1 h2 p1 p2 (x:=u1) (y:=u2) (by simpa using eu1) (by simpa using eu2) λh' q1 q2 q3 q4 q5 q6 q7=>⟨_,rfl,?_⟩
  refine wpAny_letOwnedTupleGo_zip q1 λh2' y1 y2=>?_
  have hpn:H s.heap.objs.size=none:=I.hok.fresh (Zg _)
  have IA:Inv X pins σ (upd H s.heap.objs.size (.tup [x,y])) { s with heap:=s.heap.push { cls:=.type "tuple",data:=.seq #[u1,u2] } }:=
   I.laid (t':=s.toks) (o:=.tup [x,y]) (λb ob q=>Zb _ q) (Zg _) ⟨by show 2<=sizeLine;decide,[u1,u2],.cons ru1 (.cons ru2 .nil),IsTup.new _ _⟩
  have hne:∀b∈[z,TI,TO,i1,i2],b≠s.heap.objs.size:=λb hb=>by
   simp only[Zi,ZF,or_false]at hb
   rcases hb with rfl|rfl|rfl|rfl|rfl
   .exact Zk ltz
   .exact Zk ltTI
   .exact Zk ltTO
   .exact Zk lti1
   .exact Zk lti2
  have hf':∀b∈[z,TI,TO,i1,i2],jH X pins (upd H s.heap.objs.size (.tup [x,y])) b:=λb hb=>by
   obtain⟨f0,f1⟩:=hf b hb
   exact⟨by rw[aO (hne b hb)];exact f0,f1⟩
  have IB:Inv X pins σ (upd H s.heap.objs.size (.tup [x,y])) { s with heap:=h2'}:=by
   refine Inv.turnedL (s:={ s with heap:=s.heap.push { cls:=.type "tuple",data:=.seq #[u1,u2] } }) (t':=s.toks) (fp:=[z,TI,TO,i1,i2]) IA (λb o hb e=>?_) hf'
   simp only[Zi,ZF,or_false,not_or]at hb
   obtain⟨b1,b2,b3,b4,b5⟩:=hb
   by_cases hs:b=s.heap.objs.size
   .subst hs
    have e':some ({ cls:=.type "tuple",data:=.seq #[u1,u2] }:Obj)=some o:=(Zf s.heap rfl).symm.trans e
    cases e'
    exact y2.extBut _ _ b1 q5
   .exact y2.extBut _ _ b1 (q7 b o b1 b3 b4 b5 (BL e hs))
  refine⟨.ref s.heap.objs.size,_,IB,rfl,⟨_,x,y,rfl,hpn,rfl,λzs hzs=>by rw[I.sqB_inj hzs hx];exact ex,λzs hzs=>by rw[I.sqB_inj hzs hy];exact ey⟩,?_,λb hb=>(hf' b hb).1⟩
  exact⟨y1,y2.extBut _ _ D.TIz (q7 _ _ D.TIz D.TITO D.TIi1 D.TIi2 hTI),⟨_,_,y2.extBut _ _ D.TOz q2⟩,q3.at' λo e=>y2.extBut _ _ D.i1z e,q4.at' λo e=>y2.extBut _ _ D.i2z e⟩
 done:=by
  intro X hP hw hK hc i pins s σ H E I hf st hg
  subst hP hw hK
  obtain⟨hz,hTI,⟨a,b',hTO⟩,h1,h2⟩:=st
  obtain⟨xs,ys,hx,hy,hend⟩:=hg
  obtain⟨its1,r1,p1,z1⟩:=I.sqB hx
  obtain⟨its2,r2,p2,z2⟩:=I.sqB hy
  have fz:=hf z (by simp)
  have fTO:=hf TO (by simp)
  have fi1:=hf i1 (by simp)
  have l1:=r1.length
  have l2:=r2.length
  refine pB (I.ok.hd hc) D (I.sqB_ne hx fz) (I.sqB_ne hy fz) (I.sqB_ne hy fi1) (I.sqB_ne hy fTO) hz hTI hTO h1 h2 p1 p2 ?_ λh' q=>⟨rfl,I.turnedL (t':=s.toks) (fp:=[z,TI,TO,i1,i2]) (λb o hb e=>?_) hf⟩
  .rcases hend with h|h
   .exact .inl (by simp;omega)
   .exact .inr (by simp;omega)
  .simp only[Zi,ZF,or_false,not_or]at hb
   exact q b o hb.1 hb.2.2.1 hb.2.2.2.1 hb.2.2.2.2 e
 self:=λ_ _ _ _ _ st h=>wpAny_pyIter_zip st.1 h
def iZip(K:Zw)(ta:TA):TI:=λσ H R=>ta σ H λvs H1=>∃a1 a2 c1 c2,vs=[.ref a1,.ref a2]/\(∃xs,SqB c1 K H1 a1 xs)/\(∃ys,SqB c2 K H1 a2 ys)/\R (Itz K c1 c2 a1 a2) H1
section
variable {X:Cx}
theorem KQ{a b:Expr}{ta:TA}{p pos p':Pos}{elts:List Expr}{kk:Nat}(hg:Gl X "zip")(hm:X.mg "zip"=none)(ha:PA X [a,b] ta)(hs:starEach [a,b] X.env=[(false,eval a X.env),(false,eval b X.env)]:=by rfl)(hs2:starEach [b] X.env=[(false,eval b X.env)]:=by rfl):
  PI X (.Tuple elts kk p') (.Call (.Name "zip" p) [a,b] [] pos) (iZip X.K ta):=by
 intro pins s σ H R I h
 refine Call_ (kW I hg hm boot_zip (PyProof.Rows.callWith_type1 (thn (ha pos pins s σ H _ I h) λus s1 ⟨vs,H1,I1,r1,q1⟩=>?_) (by rw[hs,hs2]) (by rw[hs2];rfl)))
 obtain⟨a1,a2,c1,c2,rfl,⟨xs,hx⟩,⟨ys,hy⟩,q⟩:=q1
 obtain⟨u,v,rfl,ru,rv⟩:=vals2 r1
 cases ru
 cases rv
 obtain⟨its1,_,p1,_⟩:=I1.sqB hx
 obtain⟨its2,_,p2,_⟩:=I1.sqB hy
 refine Ao p1 p2 λh' g1 g2 g3 g4 g5 g6 g7=>?_
 refine wpAny_pyIter_zip g1 ?_
 refine⟨_,[s1.heap.objs.size+4,s1.heap.objs.size+2,s1.heap.objs.size+3,s1.heap.objs.size,s1.heap.objs.size+1],_,_,H1,rfl,I1.kept (t':=s1.toks) g7,Bv c1 c2 _ _ _ _ _ a1 a2 ?_,⟨g1,g2,⟨_,_,g3⟩,g4,g5⟩,λb hb=>?_,q⟩
 .constructor<;>first|exact Zk (by omega)|exact Nat.ne_of_gt (by omega)
 .have hb':s1.heap.objs.size<=b:=by
   simp only[Zi,ZF,or_false]at hb
   rcases hb with q|q|q|q|q<;>rw[q]<;>first|exact Nat.le_add_right _ _|exact Zg _
  exact I1.fpOk hb' (I1.hok.fresh hb')
end
end L2
namespace L3
open PySem PySem.Spec PyProof.Rows L2
def bF:D->Mu->Option (List D)
 | .tup ds,_=>some ds
 | .lst ds,_=>some ds
 | .ro ds,_=>some ds
 | .cell n,μ=>match μ[n]? with
  |some (some ds)=>some ds
  |_=>none
 |_,_=>none
def qt:D->Bool
 | .tup _=>true
 |_=>false
section
variable {K:Zw} {tb:List Addr}
theorem jr{W:Wd}{x:D}{v:V}{ds:List D}(ok:WOk K tb W)(h:Den K tb W x v)(e:bF x W.mu=some ds):∃a xs,v= .ref a/\SqB (qt x) K W.H a xs/\cG K tb W ds xs:=by
 cases x with
 |tup es=>cases e;obtain⟨a,xs,rfl,q,r⟩:=gO h;exact⟨a,xs,rfl,SqT.fz q,r⟩
 |lst es=>cases e;obtain⟨a,xs,rfl,q,r⟩:=jl h;exact⟨a,xs,rfl,SqL.fz q,r⟩
 |ro es=>cases e;obtain⟨a,xs,rfl,q,r⟩:=sH h;exact⟨a,xs,rfl,SqL.fz q,r⟩
 |cell n=>
  obtain⟨a,rfl,q⟩:=gD h
  have e':(match W.mu[n]? with|some (some ds)=>some ds|_=>none)=some ds:=e
  cases e2:W.mu[n]? with
  |none=>rw[e2]at e';cases e'
  |some o=>
   cases o with
   |none=>rw[e2]at e';cases e'
   |some es=>
    rw[e2]at e'
    cases e'
    obtain⟨xs,e3,r⟩:=ok.cont n a ds q e2
    exact⟨a,xs,rfl,SqL.of e3,r⟩
 |_=>cases e
theorem SqB.or{c:Bool}{H:Hp}{a:Addr}{xs:List V}(h:SqB c K H a xs):SqL K H a xs∨SqT K H a xs:=by
 cases c
 .exact .inl h
 .exact .inr h
end
theorem Fo{K:Zw}{tb:List Addr}{W:Wd}{ds:List D}{xs:List V}{i:Int}{d:D}(r:cG K tb W ds xs)(h:atI ds i=some d):∃v,atI xs i=some v/\Den K tb W d v:=by
 unfold atI at h ⊢
 rw[<-aC.length r]
 cases e:ixN ds.length i with
 |none=>rw[e]at h;cases h
 |some j=>
  rw[e]at h
  exact aC.get r h
def oIx:O2:=λx y μ=>match y with
 | .int i=>(bF x μ).bind λds=>(atI ds i).map λd=>(d,μ)
 |_=>none
def cF:O1':=λx μ=>match x with
 | .str y=>if y.length<=sizeLine then some (.int y.length,μ)else none
 |_=>(bF x μ).map λds=>(.int ds.length,μ)
def lw:O1':=λx μ=>match x with
 | .int i=>some (.int (if i<0 then -i else i),μ)
 |_=>none
def cU:O1':=λx μ=>match x with
 | .int i=>some (.int (-i),μ)
 |_=>none
def lz(op:O2):ON:=λxs μ=>match xs with
 | [x,y]=>op x y μ
 |_=>none
theorem yr{op:O2}{xs:List D}{μ:Mu}{r:D×Mu}(h:lz op xs μ=some r):∃x y,xs=[x,y]/\op x y μ=some r:=by
 unfold lz at h
 split at h
 .exact⟨_,_,rfl,h⟩
 .cases h
def mz:O2:=λx y μ=>match x,y with
 | .int i,.int j=>some (.int (if j<i then j else i),μ)
 |_,_=>none
def gh:ON:=λxs μ=>match xs with
 | [x]=>(bF x μ).map λds=>(.tup ds,μ)
 |_=>none
def Oc(T:String):D->Option Bool
 | .non=>some false
 | .bl _=>some (T=="bool"||T=="int")
 | .int _=>some (T=="int")
 | .str _=>some (T=="str")
 | .tup _=>some (T=="tuple")
 | .lst _=>some (T=="list")
 | .ro _=>some (T=="list")
 | .dic _=>some (T=="dict")
 | .cell _=>none
def kI(T:String):O1':=λx μ=>match x with
 | .cell n=>match μ[n]? with
  |some (some _)=>some (.bl (T=="list"),μ)
  |_=>none
 |_=>(Oc T x).map λk=>(.bl k,μ)
section
variable {X:Cx} {tb:List Addr} {a b e:Expr} {fa fb f:EF} {fs:AF} {p pos:Pos}
theorem cC(ha:PD X tb a fa)(hb:PD X tb b fb)(hs:zb b:=by intro _ _;rfl):PD X tb (.Subscript a b pos) (M2 fa fb oIx):=
 xJ (λta tb' ha hb=>Nf JR ha hb hs) (λW x y v u d μ' Q ok dx dy ho h=>by
  cases y with
  |int i=>
   obtain⟨ds,e1,e2⟩:=Za.mp (show((bF x W.mu).bind λds=>(atI ds i).map λd=>(d,W.mu))=some (d,μ')from ho)
   obtain⟨d0,e3,e4⟩:=Zp.mp e2
   cases e4
   rw[bz dy]
   obtain⟨a,xs,rfl,q,r⟩:=jr ok dx e1
   obtain⟨v,ev,dv⟩:=Fo r e3
   rcases SqB.or q with q|q
   .exact .inl ⟨a,xs,i,v,rfl,rfl,q,ev,put ok h dv⟩
   .exact .inr (.inl ⟨a,xs,i,v,rfl,rfl,q,ev,put ok h dv⟩)
  |_=>cases ho) ha hb
theorem dw(ha:PD X tb a fa):PD X tb (.UnaryOp .USub a pos) (M1 fa cU):=
 JM (λta ha=>Jd Eh ha) (λW x v d μ' Q ok dx ho h=>by
  cases x with
  |int i=>cases ho;rw[bz dx];exact⟨i,rfl,put ok h di⟩
  |_=>cases ho) ha
def aW(op:O1'):ON:=λxs μ=>match xs with
 | [x]=>op x μ
 |_=>none
theorem jM{op:O1'}{xs:List D}{μ:Mu}{r:D×Mu}(h:aW op xs μ=some r):∃x,xs=[x]/\op x μ=some r:=by
 unfold aW at h
 split at h
 .exact⟨_,rfl,h⟩
 .cases h
theorem vH{xs:List D}{μ:Mu}{r:D×Mu}(h:gh xs μ=some r):∃x,xs=[x]/\gh [x] μ=some r:=by
 unfold gh at h
 split at h
 .exact⟨_,rfl,h⟩
 .cases h
theorem fG(hm:X.mg "len"=none)(ha:PAD X tb [a] fs)(hg:Gl X "len":=by rfl)(he:starEach [a] X.env=(false,eval a X.env)::starEach [] X.env:=by rfl):PD X tb (.Call (.Name "len" p) [a] [] pos) (MC fs (aW cF)):=
 vX (λta ha=>iQ (tX.or uq) hg hm PySem.boot_len ha (by decide) (by decide) he (by rfl)) (λW xs vs d μ' Q ok r ho h=>by
  obtain⟨x,rfl,ho⟩:=jM ho
  obtain⟨v,rfl,dv⟩:=aC.one r
  have gen:∀ds,bF x W.mu=some ds->some (D.int ds.length,W.mu)=some (d,μ')->((∃p ys,[v]=[V.ref p]/\(SqL X.K W.H p ys∨SqT X.K W.H p ys)/\Q (.int ys.length) W.H)∨∃z,[v]=[V.str z]/\z.length<=sizeLine/\Q (.int z.length) W.H):=λds e1 e2=>by
   cases e2
   obtain⟨a,xs,e,q,r⟩:=jr ok dv e1
   exact Or.inl ⟨a,xs,by rw[e],SqB.or q,by rw[<-aC.length r];exact put ok h di⟩
  cases x with
  |str y=>
   have ho':(if y.length<=sizeLine then some (D.int y.length,W.mu)else none)=some (d,μ'):=ho
   split at ho'
   .rename_i hz
    cases ho'
    rw[uf dv]
    exact .inr ⟨y,rfl,hz,put ok h di⟩
   .cases ho'
  |tup ds=>exact gen ds rfl ho
  |lst ds=>exact gen ds rfl ho
  |ro ds=>exact gen ds rfl ho
  |cell n=>
   obtain⟨ds,e1,e2⟩:=Zp.mp (show(bF (.cell n) W.mu).map (λds=>(D.int ds.length,W.mu))=some (d,μ')from ho)
   exact gen ds e1 (congrArg some e2)
  |_=>cases ho) ha
theorem uF(hm:X.mg "abs"=none)(ha:PAD X tb [a] fs)(hg:Gl X "abs":=by rfl)(he:starEach [a] X.env=(false,eval a X.env)::starEach [] X.env:=by rfl):PD X tb (.Call (.Name "abs" p) [a] [] pos) (MC fs (aW lw)):=
 vX (λta ha=>iQ Di hg hm PyProof.Rows.boot_abs ha (by decide) (by decide) he (by rfl)) (λW xs vs d μ' Q ok r ho h=>by
  obtain⟨x,rfl,ho⟩:=jM ho
  obtain⟨v,rfl,dv⟩:=aC.one r
  cases x with
  |int i=>cases ho;rw[bz dv];exact⟨i,rfl,put ok h di⟩
  |_=>cases ho) ha
theorem yJ(hc:X.calm=true)(hm:X.mg "min"=none)(ha:PAD X tb [a,b] fs)(hg:Gl X "min":=by rfl)(he:starEach [a,b] X.env=(false,eval a X.env)::starEach [b] X.env:=by rfl)(hpl:(backTo pos (starEach [b] X.env)).any (·.1)=false:=by rfl):PD X tb (.Call (.Name "min" p) [a,b] [] pos) (MC fs (lz mz)):=
 vX (λta ha=>iQ (zF hc) hg hm PyProof.Rows.boot_min ha (by decide) (by decide) he hpl) (λW xs vs d μ' Q ok r ho h=>by
  obtain⟨x,y,rfl,ho⟩:=yr ho
  obtain⟨u,v,rfl,du,dv⟩:=aC.two r
  cases x with
  |int i=>
   cases y with
   |int j=>
    cases ho
    rw[bz du,bz dv]
    exact⟨i,j,rfl,put ok h di⟩
   |_=>cases ho
  |_=>cases ho) ha
theorem kO(hm:X.mg "tuple"=none)(ha:PAD X tb [a] fs)(hg:Gl X "tuple":=by rfl)(he:starEach [a] X.env=(false,eval a X.env)::starEach [] X.env:=by rfl):PD X tb (.Call (.Name "tuple" p) [a] [] pos) (MC fs gh):=
 vX (λta ha=>oR rH hg hm PyProof.Rows.boot_tuple ha (by decide) (by decide) he (by rfl)) (λW xs vs d μ' Q ok r ho h=>by
  obtain⟨x,rfl,ho⟩:=vH ho
  obtain⟨v,rfl,dv⟩:=aC.one r
  obtain⟨ds,e1,e2⟩:=Zp.mp (show(bF x W.mu).map (λds=>(D.tup ds,W.mu))=some (d,μ')from ho)
  cases e2
  by_cases ht:∃es,x= .tup es
  .obtain⟨es,rfl⟩:=ht
   cases e1
   obtain⟨a,xs,rfl,q,r⟩:=gO dv
   exact⟨a,xs,rfl,.inr ⟨SqT.fz q,put ok h dv⟩⟩
  .obtain⟨a,xs,rfl,q,r⟩:=jr ok dv e1
   have hf:qt x=false:=by cases x<;>first|rfl|exact absurd ⟨_,rfl⟩ ht
   rw[hf]at q
   exact⟨a,xs,rfl,.inl ⟨q,λl hl=>lJ ok h r hl⟩⟩) ha
def lOf(fs:AF):LF:=λδ μ=>(fs δ μ).bind λr=>match r.1 with
 | [x]=>(bF x r.2).map λds=>(ds,r.2)
 |_=>none
theorem lq{T:Str}{tn:String}{pt:Pos}(hm:X.mg "isinstance"=none)(hmT:X.mg T=none)(hT:bootBuiltins T=some (.type tn))(hmem:tn∈Fq)(ha:PD X tb a fa)(hg:Gl X "isinstance":=by rfl)(hgT:Gl X T:=by rfl)(hn:T≠"__name__":=by decide)(hdb:(T==("__debug__":Str))=false:=by decide)
  (hs:starEach [a,.Name T pt] X.env=(false,eval a X.env)::starEach [.Name T pt] X.env:=by rfl):PD X tb (.Call (.Name "isinstance" p) [a,.Name T pt] [] pos) (M1 fa (kI tn)):=
 dG (iQ Eo hg hm PyProof.Rows.boot_isinstance (nM ha (nM (FW hgT hmT hT (v:=.ty tn) rfl hn hdb) uy) hs) (by decide) (by decide) hs (by rfl)) λσ H Q zq2=>by
  obtain⟨W,δ,d,μ',e,ok,hd,hf,h⟩:=zq2
  unfold M1 at hf
  obtain⟨⟨x,μ1⟩,e1,e2⟩:=Za.mp hf
  refine⟨W,δ,x,μ1,e,ok,hd,e1,λv W1 ok1 l1 m1 d1=>?_⟩
  have fin:∀k,La X.K tn v W1.H k->some (D.bl k,μ1)=some (d,μ')->∃x T k,[v,V.ty tn]=[x,.ty T]/\T∈Fq/\La X.K T x W1.H k/\Q (.bl k) W1.H:=λk hk e=>by
   cases e
   exact⟨v,tn,k,rfl,hmem,hk,h _ W1 ok1 l1 m1 gQ⟩
  cases x with
  |non=>rw[EY d1]at fin ⊢;exact fin _ rfl e2
  |bl b=>rw[qI d1]at fin ⊢;exact fin _ rfl e2
  |int b=>rw[bz d1]at fin ⊢;exact fin _ rfl e2
  |str b=>rw[uf d1]at fin ⊢;exact fin _ rfl e2
  |tup ds=>obtain⟨a,xs,rfl,q,r⟩:=gO d1;exact fin _ (.inr (.inl ⟨rfl,xs,SqT.fz q⟩)) e2
  |lst ds=>obtain⟨a,xs,rfl,q,r⟩:=jl d1;exact fin _ (.inl ⟨rfl,xs,SqL.fz q⟩) e2
  |ro ds=>obtain⟨a,xs,rfl,q,r⟩:=sH d1;exact fin _ (.inl ⟨rfl,xs,SqL.fz q⟩) e2
  |dic ds=>obtain⟨a,xs,rfl,q,r⟩:=Ko d1;exact fin _ (.inr (.inr ⟨rfl,xs,(cR q).1⟩)) e2
  |cell n=>
   have e2':(match μ1[n]? with|some (some _)=>some (D.bl (tn=="list"),μ1)|_=>none)=some (d,μ'):=e2
   obtain⟨a,rfl,q⟩:=gD d1
   cases e4:μ1[n]? with
   |none=>rw[e4]at e2';cases e2'
   |some o=>
    cases o with
    |none=>rw[e4]at e2';cases e2'
    |some ds=>
     rw[e4]at e2'
     obtain⟨xs,ex,_⟩:=ok1.cont n a ds q (by rw[m1];exact e4)
     exact fin _ (.inl ⟨rfl,xs,SqL.of ex⟩) e2'
def dD(μ:Mu)(n:Nat):Bool:=match μ[n]? with
 |some (some _)=>true
 |_=>false
theorem wk{μ:Mu}{n:Nat}(h:dD μ n=true):∃ds,μ[n]? =some (some ds):=by
 unfold dD at h
 split at h
 .exact⟨_,by assumption⟩
 .cases h
def dW(fo:EF)(fs:AF):EF:=λδ μ=>(fo δ μ).bind λr=>(fs δ r.2).bind λq=>match r.1,q.1 with
 | .cell n,[y]=>match q.2[n]? with
  |some (some ds)=>if dD r.2 n=true/\ds.length<sizeLine then some (.non,q.2.set n (some (ds++[y])))else none
  |_=>none
 |_,_=>none
theorem eY{o:Expr}{fo:EF}{apos cpos:Pos}(ho:PD X tb o fo)(ha:PAD X tb [e] fs)
  (hbase:attributeBase o "append" X.env (eval o X.env)=eval o X.env:=by rfl)
  (hfew:((backTo cpos (starEach [e] X.env)).all (λx=>!x.1)&&(backToKw cpos (keywordEach [] X.env)).all (λx=>x.1.isSome)
   &&decide ([e].length+([]:List Keyword).length+(if([]:List Keyword).isEmpty then 0 else 1)<30))=true:=by rfl)
  (hline:(apos.endLine==cpos.line)=true:=by rfl) (hs:starEach [e] X.env=(false,eval e X.env)::starEach [] X.env:=by rfl):PD X tb (.Call (.Attribute o "append" apos) [e] [] cpos) (dW fo fs):=
 dG (Jl PySem.F.plainAttrs_list PySem.F.slot_list_append PySem.F.type_list_append Ac ho ha hbase hfew hline hs (by rfl)) λσ H Q zq3=>by
  obtain⟨W,δ,d,μ',e,ok,hd,hf,h⟩:=zq3
  unfold dW at hf
  obtain⟨⟨x,μ1⟩,e1,hf⟩:=Za.mp hf
  obtain⟨⟨ys,μ2⟩,e2,hf⟩:=Za.mp hf
  refine⟨W,δ,x,μ1,e,ok,hd,e1,λv W1 ok1 l1 m1 d1=>?_⟩
  match x,ys,e1,e2,hf,d1 with
  | .cell n,[y],e1,e2,hf,d1=>
   have hf':(match μ2[n]? with|some (some ds)=>if dD μ1 n=true/\ds.length<sizeLine then some (D.non,μ2.set n (some (ds++[y])))else none|_=>none)=some (d,μ'):=hf
   cases e4:μ2[n]? with
   |none=>rw[e4]at hf';cases hf'
   |some oo=>
    cases oo with
    |none=>rw[e4]at hf';cases hf'
    |some ds=>
     rw[e4]at hf'
     have hf'':(if dD μ1 n=true/\ds.length<sizeLine then some (D.non,μ2.set n (some (ds++[y])))else none)=some (d,μ'):=hf'
     split at hf''
     .rename_i hz
      cases hf''
      obtain⟨a,rfl,q⟩:=gD d1
      obtain⟨ds0,e5⟩:=wk hz.1
      obtain⟨xs0,ex0,_⟩:=ok1.cont n a ds0 q (by rw[m1];exact e5)
      refine⟨.inl ⟨rfl,xs0,SqL.of ex0⟩,W1,δ,[y],μ2,rfl,ok1,hd.mono' l1,(by rw[m1];exact e2),λvs W2 ok2 l2 m2 d2=>?_⟩
      obtain⟨u,rfl,du⟩:=aC.one d2
      have q2:=l2.ad _ _ q
      have e6:W2.mu[n]? =some (some ds):=by rw[m2];exact e4
      obtain⟨xs,ex,r⟩:=ok2.cont n a ds q2 e6
      refine⟨a,xs,u,rfl,rfl,ex,by rw[<-aC.length r];exact hz.2,?_⟩
      obtain⟨ok3,l3⟩:=ok2.write q2 e6 (aC.append r (aC.cons du aC.nil))
      exact h .non _ ok3 ((l1.trans l2).trans l3) (by rw[<-m2]) pK
     .cases hf''
def yK(fo:EF):EF:=λδ μ=>(fo δ μ).bind λr=>match r.1 with
 | .cell n=>match r.2[n]? with
  |some (some (y::ds))=>some (y,r.2.set n (some ds))
  |_=>none
 |_=>none
theorem Gh{o:Expr}{fo:EF}{apos cpos p0:Pos}{j}(ho:PD X tb o fo)
  (hbase:attributeBase o "pop" X.env (eval o X.env)=eval o X.env:=by rfl)
  (hfew:((backTo cpos (starEach [.Constant (.int 0) j p0] X.env)).all (λx=>!x.1)&&(backToKw cpos (keywordEach [] X.env)).all (λx=>x.1.isSome)
   &&decide ([Expr.Constant (.int 0) j p0].length+([]:List Keyword).length+(if([]:List Keyword).isEmpty then 0 else 1)<30))=true:=by rfl)
  (hline:(apos.endLine==cpos.line)=true:=by rfl):PD X tb (.Call (.Attribute o "pop" apos) [.Constant (.int 0) j p0] [] cpos) (yK fo):=
 dG (Jl PySem.F.plainAttrs_list PySem.F.slot_list_pop PySem.F.type_list_pop Do ho (nM yj uy) hbase hfew hline (by rfl) (by rfl)) λσ H Q zq4=>by
  obtain⟨W,δ,d,μ',e,ok,hd,hf,h⟩:=zq4
  unfold yK at hf
  obtain⟨⟨x,μ1⟩,e1,hf⟩:=Za.mp hf
  refine⟨W,δ,x,μ1,e,ok,hd,e1,λv W1 ok1 l1 m1 d1=>?_⟩
  cases x with
  |cell n=>
   have hf':(match μ1[n]? with|some (some (y::ds))=>some (y,μ1.set n (some ds))|_=>none)=some (d,μ'):=hf
   cases e4:μ1[n]? with
   |none=>rw[e4]at hf';cases hf'
   |some oo=>
    match oo,e4 with
    |none,e4=>rw[e4]at hf';cases hf'
    |some [],e4=>rw[e4]at hf';cases hf'
    |some (y::ds),e4=>
     rw[e4]at hf'
     have hf'':some (y,μ1.set n (some ds))=some (d,μ'):=hf'
     cases hf''
     obtain⟨a,rfl,q⟩:=gD d1
     have e6:W1.mu[n]? =some (some (d::ds)):=by rw[m1];exact e4
     obtain⟨xs,ex,r⟩:=ok1.cont n a _ q e6
     have r':aC _ _ _ _ _:=r
     unfold aC at r'
     obtain⟨u,us,rfl,du,r2⟩:=r'
     refine⟨.inl ⟨rfl,_,SqL.of ex⟩,a,u::us,0,0,u,rfl,rfl,ex,by decide,by decide,?_,rfl,?_⟩
     .simp[seqIndex?]
     .obtain⟨ok3,l3⟩:=ok1.write q e6 r2
      exact h u _ ok3 (l1.trans l3) (by rw[<-m1]) (Den.mono' du l3)
  |_=>cases hf
theorem pdv(i:Nat){x:Str}(hN:X.N[i]? =some x:=by rfl)(hv:Vis X.env.scope x:=by first|exact Or.inl rfl|exact Or.inr (Or.inl rfl)|exact Or.inr (Or.inr rfl))(hd:(x==("__debug__":Str))=false:=by decide)(hcd:(x==("__classdict__":Str))=false:=by decide):PD X tb (.Name x pos) (aq i):=JQ hN hv hd hcd
end
section
variable {X:Cx} {tb:List Addr} {a b e:Expr} {es:List Expr} {fa fb f:EF} {fs:AF} {p pos:Pos}
def je:List D->List D->List D
 |x::xs,y::ys=>.tup [x,y]::je xs ys
 |_,_=>[]
theorem ww:∀{xs ys:List D}{i:Nat}{d:D},(je xs ys)[i]? =some d->∃x y,d= .tup [x,y]/\xs[i]? =some x/\ys[i]? =some y
 | [],ys,i,d,h=>by simp[je]at h
 |x::xs,[],i,d,h=>by simp[je]at h
 |x::xs,y::ys,0,d,h=>by
  have h':some (D.tup [x,y])=some d:=by simpa[je]using h
  cases h'
  exact⟨x,y,rfl,rfl,rfl⟩
 |x::xs,y::ys,i+1,d,h=>by
  obtain⟨u,v,e,e1,e2⟩:=ww (xs:=xs) (ys:=ys) (i:=i) (by simpa[je]using h)
  exact⟨u,v,e,by simpa using e1,by simpa using e2⟩
theorem wR:∀(xs ys:List D),(je xs ys).length=min xs.length ys.length
 | [],ys=>by simp[je]
 |x::xs,[]=>by simp[je]
 |x::xs,y::ys=>by simp[je,wR xs ys]
def dC:D->Option (List D)
 | .tup ds=>some ds
 | .lst ds=>some ds
 | .ro ds=>some ds
 |_=>none
theorem BV{K:Zw}{W:Wd}{x:D}{v:V}{ds:List D}(h:Den K tb W x v)(e:dC x=some ds):∃a xs,v= .ref a/\SqB (qt x) K (W.fz tb) a xs/\cG K tb W ds xs:=by
 cases x with
 |tup es=>cases e;obtain⟨a,xs,rfl,q,r⟩:=gO h;exact⟨a,xs,rfl,q,r⟩
 |lst es=>cases e;obtain⟨a,xs,rfl,q,r⟩:=jl h;exact⟨a,xs,rfl,q,r⟩
 |ro es=>cases e;obtain⟨a,xs,rfl,q,r⟩:=sH h;exact⟨a,xs,rfl,q,r⟩
 |_=>cases e
theorem jZ{K:Zw}{c:Bool}{W0 W:Wd}{a:Addr}{xs:List V}(h:SqB c K (W0.fz tb) a xs)(l:Le tb W0 W):SqB c K W.H a xs:=by
 cases c
 .exact SqL.fz (SqL.mono l.same (show SqL K (W0.fz tb) a xs from h))
 .exact SqT.fz (SqT.mono l.same (show SqT K (W0.fz tb) a xs from h))
def mq(fs:AF):IF:=λδ μ=>(fs δ μ).bind λr=>match r.1 with
 | [x,y]=>(dC x).bind λxs=>(dC y).map λys=>(⟨je xs ys,none⟩,r.2)
 |_=>none
theorem pO{p':Pos}{elts:List Expr}{kk:Nat}(hm:X.mg "zip"=none)(ha:PAD X tb [a,b] fs)(hg:Gl X "zip":=by rfl)(hs:starEach [a,b] X.env=[(false,eval a X.env),(false,eval b X.env)]:=by rfl)(hs2:starEach [b] X.env=[(false,eval b X.env)]:=by rfl):
  PID X tb (.Tuple elts kk p') (.Call (.Name "zip" p) [a,b] [] pos) (mq fs):=
 Dl (KQ hg hm ha hs hs2) λσ H R zq4=>by
  obtain⟨W,δ,S,μ',e,ok,hd,hf,h⟩:=zq4
  unfold mq at hf
  obtain⟨⟨zs,μ1⟩,e1,hf⟩:=Za.mp hf
  match zs,e1,hf with
  | [x,y],e1,hf=>
   obtain⟨xs,e2,hf⟩:=Za.mp (show((dC x).bind λxs=>(dC y).map λys=>((⟨je xs ys,none⟩:Src),μ1))=some (S,μ')from hf)
   obtain⟨ys,e3,e4⟩:=Zp.mp hf
   cases e4
   refine⟨W,δ,[x,y],_,e,ok,hd,e1,λvs W1 ok1 l1 m1 d1=>?_⟩
   obtain⟨u,v,rfl,du,dv⟩:=aC.two d1
   obtain⟨a1,us,rfl,q1,r1⟩:=BV du e2
   obtain⟨a2,ws,rfl,q2,r2⟩:=BV dv e3
   refine⟨a1,a2,_,_,rfl,⟨us,jZ q1 (Le.refl _)⟩,⟨ws,jZ q2 (Le.refl _)⟩,h _ W1 ok1 l1 m1 ⟨λi W2 d l ok2 _ ei=>?_,λi W2 l ok2 _ hi=>?_⟩⟩
   .obtain⟨x0,y0,rfl,ex,ey⟩:=ww ei
    obtain⟨vx,evx,dvx⟩:=aC.get (cG.mono' r1 l) ex
    obtain⟨vy,evy,dvy⟩:=aC.get (cG.mono' r2 l) ey
    refine⟨⟨⟨us,vx,jZ q1 l,evx⟩,ws,vy,jZ q2 l,evy⟩,λz H' ⟨p,x',y',ez,hp,eH,hx',hy'⟩=>?_⟩
    have ex':=hx' us (jZ q1 l)
    have ey':=hy' ws (jZ q2 l)
    rw[evx]at ex';cases ex'
    rw[evy]at ey';cases ey'
    obtain⟨ok3,l3,e3⟩:=ok2.alloc (o:=.tup [vx,vy]) hp
    refine⟨_,eH.symm,ok3,l3,rfl,?_⟩
    rw[ez]
    show bc _ _ _ _ _
    unfold bc
    exact⟨p,[vx,vy],rfl,.inl (.inl e3),cG.mono' (aC.cons dvx (aC.cons dvy aC.nil)) l3⟩
   .have hi':min xs.length ys.length<=i:=by rw[<-wR];exact hi
    have l1':=aC.length r1
    have l2':=aC.length r2
    refine⟨us,ws,jZ q1 l,jZ q2 l,?_⟩
    omega
end
theorem yD{K:Zw}{F:Hp}{ad:List Addr}:∀(ns:List Int),aC K F ad (ns.map D.int) (ns.map V.int)
 | []=>aC.nil
 |n::ns=>aC.cons (by unfold bc;rfl) (yD ns)
theorem Bd{P:Program}{w:World}{K:Zw}{mg mb:Str->Option Value}{k:Nat}{fa a:Addr}{fd:FuncData}{x:Str}{s₁:Shared}{vs:List Value}{ns:List Int}{tb:List Addr}{φ:FF}{μ':Mu}
  (KX:K.In s₁.heap) (hns:s₁.heap.Ns mainGlobals mg) (hb:s₁.heap.Ns builtinsNs mb) (hbb:∀x:Str,x≠"__name__"->mb x=bootBuiltins x) (hlim:s₁.heap.NoLimit)
  (hbm:∃bm ob,mg "__builtins__"=some (.ref bm)/\bm≠builtinsNs/\s₁.heap.get? bm=some ob/\ob.cls= .type "module"/\ob.dict=some builtinsNs/\ob.data= .plain) (hg:s₁.gens= #[])
  (ha:s₁.heap.get? a=some { cls:=.type "list",data:=.seq vs.toArray}) (hi:IntsAre vs ns) (hl:ns.length<=sizeLine) (hr:cO k callerA)
  (htb:∀P∈tb,∃c,ZB s₁.heap c P/\s₁.heap.get? P=some (PySem.W.tabObj #[])) (hnt:PySem.W.noTabs K=true)
  (F:∀base:Heap,K.In base->base.Ns mainGlobals mg->lX P w K mg base CX0 k fa fd [x] (spD K tb 1 φ)) (hbind:∀(s:Shared)(u:Value),BindsTo s fd ⟨[u],[]⟩ [(x,u)])
  (hsp:φ [.ro (ns.map .int)] []=some (.bl true,μ')):
  codeAny (model P w) callerA (.call (.ref fa) ⟨[.ref a],[]⟩) (λr s'=>r= .ok (.ret (.bool true))/\OldK s₁.heap s'.heap/\s'.os=s₁.os/\AllBare s'.gens) s₁:=by
 have rv:=oh hi
 have lenV:=hi.length
 have hat:a∉tb:=λz=>by
  obtain⟨c,_,e⟩:=htb a z
  rw[ha]at e;cases e
 have hKt:∀P∈tb,K.lookup P=none:=λP hP=>by
  cases q:K.lookup P with
  |none=>rfl
  |some o=>
   obtain⟨c,_,e⟩:=htb P hP
   have e2:=KX P o q
   rw[e]at e2
   cases e2
   have h2:=List.all_eq_true.mp hnt (P,_) (PySem.W.mem_of_lookupK q)
   exact absurd (show false=true from h2) Zr
 have core:∀H:Hp,(∀b,H b=none∨(b=a/\∃o xs,H b=some (.frz o (.lst xs)))∨(b∈tb/\H b=some (.tbl #[])))->SqL K H a (ns.map V.int)->HOk P w H s₁.heap->(∀P∈tb,H P=some (.tbl #[]))->(H a≠none->K.lookup a=none)->
   codeAny (model P w) callerA (.call (.ref fa) ⟨[.ref a],[]⟩) (λr s'=>r= .ok (.ret (.bool true))/\OldK s₁.heap s'.heap/\s'.os=s₁.os/\AllBare s'.gens) s₁:=by
  intro H hO hS hok hT hK
  have base_of:∀{b:Addr}{o:Obj},s₁.heap.get? b=some o->H b=none->(uo s₁.heap H).get? b=some o:=λe n=>Ek e n
  have noH:∀{b:Addr}{o:Obj},s₁.heap.get? b=some o->o.cls≠ .type "list"->o.cls≠ .none->H b=none:=λ{b o} e d1 d2=>by
   rcases hO b with z|⟨rfl,_⟩|⟨z,_⟩
   .exact z
   .rw[ha]at e;cases e;exact absurd rfl d1
   .obtain⟨c,_,e2⟩:=htb b z
    rw[e2]at e;cases e;exact absurd rfl d2
  have noA:∀{b:Addr}{o:Obj}{es:Array DictEntry}{ep:Nat},s₁.heap.get? b=some o->o.data= .dict es ep->H b=none:=λ{b o es ep} e d=>by
   rcases hO b with z|⟨rfl,_⟩|⟨z,_⟩
   .exact z
   .rw[ha]at e;cases e;cases d
   .obtain⟨c,_,e2⟩:=htb b z
    rw[e2]at e;cases e;cases d
  have nsK:∀{b:Addr}{m:Str->Option Value},s₁.heap.Ns b m->(uo s₁.heap H).Ns b m:=λ{b m}⟨o,es,ep,e,d,r⟩=>⟨o,es,ep,base_of e (noA e d),d,r⟩
  have hKb:K.In (uo s₁.heap H):=λb o e=>base_of (KX b o e) (by
   rcases hO b with z|⟨rfl,_,_,z⟩|⟨z,_⟩
   .exact z
   .rw[hK (by rw[z];simp)]at e;cases e
   .rw[hKt b z]at e;cases e)
  have hM:Mod K mg (uo s₁.heap H):=⟨hKb,nsK hns,⟨mb,nsK hb,hbb⟩,(let⟨mc,h1,h2⟩:=hlim;⟨mc,nsK h1,h2⟩),(let⟨bm,ob,h1,h2,h3,h4,r⟩:=hbm;⟨bm,ob,h1,h2,base_of h3 (noH h3 (by rw[h4];decide) (by rw[h4];decide)),h4,r⟩)⟩
  have e0:HB P w K mg (uo s₁.heap H) callerA [] s₁ H:=⟨rfl,hM,λb o e=>Ga e,Nat.le_of_eq (Ar _ _),trivial,λb hb=>absurd (show b∈([]:List Addr)from hb) (by simp),hok,.of_eq hg⟩
  have okW:WOk K tb ⟨H,[],[]⟩:=⟨rfl,λi a ds e=>by simp at e,λi j a ds es e=>by simp at e,λP hP=>⟨#[],hT P hP,TOk.nil⟩⟩
  have nlive:∀b,¬kh ([]:List Addr) ([]:Mu) b:=λb ⟨i,ds,e,_⟩=>by simp at e
  have fzA:Wd.fz tb ⟨H,[],[]⟩ a=H a:=my (W:=⟨H,[],[]⟩) (nlive a) hat
  have hden:Den K tb ⟨H,[],[]⟩ (.ro (ns.map .int)) (.ref a):=by
   show bc _ _ _ _ _
   unfold bc
   refine⟨a,_,rfl,?_,yD ns⟩
   rcases hS with(h|⟨o,h⟩)|h
   .exact .inl (.inl (fzA.trans h))
   .exact .inl (.inr ⟨o,fzA.trans h⟩)
   .exact .inr h
  refine codeAny_mono ((F _ hKb (nsK hns)).run callerA [] s₁ H ⟨[.ref a],[]⟩ [.ref a] [.ref a] (λv _=>v= .bl true) (λ_ _ _=>False) hr e0 (hbind s₁ (.ref a)) (.cons rfl .nil)
   ⟨⟨H,[],[]⟩,[.ro (ns.map .int)],_,_,rfl,okW,aC.cons hden aC.nil,rfl,hsp,λv W' _ _ _ dv=>qI dv⟩) λr s' h=>?_
  cases r with
  |error e=>exact False.elim h
  |ok fl=>
   cases fl with
   |next=>exact False.elim h
   |brk=>exact False.elim h
   |cont=>exact False.elim h
   |ret u=>
    obtain⟨v,H',os,bare,un,hok',r',q⟩:=h
    have q':v= .bl true:=q
    subst q'
    obtain rfl:u=Value.bool true:=r'
    have old:∀b o,s₁.heap.get? b=some o->asItWas s₁.heap s'.heap b o/\∃o',s'.heap.get? b=some o':=λb o e=>by
     rcases hO b with z|⟨rfl,ob,xs,z⟩|⟨hb,z⟩
     .have:=un.keep b o e z (by intro z;exact absurd (show b∈([]:List Addr)from z) (by simp)) (by simp)
      exact⟨.inl this,o,this⟩
     .have z2:=un.frzs b ob _ z
      obtain⟨e1,_⟩:=hok b _ z
      obtain⟨e2,_⟩:=hok' b _ z2
      rw[e]at e1;cases e1
      exact⟨.inl e2,_,e2⟩
     .obtain⟨more,z2⟩:=un.tbls b _ z
      have e2:=hok' b _ z2
      obtain⟨c,hd,hp⟩:=htb b hb
      rw[hp]at e;cases e
      have e3:s'.heap.get? b=some { cls:=.none,data:=.fields (#[]++more) }:=e2
      exact⟨.inr (.inl ⟨(hd.tab hp).isCodeTable,rfl,#[],more,rfl,e3⟩),_,e3⟩
    exact⟨rfl,⟨λb o e=>(old b o e).1,λb o e=>(old b o e).2⟩,os,bare.bare⟩
 have tbOk:∀{H:Hp}{b:Addr},b∈tb->gH P w H s₁.heap b (.tbl #[]):=λ{H b} hb=>by
  obtain⟨c,_,e⟩:=htb b hb
  exact e
 classical
 cases hk:K.lookup a with
 |some o=>
  have e:=KX a o hk
  rw[ha]at e
  cases e
  refine core (λb=>if b∈tb then some (.tbl #[])else none) (λb=>?_) (.inr ⟨_,vs.toArray,_,hk,rfl,rfl,rfl,by rw[Zd,lenV];exact hl,by simpa using rv⟩) (λb u z=>?_) (λP hP=>if_pos hP) λz=>absurd (if_neg hat) z
  .by_cases hb:b∈tb
   .exact .inr (.inr ⟨hb,if_pos hb⟩)
   .exact .inl (if_neg hb)
  .by_cases hb:b∈tb
   .have z':=(if_pos hb).symm.trans z
    cases z'
    exact tbOk hb
   .have z':=(if_neg hb).symm.trans z
    cases z'
 |none=>
  refine core (λb=>if b=a then some (.frz { cls:=.type "list",data:=.seq vs.toArray} (.lst (ns.map V.int)))else if b∈tb then some (.tbl #[])else none) (λb=>?_) (.inl (.inr ⟨{ cls:=.type "list",data:=.seq vs.toArray},if_pos rfl⟩)) (λb u z=>?_) (λP hP=>?_) λ_=>hk
  .by_cases hb:b=a
   .exact .inr (.inl ⟨hb,_,_,if_pos hb⟩)
   .by_cases hb':b∈tb
    .exact .inr (.inr ⟨hb',(if_neg hb).trans (if_pos hb')⟩)
    .exact .inl ((if_neg hb).trans (if_neg hb'))
  .by_cases hb:b=a
   .have z':=(if_pos hb).symm.trans z
    cases z'
    subst hb
    exact⟨ha,by rw[Zu];exact hl,vs,_,rv,ha⟩
   .have z1:=(if_neg hb).symm.trans z
    by_cases hb':b∈tb
    .have z':=(if_pos hb').symm.trans z1
     cases z'
     exact tbOk hb'
    .have z':=(if_neg hb').symm.trans z1
     cases z'
  .have hne:P≠a:=λz=>hat (z▸hP)
   exact(if_neg hne).trans (if_pos hP)
theorem Bk{l:PySem.W.OpenLaw}{n k:Nat}{q:Program}{loose:List Str}{XP:(Str->Option Value)->Heap->Prop}{YP:World->Heap->Prop}{d:DefRec}{K:Params->Zw}{x:Str}{φ:FF}
  (hn:l.most=some n) (hn2:n<=sizeLine) (hdf:d.params.defaults=[]) (hr:cO k callerA)
  (hY:∀(w:World)(h:Heap),YP w h->(K w.params).In h)
  (F:∀(w:World)(mg mb:Str->Option Value)(mean:ExcName->Option Value)(lo:List Str)(fa:Addr)(h:Heap),(K w.params).In h->Top q lo mean mg mb h->mg d.name=some (.ref fa)->
   ∃(fd:FuncData)(tb:List Addr),(∀(s:Shared)(u:Value),BindsTo s fd ⟨[u],[]⟩ [(x,u)])/\(∀P∈tb,∃c,ZB h c P/\h.get? P=some (PySem.W.tabObj #[]))/\PySem.W.noTabs (K w.params)=true/\
    ∀base:Heap,(K w.params).In base->base.Ns mainGlobals mg->lX l.prog w (K w.params) mg base CX0 k fa fd [x] (spD (K w.params) tb 1 φ))
  (hsp:∀(ns:List Int),ns.length<=n->∃μ',φ [.ro (ns.map .int)] []=some (.bl true,μ')):
  PySem.W.WalkO q loose XP YP l.row.toRowW d [] (λf vs=>PySem.call f vs):=by
 refine Att.attach_call hn hdf λw s₀ s₁ mg mb fa o pm cd doc a vs ns G Y ho hd hcd hmg hobj hints hlen hg=>?_
 have KX:=hY w _ Y
 obtain⟨fd,tb,hb,htb,hnt,hF⟩:=F w mg mb _ _ fa _ KX G.T hmg
 obtain⟨μ',hs⟩:=hsp ns hlen
 exact Bd KX G.T.g G.T.b G.T.builtins G.T.nolimit G.T.bmain hg hobj hints (Zl hlen hn2) hr htb hnt hF hb hs
section
variable {X:Cx} {tb:List Addr} {e tg iter elt:Expr} {f:EF} {pos:Pos}
theorem yS{fi:IF}{h:GF}{tt:TF}{fe:EF}{own:List Str}{capI ts:List Nat}{σ:SV}{H:Hp}{Q:VK}(hts:∀i∈ts,i<own.length)(hx:tDN X.K tb (lLC own capI fi h tt fe) σ H Q):
  tLC own capI (tDI X.K tb fi) (tDG X.K tb ts h) (tDT X.K tb tt) (tD X.K tb fe) σ H Q:=by
  obtain⟨W,δ,ds,μ',e,ok,hd,hf,k⟩:=hx
  unfold lLC at hf
  obtain⟨⟨S,μ1⟩,e1,e2⟩:=Za.mp hf
  split at e2
  .rename_i hz
   refine⟨W,δ,S,μ1,e,ok,hd,e1,λJ W1 ok1 l1 m1 io=>?_⟩
   refine⟨λi m ys H2=>m=S.items.length-i/\i<=S.items.length/\ys.length<=i/\∃W2 zs rs,W2.H=H2/\WOk X.K tb W2/\Le tb W1 W2/\cG X.K tb W2 zs ys/\lcL S h tt fe (dg own δ capI) (S.items.drop i) W2.mu=some (rs,μ')/\zs++rs=ds,
    ⟨S.items.length,rfl,Nat.zero_le _,Nat.zero_le _,W1,[],ds,rfl,ok1,Le.refl _,aC.nil,by rw[m1];exact e2,rfl⟩,?_⟩
   rintro i m ys H2 ⟨hm,hi',hy,W2,zs,rs,rfl,ok2,l2,d2,hn,hzs⟩
   by_cases hlt:i<S.items.length
   .right
    have hdr:S.items.drop i=S.items[i]::S.items.drop (i+1):=ZJ hlt
    rw[hdr]at hn
    unfold lcL at hn
    split at hn
    .rename_i hok
     obtain⟨δ3,e3,hn⟩:=Za.mp hn
     obtain⟨⟨kk,μ4⟩,e4,hn⟩:=Za.mp hn
     obtain⟨go,yl⟩:=io.go i W2 S.items[i] l2 ok2 hok (by simp[hlt])
     refine⟨go,Zc (Nat.lt_of_le_of_lt hy hlt) hz,λx H' y=>?_⟩
     obtain⟨W3,rfl,ok3,l3,m3,d3⟩:=yl x H' y
     refine⟨W3,dg own δ capI,S.items[i],δ3,rfl,ok3,(pL hd).mono' ((l1.trans l2).trans l3),d3,(by rw[m3];exact e3),λσ3 d3' hl3 ht3=>⟨fits_of hts hl3 ht3,?_⟩⟩
     refine⟨W3,δ3,kk,μ4,rfl,ok3,d3',(by rw[m3];exact e4),λW4 ok4 l4 m4=>?_⟩
     cases kk with
     |false=>
      rw[if_neg Zr]
      exact⟨S.items.length-(i+1),by omega,rfl,hlt,by omega,W4,zs,rs,rfl,ok4,(l2.trans l3).trans l4,cG.mono' d2 (l3.trans l4),by rw[m4];exact hn,hzs⟩
     |true=>
      rw[if_pos rfl]
      have hn':((fe δ3 μ4).bind λy=>(lcL S h tt fe (dg own δ capI) (S.items.drop (i+1)) y.2).bind λys=>some (y.1::ys.1,ys.2))=some (rs,μ'):=hn
      obtain⟨⟨yd,μ5⟩,e5,hn'⟩:=Za.mp hn'
      obtain⟨⟨rs',μ6⟩,e6,e7⟩:=Za.mp hn'
      cases e7
      refine⟨W4,δ3,yd,μ5,rfl,ok4,d3'.mono' l4,(by rw[m4];exact e5),λv W5 ok5 l5 m5 d5=>?_⟩
      refine⟨S.items.length-(i+1),by omega,rfl,hlt,by rw[ZG];simp;omega,W5,zs++[yd],rs',rfl,ok5,((l2.trans l3).trans l4).trans l5,aC.append (cG.mono' d2 ((l3.trans l4).trans l5)) (aC.cons d5 aC.nil),by rw[m5];exact e6,by rw[List.append_assoc];exact hzs⟩
    .cases hn
   .left
    have hdr:S.items.drop i=[]:=List.drop_of_length_le (by omega)
    rw[hdr]at hn
    unfold lcL at hn
    split at hn
    .rename_i hok
     cases hn
     rw[List.append_nil]at hzs
     subst hzs
     exact⟨io.stop i W2 l2 ok2 hok (by omega),λl hl=>k l ys W2 ok2 (l1.trans l2) rfl hl d2⟩
    .cases hn
  .cases e2
theorem Gb{i:Nat}{x:Str}{px spos:Pos}{ifs:List Expr}{fi:IF}{h:GF}{tt:TF}{fe:EF}{own cap:List Str}{capI ts:List Nat}{scope:Scope}(hN:X.N.Nodup)(hc:X.calm=true)(B:cH X own cap capI scope)(hown:∀x∈own,(x,NameKind.free)∉scope.names)(hi:PID X tb tg iter fi)
  (hg:∀cs C fp s2 H2,PGD (cL X own cap scope cs C fp s2 H2) tb tg ts h) (ht:∀cs C fp s2 H2,vo (cL X own cap scope cs C fp s2 H2) tb ifs tt) (he:∀cs C fp s2 H2,PD (cL X own cap scope cs C fp s2 H2) tb elt fe)
  (hts:∀i∈ts,i<own.length:=by decide) (hs:∀x,foldedSetIterable iter X.env x=pure x:=by intro _;rfl) (hi₀:X.N[i]? =some x:=by rfl) (hx₀:Loc X.env.scope x:=by first|exact Or.inl rfl|exact Or.inr rfl)
  (hsw:swapsWith (.ListComp elt [⟨tg,iter,ifs,0⟩] scope pos) (some (.Name x px)) spos.line X.env=pure true:=by rfl)
  (hf₀:X.fn x=true∨X.env.scope.names.lookup x=some .local:=by first|exact .inl rfl|exact .inr rfl|assumption):
  PSD X tb (.Assign [.Name x px] (.ListComp elt [⟨tg,iter,ifs,0⟩] scope pos) spos) (aR i (mFz (lLC own capI fi h tt fe))):=
 kJ (Jb (g:=tDG X.K tb ts h) (tt:=tDT X.K tb tt) (te:=tD X.K tb fe) hN hi₀ hx₀ hc B hown hi hg ht he hs hsw hf₀) λE σ H zq1=>by
  obtain⟨W,δ,fl,δ',μ',e,ok,hd,hf,k⟩:=zq1
  unfold aR at hf
  obtain⟨⟨d,μ1⟩,e1,e2⟩:=Za.mp hf
  cases e2
  unfold mFz at e1
  obtain⟨⟨ds,μ2⟩,e3,e4⟩:=Za.mp e1
  cases e4
  refine yS hts ⟨W,δ,ds,_,e,ok,hd,e3,λp vs W1 ok1 l1 m1 hp r=>?_⟩
  exact iH (Q:=λv H=>E.nx (σ.set i (some v)) H) ok1 (λv W' ok' l' m' d'=>k _ W' ok' (l1.trans l') (m'.trans m1) ((hd.mono' (l1.trans l')).set d')) r hp
theorem Gg{i:Nat}{x:Str}{px spos:Pos}{ifs:List Expr}{fi:IF}{h:GF}{tt:TF}{fe:EF}{own cap:List Str}{capI ts:List Nat}{scope:Scope}(hN:X.N.Nodup)(hc:X.calm=true)(B:cH X own cap capI scope)(hown:∀x∈own,(x,NameKind.free)∉scope.names)(hi:PID X tb tg iter fi)
  (hg:∀cs C fp s2 H2,PGD (cL X own cap scope cs C fp s2 H2) tb tg ts h) (ht:∀cs C fp s2 H2,vo (cL X own cap scope cs C fp s2 H2) tb ifs tt) (he:∀cs C fp s2 H2,PD (cL X own cap scope cs C fp s2 H2) tb elt fe)
  (hts:∀i∈ts,i<own.length:=by decide) (hs:∀x,foldedSetIterable iter X.env x=pure x:=by intro _;rfl) (hi₀:X.N[i]? =some x:=by rfl) (hx₀:Loc X.env.scope x:=by first|exact Or.inl rfl|exact Or.inr rfl)
  (hsw:swapsWith (.ListComp elt [⟨tg,iter,ifs,0⟩] scope pos) (some (.Name x px)) spos.line X.env=pure true:=by rfl)
  (hf₀:X.fn x=true∨X.env.scope.names.lookup x=some .local:=by first|exact .inl rfl|exact .inr rfl|assumption):
  PSD X tb (.Assign [.Name x px] (.ListComp elt [⟨tg,iter,ifs,0⟩] scope pos) spos) (aR i (iw (lLC own capI fi h tt fe))):=
 kJ (Jb (g:=tDG X.K tb ts h) (tt:=tDT X.K tb tt) (te:=tD X.K tb fe) hN hi₀ hx₀ hc B hown hi hg ht he hs hsw hf₀) λE σ H zq2=>by
  obtain⟨W,δ,fl,δ',μ',e,ok,hd,hf,k⟩:=zq2
  unfold aR at hf
  obtain⟨⟨d,μ1⟩,e1,e2⟩:=Za.mp hf
  cases e2
  unfold iw at e1
  obtain⟨⟨ds,μ2⟩,e3,e4⟩:=Za.mp e1
  cases e4
  refine yS hts ⟨W,δ,ds,μ2,e,ok,hd,e3,λp vs W1 ok1 l1 m1 hp r=>?_⟩
  obtain⟨ok2,l2,d2⟩:=ok1.new hp r
  exact k _ _ ok2 (l1.trans l2) (by show W1.mu++[some ds]=_;rw[m1]) ((hd.mono' (l1.trans l2)).set (by rw[<-m1];exact d2))
end
theorem Iw{P:Program}{w:World}{K:Zw}{mg:Str->Option Value}{base:Heap}{tb:List Addr}{x qual:Str}{st:Stmt}{f:Addr}{fd:FuncData}{T:Addr}{ps:List Str}{n:Nat}(F:zJ K x qual st f fd T)(hmg:mg x=some (.ref f))(hps:ps.length=n)
  (hb:∀(kV doc pm:Value)(an:Option Addr)(cdv ct:Value)(us:List Value),us.length=ps.length->bindArgs (PySem.W.fnOf x qual (iz st) (fu st) (bV st) .none kV doc pm an cdv ct) ⟨us,[]⟩=pure (ps.zip us)):FI P w K mg base tb x n 0 (λ_ _=>none):=by
 obtain⟨oc,od,kV,doc,pm,an,c,ct,osl,rfl,lk,hcd,hhd⟩:=F.ex
 refine⟨f,_,ps,⟨λvs H Q E ⟨W,ds,d,μ',e,ok,dl,hl,hf,_⟩=>(by cases hf),λA outer s H args us vs Q E hr e0 hb r ⟨W,ds,d,μ',e,ok,dl,hl,hf,_⟩=>(by cases hf)⟩,hmg,F.kp,.all (hb kV doc pm an (.ref c) ct)⟩
theorem Ia{P:Program}{w:World}{K:Zw}{mg:Str->Option Value}{base:Heap}{tb:List Addr}{x qual:Str}{st:Stmt}{f:Addr}{fd:FuncData}{T:Addr}{N ps:List Str}{n k:Nat}{g:SF}(F:zJ K x qual st f fd T)(KB:K.In base)(S:lL N ps (bV st))(hps:ps.length=n)
  (hbody:∀(c:Addr)(A:Around)(outer:List Env)(s:Shared)(H:Hp)(E:XK),ZB base c T->cO k (A.deeper (envOfC qual (bV st) s.heap.objs.size f (.ref c)))->
   pD (vI CX0 P w K mg base N qual (bV st) f (.ref c) A outer s H E).nox tb (fu st) g):lX P w K mg base CX0 (k+1) f fd ps (spD K tb n (aL N.length g)):=by
 obtain⟨oc,od,kV,doc,pm,an,c,ct,osl,rfl,lk,hcd,hhd⟩:=F.ex
 refine Je lk hcd S (λvs H Q E ⟨W,ds,d,μ',e,ok,dl,hl,_,_⟩=>by rw[<-aC.length dl,hl,hps]) λA outer s H vs Q E hr hsp=>?_
 obtain⟨W,ds,d,μ',e,ok,dl,hl,hf,k⟩:=hsp
 refine⟨_,(hbody c A outer s H E (hhd base KB) hr).nox,?_⟩
 unfold aL at hf
 obtain⟨⟨fl,δ',μ1⟩,e1,e2⟩:=Za.mp hf
 refine⟨W,_,fl,δ',μ1,e,ok,?_,e1,λσ' W' ok' l' m' d'=>?_⟩
 .have hlen:=aC.length dl
  refine⟨by unfold L2.start;simp[hlen],λi y q=>?_⟩
  unfold L2.start
  by_cases hi:i<ds.length
  .rw[Zs (by simpa using hi),List.getElem?_map]at q
   cases q2:ds[i]? with
   |none=>rw[q2]at q;cases q
   |some z=>
    rw[q2]at q
    cases q
    obtain⟨v,ev,dv⟩:=aC.get dl q2
    exact⟨v,by rw[Zs (by rw[Zu,<-hlen];exact hi),List.getElem?_map,ev];rfl,dv⟩
  .rw[List.getElem?_append_right (by simpa using hi),List.getElem?_replicate]at q
   split at q<;>cases q
 .cases fl with
  |nx=>cases e2;exact k .non W' ok' l' m' pK
  |rt d0=>cases e2;exactλv dv=>k v W' ok' l' m' dv
  |bk=>cases e2
  |ct=>cases e2
def um(vs:Array Value):Bool:=(match vs.getD 18 .none with| .str _ _=>true|_=>false)&&(match vs.getD 7 .none with| .int _ _=>true|_=>false)&&
 (match vs.getD 9 .none with| .bool _=>true|_=>false)&&(match vs.getD 10 .none with| .int _ _=>true|_=>false)
theorem zZ{K:Zw}{c P:Addr}{dd:Option Addr}{vs:Array Value}{sl:Array (Option Value)}(lc:K.lookup c=some ⟨.type "code",dd,.fields vs,sl⟩)(p:vs[11]? =some (.ref P))(q:um vs=true)(ne:(c != P)=true):PySem.W.codeHdIn K c P=true:=by
 unfold PySem.W.codeHdIn
 rw[lc]
 unfold um at q
 simp only[Zo]at q ⊢
 obtain⟨⟨⟨q1,q2⟩,q3⟩,q4⟩:=q
 refine⟨⟨⟨⟨⟨?_,q1⟩,q2⟩,q3⟩,q4⟩,ne⟩
 rw[p]
 exact beq_self_eq_true P
theorem Ij{K:Zw}{x qual:Str}{st:Stmt}{f c P:Addr}{oc:Value}{od an:Option Addr}{osl:Array (Option Value)}{kV doc pm ct:Value}{dd:Option Addr}{vs:Array Value}{sl:Array (Option Value)}
  (l:K.lookup f=some ⟨oc,od,.func (PySem.W.fnOf x qual (iz st) (fu st) (bV st) .none kV doc pm an (.ref c) ct),osl⟩) (hc:PySem.W.codeIn K (.ref c) qual=true) (k:PySem.W.keepIn K (.ref f)=true)
  (lc:K.lookup c=some ⟨.type "code",dd,.fields vs,sl⟩) (p:vs[11]? =some (.ref P)) (q:um vs=true) (ne:(c != P)=true):zJ K x qual st f (PySem.W.fnOf x qual (iz st) (fu st) (bV st) .none kV doc pm an (.ref c) ct) P:=
 ⟨⟨oc,od,kV,doc,pm,an,c,ct,osl,rfl,l,hc,λh X=>PySem.W.codeHd_of_K X (zZ lc p q ne)⟩,k⟩
theorem JH{K:Zw}{x:Str}{f c P:Addr}{oc oc':Value}{od dd:Option Addr}{fd:FuncData}{osl sl:Array (Option Value)}{vs:Array Value}(a:PySem.W.nsIn K mainGlobals x=some (some (.ref f)))(l:K.lookup f=some ⟨oc,od,.func fd,osl⟩)(hc:fd.code= .ref c)
  (lc:K.lookup c=some ⟨oc',dd,.fields vs,sl⟩) (p:vs[11]? =some (.ref P)):PySem.W.tabIn K x=some (c,P):=by
 unfold PySem.W.tabIn
 rw[a]
 simp only[l,hc,lc,p]
theorem Cu{q:Program}{lo:List Str}{mean:ExcName->Option Value}{mg mb:Str->Option Value}{h:Heap}{K:Zw}{x:Str}{c P:Addr}(T:Top q lo mean mg mb h)(X:K.In h)(hr:((recsOf q).find? (λe=>e.name==x)).isSome=true)(ht:PySem.W.tabIn K x=some (c,P)):ZB h c P/\h.get? P=some (PySem.W.tabObj #[]):=by
 obtain⟨d,hd⟩:=Option.isSome_iff_exists.mp hr
 exact PySem.W.tab_of T X hd ht
end L3
namespace L2
open PySem PySem.Spec PyProof.Rows HT
section
variable {prog:Program} {w:World} {A:Around} {E:Value->Shared->Prop} {s:Shared}
theorem lY{t sl:Addr}{items:Array Value}{vl vu:Value}{lo hi:Option Int}{Q:Value->Shared->Prop}(ht:IsTup s.heap t items)(hs:s.heap.IsSliceOf sl vl vu .none)(pl:IsPart vl lo)(pu:IsPart vu hi)
  (hw:sIx items.size 0 lo=0/\sIx items.size items.size hi=items.size) (h:Q (.ref t) s):wpAny (model prog w) A (getItem (.ref t) (.ref sl)) Q E s:=by
 obtain⟨os,hos,hcs,hds⟩:=id hs
 have hTs:s.TypeIs (.ref sl) "slice":=⟨os,hos,hcs⟩
 unfold getItem
 try with_reducible refine wpAny_holding ?_
 first|refine Zv (Zx ?_)|skip
 refine Zv (wpAny_sequenceKey ht.typeIs (by decide) ?_)
 refine Zv (wpAny_callSpecial?_slot (name:=Str.ofString "__getitem__") ht.typeIs PyProof.Rows.slot_tuple_getitem
  (wpAny_call_entry PyProof.Rows.slot_tuple_getitem ht.typeIs entry_tuple_getitem ?_ (args_tuple_getitem _ _)))
 show wpAny _ _ (Builtin.Tuple.tupleItemsOf (.ref t) >>= _) _ _ s
 refine Zv (tupleItemsOf_ ht ?_)
 refine Zv (wpAny_typeOf hTs ?_)
 rw[if_pos (by decide)]
 refine Zv (ju hs pl pu ?_)
 have hyes:(((sIx items.size 0 lo:Nat):Int)==0&&(1:Int)==1&&(sIx items.size items.size hi-sIx items.size 0 lo)==items.size)=true:=by
  rw[hw.1,hw.2]
  simp
 show wpAny _ _ (if(((sIx items.size 0 lo:Nat):Int)==0&&(1:Int)==1&&(sIx items.size items.size hi-sIx items.size 0 lo)==items.size)=true then _ else _) _ _ s
 rw[if_pos hyes]
 refine Zv (m:=Builtin.Tuple.tupleIsExact (.ref t)) (Zv (wpAny_typeOf ht.typeIs (Zx ?_)))
 rw[if_pos (by decide)]
 refine Zv (wpAny_rule ?_)
 first
  |exact Zx ⟨_,rfl,Zx h⟩
  |exact Zv (Zx (Zx ⟨_,rfl,Zx h⟩))
  |exact Zx (Zx h)
end
section
variable {X:Cx}
def rSlW(K:Zw):V->Option Int->Option Int->Hp->VK->Prop:=λx lo hi H Q=>∃a xs,x= .ref a/\SqT K H a xs/\
 (HT.sIx xs.length 0 lo=0/\HT.sIx xs.length xs.length hi=xs.length)/\Q (.ref a) H
theorem Hv:SlR X (rSlW X.K):=by
 intro pins s σ H x v vl vu lo hi sl Q I rx hs pl pu h
 obtain⟨a,xs,rfl,hx,hw,q⟩:=h
 cases rx
 obtain⟨its,r,ht,hz⟩:=I.tuple hx
 have hlen:its.toArray.size=xs.length:=by rw[Zd];exact r.length.symm
 refine⟨"tuple",_,PyProof.Rows.slot_tuple_getitem.lookup,ht.typeIs,?_⟩
 exact lY ht hs pl pu (by rw[hlen];exact hw) ⟨.ref a,H,I,rfl,q⟩
end
end L2
namespace L3
open PySem PySem.Spec PyProof.Rows L2
abbrev PF:=En->Mu->Option (Option Int×Mu)
inductive tDO(K:Zw)(tb:List Addr)(f:PF)(σ:SV)(H:Hp)(Q:Option Int->Hp->Prop):Prop
 |mk (W) (δ) (i) (μ'):(W.H=H)->(WOk K tb W)->(iy K tb W δ σ)->(f δ W.mu=some (i,μ'))->(∀W',WOk K tb W'->Le tb W W'->W'.mu=μ'->Q i W'.H)->tDO K tb f σ H Q
def POD(X:Cx)(tb:List Addr)(e:Option Expr)(f:PF):Prop:=PO X e (tDO X.K tb f)
theorem IV{X:Cx}{e:Option Expr}{t t':TO}(h:PO X e t)(k:∀σ H Q,t' σ H Q->t σ H Q):PO X e t':=λpins s σ H Q I hq=>h pins s σ H Q I (k σ H Q hq)
def fNo:PF:=λ_ μ=>some (none,μ)
def fAt(f:EF):PF:=λδ μ=>(f δ μ).bind λr=>match r.1 with
 | .int i=>some (some i,r.2)
 |_=>none
def gF(ds:List D)(lo hi:Option Int):List D:=(ds.drop (HT.sIx ds.length 0 lo)).take (HT.sIx ds.length ds.length hi-HT.sIx ds.length 0 lo)
def oSl(x:D)(lo hi:Option Int)(μ:Mu):Option (D×Mu):=match x with
 | .tup ds=>some (.tup (gF ds lo hi),μ)
 | .lst ds=>some (.lst (gF ds lo hi),μ)
 | .ro ds=>some (.lst (gF ds lo hi),μ)
 | .cell n=>match μ[n]? with
  |some (some ds)=>some (.lst (gF ds lo hi),μ)
  |_=>none
 |_=>none
def mSl(f:EF)(fl fh:PF):EF:=λδ μ=>(f δ μ).bind λr=>(fl δ r.2).bind λl=>(fh δ l.2).bind λu=>oSl r.1 l.1 u.1 u.2
section
variable {X:Cx} {tb:List Addr} {e:Expr} {lo hi:Option Expr} {f:EF} {fl fh:PF} {pos p2:Pos}
theorem dY:POD X tb none fNo:=IV GD λσ H Q zq1=>by
 obtain⟨W,δ,i,μ',e,ok,hd,hf,h⟩:=zq1
 subst e;cases hf
 exact h W ok (Le.refl _) rfl
theorem eN(h:PD X tb e f):POD X tb (some e) (fAt f):=IV (HY h) λσ H Q zq2=>by
 obtain⟨W,δ,i,μ',e,ok,hd,hf,h⟩:=zq2
 unfold fAt at hf
 obtain⟨⟨x,μ1⟩,e1,e2⟩:=Za.mp hf
 cases x with
 |int j=>
  cases e2
  exact⟨W,δ,_,_,e,ok,hd,e1,λv W1 ok1 l1 m1 d1=>⟨j,bz d1,h W1 ok1 l1 m1⟩⟩
 |_=>cases e2
theorem lK{K:Zw}{W:Wd}{ds:List D}{vs:List V}{l h:Option Int}(r:cG K tb W ds vs):cG K tb W (gF ds l h) (vJ vs l h):=by
 unfold gF vJ
 rw[<-aC.length r]
 exact aC.take _ (aC.drop _ r)
theorem fM(he:PD X tb e f)(hl:POD X tb lo fl)(hh:POD X tb hi fh):PD X tb (.Subscript e (.Slice lo hi none p2) pos) (mSl f fl fh):=
 dG (wK (Mm.or (Hv.or yz)) he hl hh) λσ H Q zq3=>by
  obtain⟨W,δ,d,μ',e,ok,hd,hf,h⟩:=zq3
  unfold mSl at hf
  obtain⟨⟨x,μ1⟩,e1,hf⟩:=Za.mp hf
  obtain⟨⟨l,μ2⟩,e2,hf⟩:=Za.mp hf
  obtain⟨⟨u,μ3⟩,e3,hf⟩:=Za.mp hf
  refine⟨W,δ,x,μ1,e,ok,hd,e1,λv W1 ok1 l1 m1 d1=>⟨W1,δ,l,μ2,rfl,ok1,hd.mono' l1,(by rw[m1];exact e2),λW2 ok2 l2 m2=>⟨W2,δ,u,μ3,rfl,ok2,hd.mono' (l1.trans l2),(by rw[m2];exact e3),λW3 ok3 l3 m3=>?_⟩⟩⟩
  have d3:=Den.mono' d1 (l2.trans l3)
  have k:∀v W',WOk X.K tb W'->Le tb W3 W'->W'.mu=W3.mu->Den X.K tb W' d v->W3.mu=μ'->Q v W'.H:=λv W' ok' l' m' d' q=>h v W' ok' (((l1.trans l2).trans l3).trans l') (m'.trans q) d'
  cases x with
  |tup ds=>
   obtain⟨a,xs,rfl,q,r⟩:=gO d3
   cases hf
   by_cases hw:HT.sIx ds.length 0 l=0/\HT.sIx ds.length ds.length u=ds.length
   .have e:gF ds l u=ds:=by unfold gF;rw[hw.1,hw.2];simp
    exact .inr (.inl ⟨a,xs,rfl,SqT.fz q,by rw[<-aC.length r];exact hw,k (.ref a) W3 ok3 (Le.refl _) rfl (by rw[e];exact d3) m3⟩)
   .exact .inl ⟨a,xs,rfl,SqT.fz q,by rw[<-aC.length r];exact hw,λp hp=>lJ ok3 (λv W' ok' l' m' d'=>k v W' ok' l' m' d' m3) (lK r) hp⟩
  |lst ds=>
   obtain⟨a,xs,rfl,q,r⟩:=jl d3
   cases hf
   exact .inr (.inr ⟨a,xs,rfl,SqL.fz q,λp hp=>iH ok3 (λv W' ok' l' m' d'=>k v W' ok' l' m' d' m3) (lK r) hp⟩)
  |ro ds=>
   obtain⟨a,xs,rfl,q,r⟩:=sH d3
   cases hf
   exact .inr (.inr ⟨a,xs,rfl,SqL.fz q,λp hp=>iH ok3 (λv W' ok' l' m' d'=>k v W' ok' l' m' d' m3) (lK r) hp⟩)
  |cell n=>
   obtain⟨a,rfl,q⟩:=gD d3
   have hf:(match μ3[n]? with|some (some ds)=>some (D.lst (gF ds l u),μ3)|_=>none)=some (d,μ'):=hf
   cases e4:μ3[n]? with
   |none=>rw[e4]at hf;cases hf
   |some o=>
    rw[e4]at hf
    cases o with
    |none=>cases hf
    |some ds=>
     cases hf
     obtain⟨xs,ex,r⟩:=ok3.cont n a ds q (by rw[m3];exact e4)
     exact .inr (.inr ⟨a,xs,rfl,SqL.of ex,λp hp=>iH ok3 (λv W' ok' l' m' d'=>k v W' ok' l' m' d' m3) (lK r) hp⟩)
  |_=>cases hf
end
theorem Af{zs:List V}{ws:List Value}(r:aY zs ws):∀(π:List Nat),aY (π.map λi=>zs.getD i .non) (π.map λi=>ws.getD i .none)
 | []=>.nil
 |i::π=>by
  refine .cons ?_ (Af r π)
  show L2.bY (zs.getD i V.non) (ws.getD i Value.none)
  cases e:zs[i]? with
  |none=>
   have e2:=aY.none_of r e
   rw[List.getD_eq_getElem?_getD,List.getD_eq_getElem?_getD,e,e2]
   rfl
  |some v=>
   obtain⟨u,e2,rv⟩:=aY.get r e
   rw[List.getD_eq_getElem?_getD,List.getD_eq_getElem?_getD,e,e2]
   exact rv
theorem qp{K:Zw}{tb:List Addr}{W:Wd}{ds:List D}{vs:List V}(r:cG K tb W ds vs):∀(π:List Nat),cG K tb W (π.map λi=>ds.getD i .non) (π.map λi=>vs.getD i .non)
 | []=>aC.nil
 |i::π=>by
  refine aC.cons ?_ (qp r π)
  show bc K (Wd.fz tb W) W.ad (ds.getD i D.non) (vs.getD i V.non)
  have hl:=aC.length r
  cases e:ds[i]? with
  |none=>
   have e2:vs[i]? =none:=by
    rw[List.getElem?_eq_none_iff]at e ⊢
    omega
   rw[List.getD_eq_getElem?_getD,List.getD_eq_getElem?_getD,e,e2]
   exact pK
  |some v=>
   obtain⟨u,e2,rv⟩:=aC.get r e
   rw[List.getD_eq_getElem?_getD,List.getD_eq_getElem?_getD,e,e2]
   exact rv
section
variable {X:Cx} {tb:List Addr} {e:Expr} {es:List Expr} {f:EF} {fs fk:AF} {x:Str} {n k:Nat} {φ:FF} {p pos kpos:Pos} {kws:List Keyword} {ks:List Str} {π:List Nat} {nm:Option Str}
def MK(fs fk:AF)(π:List Nat)(φ:FF):EF:=λδ μ=>(fs δ μ).bind λr=>(fk δ r.2).bind λq=>φ (r.1++π.map λi=>q.1.getD i .non) q.2
end
theorem zW{X:Cx}:gG X (.type "range") (λxs H Q=>∃j,xs=[.int j]/\∀p,H p=none->Q (.ref p) (upd H p (.rng 0 j))):=by
 intro pins s σ H xs us Q I r h
 obtain⟨j,rfl,q⟩:=h
 obtain⟨u,rfl,⟨t,rfl⟩⟩:=vals1 r
 exact call_range_1 ⟨.ref s.heap.objs.size,_,I.laid (a:=s.heap.objs.size) (o:=.rng 0 j) (λb o e=>Zb _ e) (Zg _) ⟨_,_,_,Zf _ rfl⟩,rfl,q _ (I.hok.fresh (Zg _))⟩
def DN(lo:Int)(n:Nat):List V:=(List.range n).map λ(k:Nat)=>V.int (lo+(k:Int))
theorem rM{lo:Int}:∀{acc:List Value}{n k:Nat},acc.length=n->(∀j v,acc[j]? =some v->∃t,v=Value.int (lo+((k+j:Nat):Int)) t)->aY ((List.range' k n).map λ(i:Nat)=>V.int (lo+(i:Int))) acc
 | [],n,k,e,_=>by cases e;exact .nil
 |v::r,n,k,e,h=>by
  cases e
  rw[ZH,List.range'_succ,Zj]
  refine .cons ?_ (rM rfl λj u hu=>?_)
  .obtain⟨t,q⟩:=h 0 v rfl
   exact⟨t,by simpa using q⟩
  .obtain⟨t,q⟩:=h (j+1) u hu
   exact⟨t,by rw[q];congr 2;omega⟩
theorem rE{X:Cx}(hc:X.calm=true):gG X (.type "list") (λxs H Q=>∃p i j,xs=[.ref p]/\H p=some (.rng i j)/\(-(2 ^ 62)<=i/\i<2 ^ 62/\ -(2 ^ 62)<=j/\j<2 ^ 62)/\(j-i).toNat<=sizeLine/\∀l,H l=none->Q (.ref l) (upd H l (.lst (DN i (j-i).toNat)))):=by
 intro pins s σ H xs us Q I r h
 obtain⟨p,i,j,rfl,hp,⟨h1,h2,h3,h4⟩,hz,q⟩:=h
 obtain⟨u,rfl,rx⟩:=vals1 r
 cases rx
 obtain⟨t,u,v,ho⟩:=I.hok p _ hp
 have hn:Builtin.Range.rangeSize i j 1=((j-i).toNat:Nat):=by rw[rangeSize_one];split<;>omega
 refine call_list_range (I.ok.hd hc) ho (small_one h1 h2 h3 h4) hn (by rw[sizeLine_eq]at hz;omega) λh' tk acc' c' kp e it=>?_
 obtain⟨e1,e2⟩:=it
 have hv:aY (DN i (j-i).toNat) acc'.toList:=by
  unfold DN
  rw[List.range_eq_range']
  refine rM (by simpa using e1) λk v hk=>?_
  obtain⟨t,q⟩:=e2 k v (by simpa using hk)
  exact⟨t,by rw[q];congr 1;first|done|omega⟩
 exact⟨.ref s.heap.objs.size,_,I.laid (t':=tk) kp (Zg _) (show gH X.prog X.w _ h' _ (.lst _)from⟨by rw[hv.length];simpa[e1]using hz,acc'.toList,c',hv,by rw[Array.toArray_toList];exact e⟩),rfl,q _ (I.hok.fresh (Zg _))⟩
def yU(fs:AF):LF:=λδ μ=>(fs δ μ).bind λr=>match r.1 with
 | [.int j]=>if -(2 ^ 62)<=j/\j<2 ^ 62/\j.toNat<=sizeLine then some (cu 0 j.toNat,r.2)else none
 |_=>none
theorem yE{K:Zw}{F:Hp}{ad:List Addr}{lo:Int}:∀(l:List Nat),aC K F ad (l.map λ(k:Nat)=>D.int (lo+(k:Int))) (l.map λ(k:Nat)=>V.int (lo+(k:Int)))
 | []=>aC.nil
 |k::l=>aC.cons (by unfold bc;rfl) (yE l)
section
variable {X:Cx} {tb:List Addr} {a b:Expr} {fs:AF} {p p2 pos pos2:Pos}
theorem BJ(hc:X.calm=true)(hm:X.mg "list"=none)(hm2:X.mg "range"=none)(ha:PAD X tb [a] fs)(hg:Gl X "list":=by rfl)(hg2:Gl X "range":=by rfl)(he:starEach [a] X.env=(false,eval a X.env)::starEach [] X.env:=by rfl)
  (he2:starEach [.Call (.Name "range" p2) [a] [] pos2] X.env=(false,eval (.Call (.Name "range" p2) [a] [] pos2) X.env)::starEach [] X.env:=by rfl):
  PDN X tb (.Call (.Name "list" p) [.Call (.Name "range" p2) [a] [] pos2] [] pos) (yU fs):=
 dG (oR (rE hc) hg hm PyProof.Rows.boot_list (nM (oR zW hg2 hm2 PyProof.Rows.boot_range ha (by decide) (by decide) he (by rfl)) uy he2) (by decide) (by decide) he2 (by rfl)) λσ H Q zq3=>by
  obtain⟨W,δ,ds,μ',e,ok,hd,hf,k⟩:=zq3
  unfold yU at hf
  obtain⟨⟨xs,μ1⟩,e1,e2⟩:=Za.mp hf
  match xs,e1,e2 with
  | [.int j],e1,e2=>
   have e2':(if -(2 ^ 62)<=j/\j<2 ^ 62/\j.toNat<=sizeLine then some (cu 0 j.toNat,μ1)else none)=some (ds,μ'):=e2
   split at e2'
   .rename_i hj
    cases e2'
    refine⟨W,δ,[.int j],_,e,ok,hd,e1,λvs W1 ok1 l1 m1 d1=>?_⟩
    obtain⟨v,rfl,dv⟩:=aC.one d1
    rw[bz dv]
    refine⟨j,rfl,λq hq=>?_⟩
    obtain⟨ok2,l2,eq⟩:=ok1.alloc (o:=.rng 0 j) hq
    refine⟨q,0,j,rfl,cW,⟨by omega,by omega,by omega,by omega⟩,by simpa using hj.2.2,λl hl=>?_⟩
    have:=k l (DN 0 (j-0).toNat) _ ok2 (l1.trans l2) m1 hl (by simpa[cu,DN]using yE (List.range j.toNat) (lo:=0))
    exact this
   .cases e2'
end
def nJ(f:EF):EF:=λδ μ=>(f δ μ).bind λr=>match r.1 with
 | .cell n=>(r.2.getD n none).map λds=>(.lst ds,r.2.set n none)
 |d=>some (d,r.2)
theorem kj{X:Cx}{tb:List Addr}{e:Expr}{f:EF}(h:PD X tb e f):PD X tb e (nJ f):=
 dG h λσ H Q zq1=>by
  obtain⟨W,δ,d,μ',e,ok,hd,hf,k⟩:=zq1
  unfold nJ at hf
  obtain⟨⟨x,μ1⟩,e1,e2⟩:=Za.mp hf
  refine⟨W,δ,x,μ1,e,ok,hd,e1,λv W1 ok1 l1 m1 d1=>?_⟩
  cases x with
  |cell n=>
   obtain⟨ds,e3,e4⟩:=Zp.mp e2
   cases e4
   obtain⟨a,rfl,ea⟩:=gD d1
   have em:W1.mu[n]? =some (some ds):=by
    rw[m1]
    rw[List.getD_eq_getElem?_getD]at e3
    cases q:μ1[n]? with
    |none=>rw[q]at e3;cases e3
    |some z=>rw[q]at e3;exact congrArg some e3
   obtain⟨ok2,l2,d2⟩:=ok1.freeze ea em
   exact k _ ⟨W1.H,W1.ad,W1.mu.set n none⟩ ok2 (l1.trans l2) (by show W1.mu.set n none=_;rw[m1]) d2
  |_=>cases e2;exact k v W1 ok1 l1 m1 d1
mutual
def cLt(m:Nat):D->Bool
 | .tup ds=>jY m ds
 | .lst ds=>jY m ds
 | .ro ds=>jY m ds
 | .dic kvs=>uY m kvs
 | .cell n=>decide (n<m)
 |_=>true
def jY(m:Nat):List D->Bool
 | []=>true
 |d::ds=>cLt m d&&jY m ds
def uY(m:Nat):List (Key×D)->Bool
 | []=>true
 |p::ds=>cLt m p.2&&uY m ds
end
section
variable {K:Zw} {F F':Hp} {ad:List Addr} {m:Nat}
mutual
theorem bc.cut(s:jW F F'):∀(d:D)(v:V),cLt m d=true->bc K F ad d v->bc K F' (ad.take m) d v
 | .non,v,_,h=>by unfold bc at h ⊢;exact h
 | .bl _,v,_,h=>by unfold bc at h ⊢;exact h
 | .int _,v,_,h=>by unfold bc at h ⊢;exact h
 | .str _,v,_,h=>by unfold bc at h ⊢;exact h
 | .tup ds,v,c,h=>by
  unfold bc at h ⊢;unfold cLt at c
  obtain⟨a,xs,e,q,r⟩:=h
  exact⟨a,xs,e,SqT.mono s q,aC.cut s ds xs c r⟩
 | .lst ds,v,c,h=>by
  unfold bc at h ⊢;unfold cLt at c
  obtain⟨a,xs,e,q,r⟩:=h
  exact⟨a,xs,e,s _ _ q,aC.cut s ds xs c r⟩
 | .ro ds,v,c,h=>by
  unfold bc at h ⊢;unfold cLt at c
  obtain⟨a,xs,e,q,r⟩:=h
  exact⟨a,xs,e,SqL.mono s q,aC.cut s ds xs c r⟩
 | .dic kvs,v,c,h=>by
  unfold bc at h ⊢;unfold cLt at c
  obtain⟨a,ps,e,q,r⟩:=h
  exact⟨a,ps,e,s _ _ q,ie.cut s kvs ps c r⟩
 | .cell n,v,c,h=>by
  unfold bc at h ⊢;unfold cLt at c
  obtain⟨a,e,q⟩:=h
  exact⟨a,e,by rw[List.getElem?_take_of_lt (by simpa using c)];exact q⟩
theorem aC.cut(s:jW F F'):∀(ds:List D)(vs:List V),jY m ds=true->aC K F ad ds vs->aC K F' (ad.take m) ds vs
 | [],vs,_,h=>by unfold aC at h ⊢;exact h
 |d::ds,vs,c,h=>by
  unfold aC at h ⊢;unfold jY at c
  have c:=(Zo _ _).mp c
  obtain⟨u,us,e,p,r⟩:=h
  exact⟨u,us,e,bc.cut s d u c.1 p,aC.cut s ds us c.2 r⟩
theorem ie.cut(s:jW F F'):∀(ds:List (Key×D))(vs:List (Key×V)),uY m ds=true->ie K F ad ds vs->ie K F' (ad.take m) ds vs
 | [],vs,_,h=>by unfold ie at h ⊢;exact h
 |p::ds,vs,c,h=>by
  unfold ie at h ⊢;unfold uY at c
  have c:=(Zo _ _).mp c
  obtain⟨u,us,e,⟨p1,p2⟩,r⟩:=h
  exact⟨u,us,e,⟨p1,bc.cut s p.2 u.2 c.1 p2⟩,ie.cut s ds us c.2 r⟩
end
end
def cOk(m:Nat)(μ:Mu):Bool:=μ.all λo=>match o with
 |some ds=>jY m ds
 |none=>true
theorem WOk.cut{K:Zw}{tb:List Addr}{W:Wd}{m:Nat}(ok:WOk K tb W)(c:cOk m (W.mu.take m)=true):
  WOk K tb ⟨W.H,W.ad.take m,W.mu.take m⟩/\jW (W.fz tb) (Wd.fz tb ⟨W.H,W.ad.take m,W.mu.take m⟩):=by
 have lv:∀b,kh (W.ad.take m) (W.mu.take m) b->kh W.ad W.mu b:=λb zq2=>by
  obtain⟨i,es,e1,e2⟩:=zq2
  have h1:i<m:=by have:=(Zh.mp e1).1;simp at this;omega
  rw[List.getElem?_take_of_lt h1]at e1 e2
  exact⟨i,es,e1,e2⟩
 have sm:jW (W.fz tb) (Wd.fz tb ⟨W.H,W.ad.take m,W.mu.take m⟩):=λb u e=>by
  obtain⟨e1,e2,e3⟩:=cR e
  have q:=my (tb:=tb) (W:=⟨W.H,W.ad.take m,W.mu.take m⟩) (b:=b) (λz=>e2 (lv b z)) e3
  rw[q];exact e1
 refine⟨⟨by simp[ok.len],λi a ds e1 e2=>?_,λi j a ds es e1 e2 e3 e4=>?_,ok.tab⟩,sm⟩
 .have h1:i<m:=by have:=(Zh.mp e1).1;simp at this;omega
  have cd:jY m ds=true:=by
   have:=List.all_eq_true.mp c (some ds) (List.mem_of_getElem? e2)
   exact this
  have e1':(W.ad.take m)[i]? =some a:=e1
  have e2':(W.mu.take m)[i]? =some (some ds):=e2
  rw[List.getElem?_take_of_lt h1]at e1' e2'
  obtain⟨xs,e,r⟩:=ok.cont i a ds e1' e2'
  exact⟨xs,e,aC.cut sm ds xs cd r⟩
 .have h1:i<m:=by have:=(Zh.mp e1).1;simp at this;omega
  have h2:j<m:=by have:=(Zh.mp e2).1;simp at this;omega
  have e1':(W.ad.take m)[i]? =some a:=e1
  have e2':(W.ad.take m)[j]? =some a:=e2
  have e3':(W.mu.take m)[i]? =some (some ds):=e3
  have e4':(W.mu.take m)[j]? =some (some es):=e4
  rw[List.getElem?_take_of_lt h1]at e1' e3'
  rw[List.getElem?_take_of_lt h2]at e2' e4'
  exact ok.inj i j a ds es e1' e2' e3' e4'
def trunc(φ:FF):FF:=λds μ=>(φ ds μ).bind λr=>if(cLt μ.length r.1&&cOk μ.length (r.2.take μ.length))=true then some (r.1,r.2.take μ.length)else some r
theorem FI.trunc{P:Program}{w:World}{K:Zw}{mg:Str->Option Value}{base:Heap}{tb:List Addr}{x:Str}{n k:Nat}{φ:FF}(F:FI P w K mg base tb x n k φ):FI P w K mg base tb x n k (trunc φ):=by
 obtain⟨f,fd,ps,h1,h2⟩:=F.is
 refine⟨f,fd,ps,h1.imp λvs H Q E ⟨W,ds,d,μ',e,ok,dl,hl,hf,k⟩=>?_,h2⟩
 unfold L3.trunc at hf
 obtain⟨⟨d1,μ1⟩,e1,e2⟩:=Za.mp hf
 split at e2
 .rename_i hc
  have hc:=(Zo _ _).mp hc
  cases e2
  refine⟨W,ds,d1,μ1,e,ok,dl,hl,e1,λv W' ok' l' m' d'=>?_⟩
  obtain⟨ok2,sm⟩:=ok'.cut (m:=W.mu.length) (by rw[m'];exact hc.2)
  exact k v ⟨W'.H,W'.ad.take W.mu.length,W'.mu.take W.mu.length⟩ ok2 ⟨l'.same.trans sm,λi x q=>by
   have hi:i<W.mu.length:=by rw[<-ok.len];exact(Zh.mp q).1
   show(W'.ad.take W.mu.length)[i]? =some x
   rw[List.getElem?_take_of_lt hi];exact l'.ad i x q⟩ (by show W'.mu.take _=_;rw[m']) (bc.cut sm d1 v hc.1 d')
 .cases e2
  exact⟨W,ds,d,μ',e,ok,dl,hl,e1,k⟩
def Ku:Nat->(FF->FF)->FF
 |0,_=>λ_ _=>none
 |n+1,F=>F (Ku n F)
theorem iJ{φ:FF}{ds:List D}{μ μ':Mu}{d:D}(h:φ ds μ=some (d,μ'))(hl:μ'.length=μ.length):trunc φ ds μ=some (d,μ'):=by
 unfold trunc
 rw[h]
 simp only[ZK]
 rw[<-hl,List.take_length]
 split<;>rfl
theorem iV{φ:FF}{ds:List D}{μ:Mu}{d:D}(h:φ ds μ=some (d,μ)):trunc φ ds μ=some (d,μ):=iJ h rfl
end L3
namespace HT
open PySem PySem.Spec PyProof.Rows
section
variable {prog:Program} {w:World} {A:Around} {E:Value->Shared->Prop} {s:Shared}
theorem xq(n:Nat):Builtin.Slice.sliceAdjust none none (-1) (n:Int)=((n:Int)-1,-1):=rfl
theorem xR(n:Nat):Builtin.Slice.slicePlaces ((n:Int)-1) (-1) (-1)=n:=by
 unfold Builtin.Slice.slicePlaces
 rw[if_neg (by decide)]
 split
 .simp
 .simp;omega
theorem qw{α β:Type}{f g:α->Option β}:∀{l:List α},(∀x∈l,f x=g x)->l.filterMap f=l.filterMap g
 | [],_=>rfl
 |x::l,h=>by
  rw[List.filterMap_cons,List.filterMap_cons,h x (by simp),qw λy hy=>h y (by simp[hy])]
theorem sS(xs:Array Value):((List.range xs.size).filterMap λ(m:Nat)=>xs[(((xs.size:Int)-1)+(m:Int)*(-1)).toNat]?).toArray=xs.toList.reverse.toArray:=by
 congr 1
 have e:((List.range xs.size).filterMap λ(m:Nat)=>xs[(((xs.size:Int)-1)+(m:Int)*(-1)).toNat]?)=(List.range xs.size).filterMap λ(m:Nat)=>xs.toList.reverse.toArray[((0:Nat):Int).toNat+m]? :=by
  refine qw λm hm=>?_
  have hm:=List.mem_range.mp hm
  have e:(((xs.size:Int)-1)+(m:Int)*(-1)).toNat=xs.size-1-m:=by omega
  rw[e]
  simp[List.getElem?_reverse (l:=xs.toList) (show m<xs.toList.length by simpa using hm)]
 rw[e]
 have:=pick_run xs.toList.reverse.toArray 0 xs.size
 rw[List.filterMap_map]at this
 have e2:(((λx=>xs.toList.reverse.toArray[x]?)∘λx=>0+x))=λ(m:Nat)=>xs.toList.reverse.toArray[((0:Nat):Int).toNat+m]? :=rfl
 rw[e2]at this
 rw[this]
 simp[List.take_of_length_le]
theorem oM{sl:Addr}{t:Tok}{n:Nat}{Q:Int×Int×Nat->Shared->Prop}(hs:s.heap.IsSliceOf sl .none .none (.int (-1) t))
  (h:Q ((n:Int)-1,-1,n) s):wpAny (model prog w) A (Builtin.Slice.sliceApplied (.ref sl) (pure (n:Int))) Q E s:=by
 obtain⟨os,hos,hcs,hds⟩:=id hs
 unfold Builtin.Slice.sliceApplied Builtin.Slice.sliceFields
 refine Zv (Zv (wpAny_field hos hds (x:=.none) rfl (Zv (wpAny_field hos hds (x:=.none) rfl (Zv (wpAny_field hos hds (x:=.int (-1) t) rfl (Zx ?_)))))))
 refine Zv (slicePart_int ?_)
 show wpAny _ _ (if((-1:Int)==0)=true then _ else _) _ _ s
 rw[if_neg (by decide)]
 refine Zv (slicePart_none (Zv (slicePart_none (Zv (Zx ?_)))))
 show wpAny _ _ (match Builtin.Slice.sliceAdjust none none (-1) (n:Int)with|(lo,hi)=>pure (lo,(-1:Int),Builtin.Slice.slicePlaces lo hi (-1))) _ _ s
 rw[xq n]
 show wpAny _ _ (pure ((n:Int)-1,(-1:Int),Builtin.Slice.slicePlaces ((n:Int)-1) (-1) (-1))) _ _ s
 rw[xR]
 exact Zx h
theorem getItem_tuple_back{t sl:Addr}{items:Array Value}{tk:Tok}{Q:Value->Shared->Prop}(ht:IsTup s.heap t items)(hs:s.heap.IsSliceOf sl .none .none (.int (-1) tk))
  (h:Q (.ref s.heap.objs.size) { s with heap:=s.heap.push { cls:=.type "tuple",data:=.seq items.toList.reverse.toArray} })
  (hsz:items.size<=sizeLine):wpAny (model prog w) A (getItem (.ref t) (.ref sl)) Q E s:=by
 have htake:sizeOk (.seq items.toList.reverse.toArray):=by
  show items.toList.reverse.toArray.size<=sizeLine
  simpa using hsz
 obtain⟨os,hos,hcs,hds⟩:=id hs
 have hTs:s.TypeIs (.ref sl) "slice":=⟨os,hos,hcs⟩
 unfold getItem
 try with_reducible refine wpAny_holding ?_
 first|refine Zv (Zx ?_)|skip
 refine Zv (wpAny_sequenceKey ht.typeIs (by decide) ?_)
 refine Zv (wpAny_callSpecial?_slot (name:=Str.ofString "__getitem__") ht.typeIs PyProof.Rows.slot_tuple_getitem
  (wpAny_call_entry PyProof.Rows.slot_tuple_getitem ht.typeIs entry_tuple_getitem ?_ (args_tuple_getitem _ _)))
 show wpAny _ _ (Builtin.Tuple.tupleItemsOf (.ref t) >>= _) _ _ s
 refine Zv (tupleItemsOf_ ht ?_)
 refine Zv (wpAny_typeOf hTs ?_)
 rw[if_pos (by decide)]
 refine Zv (oM hs ?_)
 have hno:¬((((items.size:Int)-1)==0&&(-1:Int)==1&&items.size==items.size)=true):=by
  intro q
  rw[Zo,Zo]at q
  exact absurd q.1.2 (by decide)
 show wpAny _ _ (if((((items.size:Int)-1)==0&&(-1:Int)==1&&items.size==items.size)=true)then _ else _) _ _ s
 rw[if_neg hno,sS]
 first
  |exact Zv (m:=Builtin.Tuple.tupleExact _) (Zz (Zx ⟨_,rfl,Zx h⟩) htake)
  |exact Zv (m:=Builtin.Tuple.tupleExact _) (Zz (Zv (Zx (Zx ⟨_,rfl,Zx h⟩))) htake)
  |exact Zv (Zv (m:=Builtin.Tuple.tupleExact _) (Zz (Zx (Zx ⟨_,rfl,Zx h⟩)) htake))
  |exact Zv (Zv (m:=Builtin.Tuple.tupleExact _) (Zz (Zx ⟨_,rfl,Zx h⟩) htake))
theorem slicePick_back(its:List Value):slicePick its.toArray none none (some (-1))=its.reverse.toArray:=by
 unfold slicePick
 have e1:(sliceBounds none none (some (-1)) its.toArray.size)=((its.toArray.size:Int)-1,-1,-1):=rfl
 rw[e1]
 have:=sS its.toArray
 simp only at this
 rw[<-this]
 congr 1
 unfold sliceRange
 have e2:(if((-1:Int))>0 then(if((its.toArray.size:Int)-1)< -1 then(-1-((its.toArray.size:Int)-1)+ -1-1) / -1 else 0)else(if((its.toArray.size:Int)-1)> -1 then((its.toArray.size:Int)-1 - -1 - -1-1) / -(-1)else 0)).toNat=its.toArray.size:=by
  rw[if_neg (by decide)]
  split
  .simp
  .simp;simp at *;omega
 simp only[e2,List.filterMap_map]
 refine qw λm hm=>?_
 show its.toArray[(((its.toArray.size:Int)-1)+ -1*(m:Int)).toNat]? =its.toArray[(((its.toArray.size:Int)-1)+(m:Int) * -1).toNat]?
 rw[Int.mul_comm]
end
end HT
namespace L2
open PySem PySem.Spec PyProof.Rows
def Py(K:Zw):V->Hp->VK->Prop:=λx H Q=>∃a xs,x= .ref a/\((SqT K H a xs/\∀p,H p=none->Q (.ref p) (upd H p (.tup xs.reverse)))∨(SqL K H a xs/\∀p,H p=none->Q (.ref p) (upd H p (.lst xs.reverse))))
def Nr(K:Zw)(te:TE):TE:=λσ H Q=>te σ H λx H1=>Py K x H1 Q
theorem Gm{X:Cx}{e:Expr}{te:TE}{pos p2 p3 p4:Pos}{j}(he:PE X e te)(hstep:PE X (.UnaryOp .USub (.Constant (.int 1) j p3) p4) (λ_ H Q=>Q (.int (-1)) H)):PE X (.Subscript e (.Slice none none (some (.UnaryOp .USub (.Constant (.int 1) j p3) p4)) p2) pos) (Nr X.K te):=by
 intro pins s σ H Q I h
 refine Subscript_ (thn (he pins s σ H _ I h) λv s1 zq1=>?_)
 obtain⟨x,H1,I1,r1,q1⟩:=zq1
 refine wpAny_Slice ?_
 rw[evalPart_none]
 refine Zx (Zx ?_)
 rw[evalPart_some]
 refine thn (hstep pins s1 σ H1 (λx H2=>x= .int (-1)/\H2=H1) I1 ⟨rfl,rfl⟩) λu s3 zq2=>?_
 obtain⟨y,H3,I3,ry,ey,eH⟩:=zq2
 subst ey eH
 obtain⟨tk,rfl⟩:=ry
 have I4:Inv X pins σ H3 { s3 with heap:=s3.heap.push { cls:=.type "slice",data:=.fields #[.none,.none,.int (-1) tk] } }:=I3.kept (t':=s3.toks) λb ob q=>Zb _ q
 have hs:(s3.heap.push { cls:=.type "slice",data:=.fields #[.none,.none,.int (-1) tk] }).IsSliceOf s3.heap.objs.size .none .none (.int (-1) tk):=Heap.IsSliceOf.new ..
 obtain⟨a,xs,rfl,q⟩:=q1
 cases r1
 rcases q with⟨hx,q⟩|⟨hx,q⟩
 .obtain⟨its,r,ht,hz⟩:=I4.tuple hx
  have hg:wpAny (model X.prog X.w) X.A (getItem (.ref a) (.ref s3.heap.objs.size)) (EP X pins σ Q) X.xe { s3 with heap:=s3.heap.push { cls:=.type "slice",data:=.fields #[.none,.none,.int (-1) tk] } }:=by
   refine HT.getItem_tuple_back ht hs ?_ (by rw[Zd,<-r.length];exact hz)
   exact⟨.ref _,_,I4.laid (t':=s3.toks) (o:=.tup xs.reverse) (λb ob q=>Zb _ q) (Zg _) ⟨by simpa using hz,_,r.reverse,IsTup.new _ _⟩,rfl,q _ (I4.hok.fresh (Zg _))⟩
  exact tail_any (ops:=[.ref a,.ref s3.heap.objs.size]) ht.typeIs PyProof.Rows.slot_tuple_getitem.lookup hg (by with_unfolding_all rfl)
 .obtain⟨its,r,ht,hz⟩:=I4.list hx
  have hg:wpAny (model X.prog X.w) X.A (getItem (.ref a) (.ref s3.heap.objs.size)) (EP X pins σ Q) X.xe { s3 with heap:=s3.heap.push { cls:=.type "slice",data:=.fields #[.none,.none,.int (-1) tk] } }:=by
   refine wpAny_getItem_list_slice ht.isList hs .none .none (.int (-1) tk) (by decide) ?_ (by rw[Zd,<-r.length];exact hz)
   rw[HT.slicePick_back]
   exact⟨.ref _,_,I4.laid (t':=s3.toks) (o:=.lst xs.reverse) (λb ob q=>Zb _ q) (Zg _) ⟨by simpa using hz,_,0,r.reverse,Zf _ rfl⟩,rfl,q _ (I4.hok.fresh (Zg _))⟩
  exact tail_any (ops:=[.ref a,.ref s3.heap.objs.size]) ht.isList.typeIs slot_list_getitem.lookup hg (by with_unfolding_all rfl)
end L2
namespace L3
open PySem PySem.Spec PyProof.Rows L2
def HJ(x:D)(μ:Mu):Option (D×Mu):=(bF x μ).map λds=>(if qt x then .tup ds.reverse else .lst ds.reverse,μ)
def Fv(f:EF):EF:=M1 f HJ
theorem JX{X:Cx}{tb:List Addr}{e:Expr}{f:EF}{pos p2 p3 p4:Pos}{j}(he:PD X tb e f):PD X tb (.Subscript e (.Slice none none (some (.UnaryOp .USub (.Constant (.int 1) j p3) p4)) p2) pos) (Fv f):=
 dG (Gm he (dG (Jd Eh yj) λσ H Q h=>⟨1,rfl,h⟩)) λσ H Q zq3=>by
  obtain⟨W,δ,d,μ',e,ok,hd,hf,h⟩:=zq3
  unfold Fv M1 at hf
  obtain⟨⟨x,μ1⟩,e1,e2⟩:=Za.mp hf
  obtain⟨ds,e3,e4⟩:=Zp.mp e2
  refine⟨W,δ,x,μ1,e,ok,hd,e1,λv W1 ok1 l1 m1 d1=>?_⟩
  have e3:bF x W1.mu=some ds:=by rw[m1];exact e3
  obtain⟨a,xs,rfl,q,r⟩:=jr ok1 d1 e3
  refine⟨a,xs,rfl,?_⟩
  cases hx:qt x with
  |true=>
   rw[hx]at q e4
   cases e4
   exact .inl ⟨q,λp hp=>lJ ok1 (λv W' ok' l' m' d'=>h v W' ok' (l1.trans l') (m'.trans m1) d') (aC.reverse r) hp⟩
  |false=>
   rw[hx]at q e4
   cases e4
   exact .inr ⟨q,λp hp=>iH ok1 (λv W' ok' l' m' d'=>h v W' ok' (l1.trans l') (m'.trans m1) d') (aC.reverse r) hp⟩
theorem uP{K:Zw}{F:Hp}{ad:List Addr}:∀{ds:List D}{vs:List V}{d:D}{v:V}(j:Nat),aC K F ad ds vs->bc K F ad d v->aC K F ad (ds.set j d) (vs.set j v)
 | [],vs,d,v,j,r,h=>by
  unfold aC at r
  subst r
  exact aC.nil
 |x::ds,vs,d,v,j,r,h=>by
  unfold aC at r
  obtain⟨u,us,rfl,p,r⟩:=r
  cases j with
  |zero=>exact aC.cons h r
  |succ j=>exact aC.cons p (uP j r h)
def rC(x o i:D)(μ:Mu):Option Mu:=match o,i with
 | .cell n,.int k=>match μ[n]? with
  |some (some ds)=>(ixN ds.length k).map λj=>μ.set n (some (ds.set j x))
  |_=>none
 |_,_=>none
def pF(f fo fi:EF):SF:=λδ μ=>(f δ μ).bind λr=>(fo δ r.2).bind λo=>(fi δ o.2).bind λi=>(rC r.1 o.1 i.1 i.2).map λμ'=>(.nx,δ,μ')
theorem pP{X:Cx}{tb:List Addr}{o i e:Expr}{f fo fi:EF}{pos pos':Pos}(he:PD X tb e f)(ho:PD X tb o fo)(hi:PD X tb i fi)
  (ha:∀v,assign (.Subscript o i pos') X.env v=(do
   let ov<-holding [v] (eval o X.env)
   let iv<-holding [v,ov] (eval i X.env)
   standAt pos'
   holding [v,ov,iv] (setItem ov iv v)
   release [v,ov,iv] []):=by intro _;rfl)
  (hs:swapsWithSole [.Subscript o i pos'] e pos.line X.env=pure false:=by rfl) (hw:swappedStores [.Subscript o i pos'] e X.env=pure none:=by rfl)
  (h1:(assignEach [.Subscript o i pos'] X.env).map (·.2)=[assign (.Subscript o i pos') X.env]:=by rfl):PSD X tb (.Assign [.Subscript o i pos'] e pos) (pF f fo fi):=
 kJ (Cj he (LC ho hi set_list ha) hs hw h1) λE σ H zq1=>by
  obtain⟨W,δ,fl,δ',μ',e,ok,hd,hf,h⟩:=zq1
  unfold pF at hf
  obtain⟨⟨x,μ1⟩,e1,hf⟩:=Za.mp hf
  obtain⟨⟨c,μ2⟩,e2,hf⟩:=Za.mp hf
  obtain⟨⟨k,μ3⟩,e3,hf⟩:=Za.mp hf
  obtain⟨μ4,e4,e5⟩:=Zp.mp hf
  cases e5
  refine⟨W,δ,x,μ1,e,ok,hd,e1,λv W1 ok1 l1 m1 d1=>⟨W1,δ,c,μ2,rfl,ok1,hd.mono' l1,(by rw[m1];exact e2),λu W2 ok2 l2 m2 d2=>⟨W2,δ,k,μ3,rfl,ok2,hd.mono' (l1.trans l2),(by rw[m2];exact e3),λy W3 ok3 l3 m3 d3=>?_⟩⟩⟩
  have d2:=Den.mono' d2 l3
  have d1:=Den.mono' d1 (l2.trans l3)
  cases c with
  |cell n=>
   cases k with
   |int k=>
    have e4':(match μ3[n]? with|some (some ds)=>(ixN ds.length k).map λj=>μ3.set n (some (ds.set j x))|_=>none)=some μ':=e4
    cases e6:μ3[n]? with
    |none=>rw[e6]at e4';cases e4'
    |some oo=>
     cases oo with
     |none=>rw[e6]at e4';cases e4'
     |some ds=>
      rw[e6]at e4'
      obtain⟨j,e7,e8⟩:=Zp.mp e4'
      obtain⟨a,rfl,q⟩:=gD d2
      have e6:W3.mu[n]? =some (some ds):=by rw[m3];exact e6
      obtain⟨xs,ex,r⟩:=ok3.cont n a ds q e6
      refine⟨a,xs,k,j,rfl,bz d3,ex,by rw[<-aC.length r];exact e7,?_⟩
      obtain⟨ok4,l4⟩:=ok3.write q e6 (uP j r d1)
      exact h _ _ ok4 (((l1.trans l2).trans l3).trans l4) (by rw[<-e8,<-m3]) (hd.mono' (((l1.trans l2).trans l3).trans l4))
   |_=>cases e4
  |_=>cases e4
def eqF:D->D->Bool
 | .non,.non=>true
 | .bl a,.bl b=>a==b
 | .bl a,.int b=>(if a then 1 else 0)==b
 | .int a,.bl b=>a==(if b then 1 else 0)
 | .int a,.int b=>a==b
 | .str a,.str b=>a==b
 |_,_=>false
def inF(x:D)(ds:List D):Bool:=ds.any λy=>eqF y x
open PySem.SeqAt
theorem Ew{X:Cx}{k:Nat}(hr:cO k X.A):OpR X (compareOp .NotEq) (λv u H Q=>∃a b xs ys,v= .ref a/\u= .ref b/\SqL X.K H a xs/\SqL X.K H b ys/\xs.length≠ys.length/\Q (.bl true) H):=by
 intro pins s σ H v u vv uu Q I rv ru h
 obtain⟨a,b,xs,ys,rfl,rfl,hx,hy,hl,q⟩:=h
 have hun:=hr.un
 cases rv
 cases ru
 obtain⟨its0,iv0,pl0,hz0⟩:=I.list hx
 obtain⟨its1,iv1,pl1,hz1⟩:=I.list hy
 have hl':its0.length≠its1.length:=by rw[<-iv0.length,<-iv1.length];exact hl
 exact RcNeAt.lists_lengths (A:=X.A) pl0.isList pl1.isList (by simpa using hl') (by omega) X.prog X.w X.xe _ ⟨.bl true,H,I,rfl,q⟩
def uK:O2:=λx y μ=>match x,y with
 | .lst ds,.lst []=>some (.bl (!ds.isEmpty),μ)
 |x,y=>oNe x y μ
theorem xV{x y:D}{μ:Mu}:uK x y μ=oNe x y μ∨∃d ds,x= .lst (d::ds)/\y= .lst []/\uK x y μ=some (.bl true,μ):=by
 unfold uK
 split
 .rename_i ds
  cases ds with
  |nil=>left;unfold oNe rsv;simp[bL,cN,dh,fD,eqD,gU]
  |cons d ds=>exact .inr ⟨d,ds,rfl,rfl,rfl⟩
 .exact .inl rfl
theorem Ly{X:Cx}{tb:List Addr}{k:Nat}(hr:cO k X.A):OpD X tb (compareOp .NotEq) uK:=⟨_,(Fe hr).or (Ew hr),λW x y v u d μ' Q ok dx dy ho h=>by
 rcases xV (x:=x) (y:=y) (μ:=W.mu)with e|⟨d',ds,rfl,rfl,e⟩
 .rw[e]at ho
  unfold oNe at ho
  split at ho
  .rename_i hc
   cases ho
   rw[Zo]at hc
   exact .inl ⟨_,_,oJ ok dx hc.1.1,oJ ok dy hc.1.2,hc.2,put ok h gQ⟩
  .cases ho
 .rw[e]at ho
  cases ho
  obtain⟨a,xs,rfl,q,r⟩:=jl dx
  obtain⟨b,ys,rfl,q2,r2⟩:=jl dy
  refine .inr ⟨a,b,xs,ys,rfl,rfl,SqL.fz q,SqL.fz q2,?_,put ok h gQ⟩
  have h1:=aC.length r
  have h2:=aC.length r2
  simp at h1 h2
  omega⟩
def lSl(f:EF)(fl fh:PF):LF:=λδ μ=>(f δ μ).bind λr=>(fl δ r.2).bind λl=>(fh δ l.2).bind λu=>match r.1 with
 | .lst ds=>some (L3.gF ds l.1 u.1,u.2)
 | .ro ds=>some (L3.gF ds l.1 u.1,u.2)
 |_=>none
theorem Ba{X:Cx}{tb:List Addr}{e:Expr}{lo hi:Option Expr}{f:EF}{fl fh:PF}{pos p2:Pos}(he:PD X tb e f)(hl:POD X tb lo fl)(hh:POD X tb hi fh):PDN X tb (.Subscript e (.Slice lo hi none p2) pos) (lSl f fl fh):=
 dG (wK yz he hl hh) λσ H Q zq1=>by
  obtain⟨W,δ,ds,μ',e,ok,hd,hf,h⟩:=zq1
  unfold lSl at hf
  obtain⟨⟨x,μ1⟩,e1,hf⟩:=Za.mp hf
  obtain⟨⟨l,μ2⟩,e2,hf⟩:=Za.mp hf
  obtain⟨⟨u,μ3⟩,e3,hf⟩:=Za.mp hf
  refine⟨W,δ,x,μ1,e,ok,hd,e1,λv W1 ok1 l1 m1 d1=>⟨W1,δ,l,μ2,rfl,ok1,hd.mono' l1,(by rw[m1];exact e2),λW2 ok2 l2 m2=>⟨W2,δ,u,μ3,rfl,ok2,hd.mono' (l1.trans l2),(by rw[m2];exact e3),λW3 ok3 l3 m3=>?_⟩⟩⟩
  have d3:=Den.mono' d1 (l2.trans l3)
  cases x with
  |lst es=>
   obtain⟨a,xs,rfl,q,r⟩:=jl d3
   cases hf
   exact⟨a,xs,rfl,SqL.fz q,λp hp=>h p _ W3 ok3 ((l1.trans l2).trans l3) m3 hp (lK r)⟩
  |ro es=>
   obtain⟨a,xs,rfl,q,r⟩:=sH d3
   cases hf
   exact⟨a,xs,rfl,SqL.fz q,λp hp=>h p _ W3 ok3 ((l1.trans l2).trans l3) m3 hp (lK r)⟩
  |_=>cases hf
def wQ(fa fb:EF):LF:=λδ μ=>(fa δ μ).bind λr=>(fb δ r.2).bind λq=>match r.1,q.1 with
 | .lst xs,.int k=>if -(2 ^ 63)<=k/\k<2 ^ 63/\xs.length*k.toNat<=sizeLine then some ((List.replicate k.toNat xs).flatten,q.2)else none
 |_,_=>none
theorem Hl{X:Cx}{tb:List Addr}{a b:Expr}{fa fb:EF}{pos:Pos}(ha:PD X tb a fa)(hb:PD X tb b fb):PDN X tb (.BinOp a .Mult b pos) (wQ fa fb):=
 dG (Ji BW ha hb) λσ H Q zq2=>by
  obtain⟨W,δ,ds,μ',e,ok,hd,hf,h⟩:=zq2
  unfold wQ at hf
  obtain⟨⟨x,μ1⟩,e1,hf⟩:=Za.mp hf
  obtain⟨⟨y,μ2⟩,e2,hf⟩:=Za.mp hf
  refine⟨W,δ,x,μ1,e,ok,hd,e1,λv W1 ok1 l1 m1 d1=>⟨W1,δ,y,μ2,rfl,ok1,hd.mono' l1,(by rw[m1];exact e2),λu W2 ok2 l2 m2 d2=>?_⟩⟩
  have d1:=Den.mono' d1 l2
  cases x with
  |lst xs=>
   cases y with
   |int k=>
    have hf':(if -(2 ^ 63)<=k/\k<2 ^ 63/\xs.length*k.toNat<=sizeLine then some ((List.replicate k.toNat xs).flatten,μ2)else none)=some (ds,μ'):=hf
    split at hf'
    .rename_i hz
     cases hf'
     obtain⟨c,us,rfl,q1,r1⟩:=lV d1
     rw[bz d2]
     exact⟨c,k,us,rfl,rfl,(cR q1).1,hz.1,hz.2.1,by rw[<-aC.length r1];exact hz.2.2,λp hp=>h p _ W2 ok2 (l1.trans l2) m2 hp (pM r1 _)⟩
    .cases hf'
   |_=>cases hf
  |_=>cases y<;>cases hf
def qD:D->Mu->Option (List D)
 | .lst ds,_=>some ds
 | .cell n,μ=>(μ[n]?).join
 |_,_=>none
theorem rW{K:Zw}{tb:List Addr}{W:Wd}{x:D}{v:V}{ds:List D}(ok:WOk K tb W)(h:Den K tb W x v)(e:qD x W.mu=some ds):∃a xs,v= .ref a/\W.H a=some (.lst xs)/\cG K tb W ds xs:=by
 cases x with
 |lst es=>
  cases e
  obtain⟨a,xs,rfl,q,r⟩:=lV h
  exact⟨a,xs,rfl,(cR q).1,r⟩
 |cell n=>
  obtain⟨a,rfl,q⟩:=gD h
  have e:(W.mu[n]?).join=some ds:=e
  cases e2:W.mu[n]? with
  |none=>rw[e2]at e;cases e
  |some o=>
   rw[e2]at e
   have e:o=some ds:=e
   subst e
   obtain⟨xs,ex,r⟩:=ok.cont n a ds q e2
   exact⟨a,xs,rfl,ex,r⟩
 |_=>cases e
theorem us0{α:Type}{P:List α->Prop}(h:P []):∀us:List α,us.length=0->P us
 | [],_=>h
theorem us1{α:Type}{P:List α->Prop}(h:∀a,P [a]):∀us:List α,us.length=1->P us
 | [a],_=>h a
theorem us2{α:Type}{P:List α->Prop}(h:∀a b,P [a,b]):∀us:List α,us.length=2->P us
 | [a,b],_=>h a b
theorem us3{α:Type}{P:List α->Prop}(h:∀a b c,P [a,b,c]):∀us:List α,us.length=3->P us
 | [a,b,c],_=>h a b c
theorem us4{α:Type}{P:List α->Prop}(h:∀a b c d,P [a,b,c,d]):∀us:List α,us.length=4->P us
 | [a,b,c,d],_=>h a b c d
theorem us5{α:Type}{P:List α->Prop}(h:∀a b c d e,P [a,b,c,d,e]):∀us:List α,us.length=5->P us
 | [a,b,c,d,e],_=>h a b c d e
theorem us6{α:Type}{P:List α->Prop}(h:∀a b c d e f,P [a,b,c,d,e,f]):∀us:List α,us.length=6->P us
 | [a,b,c,d,e,f],_=>h a b c d e f
structure Got(K:Zw)(x:Str)(st:Stmt)(f c P:Addr)(fd:FuncData):Prop where
 F:zJ K x x st f fd P
 m:PySem.W.nsIn K mainGlobals x=some (some (.ref f))
 t:PySem.W.tabIn K x=some (c,P)
 e:∃kV dc pm an ct,fd=PySem.W.fnOf x x (iz st) (fu st) (bV st) .none kV dc pm an (.ref c) ct
theorem Ln{K:Zw}{x:Str}{st:Stmt}{f c P:Addr}{oc:Value}{od an:Option Addr}{osl:Array (Option Value)}{kV doc pm ct:Value}{dd:Option Addr}{vs:Array Value}{sl:Array (Option Value)}(a:PySem.W.nsIn K mainGlobals x=some (some (.ref f)))
  (l:K.lookup f=some ⟨oc,od,.func (PySem.W.fnOf x x (iz st) (fu st) (bV st) .none kV doc pm an (.ref c) ct),osl⟩) (hc:PySem.W.codeIn K (.ref c) x=true) (k:PySem.W.keepIn K (.ref f)=true)
  (lc:K.lookup c=some ⟨.type "code",dd,.fields vs,sl⟩) (p:vs[11]? =some (.ref P)) (q:um vs=true) (ne:(c != P)=true):∃f c P fd,Got K x st f c P fd:=
 ⟨f,c,P,_,Ij l hc k lc p q ne,a,JH a l rfl lc p,kV,doc,pm,an,ct,rfl⟩
end L3
namespace L2
open PySem PySem.Spec PyProof.Rows PySem.W
def rF{α:Type}(f:Nat->Nat->Bool):KasT α->α
 | .ret a=>a
 | .ask i j k=>rF f (k (f i j))
def cX{α:Type}(n:Nat)(R:α->Prop):KasT α->Prop
 | .ret a=>R a
 | .ask i j k=>i<n/\j<n/\∀b,cX n R (k b)
theorem cX.bind{α β:Type}{n:Nat}{R:α->Prop}{R':β->Prop}{f:α->KasT β}(hf:∀a,R a->cX n R' (f a)):∀{t:KasT α},cX n R t->cX n R' (t.bind f)
 | .ret a,h=>hf a h
 | .ask i j k,h=>⟨h.1,h.2.1,λb=>cX.bind hf (h.2.2 b)⟩
theorem cX.run{α:Type}{n:Nat}{R:α->Prop}{f:Nat->Nat->Bool}:∀{t:KasT α},cX n R t->R (rF f t)
 | .ret a,h=>h
 | .ask i j k,h=>show R (rF f (k (f i j)))from cX.run (t:=k (f i j)) (h.2.2 (f i j))
theorem cX.wp{α:Type}{n:Nat}{R:α->Prop}{f:Nat->Nat->Bool}{cmp:Nat->Nat->(Bool->Shared->Prop)->Shared->Prop}{s:Shared}(hc:∀i j (C:Bool->Shared->Prop),i<n->j<n->C (f i j) s->cmp i j C s){Q:α->Shared->Prop}:
  ∀{t:KasT α},cX n R t->Q (rF f t) s->t.kasWp cmp Q s
 | .ret a,_,q=>q
 | .ask i j k,h,q=>hc i j _ h.1 h.2.1 (cX.wp hc (h.2.2 (f i j)) q)
def dM(n:Nat)(p:Array Nat):Prop:=p.toList.Perm (List.range n)
theorem dM.getD{n:Nat}{p:Array Nat}(h:dM n p)(h0:0<n)(k:Nat):p.getD k 0<n:=by
 unfold Array.getD
 split
 .rename_i hk
  have:p.getInternal k hk∈p.toList:=by
   show p[k]∈p.toList
   simp
  exact List.mem_range.mp (h.mem_iff.mp this)
 .exact h0
theorem dM.of{n:Nat}{p q:Array Nat}(h:dM n p)(e:q.Perm p):dM n q:=(Array.perm_iff_toList_perm.mp e).trans h
theorem dM.rev{n:Nat}{p:Array Nat}(h:dM n p)(i j:Nat):dM n (kas_rev p i j):=h.of (mirror_perm _ _ _ _)
theorem qN{n:Nat}{p:Array Nat}(hp:dM n p)(h0:0<n):∀(f k:Nat),cX n (λ_=>True) (kas_asc p f k)
 |0,k=>trivial
 |f+1,k=>⟨hp.getD h0 _,hp.getD h0 _,λb=>by
  cases b
  .exact qN hp h0 f (k+1)
  .exact trivial⟩
theorem lH{n:Nat}(h0:0<n):∀(f:Nat)(p:Array Nat)(k q:Nat),dM n p->cX n (λr=>dM n r.1) (kas_desc f p k q)
 |0,p,k,q,hp=>hp
 |f+1,p,k,q,hp=>⟨hp.getD h0 _,hp.getD h0 _,λb=>by
  cases b
  .refine⟨hp.getD h0 _,hp.getD h0 _,λc=>?_⟩
   cases c
   .exact lH h0 f p (k+1) (q+1) hp
   .exact hp
  .show cX n _ (if true=true then(if q>0 then kas_desc f (kas_rev p (k-(q+1)) k) (k+1) 0 else kas_desc f p (k+1) 0)else _)
   rw[if_pos rfl]
   split
   .exact lH h0 f _ (k+1) 0 (hp.rev _ _)
   .exact lH h0 f p (k+1) 0 hp⟩
theorem qC{n:Nat}(h0:0<n){p:Array Nat}(hp:dM n p)(a b:Nat):cX n (λr=>dM n r.2) (kas_tail3 a b p):=by
 unfold kas_tail3
 refine cX.bind (R:=λ_=>True) (λm _=>?_) (qN (hp.rev _ _) h0 _ _)
 exact hp.rev 0 a
theorem mD{n:Nat}(h0:0<n){p:Array Nat}(hp:dM n p)(a b:Nat):cX n (λr=>dM n r.2) (kas_descPart a b p):=
 cX.bind (λr hr=>by
  split
  .exact qC h0 (dM.rev hr _ _) _ _
  .exact qC h0 hr _ _) (lH h0 _ p _ _ hp)
theorem wY{n:Nat}(h0:0<n){p:Array Nat}(hp:dM n p)(a:Nat):cX n (λr=>dM n r.2) (kas_count a p):=
 cX.bind (λm _=>by
  split
  .exact hp
  .split
   .refine⟨hp.getD h0 _,hp.getD h0 _,λc=>?_⟩
    cases c
    .exact mD h0 (hp.rev _ _) _ _
    .exact hp
   .exact mD h0 hp _ _) (qN hp h0 _ _)
theorem mR{n:Nat}(h0:0<n){p:Array Nat}(hp:dM n p)(k:Nat):∀(f l r:Nat),cX n (λ_=>True) (kas_place p k f l r)
 |0,l,r=>trivial
 |f+1,l,r=>by
  unfold kas_place
  split
  .exact trivial
  .refine⟨hp.getD h0 _,hp.getD h0 _,λc=>?_⟩
   cases c
   .exact mR h0 hp k f _ _
   .exact mR h0 hp k f _ _
theorem vC{n:Nat}(h0:0<n):∀(f:Nat)(p:Array Nat)(k:Nat),dM n p->cX n (dM n) (kas_bin f p k)
 |0,p,k,hp=>hp
 |f+1,p,k,hp=>cX.bind (λl _=>vC h0 f _ (k+1) (hp.of (bubble_perm _ _ _))) (mR h0 hp k _ _ _)
theorem nY{n:Nat}(h0:0<n):cX n (dM n) (kas_sort n):=
 cX.bind (λr hr=>by
  split
  .exact vC h0 _ _ _ hr
  .exact hr) (wY h0 (show(List.range n).Perm (List.range n)from List.Perm.refl _) n)
def jc(f:Nat->Nat->Bool)(n:Nat):List Nat:=if 2<=n then(rF f (kas_sort n)).toList else List.range n
theorem oG(f:Nat->Nat->Bool)(n:Nat):(jc f n).Perm (List.range n):=by
 unfold jc
 split
 .exact cX.run (nY (by omega))
 .exact List.Perm.refl _
theorem jh(f:Nat->Nat->Bool)(n:Nat):(jc f n).length=n:=by
 rw[(oG f n).length_eq,List.length_range]
theorem range_getD{α:Type}(z:α)(vs:List α):(List.range vs.length).map (λi=>vs.getD i z)=vs:=by
 apply List.ext_getElem?
 intro i
 rw[List.getElem?_map]
 by_cases h:i<vs.length
 .rw[List.getElem?_range h]
  simp[h]
 .rw[List.getElem?_eq_none (by simpa using h),List.getElem?_eq_none (by simpa using h)]
  rfl
section
variable {prog:Program} {w:World} {A:Around} {E:Value->Shared->Prop} {s:Shared} {a:Addr} {vs:List Value} {f:Nat->Nat->Bool}
def Cmp(prog:Program)(w:World)(A:Around)(vs:List Value)(f:Nat->Nat->Bool)(s:Shared):Prop:=
 wpAny (model prog w) A (keyKind' vs.toArray) (λκ s'=>s'=s/\∀i j (C:Bool->Shared->Prop),i<vs.length->j<vs.length->C (f i j) s->kas_ask prog w A κ vs i j C s) (λ_ _=>False) s
theorem Ah{n:Nat}{P:PySem.Fin->Shared->Prop}(ho:s.heap.get? a=some (seqObj "list" vs.toArray n))(h64:vs.length<64)
  (hk:2<=vs.length->∀h',(∀b o,b≠a->s.heap.get? b=some o->h'.get? b=some o)->Cmp prog w A vs f { s with heap:=h'})
  (h:∀h' c,(∀b o,b≠a->s.heap.get? b=some o->h'.get? b=some o)->h'.get? a=some (seqObj "list" ((jc f vs.length).map λi=>vs.getD i Value.none).toArray c)->P (.done (.ret .none)) { s with heap:=h'}):
  wpAny (model prog w) A (Builtin.«list.sort» ⟨[.ref a],[]⟩) P E s:=by
 have upd1:=λ(g:Heap)(q:Array Value->Array Value)=>Heap.SameBut.update g a (Obj.mapSeq q)
 have e1:=get?_update_seq ho λ_=>(#[]:Array Value)
 generalize hc1:(if(#[]:Array Value).size==vs.toArray.size then n else n+1)=c1 at e1
 rw[list_sort_plain]
 refine Zv (listItems_at ho rfl ?_)
 refine Zv (listUpdate_at ho rfl ?_ (by rw[Zd,sizeLine_eq];omega) (Nat.zero_le _))
 refine Zv (seqEpoch_at e1 rfl ?_)
 refine Zv (wpAny_newTuple ?_ (by show vs.length<=_;rw[sizeLine_eq];omega))
 refine Zv (wpAny_newList ?_ (Nat.zero_le _))
 refine wpAny_holding ?_
 generalize hg:((s.heap.update a (Obj.mapSeq λ_=>(#[]:Array Value))).push (seqObj "tuple" vs.toArray 0)).push (seqObj "list" #[] 0)=g
 have kg:∀b o,b≠a->s.heap.get? b=some o->g.get? b=some o:=λb o hb e=>by
  rw[<-hg]
  exact Zb _ (Zb _ (((upd1 s.heap _).2 b hb).trans e))
 have ag:g.get? a=some (seqObj "list" #[] c1):=by
  rw[<-hg]
  exact Zb _ (Zb _ e1)
 have fin:∀(out:Array Value),out.size=vs.length->out=((jc f vs.length).map λi=>vs.getD i Value.none).toArray->P (.done (.ret .none)) { s with heap:=g.update a (Obj.mapSeq λ_=>out) }:=λout hsz ho'=>by
  have e2:=get?_update_seq ag λ_=>out
  rw[ho']at e2 ⊢
  exact h _ _ (λb o hb e=>((upd1 g _).2 b hb).trans (kg b o hb e)) e2
 show wpAny (model prog w) A _ P E { s with heap:=g}
 dsimp only
 by_cases h2:vs.toArray.size<2
 .rw[if_pos h2,if_pos h2]
  refine Zv (Zx ?_)
  rw[StateT.run_pure]
  refine Zv (Zx ?_)
  dsimp only
  have hz:(vs.toArray.zip vs.toArray).map (λp=>p.2)=vs.toArray:=by
   apply Array.toList_inj.mp
   rw[Array.toList_map]
   simp[List.map_snd_zip]
  have hA:(arrOf (SortSt.mk' general' (vs.toArray.zip vs.toArray) #[] 7 none)).map (·.2)=vs.toArray:=hz
  rw[hA]
  refine Zv (seqEpoch_at ag rfl ?_)
  refine Zv (listUpdate_at ag rfl ?_ (Nat.zero_le _) (by rw[Zd,sizeLine_eq];omega))
  simp only[bne_self_eq_false,Bool.false_eq_true,if_false]
  refine Zx (fin _ (by simp) ?_)
  rw[Zd]at h2
  unfold jc
  rw[if_neg (by omega),range_getD]
 .rw[if_neg h2,if_neg h2]
  rw[Zd]at h2
  refine Zv (Zy (hk (by omega) g kg) (λκ s' hs=>?_) λ_ _ x=>x.elim)
  obtain⟨rfl,hask⟩:=hs
  have good:(kas_sort vs.length).kasWp (kas_ask prog w A κ vs) (λp s'=>p=rF f (kas_sort vs.length)/\s'={ s with heap:=g}) { s with heap:=g}:=
   cX.wp (n:=vs.length) (f:=f) (R:=dM vs.length) (λi j C hi hj hC=>hask i j C hi hj hC) (nY (by omega)) ⟨rfl,rfl⟩
  refine Zv (Zy (kat_run (Q:=λst' s'=>s'={ s with heap:=g}/\failedOf st'=none/\(arrOf st').map (·.2)=List.toArray ((rF f (kas_sort vs.length)).toList.map λi=>vs.getD i Value.none)) rfl (by omega) h64 (λp st' s' a1 a2 a3 a4=>⟨a4.2,a3,by rw[<-a4.1];exact kat_snds rfl a2⟩) good) ?_ λ_ _ e=>e)
  rintro⟨⟨⟩,st'⟩ s' ⟨rfl,hf,har⟩
  dsimp only
  rw[har]
  have hlen:(List.toArray ((rF f (kas_sort vs.length)).toList.map λi=>vs.getD i Value.none)).size=vs.length:=by
   have:=jh f vs.length
   unfold jc at this
   rw[if_pos (by omega)]at this
   rw[Zd,Zu,this]
  refine Zv (seqEpoch_at ag rfl ?_)
  refine Zv (listUpdate_at ag rfl ?_ (Nat.zero_le _) (Zl (Nat.le_of_eq hlen) (by rw[sizeLine_eq];omega)))
  rw[hf]
  simp only[bne_self_eq_false,Bool.false_eq_true,if_false]
  refine Zx (fin _ hlen ?_)
  unfold jc
  rw[if_pos (by omega)]
theorem yg{l:Addr}{Q:Value->Shared->Prop}(hl:s.heap.IsList l vs.toArray)(h64:vs.length<64)
  (hk:2<=vs.length->∀h',(∀b o,s.heap.get? b=some o->h'.get? b=some o)->Cmp prog w A.in1.in1 vs f { s with heap:=h'})
  (h:∀D h' c,(∀b o,s.heap.get? b=some o->h'.get? b=some o)->s.heap.objs.size<=D->h'.get? D=some (seqObj "list" ((jc f vs.length).map λi=>vs.getD i Value.none).toArray c)->Q (.ref D) { s with heap:=h'}):
  wpAny (model prog w) A (call (.builtin "sorted") [.ref l]) Q E s:=by
 refine Calls.call_function_entry kind_sorted plain_sorted entry_sorted (args_sorted1 _) ?_
 unfold Builtin.«sorted»
 refine Zv (m:=checkCount "sorted" 1 1 _) (Zx ?_)
 refine Zv (collect_list hl ?_ (by rw[sizeLine_eq];omega))
 refine Zv (wpAny_newList ?_ (by rw[sizeLine_eq];omega))
 generalize hg1:(s.heap.push (seqObj "list" #[] 0)).update s.heap.objs.size (Obj.mapSeq (· ++vs.toArray))=g1
 have k1:∀b o,s.heap.get? b=some o->g1.get? b=some o:=λb o q=>by
  rw[<-hg1,Heap.get?_update_ne _ _ _ _ (Zk (Ze q)),Heap.get?_push_ne _ _ _ (Zk (Ze q))]
  exact q
 have z1:g1.objs.size=s.heap.objs.size+1:=by rw[<-hg1,Heap.size_update,size_push']
 have k2:∀b o,s.heap.get? b=some o->(g1.push (seqObj "list" vs.toArray 0)).get? b=some o:=λb o q=>Zb _ (k1 b o q)
 have o2:(g1.push (seqObj "list" vs.toArray 0)).get? g1.objs.size=some (seqObj "list" vs.toArray 0):=Zf _ rfl
 show wpAny _ _ _ _ _ { s with heap:=g1.push (seqObj "list" vs.toArray 0) }
 have hle:s.heap.objs.size<=g1.objs.size:=by omega
 generalize g1.push (seqObj "list" vs.toArray 0)=g2 at *
 generalize g1.objs.size=D at *
 refine Zv (wpAny_holding (wpAny_call_entry slot_list_sort ⟨_,o2,rfl⟩ entry_list_sort ?body (args_list_sort _)))
 case body=>
  have ne:∀b o,s.heap.get? b=some o->b≠D:=λb o q=>Zk (Zc (Ze q) hle)
  refine Ah (s:={ s with heap:=g2}) (f:=f) o2 h64 (λh2 h' k'=>hk h2 h' λb o q=>k' b o (ne b o q) (k2 b o q)) λh' c k' e'=>⟨_,rfl,?_⟩
  exact Zx ⟨_,rfl,h D h' c (λb o q=>k' b o (ne b o q) (k2 b o q)) hle e'⟩
end
theorem qg:∀{a b:List Int},a.Perm b->a.Pairwise (· <= ·)->b.Pairwise (· <= ·)->a=b
 | [],b,p,_,_=>(List.nil_perm.mp p).symm
 |x::a,b,p,ha,hb=>by
  cases b with
  |nil=>exact absurd p.length_eq (by simp)
  |cons y b=>
   obtain⟨hx,ha'⟩:=List.pairwise_cons.mp ha
   obtain⟨hy,hb'⟩:=List.pairwise_cons.mp hb
   have e:x=y:=by
    have m1:x∈y::b:=p.mem_iff.mp (by simp)
    have m2:y∈x::a:=p.mem_iff.mpr (by simp)
    rcases Zi.mp m1 with z|z
    .exact z
    .rcases Zi.mp m2 with w|w
     .exact w.symm
     .exact Int.le_antisymm (hx y w) (hy x z)
   subst e
   rw[qg (List.Perm.cons_inv p) ha' hb']
theorem lN:∀{ns:List Int}{us:List Value},aY (ns.map V.int) us->IntsAre us ns
 | [],_,.nil=>.nil
 |n::ns,_,.cons ⟨t,e⟩ r=>by subst e;exact .cons n t (lN r)
theorem yh{h:Heap}{a b:Addr}{o:Obj}{g:Obj->Obj}(hb:b<a)(e:h.get? b=some o):(h.update a g).get? b=some o:=by
 rw[Heap.get?_update_ne _ _ _ _ (Zk hb)];exact e
theorem qe{h:Heap}{vs:List Value}{out:Array Value}{b:Addr}{o:Obj}(e:h.get? b=some o):(sortedAll h vs out).get? b=some o:=by
 have hb:=Ze e
 unfold sortedAll sortedHeap
 exact yh (Nat.lt_succ_of_lt hb) (Zb _ (Zb _ (yh (Nat.lt_succ_of_lt hb) (Zb _ (yh hb (Zb _ e))))))
theorem sortedAll_at{h:Heap}{vs:List Value}{out:Array Value}:∃c,(sortedAll h vs out).get? (h.objs.size+1)=some (seqObj "list" out c):=by
 unfold sortedAll
 generalize hg:(h.push (seqObj "list" #[] 0)).update h.objs.size (Obj.mapSeq (· ++vs.toArray))=g
 have hz:g.objs.size=h.objs.size+1:=by rw[<-hg,Heap.size_update,size_push']
 have e0:(g.push (seqObj "list" vs.toArray 0)).get? (h.objs.size+1)=some (seqObj "list" vs.toArray 0):=by rw[<-hz];exact Zf _ rfl
 unfold sortedHeap
 have e1:=get?_update_seq e0 λ_=>(#[]:Array Value)
 exact⟨_,get?_update_seq (Zb _ (Zb _ e1)) λ_=>out⟩
theorem yq{X:Cx}:gG X (.builtin "sorted") (λxs H Q=>∃a ns,xs=[.ref a]/\SqL X.K H a (ns.map V.int)/\ns.length<64/\∀p,H p=none->Q (.ref p) (upd H p (.lst ((sortI ns).map V.int)))):=by
 intro pins s σ H xs us Q I r h
 obtain⟨a,ns,rfl,hq,h64,q⟩:=h
 obtain⟨u,rfl,rx⟩:=vals1 r
 cases rx
 obtain⟨its,r',pl,hz⟩:=I.list hq
 have hI:=lN r'
 have hl:=r'.length
 rw[Zu]at hl hz
 refine sorted_ints pl.isList hI (by omega) λout ns' i1 p1 o1=>?_
 have e:=qg (p1.trans (sortI_perm ns).symm) o1 (sortI_rises ns)
 subst e
 obtain⟨c,ec⟩:=sortedAll_at (h:=s.heap) (vs:=its) (out:=out)
 have hlen:(sortI ns).length=ns.length:=(sortI_perm ns).length_eq
 refine⟨.ref (s.heap.objs.size+1),_,I.laid (t':=s.toks) (λb o e=>qe e) (Nat.le_succ _) (show gH X.prog X.w _ _ _ (.lst ((sortI ns).map V.int))from⟨by rw[Zu,hlen];exact hz,out.toList,c,oh i1,?_⟩),rfl,q _ (I.hok.fresh (Nat.le_succ _))⟩
 rw[ec]
def Dp(h:Heap)(v:Value)(ks:List Int):Prop:=∃a o its n,v= .ref a/\h.get? a=some o/\o.cls= .type "tuple"/\o.data= .seq (List.toArray its) n/\IntsAre its ks
theorem vf{prog:Program}{w:World}{A:Around}{Q:Bool->Shared->Prop}{s:Shared}{fin:Bool}:∀{xs ys:List Value}{ms ns:List Int},IntsAre xs ms->IntsAre ys ns->ms.length=ns.length->∀(i:Nat)(k:Bool),fin=false->Q (HT.lexLt ms ns) s->KatLex prog w A k fin Q (xs.zip ys) i s
 |_,_,_,_,.nil,.nil,_,i,k,hf,h=>by rw[hf];exact h
 |_,_,_,_,.nil,.cons _ _ _,hl,_,_,_,_=>by cases hl
 |_,_,_,_,.cons _ _ _,.nil,hl,_,_,_,_=>by cases hl
 |_,_,_,_,.cons (vs:=xs) (ns:=ms) m t h1,.cons (vs:=ys) (ns:=ns) n u h2,hl,i,k,hf,h=>by
  refine kat_cons (wpAny_eqBool_int ?_)
  unfold KatGo
  rw[HT.lexLt_cons]at h
  by_cases e:m=n
  .rw[if_pos e]at h
   rw[if_pos (by simpa using e)]
   exact vf h1 h2 (by simpa using hl) (i+1) k hf h
  .rw[if_neg e]at h
   rw[if_neg (by simpa using e)]
   cases hb:(k&&i==0)with
   |true=>exact oneLt_int h
   |false=>exact kat_one _ _ (lt_int h)
theorem Bo{prog:Program}{w:World}{A:Around}{vs:List Value}{kss:List (List Int)}{s:Shared}{d:Nat}(hl:vs.length=kss.length)(h2:2<=vs.length)(ht:∀i,i<vs.length->Dp s.heap (vs.getD i .none) (kss.getD i []))(hd:∀ks∈kss,ks.length=d+1):
  Cmp prog w A vs (λi j=>HT.lexLt (kss.getD i []) (kss.getD j [])) s:=by
 have hdk:∀i,i<vs.length->(kss.getD i []).length=d+1:=λi hi=>by
  have:kss.getD i []=kss[i]:=by simp[List.getD,hl▸hi]
  rw[this];exact hd _ (List.getElem_mem _)
 have firsts:∀(k:Nat)(us:List Value),us=vs.drop (vs.length-k)->k<=vs.length->∃fs:List Value,KatTups s.heap us fs/\fs.length=k/\∀v∈fs,∃n t,v= .int n t:=by
  intro k
  induction k with
  |zero=>intro us e _;subst e;exact⟨[],by simp[KatTups],rfl,by simp⟩
  |succ k ih=>
   intro us e hk
   have hlt:vs.length-(k+1)<vs.length:=by omega
   obtain⟨fs,f1,f2,f3⟩:=ih (vs.drop (vs.length-k)) rfl (by omega)
   rw[ZJ hlt]at e
   rw[show vs.length-(k+1)+1=vs.length-k by omega]at e
   obtain⟨a,o,its,n,ev,ho,hc,hdt,hi⟩:=ht _ hlt
   have ev':vs[vs.length-(k+1)]= .ref a:=by rw[<-ev];simp[List.getD,hlt]
   rw[ev']at e
   subst e
   have hlen:=hdk _ hlt
   generalize kss.getD (vs.length-(k+1)) []=ks at *
   cases hi with
   |nil=>cases hlen
   |cons m t h1=>
    rename_i r1 r2
    exact⟨.int m t::fs,KatTups.cons ho hc hdt (by simp) f1,by simp[f2],λv hv=>by
     rcases Zi.mp hv with z|z
     .exact⟨m,t,z⟩
     .exact f3 v z⟩
 obtain⟨fs,f1,f2,f3⟩:=firsts vs.length vs (by simp) (Zg _)
 refine kat_kind (T:=.type "int") f1 (by omega) (λv hv=>?_) rfl ⟨rfl,λi j C hi hj hC=>?_⟩
 .obtain⟨n,t,rfl⟩:=f3 v hv
  exact Looks.of_pure rfl
 .obtain⟨a,o,its,n,ev,ho,hc,hdt,hI⟩:=ht i hi
  obtain⟨a',o',its',n',ev',ho',hc',hdt',hI'⟩:=ht j hj
  have e1:=hdk i hi
  have e2:=hdk j hj
  have l1:=hI.length
  have l2:=hI'.length
  show wpAny _ _ (keyLt' _ (vs.getD i Value.none) (vs.getD j Value.none)) C _ s
  rw[ev,ev']
  refine kat_lt ho hdt ho' hdt' ?_
  simp only[List.toList_toArray]
  exact vf hI hI' (by omega) 0 _ (by rw[Zd,Zd];exact decide_eq_false (by omega)) hC
theorem mY:∀{xs:List V}{us:List Value},aY xs us->∀i,bY (xs.getD i .non) (us.getD i .none)
 |_,_,.nil,i=>by simp[bY]
 |_,_,.cons r t,0=>r
 |_,_,.cons r t,i+1=>mY t i
theorem ql{xs:List V}{us:List Value}(r:aY xs us):∀(is:List Nat),aY (is.map λi=>xs.getD i .non) (is.map λi=>us.getD i .none)
 | []=>.nil
 |i::is=>.cons (mY r i) (ql r is)
theorem xM{X:Cx}:gG X (.builtin "sorted") (λxs H Q=>∃(a:Addr)(ys:List V)(kss:List (List Int))(d:Nat),xs=[.ref a]/\SqL X.K H a ys/\ys.length<64/\ys.length=kss.length/\(∀ks∈kss,ks.length=d+1)/\(∀i,i<ys.length->∃p,ys.getD i .non= .ref p/\SqT X.K H p ((kss.getD i []).map V.int))/\
  ∀p,H p=none->Q (.ref p) (upd H p (.lst ((jc (λi j=>HT.lexLt (kss.getD i []) (kss.getD j [])) ys.length).map λi=>ys.getD i .non)))):=by
 intro pins s σ H xs us Q I r h
 obtain⟨a,ys,kss,d,rfl,hq,h64,hl,hd,ht,q⟩:=h
 obtain⟨u,rfl,rx⟩:=vals1 r
 cases rx
 obtain⟨its,r',pl,hz⟩:=I.list hq
 have hlen:=r'.length
 have tups:∀i,i<its.length->Dp s.heap (its.getD i .none) (kss.getD i []):=λi hi=>by
  obtain⟨p,ep,hT⟩:=ht i (by omega)
  have rl:=mY r' i
  rw[ep]at rl
  have e:its.getD i .none= .ref p:=rl
  obtain⟨us,ru,⟨o,ho,hc,n,hdt⟩,_⟩:=I.tuple hT
  exact⟨p,o,us,n,e,ho,hc,hdt,lN ru⟩
 refine yg (f:=λi j=>HT.lexLt (kss.getD i []) (kss.getD j [])) pl.isList (by omega) (λh2 h' k'=>?_) λD h' c k' hD ec=>?_
 .refine Bo (d:=d) (by omega) h2 (λi hi=>?_) hd
  obtain⟨p,o,us,n,e1,e2,e3⟩:=tups i hi
  exact⟨p,o,us,n,e1,k' _ _ e2,e3⟩
 .refine⟨.ref D,_,I.laid (t':=s.toks) k' hD (show gH X.prog X.w _ _ _ (.lst ((jc (λi j=>HT.lexLt (kss.getD i []) (kss.getD j [])) ys.length).map λi=>ys.getD i .non))from⟨by rw[Zu,jh];exact hz,_,c,?_,ec⟩),rfl,q _ (I.hok.fresh hD)⟩
  rw[<-hlen]
  exact ql r' _
end L2
namespace L3
open PySem PySem.Spec PyProof.Rows L2
def mF:List D->Option (List Int)
 | []=>some []
 | .int i::r=>(mF r).map (i:: ·)
 |_=>none
def zr:List D->Option (List (List Int))
 | []=>some []
 | .tup es::r=>(mF es).bind λks=>(zr r).map (ks:: ·)
 |_=>none
def Pa(kss:List (List Int)):Bool:=kss.all λks=>ks.length==(kss.headD []).length-1+1
def sI(ds:List D):Option (List D):=if ds.length<64 then match mF ds with
  |some ns=>some ((PySem.W.sortI ns).map .int)
  |none=>match zr ds with
   |some kss=>if Pa kss=true then some ((jc (λi j=>HT.lexLt (kss.getD i []) (kss.getD j [])) ds.length).map λi=>ds.getD i .non)else none
   |none=>none
 else none
theorem nQ:∀{ds:List D}{ns:List Int},mF ds=some ns->ds=ns.map .int
 | [],ns,h=>by cases h;rfl
 |d::r,ns,h=>by
  cases d with
  |int i=>
   obtain⟨ms,e,rfl⟩:=Zp.mp (show(mF r).map (i:: ·)=some ns from h)
   rw[nQ e];rfl
  |_=>cases h
theorem qx:∀(ns:List Int),mF (ns.map .int)=some ns
 | []=>rfl
 |n::ns=>by
  show(mF (ns.map .int)).map (n:: ·)=_
  rw[qx ns];rfl
theorem wF:∀{ds:List D}{kss:List (List Int)},zr ds=some kss->ds=kss.map λks=>.tup (ks.map .int)
 | [],kss,h=>by cases h;rfl
 |d::r,kss,h=>by
  cases d with
  |tup es=>
   obtain⟨ks,e1,h⟩:=Za.mp (show(mF es).bind (λks=>(zr r).map (ks:: ·))=some kss from h)
   obtain⟨ms,e,rfl⟩:=Zp.mp h
   rw[wF e,nQ e1];rfl
  |_=>cases h
theorem rZ{K:Zw}{tb:List Addr}{W:Wd}:∀(ns:List Int),cG K tb W (ns.map .int) (ns.map V.int)
 | []=>aC.nil
 |n::ns=>aC.cons di (rZ ns)
theorem nH{K:Zw}{tb:List Addr}{W:Wd}:∀{ns:List Int}{xs:List V},cG K tb W (ns.map .int) xs->xs=ns.map V.int
 | [],xs,h=>by
  have:=aC.length h
  cases xs with
  |nil=>rfl
  |cons a b=>cases this
 |n::ns,xs,h=>by
  cases xs with
  |nil=>have:=aC.length h;cases this
  |cons a b=>
   obtain⟨u,us,e,h1,h2⟩:∃u us,a::b=u::us/\bc K (Wd.fz tb W) W.ad (.int n) u/\aC K (Wd.fz tb W) W.ad (ns.map .int) us:=by unfold cG aC at h;exact h
   cases e
   rw[bz h1,nH h2];rfl
def uO(fs:AF):LF:=λδ μ=>(fs δ μ).bind λr=>match r.1 with
 | [x]=>(qD x r.2).bind λds=>(sI ds).map λes=>(es,r.2)
 |_=>none
theorem Dh{X:Cx}{tb:List Addr}{a:Expr}{fs:AF}{p pos:Pos}(hm:X.mg "sorted"=none)(ha:PAD X tb [a] fs)(hg:Gl X "sorted":=by rfl)(he:starEach [a] X.env=(false,eval a X.env)::starEach [] X.env:=by rfl):PDN X tb (.Call (.Name "sorted" p) [a] [] pos) (uO fs):=
 dG (iQ (yq.or xM) hg hm PyProof.Rows.boot_sorted ha (by decide) (by decide) he (by rfl)) λσ H Q zq1=>by
  obtain⟨W,δ,ds,μ',e,ok,hd,hf,k⟩:=zq1
  unfold uO at hf
  obtain⟨⟨xs,μ1⟩,e1,e2⟩:=Za.mp hf
  match xs,e1,e2 with
  | [x],e1,e2=>
   obtain⟨es,e3,e4⟩:=Za.mp (show(qD x μ1).bind (λds=>(sI ds).map λes=>(es,μ1))=some (ds,μ')from e2)
   obtain⟨os,e5,e6⟩:=Zp.mp e4
   cases e6
   refine⟨W,δ,[x],_,e,ok,hd,e1,λvs W1 ok1 l1 m1 d1=>?_⟩
   obtain⟨v,rfl,dv⟩:=aC.one d1
   obtain⟨a,ys,rfl,q,r⟩:=rW ok1 dv (by rw[m1];exact e3)
   have hlen:=aC.length r
   unfold sI at e5
   split at e5
   .rename_i h64
    split at e5
    .rename_i ns hn
     cases e5
     have:=nQ hn
     subst this
     have hy:=nH r
     subst hy
     exact .inl ⟨a,ns,rfl,SqL.of q,by simpa using h64,λl hl=>k l _ W1 ok1 l1 m1 hl (rZ _)⟩
    .split at e5
     .rename_i kss hk
      split at e5
      .rename_i hev
       cases e5
       have hk':=wF hk
       have hkl:es.length=kss.length:=by rw[hk'];simp
       refine .inr ⟨a,ys,kss,(kss.headD []).length-1,rfl,SqL.of q,by omega,by omega,λks h=>?_,λi hi=>?_,λl hl=>?_⟩
       .have:=List.all_eq_true.mp hev ks h
        simpa using this
       .have hi':i<es.length:=by omega
        have hik:i<kss.length:=by omega
        obtain⟨u,eu,du⟩:=aC.get r (List.getElem?_eq_getElem hi')
        have e7:es[i]= .tup ((kss.getD i []).map .int):=by
         have:kss.getD i []=kss[i]:=by simp[List.getD,hik]
         rw[this]
         simp[hk']
        rw[e7]at du
        obtain⟨b,zs,rfl,qb,rb⟩:=gO du
        have hz:=nH rb
        subst hz
        refine⟨b,?_,SqT.fz qb⟩
        rw[List.getD_eq_getElem?_getD,eu];rfl
       .rw[hlen]at k
        exact k l _ W1 ok1 l1 m1 hl (qp r _)
      .cases e5
     .cases e5
   .cases e5
end L3
namespace L2
open PySem PySem.Spec PyProof.Rows PySem.W
abbrev xr(X:Cx)(scope:Scope)(q:Str)(C f:Addr)(code:Value):Env:=newEnv scope C mainGlobals (cg X.env scope.names []) q (some f) code none builtinsNs
def mX(X:Cx)(A':Around)(x:Str)(cap:List Str)(scope:Scope)(q:Str)(f:Addr)(code:Value)(s:Shared)(H:Hp):Cx where
 prog:=X.prog
 w:=X.w
 K:=X.K
 mg:=X.mg
 base:=X.base
 A:=A'.deeper (xr X scope q s.heap.objs.size f code)
 N:=[x]++cap
 s₀:=s
 H₀:=H
 env:=xr X scope q s.heap.objs.size f code
 outer:=X.stack
 stack:=xr X scope q s.heap.objs.size f code::X.stack
 ex:=[]
 fn:=λy=>y==x
 calm:=true
 pn:=[]
 xe:=λ_ _=>False
section
variable {X:Cx} {pins:List (Addr×Obj)} {σ:St} {H:Hp} {s:Shared} {x:Str} {cap:List Str} {capI:List Nat} {scope:Scope}
theorem Inv.lam{A':Around}{h1:Heap}{q:Str}{f:Addr}{code u:Value}{y:V}{tk:Nat}(I:Inv X pins σ H s)(B:cH X [x] cap capI scope)(hx:scope.names.lookup x=some .local)(hown:(x,NameKind.free)∉scope.names)(hnc:∀y∈scope.names,y.2≠ .cell)
  (hcx:x∉cap) (keep:∀b o,s.heap.get? b=some o->h1.get? b=some o) (hm:h1.Ns s.heap.objs.size (λz=>[(x,u)].reverse.lookup z)) (hAf:A'.frames=some X.stack) (hAh:A'.handled=none) (ry:bY y u):
  Inv (mX X A' x cap scope q f code s H) [] (some y::jx σ capI) H { s with heap:=h1,toks:=tk}:=by
 have clo_old:∀p∈cg X.env scope.names [],X.env.cells.lookup p.1=some p.2:=λp hp=>(jw hp).elim (λz=>by simp at z) id
 have old_lt:∀z c,X.env.cells.lookup z=some c->c<s.heap.objs.size:=λz c e=>let⟨v,q⟩:=I.cell z c e;q.lt
 have csm:∀z c,(cg X.env scope.names []).lookup z=some c->X.env.cells.lookup z=some c/\c<s.heap.objs.size:=λz c e=>by
  have q:=clo_old _ (Zt e)
  exact⟨q,old_lt _ _ q⟩
 have fresh:H s.heap.objs.size=none:=I.hok.fresh (Zg _)
 have noA:∀b:Addr,b∉(mX X A' x cap scope q f code s H).ex:=λb z=>absurd (show b∈([]:List Addr)from z) (by simp)
 refine⟨⟨I.ok.mod,B.kind,rfl,rfl,Zg _,?_,?_,?_,λ_=>hAh,Around.frames_deeper hAf,.inr ⟨rfl,rfl⟩,λb z=>absurd z (noA b),I.bs,Zl I.ok.bsz I.sz,λb _ _=>noA b,λb z=>absurd z (noA b),I.stack,I.stkFree⟩,rfl,GK.refl I.bare.bare,Un.kept keep,?_,?_,fresh,?_,?_,I.hok.kept keep,?_⟩
 .intro y z c e1 e2
  exact I.ok.inj y z c (csm y c e1).1 (csm z c e2).1
 .intro y hy
  have hy':scope.names.lookup y=some .cell∨scope.names.lookup y=some .free:=hy
  rcases hy' with e|e
  .exact absurd rfl (hnc _ (Zt e))
  .have q:=Zt e
   obtain⟨c,hc⟩:=B.cells I _ q rfl
   exact⟨c,iT hc (.inl q)⟩
 .intro z c hz e
  exfalso
  have hz:z=x:=by simpa[mX]using hz
  subst hz
  have q:(cg X.env scope.names []).lookup z=none:=by
   rw[lM λk hk=>by rintro rfl;exact hown hk];rfl
  have e':(cg X.env scope.names []).lookup z=some c:=e
  rw[q]at e';cases e'
 .obtain⟨m',hn,hl⟩:=I.loc
  refine⟨_,hm,λi z v e1 e2 hv=>?_⟩
  cases i with
  |zero=>
   have e1:some x=some z:=e1
   cases e1
   have e2:some (some y)=some (some v):=e2
   cases e2
   exact⟨u,ry,.inl ⟨hx,by simp⟩⟩
  |succ i=>
   have e1':cap[i]? =some z:=e1
   have e2':(jx σ capI)[i]? =some (some v):=e2
   obtain⟨i0,q1,q2⟩:=oU e2'
   obtain⟨y',q3,q4,q5⟩:=B.caps.get q1
   rw[e1']at q3
   cases q3
   have hxf:(z,NameKind.free)∈scope.names:=B.cfr z (List.mem_of_getElem? e1')
   have vis:Vis X.env.scope z:=by
    rcases q5 with q5|q5
    .exact .inr (.inl q5)
    .exact .inr (.inr q5)
   obtain⟨w,rw',lk⟩:=hl i0 z v q4 q2 vis
   refine⟨w,rw',.inr ⟨.inr (cM B.nd hxf),?_⟩⟩
   rcases lk with⟨k,_⟩|⟨_,c,ec,hc⟩
   .rcases q5 with q5|q5<;>rw[k]at q5<;>cases q5
   .exact⟨c,iT ec (.inl hxf),hc.keeps keep⟩
 .intro z c e
  obtain⟨v,q⟩:=I.cell z c (csm z c e).1
  exact⟨v,q.keeps keep⟩
 .intro z c e
  exact I.freeC z c (csm z c e).1
 .intro p hp
  exact absurd (show p∈([]:List (Addr×Obj))from hp) (by simp)
 .show(some y::jx σ capI).length=([x]++cap).length
  unfold jx
  rw[ZH,Zu,B.caps.length,ZG]
  simp[Nat.add_comm]
end
abbrev IK(qual:Str)(params:Arguments)(body:Expr)(scope:Scope)(cl:List (Str×Addr))(pm cv ct:Value):FuncData:=kla_fn "<lambda>" qual params body scope cl pm cv ct
theorem zM{prog:Program}{w:World}{A:Around}{R:Result->Shared->Prop}{s:Shared}{a c:Addr}{args:Args}{o oc:Obj}{fd:FuncData}{body:Expr}{vs:Array Value}{u:Value}(hroom:A.depth<recursionLimit)(ho:s.heap.get? a=some o)(hd':o.data= .func fd)
  (hco:fd.scope.isCoroutine=false) (hgen:fd.scope.isGenerator=false) (hbody:fd.body= .expr body) (hc:fd.code= .ref c) (hoc:s.heap.get? c=some oc) (hdc:oc.data= .fields vs) (hu:vs[1]? =some u)
  (h:∀q:Str,wpAny (model prog w) A.in1 (bindArgs fd args) (λbinds s₁=>
   wpAny (model prog w) A.in1 (newFunctionEnv fd.scope fd.globals fd.closure binds q (some a) fd.code none fd.builtins)
    (λenv s₂=>s₂.heap.NoLimit/\codeAny (model prog w) A (.expr body env) R s₂) (λe s'=>R (.error e) s') s₁) (λe s'=>R (.error e) s') s):
  codeAny (model prog w) A (.call (.ref a) args) R s:=by
 refine codeAny_of_tree ?_
 show wpAny _ A.in1 (callAny (.ref a) args) _ _ s
 simp only[callAny]
 refine Zv (wpAny_load ho ?_)
 simp only[hd',callFunction,hco,hgen,hbody,hc]
 rw[hc]at h
 refine Zv (m:=field (.ref c) 1) (wpAny_field hoc hdc hu ?_)
 have go:∀q:Str,wpAny (model prog w) A.in1 (do
   let env<-newFunctionEnv fd.scope fd.globals fd.closure (<-bindArgs fd args) q (some a) (.ref c) none fd.builtins
   enterFrame
   again (.expr body env)) (λfin s'=>match fin with
    | .done f=>R (.ok f) s'
    | .again c'=>c'.quiet=true/\codeAny (model prog w) A c' R s') (λe s'=>R (.error e) s') s:=λq=>
  Zv (Zy (h q) (λbinds s₁ h₁=>Zv (Zy h₁ (λenv s₂ h₂=>Zv (wpAny_enterFrame h₂.1 hroom (Zx (And.intro rfl h₂.2)))) λ_ _ h'=>h')) λ_ _ h'=>h')
 cases u with
 |str q t=>exact Zv (Zx (go _))
 |_=>exact Zv (Zx (go _))
section
variable {X:Cx} {pins:List (Addr×Obj)} {σ:St} {H:Hp} {s:Shared} {x:Str} {cap:List Str} {capI:List Nat} {scope:Scope} {params:Arguments} {body:Expr} {te:TE} {k:Nat}
structure zp(X:Cx)(x:Str)(cap:List Str)(capI:List Nat)(scope:Scope)(params:Arguments)(body:Expr):Prop where
 blk:cH X [x] cap capI scope
 par:scope.names.lookup x=some .local
 own:(x,NameKind.free)∉scope.names
 noc:∀y∈scope.names,y.2≠ .cell
 ncap:x∉cap
 co:scope.isCoroutine=false
 gen:scope.isGenerator=false
 dflt:defaultsOf params X.env=([],[])
 bind:∀(qual:Str)(cl:List (Str×Addr))(pm cv ct u:Value),bindArgs (IK qual params body scope cl pm cv ct) ⟨[u],[]⟩=pure [(x,u)]
abbrev qm(X:Cx)(qual:Str)(params:Arguments)(body:Expr)(scope:Scope)(pm cv ct:Value):Obj:={ cls:=.type "function",data:=.func (IK qual params body scope (cg X.env scope.names []) pm cv ct) }
theorem Hn{f:Addr}{qual:Str}{pm cv ct u:Value}{y:V}{Q:VK}(hr:cO (k+1) X.A)(hc:X.calm=true)(L:zp X x cap capI scope params body)
  (he:∀q f code s H,PE (mX X X.A.in1.in1 x cap scope q f code s H) body te) (I:Inv X pins σ H s) (ho:s.heap.get? f=some (qm X qual params body scope pm cv ct)) (hcv:uc H cv) (ry:bY y u) (hq:te (some y::jx σ capI) H Q):
  wpAny (model X.prog X.w) X.A.in1.in1 (call (.ref f) [u]) (EP X pins σ Q) (λ_ _=>False) s:=by
 obtain⟨c,oc,vs,w,rfl,hc1,hc2,hc3⟩:=hcv
 have hoc:s.heap.get? c=some oc:=(I.hok c _ hc1).1
 obtain⟨a1,a2⟩:=yc I hc (A':=X.A.in1.in1) rfl rfl
 have hdp:=hr.dp
 refine wpAny_call (zM (show X.A.depth<recursionLimit by omega) ho rfl L.co L.gen rfl rfl hoc hc2 hc3 λq=>?_)
 rw[L.bind]
 refine Zx (wpAny_newFunctionEnv L.noc (λz hz=>by rw[ZI.mp hz];exact L.par) (λh₁ hns hsb=>?_) L.blk.kind)
 have keep:∀b o,s.heap.get? b=some o->h₁.get? b=some o:=λb o e=>hsb.extBut b o (Zk (Ze e)) (Zb _ e)
 refine⟨I.nolimit.keeps keep,?_⟩
 have J:=I.lam (A':=X.A.in1.in1) (q:=q) (f:=f) (code:=.ref c) (tk:=s.toks+ [(x,u)].length) L.blk L.par L.own L.noc L.ncap keep hns a2 a1 ry
 exact kla_codeExpr (Zy (he q f (.ref c) s H [] _ _ H Q J hq) (λv s' ⟨v',H',J',rv,qv⟩=>I.after ⟨v',H',J'.os,J'.bare,J'.base,J'.hok,rv,qv⟩) λ_ _ z=>z.elim)
theorem Em{c P:Addr}{ps:Array Value}{pos:Pos}{A:Around}{E:Value->Shared->Prop}{Q:Value->Shared->Prop}(L:zp X x cap capI scope params body)(I:Inv X pins σ H s)(hcode:X.env.code= .ref c)(hd:CodeHd X.base c P)(hP:H P=some (.tbl ps))(ht:TOk H ps)
  (h:∀f s' H' ps' pm cv ct,xX s.heap.objs.size P ps ps' H H'->Inv X (pins++[(f,qm X (X.env.qual++"<lambda>") params body scope pm cv ct)]) σ H' s'->uc H' cv->Q (.ref f) s'):
  wpAny (model X.prog X.w) A (eval (.Lambda params body scope pos) X.env) Q E s:=by
 have hd':CodeHd s.heap c P:=hd.keeps I.bk
 have oP:s.heap.get? P=some (tabObj ps):=I.hok P _ hP
 have nb:∀b o,X.base.get? b=some o->b≠P:=λb o e z=>by
  have:=(I.bs b o e).2
  rw[z,hP]at this;cases this
 obtain⟨og,es,ep,eg,edg,_⟩:=id I.mod.glob
 obtain⟨bm,ob,b1,b2,b3,b4,b5,b6⟩:=I.mod.bmain
 have hbG:bm≠mainGlobals:=λz=>by
  rw[z,eg]at b3;cases b3;rw[edg]at b6;cases b6
 have hBA:s.heap.BuiltinsAt X.mg P:=⟨bm,ob,b1,b2,hbG,nb _ _ b3,I.bk _ _ b3,b4,b5,b6⟩
 have hcl:=gV (L.blk.cells I)
 have hg:=I.mod.glob.keeps I.bk
 have fin:∀{H':Hp}{h':Heap}{tk:Nat}{ps':Array Value}{pm cv ct:Value},xX s.heap.objs.size P ps ps' H H'->Inv X pins σ H' { s with heap:=h',toks:=tk}->uc H' cv->
   Q (.ref h'.objs.size) { s with heap:=h'.push (qm X (X.env.qual++"<lambda>") params body scope pm cv ct),toks:=tk}:=λ{H' h' tk ps' pm cv ct} hG I' hcv=>by
  have I2:Inv X pins σ H' { s with heap:=h'.push (qm X (X.env.qual++"<lambda>") params body scope pm cv ct),toks:=tk}:=I'.kept (t':=tk) λb o e=>Zb _ e
  refine h _ _ H' ps' pm cv ct hG (I2.more λp hp=>?_) hcv
  rw[ZI.mp hp]
  exact⟨Zf _ rfl,I'.hok.fresh (Zg _),Nat.ne_of_gt I'.lt,I'.nofs (Zg _),λv=>by intro z;cases z⟩
 refine kla_eval L.dflt ?_
 cases hnf:codeAmong pos ps.toList with
 |some cv=>
  refine kla_makeFunctionHit hcl I.ok.glob hg hcode hd' oP ht.1 hnf hBA λctv h' tk hk hsz=>?_
  exact fin ⟨hP,⟨#[],by simp⟩,ht,λ_ _ _ e=>e,λ_ _ e=>e⟩ (I.kept hk) (ht.2 _ _ hnf)
 |none=>
  refine kla_makeFunction hcl I.ok.glob hg hcode hd' oP ht.1 hnf (nb _ _ eg) hBA λc' ctv h' tk hx hge hlt hrec htb=>?_
  obtain⟨c2,oc,vs,t,e2,hoc,hdd,hv⟩:=hrec
  cases e2
  refine tL I hP ht hge hoc hdd hv (λb o hb e=>hx b o hb e) htb λhG I'=>fin hG I' ⟨c',oc,vs,_,rfl,cW,hdd,hv⟩
end
theorem Ce{X:Cx}{x:Str}{cap:List Str}{scope:Scope}{q:Str}{f:Addr}{code:Value}{s:Shared}{H:Hp}:∀k,cO (k+1) X.A->cO k (mX X X.A.in1.in1 x cap scope q f code s H).A:=λk r=>
 ⟨r.hd,by have:=r.dp;show X.A.depth+1+3*k+5<_;omega,by have:=r.un;show X.A.units+1+1+3+16*k+200<_;omega,r.gd⟩
section
variable {X:Cx} {pins:List (Addr×Obj)} {σ:St} {H:Hp} {s:Shared}
theorem Inv.trackNew{c:Addr}{o:Obj}{u:HO}(I:Inv X pins σ H s)(ho:s.heap.get? c=some o)(hn:H c=none)(hnew:X.s₀.heap.objs.size<=c)(hL:c≠X.env.locals)(hc:∀x d,X.env.cells.lookup x=some d->d≠c)(hp:∀p∈X.pn++pins,p.1≠c)
  (new:gH X.prog X.w (upd H c u) s.heap c u):Inv X pins σ (upd H c u) s:=by
 have ne:∀b u,H b=some u->b≠c:=λb u e z=>by rw[z,hn]at e;cases e
 refine⟨I.ok,I.os,I.bare,⟨I.base.keep,I.base.slot,λb ob e n hx=>?_,I.base.there,λb xs e=>?_,λb ob u e=>?_,λb ps e=>?_⟩,I.loc,I.cell,?_,λx d e=>?_,λp hp'=>?_,λa u e=>?_,I.len⟩
 .rw[aO (Zk (Zc (Ze e) hnew))];exact I.base.free b ob e n hx
 .have q:=I.base.tups b xs e
  rw[aO (ne _ _ q)];exact q
 .have q:=I.base.frzs b ob u e
  rw[aO (ne _ _ q)];exact q
 .obtain⟨more,q⟩:=I.base.tbls b ps e
  exact⟨more,by rw[aO (ne _ _ q)];exact q⟩
 .rw[aO (Ne.symm hL)];exact I.free
 .rw[aO (hc x d e)];exact I.freeC x d e
 .obtain⟨a,b,r⟩:=I.pin p hp'
  exact⟨a,by rw[aO (hp p hp')];exact b,r⟩
 .by_cases z:a=c
  .subst z
   rw[cW]at e;cases e
   exact new
  .rw[aO z]at e
   exact(I.hok a u e).stay (λb v _ q=>q) (λb q=>by rw[aO (ne _ _ q)];exact q) λb xs q=>by rw[aO (ne _ _ q)];exact q
structure New(X:Cx)(pins:List (Addr×Obj))(a:Addr):Prop where
 s0:X.s₀.heap.objs.size<=a
 loc:a≠X.env.locals
 fs:a∉X.fs
 cel:∀x d,X.env.cells.lookup x=some d->d≠a
 pin:∀p∈X.pn++pins,p.1≠a
theorem Inv.newA(I:Inv X pins σ H s){a:Addr}(h:s.heap.objs.size<=a):New X pins a:=
 ⟨Zl I.sz h,Nat.ne_of_gt (Zc I.lt h),I.nofs h,λx d e=>by
  obtain⟨v,o,e2,_⟩:=I.cell x d e
  exact Zk (Zc (Ze e2) h),λp hp=>Zk (Zc (Ze (I.pin p hp).1) h)⟩
theorem Inv.chg{h':Heap}{a:Addr}{tk:Nat}(I:Inv X pins σ H s)(N:New X pins a)(hn:H a=none)(k:∀b o,b≠a->s.heap.get? b=some o->h'.get? b=some o):Inv X pins σ H { s with heap:=h',toks:=tk}:=
 I.turned k hn N.loc (.inr N.s0) N.cel N.pin
theorem wX{A:Around}{E:Value->Shared->Prop}{P:PySem.Fin->Shared->Prop}{D f:Addr}{n:Nat}{xs:List V}{vs:List Value}{W:Nat->List Int->Hp->Prop}(hA:A=X.A.in1.in1)(I:Inv X pins σ H s)(N:New X pins D)(ho:s.heap.get? D=some (seqObj "list" vs.toArray n))(hn:H D=none)(r:aY xs vs)(h64:xs.length<64)(w0:W 0 [] H)
  (turn:∀(i:Nat)(y:V)(u:Value)(kz:List Int)(Hi:Hp)(s':Shared)(own:List (Addr×Obj)),xs[i]? =some y->bY y u->W i kz Hi->Inv X (pins++own) σ Hi s'->wpAny (model X.prog X.w) X.A.in1.in1 (call (.ref f) [u]) (EP X (pins++own) σ λv H'=>∃k,v= .int k/\W (i+1) (kz++[k]) H') (λ_ _=>False) s')
  (h:∀kz H' s',W xs.length kz H'->H' D=none->Inv X pins σ (upd H' D (.lst ((jc (λi j=>decide (kz.getD i 0<kz.getD j 0)) xs.length).map λi=>xs.getD i .non))) s'->P (.done (.ret .none)) s'):
  wpAny (model X.prog X.w) A (ksk_tree D (.ref f) false) P E s:=by
 subst hA
 have hl:=r.length
 have e1:=get?_update_seq ho λ_=>(#[]:Array Value)
 generalize hc1:(if(#[]:Array Value).size==vs.toArray.size then n else n+1)=c1 at e1
 have upd1:=λ(a:Addr)(g:Heap)(q:Array Value->Array Value)=>Heap.SameBut.update g a (Obj.mapSeq q)
 unfold ksk_tree
 refine Zv (listItems_at ho rfl ?_)
 refine Zv (listUpdate_at ho rfl ?_ (by rw[Zd,sizeLine_eq];omega) (Nat.zero_le _))
 refine Zv (seqEpoch_at e1 rfl ?_)
 refine Zv (wpAny_newTuple ?_ (by show vs.length<=_;rw[sizeLine_eq];omega))
 refine Zv (wpAny_newList ?_ (Nat.zero_le _))
 refine wpAny_holding ?_
 have I1:Inv X pins σ H { s with heap:=s.heap.update D (Obj.mapSeq λ_=>(#[]:Array Value)),toks:=s.toks}:=I.chg N hn λb o hb e=>((upd1 D s.heap _).2 b hb).trans e
 generalize hg4:(s.heap.update D (Obj.mapSeq λ_=>(#[]:Array Value))).push (seqObj "tuple" vs.toArray 0)=g4
 have I4:Inv X pins σ H { s with heap:=g4,toks:=s.toks}:=I1.kept (h':=g4) λb o e=>by rw[<-hg4];exact Zb _ e
 have o4:g4.get? D=some (seqObj "list" #[] c1):=by rw[<-hg4];exact Zb _ e1
 show wpAny (model X.prog X.w) X.A.in1.in1 (ksk_rest D (.ref f) false vs.toArray c1 (.ref g4.objs.size)) P E { s with heap:=g4.push (seqObj "list" #[] 0) }
 have NK:New X pins g4.objs.size:=I4.newA (Zg _)
 have hDK:D≠g4.objs.size:=Zk (Ze o4)
 have nK:H g4.objs.size=none:=I4.hok.fresh (Zg _)
 have I5:Inv X pins σ H { s with heap:=g4.push (seqObj "list" #[] 0),toks:=s.toks}:=I4.kept (h':=g4.push (seqObj "list" #[] 0)) λb o e=>Zb _ e
 have o5:(g4.push (seqObj "list" #[] 0)).get? D=some (seqObj "list" #[] c1):=Zb _ o4
 have k5:(g4.push (seqObj "list" #[] 0)).get? g4.objs.size=some (seqObj "list" #[] 0):=Zf _ rfl
 generalize g4.objs.size=kS at *
 generalize g4.push (seqObj "list" #[] 0)=g5 at *
 have pinIt:∀{Hi:Hp}{s':Shared}{kA:Array Value}{e:Nat},Inv X pins σ Hi s'->s'.heap.get? kS=some (seqObj "list" kA e)->s'.heap.get? D=some (seqObj "list" #[] c1)->Hi kS=none->Hi D=none->Inv X (pins++[(kS,seqObj "list" kA e),(D,seqObj "list" #[] c1)]) σ Hi s':=λ{Hi s' kA e} J q1 q2 q3 q4=>J.more λp hp=>by
  rcases Zi.mp hp with z|z
  .rw[z];exact⟨q1,q3,NK.loc,NK.fs,λv=>by intro z;cases z⟩
  .rw[ZI.mp z];exact⟨q2,q4,N.loc,N.fs,λv=>by intro z;cases z⟩
 unfold ksk_rest
 refine Zv (wpAny_rule ?_)
 rw[List.forIn_toArray]
 refine Zv (ksk_fold (λi s'=>∃Hi kz kA e,Inv X (pins++[(kS,seqObj "list" kA e),(D,seqObj "list" #[] c1)]) σ Hi s'/\W i kz Hi/\IntsAre kA.toList kz/\kz.length=i) vs 0 _ ⟨H,[],#[],0,pinIt I5 k5 o5 nK hn,w0,.nil,rfl⟩ ?step ?done)
 case step=>
  rintro j v s' hv ⟨Hi,kz,kA,e,J,w,hk,hkl⟩
  simp only[Nat.zero_add]at w hkl ⊢
  obtain⟨y,hy,ry⟩:∃y,xs[j]? =some y/\bY y v:=by
   have hj:j<vs.length:=(Zh.mp hv).1
   have hj':j<xs.length:=by omega
   have rl:=mY r j
   refine⟨xs[j],List.getElem?_eq_getElem hj',?_⟩
   have a1:xs.getD j V.non=xs[j]:=by simp[List.getD,hj']
   have a2:vs.getD j Value.none=v:=by simp[List.getD,hv]
   rw[a1,a2]at rl
   exact rl
  have hj:j<xs.length:=(Zh.mp hy).1
  refine Zv (wpAny_attempt (Zy (turn j y v kz Hi s' _ hy ry w J) (λu s2 hu=>?_) λ_ _ z=>z.elim))
  obtain⟨z,H2,J2,rz,m,hz,w2⟩:=hu
  subst hz
  obtain⟨t,rfl⟩:=rz
  have pk:=J2.pin (kS,seqObj "list" kA e) (by simp)
  have pd:=J2.pin (D,seqObj "list" #[] c1) (by simp)
  have hkA:kA.size<=64:=by
   have:=hk.length
   rw[Array.length_toList]at this
   omega
  have s1:=upd1 kS s2.heap (·.push (.int m t))
  have q1:=get?_update_seq pk.1 (·.push (.int m t))
  try dsimp only
  refine Zv (listUpdate_at pk.1 rfl ?_ (by rw[sizeLine_eq];omega) (Zl (Nat.le_of_eq (Array.size_push ..)) (by rw[sizeLine_eq];omega)))
  have ea:(kA.push (Value.int m t)).toList=kA.toList++[Value.int m t]:=by simp
  have J3:Inv X pins σ H2 s2:=J2.unpinned
  refine Zx ⟨rfl,H2,kz++[m],kA.push (.int m t),_,pinIt (J3.chg (tk:=s2.toks) NK pk.2.1 λb o hb e=>(s1.2 b hb).trans e) q1 ((s1.2 D hDK).trans pd.1) pk.2.1 pd.2.1,w2,by rw[ea];exact ksk_snoc hk,by simp[hkl]⟩
 case done=>
  rintro s' ⟨Hi,kz,kA,e,J,w,hk,hkl⟩
  rw[Nat.zero_add,<-hl]at w
  have hkl:kz.length=xs.length:=by omega
  have pk:=J.pin (kS,seqObj "list" kA e) (by simp)
  have pd:=J.pin (D,seqObj "list" #[] c1) (by simp)
  have J3:Inv X pins σ Hi s':=J.unpinned
  have hkA:kA.size=vs.length:=by
   have:=hk.length
   rw[Array.length_toList]at this
   omega
  try dsimp only
  refine Zv (listItems_at pk.1 rfl ?_)
  have tail:∀st:SortSt,failedOf st=none->(arrOf st).map (·.2)=(((jc (λi j=>decide (kz.getD i 0<kz.getD j 0)) xs.length).map λi=>vs.getD i Value.none).toArray)->wpAny (model X.prog X.w) X.A.in1.in1 (ksk_tail D false c1 (.ref kS) st) P E s':=λst hf har=>by
   have s1:=upd1 kS s'.heap λ_=>(#[]:Array Value)
   have q1:=(s1.2 D hDK).trans pd.1
   have hsz:((jc (λi j=>decide (kz.getD i 0<kz.getD j 0)) xs.length).map λi=>vs.getD i Value.none).toArray.size=vs.length:=by rw[Zd,Zu,jh,hl]
   unfold ksk_tail
   rw[har]
   try dsimp only
   refine Zv (listUpdate_at pk.1 rfl ?_ (by rw[hkA,sizeLine_eq];omega) (Nat.zero_le _))
   refine Zv (wpAny_letGo ?_)
   refine Zv (seqEpoch_at q1 rfl ?_)
   have s2:=upd1 D (s'.heap.update kS (Obj.mapSeq λ_=>(#[]:Array Value))) λ_=>((jc (λi j=>decide (kz.getD i 0<kz.getD j 0)) xs.length).map λi=>vs.getD i Value.none).toArray
   have q2:=get?_update_seq q1 λ_=>((jc (λi j=>decide (kz.getD i 0<kz.getD j 0)) xs.length).map λi=>vs.getD i Value.none).toArray
   refine Zv (listUpdate_at q1 rfl ?_ (Nat.zero_le _) (Zl (Nat.le_of_eq hsz) (by rw[sizeLine_eq];omega)))
   rw[hf]
   simp only[bne_self_eq_false,Bool.false_eq_true,if_false]
   have J4:Inv X pins σ Hi { s' with heap:=s'.heap.update kS (Obj.mapSeq λ_=>(#[]:Array Value)),toks:=s'.toks}:=J3.chg NK pk.2.1 λb o hb e=>(s1.2 b hb).trans e
   have J5:=J4.chg (tk:=s'.toks) N pd.2.1 λb o hb e=>(s2.2 b hb).trans e
   refine Zx (h kz Hi _ w pd.2.1 (J5.trackNew q2 pd.2.1 N.s0 N.loc N.cel N.pin ⟨by rw[Zu,jh,sizeLine_eq];omega,_,_,ql r _,q2⟩))
  unfold ksk_end
  try dsimp only
  simp only[Bool.false_eq_true,if_false]
  by_cases h2:vs.toArray.size<2
  .rw[if_pos h2,if_pos h2]
   refine Zv (Zx ?_)
   rw[StateT.run_pure]
   refine Zv (Zx ?_)
   try dsimp only
   refine tail _ rfl ?_
   rw[Zd]at h2
   unfold jc
   rw[if_neg (by omega),hl,range_getD]
   show(kA.zip vs.toArray).map (λp=>p.2)=vs.toArray
   apply Array.toList_inj.mp
   rw[Array.toList_map,ksk_zip,List.map_snd_zip (by simp[hkA])]
  .rw[if_neg h2,if_neg h2]
   rw[Zd]at h2
   rw[ksk_kind hk (by omega)]
   refine Zv (Zx ?_)
   have hkt:kA.toList.length=vs.length:=by rw[Array.length_toList,hkA]
   have good:(kas_sort vs.length).kasWp (kas_ask X.prog X.w X.A.in1.in1 oneType' kA.toList) (λp s''=>p=rF (λi j=>decide (kz.getD i 0<kz.getD j 0)) (kas_sort vs.length)/\s''=s') s':=
    cX.wp (n:=vs.length) (R:=dM vs.length) (λi j C hi hj hC=>by
     obtain⟨t1,g1⟩:=hk.get i (kz.getD i 0) (by simp[List.getD,hkl,<-hl,show i<xs.length by omega])
     obtain⟨t2,g2⟩:=hk.get j (kz.getD j 0) (by simp[List.getD,hkl,<-hl,show j<xs.length by omega])
     show wpAny _ _ (keyLt' _ (kA.toList.getD i Value.none) (kA.toList.getD j Value.none)) C _ s'
     have f1:kA.toList.getD i Value.none= .int (kz.getD i 0) t1:=by
      show(kA.toList[i]?).getD Value.none=_
      rw[g1];rfl
     have f2:kA.toList.getD j Value.none= .int (kz.getD j 0) t2:=by
      show(kA.toList[j]?).getD Value.none=_
      rw[g2];rfl
     rw[f1,f2]
     exact kat_lt_int hC) (nY (by omega)) ⟨rfl,rfl⟩
   have run:=kat_run (E:=E) (Q:=λst' s''=>s''=s'/\failedOf st'=none/\(arrOf st').map (·.2)=List.toArray ((rF (λi j=>decide (kz.getD i 0<kz.getD j 0)) (kas_sort vs.length)).toList.map λi=>vs.getD i Value.none)) hkt (by omega) (by omega) (λp st' s'' a1 a2 a3 a4=>⟨a4.2,a3,by rw[<-a4.1];exact kat_snds hkt a2⟩) good
   rw[Array.toArray_toList]at run
   refine Zv (Zy run ?_ λ_ _ e=>e)
   rintro⟨⟨⟩,st'⟩ s'' ⟨rfl,hf,har⟩
   try dsimp only
   refine tail st' hf ?_
   rw[har]
   unfold jc
   rw[if_pos (by omega),hl]
end
def xn(kz:List Int)(xs:List V):List V:=(jc (λi j=>decide (kz.getD i 0<kz.getD j 0)) xs.length).map λi=>xs.getD i .non
def Mg(P:Addr)(capI:List Nat)(ta te:TE):TE:=λσ H Q=>ta σ H λv H1=>∃(a:Addr)(xs:List V)(ps:Array Value),v= .ref a/\H1 a=some (.lst xs)/\xs.length<64/\H1 P=some (.tbl ps)/\TOk H1 ps/\
 ∀lo H2 ps',xX lo P ps ps' H1 H2->∃W:Nat->List Int->Hp->Prop,W 0 [] H2/\(∀i kz Hi,W i kz Hi->(∀c o,H2 c=some (.frz o (.own 0))->Hi c=some (.frz o (.own 0)))/\∀y,xs[i]? =some y->te (some y::jx σ capI) Hi λv H'=>∃k,v= .int k/\W (i+1) (kz++[k]) H')/\
  ∀kz H',W xs.length kz H'->∀p,H' p=none->Q (.ref p) (upd H' p (.lst (xn kz xs)))
theorem Dv{X:Cx}{x:Str}{cap:List Str}{capI:List Nat}{scope:Scope}{params:Arguments}{body e:Expr}{ta te:TE}{k:Nat}{P:Addr}{p pos lpos kpos:Pos}(hc:X.calm=true)(hr:cO (k+1) X.A)(hm:X.mg "sorted"=none)(L:zp X x cap capI scope params body)(htb:∃c,X.env.code= .ref c/\CodeHd X.base c P)(ha:PE X e ta)
  (he:∀q f code s H,(∀k,cO (k+1) X.A->cO k (mX X X.A.in1.in1 x cap scope q f code s H).A)->PE (mX X X.A.in1.in1 x cap scope q f code s H) body te) (hg:Gl X "sorted":=by rfl) (hs:starEach [e] X.env=(false,eval e X.env)::starEach [] X.env:=by rfl):
  PE X (.Call (.Name "sorted" p) [e] [⟨some "key",.Lambda params body scope lpos,kpos⟩] pos) (Mg P capI ta te):=by
 intro pins s σ H Q I h
 obtain⟨c,hcode,hhd⟩:=htb
 refine wpAny_Call_Name_kw (kW I hg hm PyProof.Rows.boot_sorted ?_ (by decide) (by decide))
 refine PyProof.Rows.callWith_kw (tW (thn (ha pins s σ H _ I h) λu s1 hu=>?_) hs) (by rw[hs];rfl) (by rw[hs];rfl)
 obtain⟨v,H1,I1,r1,a,xs,ps,rfl,hal,h64,hP,ht,hW⟩:=hu
 cases r1
 show wpAny _ _ (evalAll [(do let v<-eval (.Lambda params body scope lpos) X.env;standAt pos;pure v)]) _ _ s1
 refine wpAny_evalAll_cons (Zv (Em L I1 hcode hhd hP ht λf s2 H2 ps' pm cv ct hG I2 hcv=>Zv (wpAny_standAt (Zx (wpAny_evalAll_nil ?_)))))
 show wpAny _ _ (call (.builtin "sorted") [.ref a] [(Str.ofString "key",.ref f)]) _ _ s2
 obtain⟨W,w0,wt,wf⟩:=hW _ H2 ps' hG
 have hal2:H2 a=some (.lst xs):=hG.keep a _ (uU hal hP (by intro z;cases z)) hal
 obtain⟨hz,its,n,r,hlen,hobj⟩:=I2.lstM hal2
 refine call_function_entry_kw kind_sorted plain_sorted entry_sorted (ksk_s1 _ _) ?_
 unfold Builtin.«sorted»
 refine Zv (m:=checkCount "sorted" 1 1 _) (Zx ?_)
 refine Zv (collect_list (vs:=its) ⟨_,hobj,rfl,n,rfl⟩ ?_ (by rw[sizeLine_eq];omega))
 refine Zv (wpAny_newList ?_ (by rw[sizeLine_eq];omega))
 generalize hg1:(s2.heap.push (seqObj "list" #[] 0)).update s2.heap.objs.size (Obj.mapSeq (· ++its.toArray))=g1
 have k1:∀b o,s2.heap.get? b=some o->g1.get? b=some o:=λb o q=>by
  rw[<-hg1,Heap.get?_update_ne _ _ _ _ (Zk (Ze q)),Heap.get?_push_ne _ _ _ (Zk (Ze q))]
  exact q
 have z1:g1.objs.size=s2.heap.objs.size+1:=by rw[<-hg1,Heap.size_update,size_push']
 have k2:∀b o,s2.heap.get? b=some o->(g1.push (seqObj "list" its.toArray 0)).get? b=some o:=λb o q=>Zb _ (k1 b o q)
 have o2:(g1.push (seqObj "list" its.toArray 0)).get? g1.objs.size=some (seqObj "list" its.toArray 0):=Zf _ rfl
 show wpAny _ _ _ _ _ { s2 with heap:=g1.push (seqObj "list" its.toArray 0) }
 have hle:s2.heap.objs.size<=g1.objs.size:=by omega
 generalize g1.push (seqObj "list" its.toArray 0)=g2 at *
 generalize g1.objs.size=D at *
 have I3:=I2.kept (t':=s2.toks) k2
 refine Zv (wpAny_holding (wpAny_call_entry_kw slot_list_sort ⟨_,o2,rfl⟩ entry_list_sort ?body (ksk_l1 _ _)))
 case body=>
  show wpAny (model X.prog X.w) X.A.in1.in1 (Builtin.«list.sort» ⟨[.ref D],[(Str.ofString "key",.ref f)]⟩) _ _ _
  rw[ksk_t1]
  refine wX (W:=W) rfl I3 (I2.newA hle) o2 (I2.hok.fresh hle) r h64 w0 (λi y u kz Hi s' own hy ry w J=>?_) λkz H' s' w hD J=>⟨_,rfl,?_⟩
  .obtain⟨hfz,hte⟩:=wt i kz Hi w
   obtain⟨c',oc,vs',w',e1,e2,e3⟩:=id hcv
   exact Hn hr hc L (λq f code s H=>he q f code s H Ce) J (J.pin (f,qm X (X.env.qual++"<lambda>") params body scope pm cv ct) (by simp)).1 ⟨c',oc,vs',w',e1,hfz _ _ e2,e3⟩ ry (hte y hy)
  .exact Zx ⟨_,rfl,.ref D,_,J.unpinned,rfl,wf kz H' w D hD⟩
end L2
namespace L3
open PySem PySem.Spec PyProof.Rows L2
def mV:List gq->Mu->Option (List Int×Mu)
 | [],μ=>some ([],μ)
 |t::r,μ=>(t μ).bind λx=>match x.1 with
  | .int j=>(mV r x.2).map λq=>(j::q.1,q.2)
  |_=>none
def lR(kz:List Int)(ds:List D):List D:=(jc (λi j=>decide (kz.getD i 0<kz.getD j 0)) ds.length).map λi=>ds.getD i .non
def rn(own:List Str)(capI:List Nat)(f fe:EF):LF:=λδ μ=>(f δ μ).bind λr=>(qD r.1 r.2).bind λds=>if ds.length<64 then(mV (ds.map (thG (aJ 0) fe (dg own δ capI))) r.2).map λq=>(lR q.1 ds,q.2)else none
theorem zN{X:Cx}{tb:List Addr}{x:Str}{cap:List Str}{capI:List Nat}{scope:Scope}{params:Arguments}{body e:Expr}{f fe:EF}{k:Nat}{P:Addr}{p pos lpos kpos:Pos}(hc:X.calm=true)(hr:cO (k+1) X.A)(hm:X.mg "sorted"=none)(L:zp X x cap capI scope params body)(hP:P∈tb)(htb:∃c,X.env.code= .ref c/\ZB X.base c P)(ha:PD X tb e f)
  (he:∀q f code s H,(∀k,cO (k+1) X.A->cO k (mX X X.A.in1.in1 x cap scope q f code s H).A)->PD (mX X X.A.in1.in1 x cap scope q f code s H) tb body fe) (hg:Gl X "sorted":=by rfl) (hs:starEach [e] X.env=(false,eval e X.env)::starEach [] X.env:=by rfl):
  PDN X tb (.Call (.Name "sorted" p) [e] [⟨some "key",.Lambda params body scope lpos,kpos⟩] pos) (rn [x] capI f fe):=
 dG (Dv (te:=tD X.K tb fe) hc hr hm L htb ha he hg hs) λσ H Q zq1=>by
  obtain⟨W,δ,ds,μ',e,ok,hd,hf,kk⟩:=zq1
  unfold rn at hf
  obtain⟨⟨v0,μ1⟩,e1,hf⟩:=Za.mp hf
  obtain⟨es,e2,hf⟩:=Za.mp hf
  split at hf
  .rename_i h64
   obtain⟨⟨kz,μ2⟩,e3,e4⟩:=Zp.mp hf
   cases e4
   refine⟨W,δ,v0,μ1,e,ok,hd,e1,λv W1 ok1 l1 m1 d1=>?_⟩
   obtain⟨a,xs,rfl,q,r⟩:=rW ok1 d1 (by rw[m1];exact e2)
   have hlen:=aC.length r
   obtain⟨ps,ep,tp⟩:=ok1.tab P hP
   refine⟨a,xs,ps,rfl,q,by omega,ep,tp,λlo H2 ps' hG=>?_⟩
   obtain⟨ok2,l2⟩:=ok1.tbl hP ep hG
   refine⟨λi zs Hi=>∃W3,W3.H=Hi/\WOk X.K tb W3/\Le tb ⟨H2,W1.ad,W1.mu⟩ W3/\∃rest,mV ((es.drop i).map (thG (aJ 0) fe (dg [x] δ capI))) W3.mu=some (rest,μ2)/\zs++rest=kz,⟨⟨H2,W1.ad,W1.mu⟩,rfl,ok2,Le.refl _,kz,by rw[List.drop_zero,<-e3,<-m1],rfl⟩,?_,?_⟩
   .rintro i zs Hi ⟨W3,rfl,ok3,l3,rest,ek,hz⟩
    refine⟨λc o hco=>?_,λy hy=>?_⟩
    .have nl:¬kh W1.ad W1.mu c:=λz=>by
      obtain⟨ys,e⟩:=ok2.live z
      have e:H2 c=some (.lst ys):=e
      rw[hco]at e;cases e
     have nt:c∉tb:=λz=>by
      obtain⟨qs,e,_⟩:=ok2.tab c z
      have e:H2 c=some (.tbl qs):=e
      rw[hco]at e;cases e
     have q1:Wd.fz tb ⟨H2,W1.ad,W1.mu⟩ c=some (.frz o (.own 0)):=(my (W:=⟨H2,W1.ad,W1.mu⟩) nl nt).trans hco
     exact(cR (l3.same c _ q1)).1
    .obtain⟨d0,ed,dd⟩:=aC.get' r hy
     have hi:i<es.length:=(Zh.mp ed).1
     have ed':es[i]=d0:=(Zh.mp ed).2
     rw[ZJ hi,Zj,ed']at ek
     unfold mV at ek
     obtain⟨⟨w,μ3⟩,e5,e6⟩:=Za.mp ek
     unfold thG at e5
     obtain⟨δ1,e7,e8⟩:=Za.mp e5
     cases e7
     cases w with
     |int j=>
      obtain⟨⟨rs,μ4⟩,e9,e10⟩:=Zp.mp (show(mV _ μ3).map (λq=>(j::q.1,q.2))=some (rest,μ2)from e6)
      cases e10
      have l13:Le tb W1 W3:=l2.trans l3
      refine⟨W3,(dg [x] δ capI).set 0 (some d0),.int j,μ3,rfl,ok3,((pL (own:=[x]) (capI:=capI) hd).mono' (l1.trans l13)).set (i:=0) (Den.mono' dd l13),e8,λv W4 ok4 l4 m4 d4=>⟨j,bz d4,W4,rfl,ok4,l3.trans l4,rs,by rw[m4];exact e9,by rw[List.append_assoc];exact hz⟩⟩
     |_=>cases e6
   .rintro zs Hi ⟨W3,rfl,ok3,l3,rest,ek,hz⟩ p hp
    rw[List.drop_of_length_le (by omega)]at ek
    cases ek
    rw[List.append_nil]at hz
    subst hz
    have l13:Le tb W1 W3:=l2.trans l3
    have hb:cG X.K tb W3 (lR zs es) (xn zs xs):=by
     unfold lR xn
     rw[hlen]
     exact qp (cG.mono' r l13) _
    exact kk p _ W3 ok3 (l1.trans l13) rfl hp hb
  .cases hf
end L3
namespace L2
open PySem PySem.Spec PyProof.Rows
theorem Ab{X:Cx}(hc:X.calm=true):gG X (.builtin "max") (λxs H Q=>∃(a:Addr)(ns:List Int),xs=[.ref a]/\SqL X.K H a (ns.map V.int)/\0<ns.length/\∀M,M∈ns->(∀a∈ns,a<=M)->Q (.int M) H):=by
 intro pins s σ H xs us Q I r h
 obtain⟨a,ns,rfl,hq,hne,q⟩:=h
 obtain⟨u,rfl,rx⟩:=vals1 r
 cases rx
 obtain⟨its,r',pl,hz⟩:=I.list hq
 have hi:=lN r'
 have hl:=pl.isList
 obtain⟨xs,e⟩:=hi.allInts.items
 have hns:ns=xs.toList.map (·.1):=by rw[<-hi.numsOf,<-nums_intItems,<-e]
 have hsz:0<xs.size:=by
  have h3:=hne;rw[hns,Zu,Array.length_toList]at h3;exact h3
 rw[e]at hl
 refine max_intList (I.ok.hd hc) hl hsz λv h' tk hv hk=>?_
 obtain⟨t,rfl⟩:=intItems_at hv
 obtain⟨h1,h2⟩:=argBest_gt (numAt xs) (xs.size-1)
 refine⟨.int _,H,I.kept hk,⟨t,rfl⟩,q _ ?_ λa ha=>?_⟩
 .rw[hns,numAt_eq];exact getD_mem (by rw[Zu,Array.length_toList];omega)
 .rw[hns]at ha
  obtain⟨j,hj,rfl⟩:=mem_getD ha
  rw[Zu,Array.length_toList]at hj
  rw[<-numAt_eq];exact h2 j (by omega)
end L2
namespace L3
open PySem PySem.Spec PyProof.Rows L2
def jo:List Int->Int
 | []=>0
 | [n]=>n
 |n::m::ns=>max n (jo (m::ns))
theorem yW:∀{ns:List Int}{M:Int},M∈ns->(∀a∈ns,a<=M)->M=jo ns
 | [n],M,h,_=>ZI.mp h
 |n::m::ns,M,h,k=>by
  unfold jo
  rcases Zi.mp h with z|z
  .subst z
   have hm:jo (m::ns)<=M:=by
    have:∀(l:List Int),l≠[]->jo l∈l:=by
     intro l
     induction l with
     |nil=>exactλh=>absurd rfl h
     |cons a l ih=>
      intro _
      cases l with
      |nil=>simp[jo]
      |cons b l=>
       unfold jo
       have:=ih (by simp)
       by_cases hab:a<=jo (b::l)
       .rw[Int.max_eq_right hab];exact ZE _ this
       .rw[Int.max_eq_left (by omega)];simp
    exact k _ (ZE _ (this _ (by simp)))
   rw[Int.max_eq_left hm]
  .have e:=yW z λa ha=>k a (ZE _ ha)
   rw[<-e]
   rw[Int.max_eq_right (k n (by simp))]
def sJ:O1':=λx μ=>match x with
 | .lst ds=>match mF ds with
  |some (n::ns)=>some (.int (jo (n::ns)),μ)
  |_=>none
 |_=>none
theorem wg{ns:List Int}{μ:Mu}(h:ns≠[]):sJ (.lst (ns.map .int)) μ=some (.int (jo ns),μ):=by
 unfold sJ
 cases ns with
 |nil=>exact absurd rfl h
 |cons n ns=>
  have:=qx (n::ns)
  simp only[this]
theorem Hu{X:Cx}{tb:List Addr}{a:Expr}{fs:AF}{p pos:Pos}(hc:X.calm=true)(hm:X.mg "max"=none)(ha:PAD X tb [a] fs)(hg:Gl X "max":=by rfl)(he:starEach [a] X.env=(false,eval a X.env)::starEach [] X.env:=by rfl):PD X tb (.Call (.Name "max" p) [a] [] pos) (MC fs (aW sJ)):=
 vX (λta ha=>iQ (Ab hc) hg hm PyProof.Rows.boot_max ha (by decide) (by decide) he (by rfl)) (λW xs vs d μ' Q ok r ho h=>by
  obtain⟨x,rfl,ho⟩:=jM ho
  obtain⟨v,rfl,dv⟩:=aC.one r
  cases x with
  |lst ds=>
   have ho:(match mF ds with|some (n::ns)=>some (D.int (jo (n::ns)),W.mu)|_=>none)=some (d,μ'):=ho
   split at ho
   .rename_i n ns hi
    cases ho
    have hds:=nQ hi
    obtain⟨a,xs,e,q,r⟩:=jr ok dv rfl
    rw[hds]at r
    have hx:=nH r
    subst hx
    exact⟨a,n::ns,by rw[e],(show SqL X.K W.H a _ from q),by simp,λM h1 h2=>by rw[yW h1 h2];exact put ok h di⟩
   .cases ho
  |_=>cases ho) ha
structure Wh where
 P:Program
 w:World
 K:Zw
 mg:Str->Option Value
 base:Heap
 tb:List Addr
abbrev FJ(C:Wh)(x:Str)(n k:Nat)(φ:FF):Prop:=FI C.P C.w C.K C.mg C.base C.tb x n k φ
structure FX(C:Wh)(x:Str)(st:Stmt)(f:Addr)(fd:FuncData)(T:Addr):Prop where
 F:zJ C.K x x st f fd T
 B:C.K.In C.base
 m:C.mg x=some (.ref f)
structure Bq where
 c:Addr
 A:Around
 o:List Env
 s:Shared
 H:Hp
 E:XK
abbrev cxB(C:Wh)(N:List Str)(x:Str)(st:Stmt)(f:Addr)(q:Bq):Cx:=(vI CX0 C.P C.w C.K C.mg C.base N x (bV st) f (.ref q.c) q.A q.o q.s q.H q.E).nox
theorem fj_n{C:Wh}{x:Str}{st:Stmt}{f:Addr}{fd:FuncData}{T:Addr}{n k:Nat}{g:SF}(N ps:List Str)(F:FX C x st f fd T)
  (hb:∀q:Bq,N.Nodup->ZB C.base q.c T->cO k (q.A.deeper (envOfC x (bV st) q.s.heap.objs.size f (.ref q.c)))->pD (cxB C N x st f q) C.tb (fu st) g)
  (S:lL N ps (bV st):=by exact⟨rfl,rfl,rfl,by decide +kernel,rfl,by decide +kernel,by decide +kernel⟩) (hps:ps.length=n:=by rfl):
  lX C.P C.w C.K C.mg C.base CX0 (k+1) f fd ps (spD C.K C.tb n (aL N.length g)):=
 Ia F.F F.B S hps λc A o s H E=>hb ⟨c,A,o,s,H,E⟩ S.nd
theorem dN{C:Wh}{x:Str}{st:Stmt}{f:Addr}{fd:FuncData}{T:Addr}{n k:Nat}{g:SF}(N:List Str)(F:FX C x st f fd T)
  (hb:∀q:Bq,N.Nodup->ZB C.base q.c T->cO k (q.A.deeper (envOfC x (bV st) q.s.heap.objs.size f (.ref q.c)))->pD (cxB C N x st f q) C.tb (fu st) g)
  (S:lL N (N.take n) (bV st):=by exact⟨rfl,rfl,rfl,by decide +kernel,rfl,by decide +kernel,by decide +kernel⟩) (hps:(N.take n).length=n:=by rfl)
  (hu:∀(kV doc pm:Value)(an:Option Addr)(cdv ct:Value)(us:List Value),us.length=(N.take n).length->bindArgs (PySem.W.fnOf x x (iz st) (fu st) (bV st) .none kV doc pm an cdv ct) ⟨us,[]⟩=pure ((N.take n).zip us):=by
   intro _ _ _ _ _ _;first|exact us0 rfl|exact us1 λ_=>rfl|exact us2 λ_ _=>rfl|exact us3 λ_ _ _=>rfl|exact us4 λ_ _ _ _=>rfl|exact us5 λ_ _ _ _ _=>rfl|exact us6 λ_ _ _ _ _ _=>rfl):FJ C x n (k+1) (aL N.length g):=
 NQ F.F F.B F.m S hps hu λc A o s H E=>hb ⟨c,A,o,s,H,E⟩ S.nd
section
variable {X:Cx} {tb:List Addr} {elt tg iter:Expr} {ifs:List Expr} {pos p:Pos} {fi:IF} {h:GF} {tt:TF} {fe:EF} {scope:Scope}
theorem aZ{e:Expr}{es:List Expr}{fs:AF}{x:Str}{n k k':Nat}{φ:FF}(F:FI X.prog X.w X.K X.mg X.base tb x n k φ)(hr:cO k' X.A)(ha:PAD X tb (e::es) fs)(hk:k<=k':=by first|decide|omega)
  (hn:∀δ μ r,fs δ μ=some r->r.1.length=n:=by repeat (first|exact GJ|refine Dm ?_)) (hg:Gl X x:=by rfl) (hdb:(x==("__debug__":Str))=false:=by decide)
  (he:starEach (e::es) X.env=(false,eval e X.env)::starEach es X.env:=by rfl) (hpl:(backTo pos (starEach es X.env)).any (·.1)=false:=by rfl):PD X tb (.Call (.Name x p) (e::es) [] pos) (MC fs φ):=
 Hh F (hr.mono hk) ha hn hg hdb he hpl
structure Cq where
 cs:List (Str×Addr)
 C:Addr
 fp:List Addr
 s:Shared
 H:Hp
abbrev cxC(X:Cx)(own cap:List Str)(scope:Scope)(q:Cq):Cx:=cL X own cap scope q.cs q.C q.fp q.s q.H
theorem lc_(own cap:List Str)(capI ts:List Nat)(hi:PID X tb tg iter fi)(he:∀q:Cq,(own++cap).Nodup->PD (cxC X own cap scope q) tb elt fe)
  (ht:∀q:Cq,(own++cap).Nodup->vo (cxC X own cap scope q) tb ifs tt:=by exactλ_ _=>qP)
  (hg:∀q:Cq,(own++cap).Nodup->PGD (cxC X own cap scope q) tb tg ts h:=by exactλ_ nd=>by first|exact aV (i:=0) nd|exact iG rfl (bM (aV (i:=0) nd) (bM (aV (i:=1) nd) gw)))
  (nd:(own++cap).Nodup:=by decide +kernel) (hc:X.calm=true:=by rfl)
  (B:cH X own cap capI scope:=by exact⟨rfl,by decide +kernel,by repeat' (first|exact trivial|rfl|exact Or.inl rfl|exact Or.inr rfl|constructor),by decide +kernel,by decide +kernel⟩) (hown:∀x∈own,(x,NameKind.free)∉scope.names:=by decide +kernel)
  (hts:∀i∈ts,i<own.length:=by decide) (hs:∀x,foldedSetIterable iter X.env x=pure x:=by intro _;rfl):PDN X tb (.ListComp elt [⟨tg,iter,ifs,0⟩] scope pos) (lLC own capI fi h tt fe):=
 KR hc B hown hi (λcs C fp s H=>hg ⟨cs,C,fp,s,H⟩ nd) (λcs C fp s H=>ht ⟨cs,C,fp,s,H⟩ nd) (λcs C fp s H=>he ⟨cs,C,fp,s,H⟩ nd) hts hs
theorem Ei{x:Str}{px spos:Pos}(i:Nat)(hN:X.N.Nodup)(own cap:List Str)(capI ts:List Nat)(hi:PID X tb tg iter fi)(he:∀q:Cq,(own++cap).Nodup->PD (cxC X own cap scope q) tb elt fe)
  (ht:∀q:Cq,(own++cap).Nodup->vo (cxC X own cap scope q) tb ifs tt:=by exactλ_ _=>qP)
  (hg:∀q:Cq,(own++cap).Nodup->PGD (cxC X own cap scope q) tb tg ts h:=by exactλ_ nd=>by first|exact aV (i:=0) nd|exact iG rfl (bM (aV (i:=0) nd) (bM (aV (i:=1) nd) gw)))
  (nd:(own++cap).Nodup:=by decide +kernel) (hc:X.calm=true:=by rfl)
  (B:cH X own cap capI scope:=by exact⟨rfl,by decide +kernel,by repeat' (first|exact trivial|rfl|exact Or.inl rfl|exact Or.inr rfl|constructor),by decide +kernel,by decide +kernel⟩) (hown:∀x∈own,(x,NameKind.free)∉scope.names:=by decide +kernel)
  (hts:∀i∈ts,i<own.length:=by decide) (hs:∀x,foldedSetIterable iter X.env x=pure x:=by intro _;rfl) (hi₀:X.N[i]? =some x:=by rfl) (hx₀:Loc X.env.scope x:=by first|exact Or.inl rfl|exact Or.inr rfl)
  (hsw:swapsWith (.ListComp elt [⟨tg,iter,ifs,0⟩] scope pos) (some (.Name x px)) spos.line X.env=pure true:=by rfl)
  (hf₀:X.fn x=true∨X.env.scope.names.lookup x=some .local:=by first|exact .inl rfl|exact .inr rfl|assumption):
  PSD X tb (.Assign [.Name x px] (.ListComp elt [⟨tg,iter,ifs,0⟩] scope pos) spos) (aR i (mFz (lLC own capI fi h tt fe))):=
 Gb hN hc B hown hi (λcs C fp s H=>hg ⟨cs,C,fp,s,H⟩ nd) (λcs C fp s H=>ht ⟨cs,C,fp,s,H⟩ nd) (λcs C fp s H=>he ⟨cs,C,fp,s,H⟩ nd) hts hs hi₀ hx₀ hsw hf₀
theorem DR{x:Str}{px spos:Pos}(i:Nat)(hN:X.N.Nodup)(own cap:List Str)(capI ts:List Nat)(hi:PID X tb tg iter fi)(he:∀q:Cq,(own++cap).Nodup->PD (cxC X own cap scope q) tb elt fe)
  (ht:∀q:Cq,(own++cap).Nodup->vo (cxC X own cap scope q) tb ifs tt:=by exactλ_ _=>qP)
  (hg:∀q:Cq,(own++cap).Nodup->PGD (cxC X own cap scope q) tb tg ts h:=by exactλ_ nd=>by first|exact aV (i:=0) nd|exact iG rfl (bM (aV (i:=0) nd) (bM (aV (i:=1) nd) gw)))
  (nd:(own++cap).Nodup:=by decide +kernel) (hc:X.calm=true:=by rfl)
  (B:cH X own cap capI scope:=by exact⟨rfl,by decide +kernel,by repeat' (first|exact trivial|rfl|exact Or.inl rfl|exact Or.inr rfl|constructor),by decide +kernel,by decide +kernel⟩) (hown:∀x∈own,(x,NameKind.free)∉scope.names:=by decide +kernel)
  (hts:∀i∈ts,i<own.length:=by decide) (hs:∀x,foldedSetIterable iter X.env x=pure x:=by intro _;rfl) (hi₀:X.N[i]? =some x:=by rfl) (hx₀:Loc X.env.scope x:=by first|exact Or.inl rfl|exact Or.inr rfl)
  (hsw:swapsWith (.ListComp elt [⟨tg,iter,ifs,0⟩] scope pos) (some (.Name x px)) spos.line X.env=pure true:=by rfl)
  (hf₀:X.fn x=true∨X.env.scope.names.lookup x=some .local:=by first|exact .inl rfl|exact .inr rfl|assumption):
  PSD X tb (.Assign [.Name x px] (.ListComp elt [⟨tg,iter,ifs,0⟩] scope pos) spos) (aR i (iw (lLC own capI fi h tt fe))):=
 Gg hN hc B hown hi (λcs C fp s H=>hg ⟨cs,C,fp,s,H⟩ nd) (λcs C fp s H=>ht ⟨cs,C,fp,s,H⟩ nd) (λcs C fp s H=>he ⟨cs,C,fp,s,H⟩ nd) hts hs hi₀ hx₀ hsw hf₀
structure Gq where
 A:Around
 cs:List (Str×Addr)
 C:Addr
 cd:Value
 fp:List Addr
 s:Shared
 H:Hp
abbrev cxG(X:Cx)(own cap:List Str)(scope:Scope)(q:Gq):Cx:=oW X q.A own cap scope q.cs q.C q.cd q.fp q.s q.H
theorem gen_{P c:Addr}{k:Nat}(own cap:List Str)(capI ts:List Nat)(hr:cO (k+1) X.A)(hT:P∈tb)(hcd:ZB X.base c P)(hi:PID X tb tg iter fi)
  (he:∀q:Gq,(own++cap).Nodup->cO k q.A->PD (cxG X own cap scope q) tb elt fe)
  (hg:∀q:Gq,(own++cap).Nodup->PGD (cxG X own cap scope q) tb tg ts h:=by exactλ_ nd=>by first|exact aV (i:=0) nd|exact iG rfl (bM (aV (i:=0) nd) (bM (aV (i:=1) nd) gw)))
  (nd:(own++cap).Nodup:=by decide +kernel) (hc:X.calm=true:=by rfl) (hco:X.env.code= .ref c:=by rfl)
  (B:cH X own cap capI scope:=by exact⟨rfl,by decide +kernel,by repeat' (first|exact trivial|rfl|exact Or.inl rfl|exact Or.inr rfl|constructor),by decide +kernel,by decide +kernel⟩) (hown:∀x∈own,(x,NameKind.free)∉scope.names:=by decide +kernel) (hnc:∀y∈scope.names,y.2≠ .cell:=by decide +kernel)
  (hts:∀i∈ts,i<own.length:=by decide) (h0:scope.names.lookup (".0":Str)=some NameKind.local:=by rfl) (hco':scope.isCoroutine=false:=by rfl) (hs:∀x,genFold iter X.env x=pure x:=by intro _;rfl):
  xY X tb (.GeneratorExp elt [⟨tg,iter,[],0⟩] scope pos) (pY own capI fi h fe):=
 Aw hc hr B hown hnc hT ⟨c,hco,hcd⟩ hi (λA cs C cd fp s H=>hg ⟨A,cs,C,cd,fp,s,H⟩ nd) (λA cs C cd fp s H hm=>he ⟨A,cs,C,cd,fp,s,H⟩ nd (hm _ hr)) hts h0 hco' hs
end
mutual
def pyD:D->PyData
 | .bl b=>.bool b
 | .int i=>.int i
 | .str x=>.str x
 | .tup ds=>.tuple (pyL ds)
 | .lst ds=>.list (pyL ds)
 |_=>.none
def pyL:List D->List PyData
 | []=>[]
 |d::ds=>pyD d::pyL ds
end
mutual
theorem sO:∀d:D,(pyD d).hasDict=false
 | .non| .bl _| .int _| .str _| .ro _| .dic _| .cell _=>by unfold pyD;rfl
 | .tup ds| .lst ds=>by unfold pyD PyData.hasDict;exact qj ds
theorem qj:∀ds:List D,PyData.hasDictAll (pyL ds)=false
 | []=>rfl
 |d::ds=>by unfold pyL PyData.hasDictAll;rw[sO d,qj ds];rfl
end
mutual
theorem Dt:∀d:D,(pyD d).depth=dh d
 | .non| .bl _| .int _| .str _| .ro _| .dic _| .cell _=>by unfold pyD dh;rfl
 | .tup ds| .lst ds=>by unfold pyD dh PyData.depth;rw[yX ds]
theorem yX:∀ds:List D,PyData.depthAll (pyL ds)=fD ds
 | []=>rfl
 |d::ds=>by unfold pyL fD PyData.depthAll;rw[Dt d,yX ds]
end
section
variable {X:Cx} {pins:List (Addr×Obj)} {σ:L2.St} {H:Hp} {s:Shared}
mutual
theorem yG(I:Inv X pins σ H s):∀(d:D)(v:V)(u:Value),DV X.K H d v->bY v u->∃as,Reads s.heap u (pyD d) as
 | .non,v,u,h,r=>by unfold DV at h;subst h;cases r;exact⟨_,by unfold pyD;exact .none⟩
 | .bl _,v,u,h,r=>by unfold DV at h;subst h;cases r;exact⟨_,by unfold pyD;exact .bool _⟩
 | .int _,v,u,h,r=>by unfold DV at h;subst h;obtain⟨t,rfl⟩:=r;exact⟨_,by unfold pyD;exact .int _ _⟩
 | .str _,v,u,h,r=>by unfold DV at h;subst h;obtain⟨t,rfl⟩:=r;exact⟨_,by unfold pyD;exact .str _ _⟩
 | .tup ds,v,u,h,r=>by
  unfold DV at h
  obtain⟨a,xs,rfl,q,r2⟩:=h
  cases r
  obtain⟨its,rv,⟨o,e,hc,n,hd⟩,_⟩:=I.tuple q
  obtain⟨as,ra⟩:=uA I ds xs its r2 rv
  exact⟨_,by unfold pyD;exact .tuple e hc hd (by simpa using ra)⟩
 | .lst ds,v,u,h,r=>by
  unfold DV at h
  obtain⟨a,xs,rfl,q,r2⟩:=h
  cases r
  obtain⟨its,rv,⟨o,n,e,hc,_,hd⟩,_⟩:=I.list q
  obtain⟨as,ra⟩:=uA I ds xs its r2 rv
  exact⟨_,by unfold pyD;exact .list e hc hd (by simpa using ra)⟩
 | .ro _,v,u,h,r| .dic _,v,u,h,r| .cell _,v,u,h,r=>by unfold DV at h;exact h.elim
theorem uA(I:Inv X pins σ H s):∀(ds:List D)(vs:List V)(us:List Value),DVL X.K H ds vs->aY vs us->∃as,ReadsAll s.heap us (pyL ds) as
 | [],vs,us,h,r=>by unfold DVL at h;subst h;cases r;exact⟨_,by unfold pyL;exact .nil⟩
 |d::ds,vs,us,h,r=>by
  unfold DVL at h
  obtain⟨v,ws,rfl,h1,h2⟩:=h
  cases r with
  |cons r1 r2=>
   obtain⟨as,ra⟩:=yG I d v _ h1 r1
   obtain⟨bs,rb⟩:=uA I ds ws _ h2 r2
   exact⟨_,by unfold pyL;exact .cons ra rb⟩
end
end
def Dc:D->Bool
 | .tup _| .lst _=>true
 |_=>false
def xN(d:D):Bool:=bL d&&Dc d&&(pyD d).showable&&decide (dh d<100)&&decide ((pyD d).shown.length<=sizeLine)
def zg:D->Mu->Option (D×Mu):=λx μ=>if xN x=true then some (.str (pyD x).shown,μ)else none
section
variable {X:Cx} {tb:List Addr} {k:Nat} {a:Expr} {fs:AF} {p pos:Pos}
theorem Ag(hr:cO k X.A):gG X (.builtin "repr") (λvs H Q=>∃v d,vs=[v]/\DV X.K H d v/\xN d=true/\Q (.str (pyD d).shown) H):=by
 intro pins s σ H xs us Q I r h
 obtain⟨v,d,rfl,dv,hok,q⟩:=h
 obtain⟨u,rfl,rx⟩:=vals1 r
 obtain⟨as,ra⟩:=yG I d v u dv rx
 unfold xN at hok
 simp only[Zo,decide_eq_true_eq]at hok
 obtain⟨⟨⟨⟨_,ht⟩,hs⟩,hd⟩,hl⟩:=hok
 obtain⟨b,rfl⟩:∃b,u= .ref b:=by
  cases d<;>simp only[Dc,Bool.false_eq_true]at ht
  all_goals
   unfold DV at dv
   obtain⟨b,_,rfl,_⟩:=dv
   cases rx
   exact⟨_,rfl⟩
 have hun:=hr.un
 exact repr_of_reads' ra hs (PyData.noDict_hsm (sO d)) hr.gd (by rw[Dt];omega) (λ_ _ e=>e) (λh' w tk hk=>⟨.str (pyD d).shown,H,I.kept hk,⟨w,rfl⟩,q⟩) hl
theorem zx(hr:cO k X.A)(hm:X.mg "repr"=none)(ha:PAD X tb [a] fs)(hg:Gl X "repr":=by rfl)(he:starEach [a] X.env=(false,eval a X.env)::starEach [] X.env:=by rfl):PD X tb (.Call (.Name "repr" p) [a] [] pos) (MC fs (aW zg)):=
 vX (λta ha=>iQ (Ag hr) hg hm boot_repr ha (by decide) (by decide) he (by rfl)) (λW xs vs d μ' Q ok r ho h=>by
  obtain⟨x,rfl,ho⟩:=jM ho
  obtain⟨v,rfl,dv⟩:=aC.one r
  have ho:(if xN x=true then some (D.str (pyD x).shown,W.mu)else none)=some (d,μ'):=ho
  split at ho
  .rename_i hz
   cases ho
   refine⟨v,x,rfl,Bm x v ?_ dv,hz,put ok h yL⟩
   unfold xN at hz
   simp only[Zo]at hz
   exact hz.1.1.1.1
  .cases ho) ha
end
end L3
set_option maxHeartbeats 4000000
namespace LG
open PySem PySem.Spec PyProof.Rows L2 L3
def fO:SF:=aM (aR 2 (M2 (M2 (M2 (M2 (M2 (aq 0) (mC (.int 2147483647)) bw) (mC (.int 48271)) bI) (M2 (M2 (mC (.int 7919)) (aq 1) bI) (aq 1) bI) bD) (mC (.int 104729)) bD) (mC (.int 2147483647)) bw)) (bN (M2 (M2 (aq 2) (aq 2) bI) (mC (.int 2147483629)) bw))
def lu(aQ:FF):SF:=aM (aR 1 (iw (oO (aB)))) (aM (fH (bH (ao (MC (ao (MC (ao (aq 0) (aB)) (aW cF)) (ao (mC (.int 63)) (aB))) (lz mz)) (aB))) (aJ 2) (aM (aR 3 (MC (ao (M2 (aq 0) (aq 2) oIx) (aB)) (aW lw))) (aM (sIf (toB (M2 (aq 3) (M2 (mC (.int 10)) (mC (.int 18)) qG) oLt)) (fH (bH (ao (mC (.int 12)) (aB))) (aJ 4) (dH (dW (aq 1) (ao (MC (ao (MC (ao (aq 3) (ao (M2 (M2 (mC (.int 3)) (aq 4) bI) (mC (.int 1)) bD) (aB))) aQ) (ao (M2 (M2 (aq 4) (aq 2) bD) (mC (.int 2)) bD) (aB))) aQ) (aB))))) (bZ)) (aM (lA (jV (toB (M2 (aq 3) (M2 (mC (.int 10)) (mC (.int 18)) qG) oGe)) (toB (M2 (MC (ao (aq 1) (aB)) (aW cF)) (mC (.int 900)) oLt))) (aM (dH (dW (aq 1) (ao (M2 (aq 3) (mC (.int 2147483629)) bw) (aB)))) (aR 3 (M2 (aq 3) (mC (.int 2147483629)) dm)))) (sIf (toB (M2 (aq 3) (mC (.int 2147483629)) oGe)) (dH (dW (aq 1) (ao (M2 (aq 3) (mC (.int 2147483629)) bw) (aB)))) (bZ)))))) (bN (aq 1)))
def dR:SF:=aM (sIf (toB (M2 (aq 0) (MC (aB) gf) oEq)) (bN (mC (.int 0))) (bZ)) (bN (yK (aq 0)))
def mQ:SF:=aM (lA (toB (M2 (aq 1) (mC (.int 0)) oNe)) (xF 0 1 (ao (aq 1) (ao (M2 (aq 0) (aq 1) bw) (aB))))) (bN (MC (ao (aq 0) (aB)) (aW lw)))
def dq(cT:FF):SF:=aM (aR 2 (aq 1)) (aM (fH (fV (aq 0)) (aJ 3) (aR 2 (MC (ao (aq 2) (ao (aq 3) (aB))) cT))) (aM (sIf (toB (M2 (aq 1) (mC (.int 0)) oLt)) (aR 2 (M2 (mC (.int 0)) (MC (ao (aq 2) (aB)) (aW lw)) dF)) (bZ)) (bN (M2 (MC (ao (mFz (lLC ["_law_number"] [2] (fV (aq 0)) (aJ 0) (bK) (M2 (aq 0) (aq 1) dm))) (aB)) gh) (MC (ao (M2 (aq 1) (aq 2) dm) (aB)) gY) bD))))
def fP:SF:=aM (sIf (toB (M2 (aq 1) (mC (.int 0)) oEq)) (bN (MC (ao (M2 (M2 (aq 0) (mC (.int 20001)) bw) (mC (.int 10000)) dF) (ao (M2 (mC (.int 1)) (M2 (M2 (aq 0) (mC (.int 20001)) dm) (mC (.int 60)) bw) bD) (aB))) gY)) (bZ)) (aM (sIf (toB (M2 (aq 1) (mC (.int 1)) oEq)) (bN (MC (ao (M2 (M2 (aq 0) (mC (.int 5)) bw) (mC (.int 2)) dF) (ao (mC (.int 1)) (aB))) gY)) (bZ)) (aM (sIf (toB (M2 (aq 1) (mC (.int 2)) oEq)) (bN (MC (ao (M2 (M2 (aq 0) (mC (.int 11)) bw) (mC (.int 5)) dF) (ao (M2 (mC (.int 1)) (M2 (M2 (aq 0) (mC (.int 11)) dm) (mC (.int 3)) bw) bD) (aB))) gY)) (bZ)) (aM (sIf (toB (M2 (aq 1) (mC (.int 3)) oEq)) (bN (MC (ao (M2 (aq 2) (M2 (MC (ao (mC (.int 0)) (ao (mC (.int 0)) (ao (mC (.int 1)) (ao (mC (.int 40)) (aB))))) gf) (M2 (aq 0) (mC (.int 4)) bw) oIx) bD) (ao (mC (.int 1)) (aB))) gY)) (bZ)) (bN (MC (ao (M2 (M2 (aq 0) (mC (.int 2)) bw) (M2 (mC (.int 1)) (M2 (aq 2) (mC (.int 7)) bw) bD) bI) (ao (mC (.int 1)) (aB))) gY)))))
def il(aQ gR aK:FF):SF:=aM (aR 4 (iw (oO (aB)))) (aM (aR 5 (mC (.int 1))) (aM (fH (bH (ao (aq 1) (aB))) (aJ 6) (aM (zY (MC (ao (MC (ao (aq 0) (ao (M2 (aq 6) (mC (.int 1)) bD) (aB))) aQ) (ao (aq 2) (ao (M2 (aq 3) (aq 6) bD) (aB)))) gR) (jb 2 (bO (aJ 7) (bO (aJ 8) (jd))))) (aM (sIf (toB (M2 (aq 6) (mC (.int 0)) oEq)) (aR 5 (aq 8)) (bZ)) (dH (dW (aq 4) (ao (aq 7) (aB))))))) (bN (MC (ao (nJ (aq 4)) (ao (aq 5) (aB))) aK))))
def gP(aH aK:FF):SF:=aM (aR 3 (mFz (lLC ["_law_k"] [0] (bH (ao (aq 1) (aB))) (aJ 0) (bK) (M2 (M2 (MC (ao (aq 1) (aB)) aH) (mC (.int 41)) bw) (mC (.int 20)) dF)))) (aM (aR 4 (mFz (lLC ["_law_k"] [0] (bH (ao (aq 1) (aB))) (aJ 0) (bK) (M2 (M2 (MC (ao (aq 1) (aB)) aH) (mC (.int 7)) bw) (mC (.int 3)) dF)))) (aM (aR 5 (iw (oO (aB)))) (aM (fH (bH (ao (aq 2) (aB))) (aJ 6) (aM (aR 7 (M2 (M2 (MC (ao (aq 0) (aB)) aH) (mC (.int 13)) bw) (mC (.int 6)) dF)) (dH (dW (aq 5) (ao (MC (ao (mFz (lLC ["_law_k"] [3,7,4] (bH (ao (aq 1) (aB))) (aJ 0) (bK) (M2 (M2 (aq 1) (aq 0) oIx) (M2 (aq 2) (M2 (aq 3) (aq 0) oIx) bI) bD))) (ao (mC (.int 1)) (aB))) aK) (aB)))))) (bN (nJ (aq 5))))))
def lD(aH aK:FF):SF:=aM (xF 3 4 (ao (M2 (M2 (MC (ao (aq 0) (aB)) aH) (mC (.int 5)) bw) (mC (.int 2)) dF) (ao (M2 (M2 (MC (ao (aq 0) (aB)) aH) (mC (.int 5)) bw) (mC (.int 2)) dF) (aB)))) (aM (aR 5 (iw (oO (aB)))) (aM (fH (bH (ao (aq 2) (aB))) (aJ 6) (aM (aR 7 (MC (ao (aq 0) (aB)) aH)) (aM (aR 8 (iw (lSl (MC (ao (M2 (M2 (aq 7) (mC (.int 9)) bw) (mC (.int 4)) dF) (ao (M2 (M2 (M2 (aq 7) (mC (.int 9)) dm) (mC (.int 9)) bw) (mC (.int 4)) dF) (ao (M2 (M2 (M2 (aq 7) (mC (.int 81)) dm) (mC (.int 9)) bw) (mC (.int 4)) dF) (aB)))) gf) (fNo) (fAt (aq 1))))) (aM (sIf (toB (M2 (aq 1) (mC (.int 1)) oGt)) (pF (M2 (M2 (aq 3) (M2 (aq 8) (mC (.int 0)) oIx) bI) (M2 (aq 4) (M2 (aq 8) (M2 (aq 1) (mC (.int 2)) dF) oIx) bI) bD) (aq 8) (M1 (mC (.int 1)) cU)) (bZ)) (dH (dW (aq 5) (ao (MC (ao (nJ (aq 8)) (ao (mC (.int 1)) (aB))) aK) (aB)))))))) (bN (nJ (aq 5)))))
def iI(aH eO iR bB:FF):SF:=aM (aR 3 (MC (ao (aq 0) (aB)) aH)) (aM (aR 4 (M2 (M2 (aq 3) (mC (.int 9)) dm) (M2 (aq 2) (mC (.int 1)) bD) bw)) (aM (aR 5 (M2 (aq 3) (mC (.int 9)) bw)) (aM (sIf (toB (M2 (aq 5) (mC (.int 5)) oEq)) (bN (MC (ao (aq 0) (ao (aq 1) (ao (aq 4) (aB)))) eO)) (bZ)) (aM (sIf (toB (M2 (aq 5) (mC (.int 6)) oEq)) (bN (MC (ao (aq 0) (ao (aq 1) (ao (aq 4) (aB)))) iR)) (bZ)) (aM (sIf (toB (M2 (aq 5) (mC (.int 7)) oEq)) (bN (M2 (MC (ao (MC (ao (aq 3) (ao (aq 1) (ao (mC (.int 2)) (ao (mC (.int 0)) (aB))))) bB) (aB)) gf) (aq 4) bI)) (bZ)) (aM (aR 6 (iw (oO (aB)))) (aM (fH (bH (ao (aq 4) (aB))) (aJ 7) (aM (aR 8 (MC (ao (aq 0) (aB)) aH)) (sIf (jV (toB (M2 (aq 5) (mC (.int 8)) oEq)) (jV (toB (M2 (aq 6) (MC (aB) gf) uK)) (toB (M2 (M2 (aq 8) (mC (.int 3)) bw) (mC (.int 0)) oEq)))) (dH (dW (aq 6) (ao (M2 (aq 6) (M2 (M2 (aq 8) (mC (.int 3)) dm) (MC (ao (aq 6) (aB)) (aW cF)) bw) oIx) (aB)))) (dH (dW (aq 6) (ao (MC (ao (M2 (aq 8) (mC (.int 7)) dm) (ao (aq 1) (ao (M2 (M2 (aq 5) (mC (.int 8)) bw) (mC (.int 5)) bw) (ao (M2 (M2 (aq 8) (mC (.int 5)) bw) (mC (.int 30)) bI) (aB))))) bB) (aB))))))) (bN (nJ (aq 6))))))))))
def qF(φ_common_divisor:FF):SF:=aM (aR 1 (MC (ao (aq 0) (aB)) φ_common_divisor)) (bN (Dn (pY ["number"] [1] (fV (aq 0)) (aJ 0) (M2 (aq 0) (aq 1) dm))))
def jf(cB:FF):SF:=aM (sIf (vY (toB (M2 (M1 (aq 0) (kI "tuple")) (M1 (aq 1) (kI "tuple")) oNe)) (toB (M2 (M1 (aq 0) (kI "list")) (M1 (aq 1) (kI "list")) oNe))) (bN (mC (.bl false))) (bZ)) (aM (sIf (vY (qR (M1 (aq 0) (kI "tuple"))) (qR (M1 (aq 0) (kI "list")))) (aM (sIf (toB (M2 (MC (ao (aq 0) (aB)) (aW cF)) (MC (ao (aq 1) (aB)) (aW cF)) oNe)) (bN (mC (.bl false))) (bZ)) (bN (GZ (qK (mFz (lLC ["_law_here","_law_there"] [] (mq (ao (aq 0) (ao (aq 1) (aB)))) (jb 2 (bO (aJ 0) (bO (aJ 1) (jd)))) (bK) (MC (ao (aq 0) (ao (aq 1) (aB))) cB))))))) (bZ)) (bN (qL (M2 (M1 (aq 0) (kI "bool")) (M1 (aq 1) (kI "bool")) oEq) (M2 (aq 0) (aq 1) oEq))))
def rP(aH aQ:FF):SF:=aM (aR 2 (MC (ao (aq 0) (aB)) aH)) (aM (aR 3 (mFz (rn ["_law_k"] [2] (aq 1) (MC (ao (aq 1) (ao (M2 (aq 0) (mC (.int 3)) bD) (aB))) aQ)))) (aM (aR 4 (mFz (uO (ao (mSl (aq 3) (fNo) (fAt (M2 (mC (.int 1)) (M2 (aq 2) (MC (ao (mC (.int 4)) (ao (MC (ao (aq 3) (aB)) (aW cF)) (aB))) (lz mz)) bw) bD))) (aB))))) (bN (MC (ao (mFz (lLC ["_law_k"] [2] (fV (aq 4)) (aJ 0) (bK) (MC (ao (aq 0) (ao (M2 (mC (.int 1)) (M2 (MC (ao (aq 1) (ao (M2 (aq 0) (mC (.int 60)) bD) (aB))) aQ) (M2 (MC (ao (mC (.int 3)) (ao (mC (.int 7)) (ao (mC (.int 1000)) (aB)))) gf) (M2 (M2 (aq 1) (mC (.int 4)) dm) (mC (.int 3)) bw) oIx) bw) bD) (aB))) gY))) (aB)) gh))))
def bC:SF:=bN (yp (pY ["one","other"] [] (mq (ao (aq 0) (ao (aq 1) (aB)))) (jb 2 (bO (aJ 0) (bO (aJ 1) (jd)))) (M2 (aq 0) (aq 1) bI)))
def Ci(cT aK:FF):SF:=aM (aR 2 (mC (.int 1))) (aM (fH (fV (aq 1)) (jb 2 (bO (aJ 3) (bO (aJ 4) (jd)))) (aR 2 (M2 (M2 (aq 2) (M2 (M2 (aq 0) (aq 3) oIx) (M1 (mC (.int 1)) cU) oIx) bI) (MC (ao (aq 2) (ao (M2 (M2 (aq 0) (aq 3) oIx) (M1 (mC (.int 1)) cU) oIx) (aB))) cT) dm))) (aM (aR 5 (iw (wQ (MC (ao (mC (.int 0)) (aB)) gf) (M2 (MC (ao (M2 (aq 0) (M2 (M2 (aq 1) (mC (.int 0)) oIx) (mC (.int 0)) oIx) oIx) (aB)) (aW cF)) (mC (.int 1)) dF)))) (aM (aR 6 (mC (.int 0))) (aM (fH (fV (aq 1)) (jb 2 (bO (aJ 3) (bO (aJ 4) (jd)))) (aM (aR 6 (M2 (aq 6) (aq 4) bD)) (fH (bH (ao (MC (ao (aq 5) (aB)) (aW cF)) (aB))) (aJ 7) (aM (aR 8 (M2 (M2 (aq 4) (M2 (M2 (aq 0) (aq 3) oIx) (aq 7) oIx) bI) (M2 (aq 2) (M2 (M2 (aq 0) (aq 3) oIx) (M1 (mC (.int 1)) cU) oIx) dm) bI)) (pF (M2 (M2 (aq 5) (aq 7) oIx) (aq 8) bD) (aq 5) (aq 7)))))) (bN (MC (ao (nJ (aq 5)) (ao (M2 (aq 2) (aq 6) bI) (aB))) aK))))))
def lU(bG:FF):SF:=aM (aR 3 (MC (ao (aq 2) (ao (mSl (aq 1) (fNo) (fAt (M1 (mC (.int 1)) cU))) (aB))) bG)) (aM (aR 4 (mFz (lLC ["point"] [2,1,3] (fV (aq 0)) (aJ 0) (toB (M2 (M2 (MC (ao (aq 1) (ao (mSl (aq 0) (fNo) (fAt (M1 (mC (.int 1)) cU))) (aB))) bG) (M2 (aq 2) (M1 (mC (.int 1)) cU) oIx) bI) (M2 (aq 3) (M2 (aq 0) (M1 (mC (.int 1)) cU) oIx) bI) oGe)) (aq 0)))) (bN (MC (ao (aq 4) (aB)) (aW cF))))
def vm(φ_Larrow_mix φ_mix_of cB:FF):SF:=aM (aR 2 (MC (ao (aq 0) (ao (aq 1) (aB))) φ_Larrow_mix)) (aM (aR 3 (MC (ao (mFz (lLC ["_law_k","_law_share"] [] (fV (aq 1)) (jb 2 (bO (aJ 0) (bO (aJ 1) (jd)))) (bK) (MC (ao (aq 0) (ao (M2 (mC (.int 12)) (aq 1) bI) (aB))) gY))) (aB)) gh)) (bN (qL (MC (ao (MK (aB) (ao (aq 0) (ao (aq 1) (aB))) [0,1] φ_mix_of) (ao (aq 2) (aB))) cB) (MC (ao (MC (ao (aq 0) (ao (aq 3) (aB))) φ_mix_of) (ao (aq 2) (aB))) cB))))
def qX(cT aK:FF):SF:=aM (aR 2 (mC (.int 1))) (aM (fH (fV (aq 1)) (jb 2 (bO (aJ 3) (bO (aJ 4) (jd)))) (aR 2 (M2 (M2 (aq 2) (M2 (M2 (aq 0) (aq 3) oIx) (M1 (mC (.int 1)) cU) oIx) bI) (MC (ao (aq 2) (ao (M2 (M2 (aq 0) (aq 3) oIx) (M1 (mC (.int 1)) cU) oIx) (aB))) cT) dm))) (aM (aR 5 (iw (wQ (MC (ao (mC (.int 0)) (aB)) gf) (M2 (MC (ao (M2 (aq 0) (M2 (M2 (aq 1) (mC (.int 0)) oIx) (mC (.int 0)) oIx) oIx) (aB)) (aW cF)) (mC (.int 1)) dF)))) (aM (aR 6 (mC (.int 0))) (aM (fH (fV (aq 1)) (jb 2 (bO (aJ 3) (bO (aJ 4) (jd)))) (aM (aR 6 (M2 (aq 6) (aq 4) bD)) (fH (bH (ao (MC (ao (aq 5) (aB)) (aW cF)) (aB))) (aJ 7) (aM (aR 8 (M2 (aq 4) (M2 (M2 (aq 0) (aq 3) oIx) (aq 7) oIx) bI)) (pF (M2 (M2 (aq 5) (aq 7) oIx) (M2 (aq 8) (M2 (aq 2) (M2 (M2 (aq 0) (aq 3) oIx) (M1 (mC (.int 1)) cU) oIx) dm) bI) bD) (aq 5) (aq 7)))))) (bN (MC (ao (nJ (aq 5)) (ao (M2 (aq 2) (aq 6) bI) (aB))) aK))))))
def fL(aH aQ:FF):SF:=aM (aR 2 (MC (ao (aq 0) (aB)) aH)) (aM (aR 3 (mFz (rn ["_law_k"] [2] (aq 1) (MC (ao (aq 1) (ao (M2 (aq 0) (mC (.int 3)) bD) (aB))) aQ)))) (aM (aR 4 (mFz (uO (ao (mSl (aq 3) (fNo) (fAt (M2 (mC (.int 1)) (M2 (aq 2) (MC (ao (mC (.int 4)) (ao (MC (ao (aq 3) (aB)) (aW cF)) (aB))) (lz mz)) bw) bD))) (aB))))) (aM (aR 5 (M2 (MC (ao (mC (.int 3)) (ao (mC (.int 7)) (ao (mC (.int 1000)) (aB)))) gf) (M2 (M2 (aq 2) (mC (.int 4)) dm) (mC (.int 3)) bw) oIx)) (bN (MC (ao (mFz (lLC ["_law_k"] [2,5] (fV (aq 4)) (aJ 0) (bK) (MC (ao (aq 0) (ao (M2 (mC (.int 1)) (M2 (MC (ao (aq 1) (ao (M2 (aq 0) (mC (.int 60)) bD) (aB))) aQ) (aq 2) bw) bD) (aB))) gY))) (aB)) gh)))))
def kY(aK:FF):SF:=aM (aR 2 (M2 (aq 1) (M2 (MC (ao (aq 0) (aB)) (aW cF)) (mC (.int 1)) dF) bw)) (aM (aR 3 (M2 (MC (ao (mC (.int 1000)) (ao (mC (.int 1)) (ao (mC (.int 3)) (ao (mC (.int 1000000)) (aB))))) gf) (M2 (M2 (aq 1) (mC (.int 3)) dm) (mC (.int 4)) bw) oIx)) (aM (aR 4 (iw (lLC ["_law_one"] [3] (fV (mSl (aq 0) (fNo) (fAt (M1 (mC (.int 1)) cU)))) (aJ 0) (bK) (M2 (aq 0) (aq 1) bI)))) (aM (pF (M2 (M2 (aq 4) (aq 2) oIx) (M2 (M2 (MC (ao (mC (.int 1)) (ao (M1 (mC (.int 1)) cU) (aB))) gf) (M2 (M2 (aq 1) (mC (.int 12)) dm) (mC (.int 2)) bw) oIx) (M2 (aq 0) (M1 (mC (.int 1)) cU) oIx) bI) bD) (aq 4) (aq 2)) (bN (MC (ao (nJ (aq 4)) (ao (M2 (M2 (aq 0) (M1 (mC (.int 1)) cU) oIx) (aq 3) bI) (aB))) aK)))))
def nF(aK:FF):SF:=aM (aR 2 (M2 (aq 1) (M2 (MC (ao (aq 0) (aB)) (aW cF)) (mC (.int 1)) dF) bw)) (aM (aR 3 (M2 (MC (ao (mC (.int 1000)) (ao (mC (.int 1)) (ao (mC (.int 3)) (ao (mC (.int 1000000)) (aB))))) gf) (M2 (M2 (aq 1) (mC (.int 3)) dm) (mC (.int 4)) bw) oIx)) (aM (aR 4 (iw (lLC ["_law_one"] [3] (fV (mSl (aq 0) (fNo) (fAt (M1 (mC (.int 1)) cU)))) (aJ 0) (bK) (M2 (aq 0) (aq 1) bI)))) (aM (pF (M2 (M2 (aq 4) (aq 2) oIx) (M2 (M2 (MC (ao (mC (.int 1)) (ao (M1 (mC (.int 1)) cU) (aB))) gf) (M2 (M2 (aq 1) (mC (.int 12)) dm) (mC (.int 2)) bw) oIx) (M2 (aq 0) (M1 (mC (.int 1)) cU) oIx) bI) bD) (aq 4) (aq 2)) (bN (MC (ao (nJ (aq 4)) (ao (M2 (M2 (aq 0) (M1 (mC (.int 1)) cU) oIx) (aq 3) bI) (aB))) aK)))))
def fB(aH bB dX jg fX:FF):SF:=aM (aR 3 (MC (ao (aq 0) (aB)) aH)) (aM (sIf (vY (toB (M2 (aq 1) (MC (aB) gf) oEq)) (toB (M2 (M2 (aq 3) (mC (.int 6)) bw) (mC (.int 0)) oEq))) (bN (MC (ao (M2 (aq 3) (mC (.int 6)) dm) (ao (aq 2) (ao (M2 (M2 (aq 3) (mC (.int 6)) dm) (mC (.int 3)) bw) (ao (mC (.int 0)) (aB))))) bB)) (bZ)) (aM (sIf (toB (M2 (M2 (aq 3) (mC (.int 6)) bw) (mC (.int 1)) oEq)) (bN (M2 (aq 1) (M2 (M2 (aq 3) (mC (.int 6)) dm) (MC (ao (aq 1) (aB)) (aW cF)) bw) oIx)) (bZ)) (aM (aR 4 (MC (ao (aq 1) (ao (MC (ao (aq 0) (ao (mFz (yU (ao (MC (ao (aq 1) (aB)) (aW cF)) (aB)))) (aB))) dX) (aB))) jg)) (aM (sIf (toB (M2 (M2 (aq 3) (mC (.int 6)) bw) (mC (.int 4)) oLt)) (bN (aq 4)) (bZ)) (bN (MC (ao (aq 4) (ao (M2 (aq 3) (mC (.int 6)) dm) (aB))) fX))))))
def nW:SF:=bN (MC (ao (yp (qK (mFz (lLC ["_law_one","_law_other"] [] (mq (ao (aq 0) (ao (aq 1) (aB)))) (jb 2 (bO (aJ 0) (bO (aJ 1) (jd)))) (bK) (M2 (aq 0) (aq 1) bI))))) (ao (M2 (aq 1) (M1 (mC (.int 1)) cU) oIx) (aB))) gY)
def fJ:SF:=bN (M2 (M2 (M2 (aq 0) (mC (.int 0)) oIx) (M2 (aq 1) (mC (.int 1)) oIx) bI) (M2 (M2 (aq 1) (mC (.int 0)) oIx) (M2 (aq 0) (mC (.int 1)) oIx) bI) oLt)
def pZ:SF:=bN (MC (ao (yp (qK (mFz (lLC ["_law_one","_law_other"] [] (mq (ao (aq 0) (ao (aq 1) (aB)))) (jb 2 (bO (aJ 0) (bO (aJ 1) (jd)))) (bK) (M2 (aq 0) (aq 1) bI))))) (ao (M2 (aq 1) (M1 (mC (.int 1)) cU) oIx) (aB))) gY)
def xP:SF:=bN (MC (ao (yp (qK (mFz (lLC ["_law_one","_law_other"] [] (mq (ao (aq 0) (ao (aq 1) (aB)))) (jb 2 (bO (aJ 0) (bO (aJ 1) (jd)))) (bK) (M2 (aq 0) (aq 1) bI))))) (ao (M2 (aq 1) (M1 (mC (.int 1)) cU) oIx) (aB))) gY)
def mJ(cT aK:FF):SF:=aM (aR 2 (mC (.int 1))) (aM (fH (fV (aq 1)) (jb 2 (bO (aJ 3) (bO (aJ 4) (jd)))) (aR 2 (M2 (M2 (aq 2) (M2 (M2 (aq 0) (aq 3) oIx) (M1 (mC (.int 1)) cU) oIx) bI) (MC (ao (aq 2) (ao (M2 (M2 (aq 0) (aq 3) oIx) (M1 (mC (.int 1)) cU) oIx) (aB))) cT) dm))) (aM (aR 5 (iw (wQ (MC (ao (mC (.int 0)) (aB)) gf) (M2 (MC (ao (M2 (aq 0) (M2 (M2 (aq 1) (mC (.int 0)) oIx) (mC (.int 0)) oIx) oIx) (aB)) (aW cF)) (mC (.int 1)) dF)))) (aM (aR 6 (mC (.int 0))) (aM (fH (fV (aq 1)) (jb 2 (bO (aJ 3) (bO (aJ 4) (jd)))) (aM (aR 6 (M2 (aq 6) (aq 4) bD)) (fH (bH (ao (MC (ao (aq 5) (aB)) (aW cF)) (aB))) (aJ 7) (aM (aR 8 (M2 (aq 4) (M2 (M2 (aq 0) (aq 3) oIx) (aq 7) oIx) bI)) (pF (M2 (M2 (aq 5) (aq 7) oIx) (M2 (aq 8) (M2 (aq 2) (M2 (M2 (aq 0) (aq 3) oIx) (M1 (mC (.int 1)) cU) oIx) dm) bI) bD) (aq 5) (aq 7)))))) (bN (MC (ao (nJ (aq 5)) (ao (M2 (aq 2) (aq 6) bI) (aB))) aK))))))
def iM(aH bB aQ aK:FF):SF:=aM (aR 2 (MC (ao (MC (ao (aq 0) (aB)) aH) (ao (aq 1) (ao (M2 (MC (ao (aq 0) (aB)) aH) (mC (.int 3)) bw) (ao (mC (.int 0)) (aB))))) bB)) (aM (sIf (toB (M2 (M2 (aq 2) (M1 (mC (.int 1)) cU) oIx) (mC (.int 6)) oGt)) (aR 2 (M2 (mSl (aq 2) (fNo) (fAt (M1 (mC (.int 1)) cU))) (MC (ao (mC (.int 1)) (aB)) gY) bD)) (bZ)) (aM (aR 3 (iw (oO (aB)))) (aM (fH (bH (ao (M2 (MC (ao (aq 0) (aB)) aH) (mC (.int 6)) bw) (aB))) (aJ 4) (aM (aR 5 (MC (ao (aq 0) (aB)) aH)) (aM (aR 6 (mFz (lLC ["_law_j"] [5] (bH (ao (aq 1) (aB))) (aJ 0) (bK) (M2 (M2 (MC (ao (aq 1) (ao (M2 (aq 0) (mC (.int 2)) bD) (aB))) aQ) (mC (.int 7)) bw) (mC (.int 3)) dF)))) (fH (fV (mSl (MC (ao (mC (.int 1)) (ao (M1 (mC (.int 1)) cU) (ao (mC (.int 2)) (ao (mC (.int 0)) (ao (mC (.int 1)) (aB)))))) gf) (fNo) (fAt (M2 (mC (.int 1)) (M2 (M2 (aq 5) (mC (.int 1000)) dm) (mC (.int 5)) bw) bD)))) (aJ 7) (aM (aR 8 (mFz (lLC ["_law_one","_law_more"] [7,2] (mq (ao (mSl (aq 2) (fNo) (fAt (M1 (mC (.int 1)) cU))) (ao (aq 6) (aB)))) (jb 2 (bO (aJ 0) (bO (aJ 1) (jd)))) (bK) (M2 (aq 0) (M2 (M2 (aq 2) (aq 1) bI) (M2 (aq 3) (M1 (mC (.int 1)) cU) oIx) bI) bD)))) (dH (dW (aq 3) (ao (MC (ao (aq 8) (ao (M2 (aq 2) (M1 (mC (.int 1)) cU) oIx) (aB))) aK) (aB))))))))) (aM (aR 3 (iw (lLC ["_law_point_here"] [] (fV (aq 3)) (aJ 0) (toB (M2 (MC (ao (mFz (lLC ["_law_one"] [] (fV (mSl (aq 0) (fNo) (fAt (M1 (mC (.int 1)) cU)))) (aJ 0) (bK) (MC (ao (aq 0) (aB)) (aW lw)))) (aB)) (aW sJ)) (mC (.int 10000)) oLe)) (aq 0)))) (bN (MC (ao (mSl (aq 3) (fAt (M2 (MC (ao (aq 0) (aB)) aH) (mC (.int 2)) bw)) (fNo)) (ao (aq 2) (aB))) gY))))))
def iD(aH fZ eU gZ:FF):SF:=aM (sIf (toB (M2 (M2 (MC (ao (aq 0) (aB)) aH) (mC (.int 2)) bw) (mC (.int 0)) oEq)) (aM (zY (MC (ao (aq 0) (ao (aq 1) (aB))) fZ) (jb 2 (bO (aJ 3) (bO (aJ 4) (jd))))) (bN (MC (ao (mSl (aq 3) (fNo) (fAt (aq 2))) (ao (aq 4) (aB))) gY))) (bZ)) (aM (aR 3 (MC (ao (aq 0) (ao (aq 1) (ao (aq 2) (aB)))) eU)) (bN (MC (ao (aq 3) (ao (MC (ao (aq 0) (ao (aq 3) (ao (aq 1) (aB)))) gZ) (aB))) gY)))
def mO(aH aQ:FF):SF:=aM (aR 2 (MC (ao (aq 0) (aB)) aH)) (aM (aR 3 (M2 (MC (ao (mC (.int 3)) (ao (mC (.int 5)) (ao (mC (.int 21)) (ao (M2 (M2 (mC (.int 2)) (M2 (mC (.int 10)) (mC (.int 6)) qG) bI) (mC (.int 1)) bD) (aB))))) gf) (M2 (aq 2) (mC (.int 4)) bw) oIx)) (aM (aR 4 (iw (lLC ["_law_k"] [2,3] (bH (ao (aq 1) (aB))) (aJ 0) (bK) (M2 (M2 (MC (ao (aq 1) (ao (M2 (aq 0) (mC (.int 5)) bD) (aB))) aQ) (aq 2) bw) (M2 (aq 2) (mC (.int 2)) dm) dF)))) (aM (sIf (toB (M2 (aq 4) (M2 (MC (ao (mC (.int 0)) (aB)) gf) (aq 1) bI) oEq)) (pF (mC (.int 1)) (aq 4) (M2 (M2 (aq 2) (mC (.int 4)) dm) (aq 1) bw)) (bZ)) (bN (MC (ao (nJ (aq 4)) (aB)) gh)))))
def jq(gW gM:FF):SF:=aM (aR 3 (MC (ao (aq 2) (ao (aq 1) (aB))) gW)) (bN (MC (ao (mFz (lLC ["_law_point_here"] [2,3] (fV (aq 0)) (aJ 0) (pA (qR (MC (ao (MC (ao (aq 1) (ao (aq 0) (aB))) gW) (ao (aq 2) (aB))) gM))) (aq 0))) (aB)) (aW cF)))
def iC(eZ eQ cB:FF):SF:=aM (aR 3 (MC (ao (aq 0) (ao (aq 1) (ao (aq 2) (aB)))) eZ)) (aM (aR 4 (MC (ao (mFz (lLC ["_law_one"] [] (fV (aq 2)) (aJ 0) (bK) (M2 (mC (.int 0)) (aq 0) dF))) (aB)) gh)) (aM (aR 5 (M2 (M2 (aq 3) (MC (ao (aq 0) (ao (aq 1) (ao (aq 4) (aB)))) eZ) bD) (MC (ao (aq 0) (aB)) (aW cF)) dF)) (aM (aR 6 (MC (ao (mFz (lLC ["_law_one"] [] (fV (aq 2)) (aJ 0) (bK) (M2 (mC (.int 3)) (aq 0) bI))) (aB)) gh)) (aM (aR 7 (MC (ao (MC (ao (aq 0) (ao (aq 1) (ao (aq 2) (aB)))) eQ) (ao (MC (ao (aq 0) (ao (aq 1) (ao (aq 6) (aB)))) eQ) (ao (MC (ao (Fv (aq 0)) (ao (aq 1) (ao (aq 2) (aB)))) eQ) (aB)))) gf)) (aM (sIf (toB (M2 (MC (ao (mFz (lLC ["_law_one"] [3] (fV (aq 7)) (aJ 0) (pA (qR (MC (ao (aq 0) (ao (aq 1) (aB))) cB))) (aq 0))) (aB)) (aW cF)) (mC (.int 0)) oGt)) (bN (mC (.bl false))) (bZ)) (bN (MC (ao (MC (ao (aq 0) (ao (aq 1) (ao (aq 4) (aB)))) eQ) (ao (M2 (M2 (MC (ao (aq 0) (aB)) (aW cF)) (aq 3) dF) (aq 5) bD) (aB))) cB)))))))
def oE(fY aH ir ji gb:FF):SF:=aM (aR 1 (MC (ao (aq 0) (aB)) fY)) (aM (fH (bH (ao (mC (.int 4)) (aB))) (aJ 2) (aM (aR 3 (M2 (mC (.int 1)) (M2 (MC (ao (aq 1) (aB)) aH) (mC (.int 3)) bw) bD)) (aM (zY (MC (ao (aq 1) (ao (aq 3) (ao (mC (.int 40)) (aB)))) ir) (jb 2 (bO (aJ 4) (bO (aJ 5) (jd))))) (aM (aR 6 (MC (ao (MC (ao (aq 4) (ao (aq 5) (aB))) gY) (aB)) (aW zg))) (aM (fH (bH (ao (mC (.int 3)) (aB))) (aJ 7) (sIf (pA (qR (MC (ao (aq 4) (ao (aq 5) (ao (MC (ao (aq 1) (ao (aq 3) (aB))) ji) (aB)))) gb))) (bN (mC (.bl false))) (bZ))) (sIf (toB (M2 (MC (ao (MC (ao (aq 4) (ao (aq 5) (aB))) gY) (aB)) (aW zg)) (aq 6) oNe)) (bN (mC (.bl false))) (bZ))))))) (bN (mC (.bl true))))
end LG
namespace Lk65
open PySem PySem.Spec PyProof.Rows L2 L3 LG
def top(i:Nat):Stmt:=PySem.Challenge.pw_heapsmeet_k65_shows.main.body.getD i (.Pass ⟨0,0,0,0⟩)
structure BI(C:Wh):Prop where
 b_abs:C.mg "abs"=none
 b_all:C.mg "all"=none
 b_bool:C.mg "bool"=none
 b_isinstance:C.mg "isinstance"=none
 b_len:C.mg "len"=none
 b_list:C.mg "list"=none
 b_max:C.mg "max"=none
 b_min:C.mg "min"=none
 b_range:C.mg "range"=none
 b_repr:C.mg "repr"=none
 b_sorted:C.mg "sorted"=none
 b_sum:C.mg "sum"=none
 b_tuple:C.mg "tuple"=none
 b_zip:C.mg "zip"=none
section
variable {C:Wh} {f Tb:Addr} {fd:FuncData} (T:BI C)
include T
theorem Bc(F:FX C "_law_mixed" (top 5) f fd Tb):FJ C "_law_mixed" 2 (0+1) (aL 3 (fO)):=
 dN ["_law_cell","_law_k","_law_number"] F λq nd hcd hr=>by
  exact aA (aP (i:=2) nd (aF aX (aF bU (aF bU (aF cj (aF aX (pdv 0) az) az) (aF cj (aF cj az (pdv 1)) (pdv 1))) az) az)) (aG (aU (aF aX (aF cj (pdv 2) (pdv 2)) az)))
theorem zP{aQ:FF}(F:FX C "_law_draws" (top 6) f fd Tb)(F_Lmixed:FJ C "_law_mixed" 2 1 aQ):FJ C "_law_draws" 1 (1+1) (aL 5 (lu aQ)):=
 dN ["_law_script","_law_drawn","_law_k","_law_cell","_law_j"] F λq nd hcd hr=>by
  refine aA (aP (i:=1) nd (jk (lF au))) (aA ?_ (aG (aU (pdv 1))))
  refine dU (ts:=[2]) ZC rfl (bT T.b_range (aa (yJ rfl T.b_min (aa (fG T.b_len (aa (pdv 0) au)) (aa az au))) au)) (aV (i:=2) nd) (aA (aP (i:=3) nd (uF T.b_abs (aa (cC (pdv 0) (pdv 2)) au))) (aA ?_ (aA ?_ (aG (cI (bj Eu (pdv 3) az) (aG (gB (eY (pdv 1) (aa (aF aX (pdv 3) az) au)))) bA)))))
  refine cI (bj uN (pdv 3) (aF xg az az)) (aG ?_) bA
  refine dU (ts:=[4]) ZC rfl (bT T.b_range (aa az au)) (aV (i:=4) nd) (aG ?_)
  refine gB ?_
  exact eY (pdv 1) (aa (aZ F_Lmixed hr (aa (aZ F_Lmixed hr (aa (pdv 3) (aa (aF bU (aF cj az (pdv 4)) az) au))) (aa (aF bU (aF bU (pdv 4) (pdv 2)) az) au))) au)
  exact sW ZC (qJ (ut (bj Eu (pdv 3) (aF xg az az)) (uV (bj uN (fG T.b_len (aa (pdv 1) au)) az)))) (aA (gB (eY (pdv 1) (aa (aF aX (pdv 3) az) au))) (aG (aP (i:=3) nd (aF cV (pdv 3) az))))
theorem El(F:FX C "_law_next" (top 7) f fd Tb):FJ C "_law_next" 1 (0+1) (aL 1 (dR)):=
 dN ["_law_drawn"] F λq nd hcd hr=>by
  exact aA (cI (bj (gJ hr) (pdv 0) (gm au)) (aG (aU az)) bA) (aG (aU (Gh (pdv 0))))
theorem Aa(F:FX C "_law_place" (top 10) f fd Tb):FJ C "_law_place" 3 (0+1) (aL 3 (fP)):=
 dN ["_law_number","_law_kind","_law_base"] F λq nd hcd hr=>by
  refine aA ?_ (aA (cI (bj (gJ hr) (pdv 1) az) (aG (aU (gC (aa (aF dB (aF aX (pdv 0) az) az) (aa az au))))) bA) (aA ?_ (aA ?_ (aG (aU (gC (aa (aF cj (aF aX (pdv 0) az) (aF bU az (aF aX (pdv 2) az))) (aa az au))))))))
  exact cI (bj (gJ hr) (pdv 1) az) (aG (aU (gC (aa (aF dB (aF aX (pdv 0) az) az) (aa (aF bU az (aF aX (aF cV (pdv 0) az) az)) au))))) bA
  exact cI (bj (gJ hr) (pdv 1) az) (aG (aU (gC (aa (aF dB (aF aX (pdv 0) az) az) (aa (aF bU az (aF aX (aF cV (pdv 0) az) az)) au))))) bA
  refine cI (bj (gJ hr) (pdv 1) az) (aG (aU ?_)) bA
  exact gC (aa (aF bU (pdv 2) (cC (gm (aa az (aa az (aa az (aa az au))))) (aF aX (pdv 0) az))) (aa az au))
theorem Il(F:FX C "_law_gcd" (top 8) f fd Tb):FJ C "_law_gcd" 2 (0+1) (aL 2 (mQ)):=
 dN ["_law_one","_law_other"] F λq nd hcd hr=>by
  exact aA (sW ZC (bj (vB hr) (pdv 1) az) (aG (yR (i:=0) (j:=1) rfl nd (aa (pdv 1) (aa (aF aX (pdv 0) (pdv 1)) au))))) (aG (aU (uF T.b_abs (aa (pdv 0) au))))
theorem xj{cT:FF}(F:FX C "_law_lowest" (top 9) f fd Tb)(F_Lgcd:FJ C "_law_gcd" 2 1 cT):FJ C "_law_lowest" 2 (1+1) (aL 4 (dq cT)):=
 dN ["_law_numbers","_law_bottom","_law_common","_law_number"] F λq nd hcd hr=>by
  refine aA (aP (i:=2) nd (pdv 1)) (aA (dU (ts:=[3]) ZC rfl (dO (pdv 0)) (aV (i:=3) nd) (aG (aP (i:=2) nd (aZ F_Lgcd hr (aa (pdv 2) (aa (pdv 3) au)))))) (aA (cI (bj uN (pdv 1) az) (aG (aP (i:=2) nd (aF dB az (uF T.b_abs (aa (pdv 2) au))))) bA) (aG (aU ?_))))
  refine aF bU ?_ (gC (aa (aF cV (pdv 1) (pdv 2)) au))
  refine kO T.b_tuple (aa (fW ?_) au)
  exact lc_ ["_law_number"] ["_law_common"] [2] [0] (dO (pdv 0)) (λq nd=>aF cV (pdv 0) (pdv 1))
theorem zB{aQ gR aK:FF}(F:FX C "_law_point" (top 11) f fd Tb)(F_Lmixed:FJ C "_law_mixed" 2 1 aQ)(F_Lplace:FJ C "_law_place" 3 1 gR)(F_Llowest:FJ C "_law_lowest" 2 2 aK):FJ C "_law_point" 4 (2+1) (aL 9 (il aQ gR aK)):=
 dN ["_law_number","_law_directions","_law_kind","_law_base","_law_numbers","_law_bottom","_law_k","_law_top","_law_under"] F λq nd hcd hr=>by
  refine aA (aP (i:=4) nd (jk (lF au))) (aA (aP (i:=5) nd az) (aA ?_ (aG (aU (aZ F_Llowest hr (aa (kj (pdv 4)) (aa (pdv 5) au)))))))
  exact dU (ts:=[6]) ZC rfl (bT T.b_range (aa (pdv 1) au)) (aV (i:=6) nd) (aA (ug (ts:=[7,8]) (aZ F_Lplace hr (aa (aZ F_Lmixed hr (aa (pdv 0) (aa (aF bU (pdv 6) az) au))) (aa (pdv 2) (aa (aF bU (pdv 3) (pdv 6)) au)))) (iG rfl (bM (aV (i:=7) nd) (bM (aV (i:=8) nd) gw)))) (aA (cI (bj (gJ hr) (pdv 6) az) (aG (aP (i:=5) nd (pdv 8))) bA) (aG (gB (eY (pdv 4) (aa (pdv 7) au))))))
theorem zH{aH bB aQ aK:FF}(F:FX C "_law_round" (top 22) f fd Tb)(F_Lnext:FJ C "_law_next" 1 1 aH)(F_Lpoint:FJ C "_law_point" 4 3 bB)(F_Lmixed:FJ C "_law_mixed" 2 1 aQ)(F_Llowest:FJ C "_law_lowest" 2 2 aK):FJ C "_law_round" 2 (3+1) (aL 9 (iM aH bB aQ aK)):=
 dN ["_law_drawn","_law_directions","_law_spot_here","_law_points_here","_law_k","_law_number","_law_row","_law_turn","_law_moved_here"] F λq nd hcd hr=>by
  refine aA (aP (i:=2) nd (aZ F_Lpoint hr (aa (aZ F_Lnext hr (aa (pdv 0) au)) (aa (pdv 1) (aa (aF aX (aZ F_Lnext hr (aa (pdv 0) au)) az) (aa az au)))))) (aA ?_ (aA (aP (i:=3) nd (jk (lF au))) (aA ?_ (aA ?_ (aG (aU (gC (aa (fM (pdv 3) (eN (aF aX (aZ F_Lnext hr (aa (pdv 0) au)) az)) dY) (aa (pdv 2) au)))))))))
  exact cI (bj Cr (cC (pdv 2) (dw az)) az) (aG (aP (i:=2) nd (aF bU (fM (pdv 2) dY (eN (dw az))) (gC (aa az au))))) bA
  refine dU (ts:=[4]) ZC rfl (bT T.b_range (aa (aF aX (aZ F_Lnext hr (aa (pdv 0) au)) az) au)) (aV (i:=4) nd) (aA (aP (i:=5) nd (aZ F_Lnext hr (aa (pdv 0) au))) (aA ?_ (aG ?_)))
  exact Ei 6 nd ["_law_j"] ["_law_number"] [5] [0] (bT T.b_range (aa (pdv 1) au)) (λq nd=>aF dB (aF aX (aZ F_Lmixed hr (aa (pdv 1) (aa (aF bU (pdv 0) az) au))) az) az)
  refine dU (ts:=[7]) ZC rfl ?_ (aV (i:=7) nd) (aA ?_ (aG (gB (eY (pdv 3) (aa (aZ F_Llowest hr (aa (pdv 8) (aa (cC (pdv 2) (dw az)) au))) au)))))
  refine dO ?_
  exact fM (gm (aa az (aa (dw az) (aa az (aa az (aa az au)))))) dY (eN (aF bU az (aF aX (aF cV (pdv 5) az) az)))
  exact Ei 8 nd ["_law_one","_law_more"] ["_law_turn","_law_spot_here"] [7,2] [0,1] (pO T.b_zip (aa (fM (pdv 2) dY (eN (dw az))) (aa (pdv 6) au))) (λq nd=>aF bU (pdv 0) (aF cj (aF cj (pdv 2) (pdv 1)) (cC (pdv 3) (dw az))))
  refine DR 3 nd ["_law_point_here"] [] [] [0] (dO (pdv 3)) (λq nd=>pdv 0) (λq nd=>?_)
  refine nT ?_
  refine bj Nj ?_ az
  refine Hu rfl T.b_max (aa (fW ?_) au)
  exact lc_ ["_law_one"] [] [] [0] (dO (fM (pdv 0) dY (eN (dw az)))) (λq nd=>uF T.b_abs (aa (pdv 0) au))
theorem wA{aH aK:FF}(F:FX C "_law_on_line" (top 12) f fd Tb)(F_Lnext:FJ C "_law_next" 1 1 aH)(F_Llowest:FJ C "_law_lowest" 2 2 aK):FJ C "_law_on_line" 3 (2+1) (aL 8 (gP aH aK)):=
 dN ["_law_drawn","_law_directions","_law_many","_law_start","_law_step","_law_found","_law_j","_law_turn"] F λq nd hcd hr=>by
  refine aA ?_ (aA ?_ (aA (aP (i:=5) nd (jk (lF au))) (aA ?_ (aG (aU (kj (pdv 5)))))))
  refine aP (i:=3) nd (fW ?_)
  exact lc_ ["_law_k"] ["_law_drawn"] [0] [0] (bT T.b_range (aa (pdv 1) au)) (λq nd=>aF dB (aF aX (aZ F_Lnext hr (aa (pdv 1) au)) az) az)
  refine aP (i:=4) nd (fW ?_)
  exact lc_ ["_law_k"] ["_law_drawn"] [0] [0] (bT T.b_range (aa (pdv 1) au)) (λq nd=>aF dB (aF aX (aZ F_Lnext hr (aa (pdv 1) au)) az) az)
  refine dU (ts:=[6]) ZC rfl (bT T.b_range (aa (pdv 2) au)) (aV (i:=6) nd) (aA (aP (i:=7) nd (aF dB (aF aX (aZ F_Lnext hr (aa (pdv 0) au)) az) az)) (aG ?_))
  refine gB ?_
  refine eY (pdv 5) (aa ?_ au)
  refine aZ F_Llowest hr (aa (fW ?_) (aa az au))
  exact lc_ ["_law_k"] ["_law_start","_law_turn","_law_step"] [3,7,4] [0] (bT T.b_range (aa (pdv 1) au)) (λq nd=>aF bU (cC (pdv 1) (pdv 0)) (aF cj (pdv 2) (cC (pdv 3) (pdv 0))))
theorem Du{aH aK:FF}(F:FX C "_law_flat" (top 13) f fd Tb)(F_Lnext:FJ C "_law_next" 1 1 aH)(F_Llowest:FJ C "_law_lowest" 2 2 aK):FJ C "_law_flat" 3 (2+1) (aL 9 (lD aH aK)):=
 dN ["_law_drawn","_law_directions","_law_many","_law_first","_law_second","_law_found","_law_j","_law_number","_law_row"] F λq nd hcd hr=>by
  refine aA (yR (i:=3) (j:=4) rfl nd (aa (aF dB (aF aX (aZ F_Lnext hr (aa (pdv 0) au)) az) az) (aa (aF dB (aF aX (aZ F_Lnext hr (aa (pdv 0) au)) az) az) au))) (aA (aP (i:=5) nd (jk (lF au))) (aA ?_ (aG (aU (kj (pdv 5))))))
  refine dU (ts:=[6]) ZC rfl (bT T.b_range (aa (pdv 2) au)) (aV (i:=6) nd) (aA (aP (i:=7) nd (aZ F_Lnext hr (aa (pdv 0) au))) (aA ?_ (aA ?_ (aG (gB (eY (pdv 5) (aa (aZ F_Llowest hr (aa (kj (pdv 8)) (aa az au))) au)))))))
  refine aP (i:=8) nd (jk ?_)
  refine Ba ?_ dY (eN (pdv 1))
  exact gm (aa (aF dB (aF aX (pdv 7) az) az) (aa (aF dB (aF aX (aF cV (pdv 7) az) az) az) (aa (aF dB (aF aX (aF cV (pdv 7) az) az) az) au)))
  exact cI (bj Cr (pdv 1) az) (aG (pP (aF bU (aF cj (pdv 3) (cC (pdv 8) az)) (aF cj (pdv 4) (cC (pdv 8) (aF dB (pdv 1) az)))) (pdv 8) (dw az))) bA
theorem xu{aH eO iR bB:FF}(F:FX C "_law_points" (top 14) f fd Tb)(F_Lnext:FJ C "_law_next" 1 1 aH)(F_Lon_line:FJ C "_law_on_line" 3 3 eO)(F_Lflat:FJ C "_law_flat" 3 3 iR)(F_Lpoint:FJ C "_law_point" 4 3 bB):FJ C "_law_points" 3 (3+1) (aL 9 (iI aH eO iR bB)):=
 dN ["_law_drawn","_law_directions","_law_most","_law_number","_law_many","_law_kind","_law_found","_law_j","_law_one"] F λq nd hcd hr=>by
  refine aA (aP (i:=3) nd (aZ F_Lnext hr (aa (pdv 0) au))) (aA (aP (i:=4) nd (aF aX (aF cV (pdv 3) az) (aF bU (pdv 2) az))) (aA (aP (i:=5) nd (aF aX (pdv 3) az)) (aA (cI (bj (gJ hr) (pdv 5) az) (aG (aU (aZ F_Lon_line hr (aa (pdv 0) (aa (pdv 1) (aa (pdv 4) au)))))) bA) (aA (cI (bj (gJ hr) (pdv 5) az) (aG (aU (aZ F_Lflat hr (aa (pdv 0) (aa (pdv 1) (aa (pdv 4) au)))))) bA) (aA ?_ (aA (aP (i:=6) nd (jk (lF au))) (aA ?_ (aG (aU (kj (pdv 6)))))))))))
  exact cI (bj (gJ hr) (pdv 5) az) (aG (aU (aF cj (gm (aa (aZ F_Lpoint hr (aa (pdv 3) (aa (pdv 1) (aa az (aa az au))))) au)) (pdv 4)))) bA
  refine dU (ts:=[7]) ZC rfl (bT T.b_range (aa (pdv 4) au)) (aV (i:=7) nd) (aA (aP (i:=8) nd (aZ F_Lnext hr (aa (pdv 0) au))) (aG ?_))
  refine cI (qJ (ut (bj (gJ hr) (pdv 5) az) (ut (bj (Ly hr) (pdv 6) (gm au)) (uV (bj (gJ hr) (aF aX (pdv 8) az) az))))) (aG (gB (eY (pdv 6) (aa (cC (pdv 6) (aF aX (aF cV (pdv 8) az) (fG T.b_len (aa (pdv 6) au)))) au)))) (aG ?_)
  refine gB ?_
  exact eY (pdv 6) (aa (aZ F_Lpoint hr (aa (aF cV (pdv 8) az) (aa (pdv 1) (aa (aF aX (aF aX (pdv 5) az) az) (aa (aF cj (aF aX (pdv 8) az) az) au))))) au)
theorem xW{aH aQ:FF}(F:FX C "_law_shares" (top 16) f fd Tb)(F_Lnext:FJ C "_law_next" 1 1 aH)(F_Lmixed:FJ C "_law_mixed" 2 1 aQ)(hT:Tb∈C.tb):FJ C "_law_shares" 2 (2+1) (aL 6 (fL aH aQ)):=
 dN ["_law_drawn","_law_numbers","_law_number","_law_turn","_law_some","_law_size"] F λq nd hcd hr=>by
  refine aA (aP (i:=2) nd (aZ F_Lnext hr (aa (pdv 0) au))) (aA ?_ (aA ?_ (aA (aP (i:=5) nd (cC (gm (aa az (aa az (aa az au)))) (aF aX (aF cV (pdv 2) az) az))) (aG (aU ?_)))))
  refine aP (i:=3) nd (fW ?_)
  refine zN (x:="_law_k") (cap:=["_law_number"]) (capI:=[2]) rfl hr T.b_sorted ⟨⟨rfl,by decide +kernel,⟨⟨rfl,by first|exact Or.inl rfl|exact Or.inr rfl⟩,trivial⟩,by decide +kernel,by decide +kernel⟩,rfl,by decide +kernel,by decide +kernel,by decide +kernel,rfl,rfl,rfl,λ_ _ _ _ _ _=>rfl⟩ hT ⟨q.c,rfl,hcd⟩ (pdv 1) ?_
  intro q f code s H hm
  have hg1:=hm _ hr
  exact aZ F_Lmixed hg1 (aa (pdv 1) (aa (aF bU (pdv 0) az) au))
  exact aP (i:=4) nd (fW (Dh T.b_sorted (aa (fM (pdv 3) dY (eN (aF bU az (aF aX (pdv 2) (yJ rfl T.b_min (aa az (aa (fG T.b_len (aa (pdv 3) au)) au))))))) au)))
  refine kO T.b_tuple (aa (fW ?_) au)
  exact lc_ ["_law_k"] ["_law_number","_law_size"] [2,5] [0] (dO (pdv 4)) (λq nd=>gC (aa (pdv 0) (aa (aF bU az (aF aX (aZ F_Lmixed hr (aa (pdv 1) (aa (aF bU (pdv 0) az) au))) (pdv 2))) au)))
theorem Hd{cT aK:FF}(F:FX C "_law_mix" (top 15) f fd Tb)(F_Lgcd:FJ C "_law_gcd" 2 1 cT)(F_Llowest:FJ C "_law_lowest" 2 2 aK):FJ C "_law_mix" 2 (2+1) (aL 9 (qX cT aK)):=
 dN ["_law_points_here","_law_shares_here","_law_bottom","_law_k","_law_share","_law_numbers","_law_total","_law_i","_law_more"] F λq nd hcd hr=>by
  refine aA (aP (i:=2) nd az) (aA ?_ (aA (aP (i:=5) nd (jk (Hl (gm (aa az au)) (aF dB (fG T.b_len (aa (cC (pdv 0) (cC (cC (pdv 1) az) az)) au)) az)))) (aA (aP (i:=6) nd az) (aA ?_ (aG (aU (aZ F_Llowest hr (aa (kj (pdv 5)) (aa (aF cj (pdv 2) (pdv 6)) au)))))))))
  refine dU (ts:=[3,4]) ZC rfl (dO (pdv 1)) (iG rfl (bM (aV (i:=3) nd) (bM (aV (i:=4) nd) gw))) (aG ?_)
  exact aP (i:=2) nd (aF cV (aF cj (pdv 2) (cC (cC (pdv 0) (pdv 3)) (dw az))) (aZ F_Lgcd hr (aa (pdv 2) (aa (cC (cC (pdv 0) (pdv 3)) (dw az)) au))))
  refine dU (ts:=[3,4]) ZC rfl (dO (pdv 1)) (iG rfl (bM (aV (i:=3) nd) (bM (aV (i:=4) nd) gw))) (aA (aP (i:=6) nd (aF bU (pdv 6) (pdv 4))) (aG ?_))
  exact dU (ts:=[7]) ZC rfl (bT T.b_range (aa (fG T.b_len (aa (pdv 5) au)) au)) (aV (i:=7) nd) (aA (aP (i:=8) nd (aF cj (pdv 4) (cC (cC (pdv 0) (pdv 3)) (pdv 7)))) (aG (pP (aF bU (cC (pdv 5) (pdv 7)) (aF cj (pdv 8) (aF cV (pdv 2) (cC (cC (pdv 0) (pdv 3)) (dw az))))) (pdv 5) (pdv 7))))
theorem Aq{aK:FF}(F:FX C "_law_moved" (top 17) f fd Tb)(F_Llowest:FJ C "_law_lowest" 2 2 aK):FJ C "_law_moved" 2 (2+1) (aL 5 (nF aK)):=
 dN ["_law_spot_here","_law_number","_law_at","_law_size","_law_numbers"] F λq nd hcd hr=>by
  refine aA (aP (i:=2) nd (aF aX (pdv 1) (aF dB (fG T.b_len (aa (pdv 0) au)) az))) (aA (aP (i:=3) nd (cC (gm (aa az (aa az (aa az (aa az au))))) (aF aX (aF cV (pdv 1) az) az))) (aA ?_ (aA ?_ (aG (aU (aZ F_Llowest hr (aa (kj (pdv 4)) (aa (aF cj (cC (pdv 0) (dw az)) (pdv 3)) au))))))))
  exact DR 4 nd ["_law_one"] ["_law_size"] [3] [0] (dO (fM (pdv 0) dY (eN (dw az)))) (λq nd=>aF cj (pdv 0) (pdv 1))
  refine pP ?_ (pdv 4) (pdv 2)
  exact aF bU (cC (pdv 4) (pdv 2)) (aF cj (cC (gm (aa az (aa (dw az) au))) (aF aX (aF cV (pdv 1) az) az)) (cC (pdv 0) (dw az)))
theorem Ds{aH bB dX jg fX:FF}(F:FX C "_law_spot" (top 18) f fd Tb)(F_Lnext:FJ C "_law_next" 1 1 aH)(F_Lpoint:FJ C "_law_point" 4 3 bB)(F_Lshares:FJ C "_law_shares" 2 3 dX)(F_Lmix:FJ C "_law_mix" 2 3 jg)(F_Lmoved:FJ C "_law_moved" 2 3 fX):FJ C "_law_spot" 3 (3+1) (aL 5 (fB aH bB dX jg fX)):=
 dN ["_law_drawn","_law_points_here","_law_directions","_law_number","_law_spot_here"] F λq nd hcd hr=>by
  refine aA (aP (i:=3) nd (aZ F_Lnext hr (aa (pdv 0) au))) (aA ?_ (aA (cI (bj (gJ hr) (aF aX (pdv 3) az) az) (aG (aU (cC (pdv 1) (aF aX (aF cV (pdv 3) az) (fG T.b_len (aa (pdv 1) au)))))) bA) (aA (aP (i:=4) nd (aZ F_Lmix hr (aa (pdv 1) (aa (aZ F_Lshares hr (aa (pdv 0) (aa (fW (BJ rfl T.b_list T.b_range (aa (fG T.b_len (aa (pdv 1) au)) au))) au))) au)))) (aA (cI (bj uN (aF aX (pdv 3) az) az) (aG (aU (pdv 4))) bA) (aG (aU (aZ F_Lmoved hr (aa (pdv 4) (aa (aF cV (pdv 3) az) au)))))))))
  exact cI (qJ (wU (bj (gJ hr) (pdv 1) (gm au)) (uC (bj (gJ hr) (aF aX (pdv 3) az) az)))) (aG (aU (aZ F_Lpoint hr (aa (aF cV (pdv 3) az) (aa (pdv 2) (aa (aF aX (aF cV (pdv 3) az) az) (aa az au))))))) bA
theorem Ej{aH fZ eU gZ:FF}(F:FX C "_law_case" (top 23) f fd Tb)(F_Lnext:FJ C "_law_next" 1 1 aH)(F_Lround:FJ C "_law_round" 2 4 fZ)(F_Lpoints:FJ C "_law_points" 3 4 eU)(F_Lspot:FJ C "_law_spot" 3 4 gZ):FJ C "_law_case" 3 (4+1) (aL 5 (iD aH fZ eU gZ)):=
 dN ["_law_drawn","_law_directions","_law_most","_law_points_here","_law_spot_here"] F λq nd hcd hr=>by
  refine aA ?_ (aA (aP (i:=3) nd (aZ F_Lpoints hr (aa (pdv 0) (aa (pdv 1) (aa (pdv 2) au))))) (aG (aU (gC (aa (pdv 3) (aa (aZ F_Lspot hr (aa (pdv 0) (aa (pdv 3) (aa (pdv 1) au)))) au))))))
  exact cI (bj (gJ hr) (aF aX (aZ F_Lnext hr (aa (pdv 0) au)) az) az) (aA (ug (ts:=[3,4]) (aZ F_Lround hr (aa (pdv 0) (aa (pdv 1) au))) (iG rfl (bM (aV (i:=3) nd) (bM (aV (i:=4) nd) gw)))) (aG (aU (gC (aa (fM (pdv 3) dY (eN (pdv 2))) (aa (pdv 4) au)))))) bA
theorem Ip{aH aQ:FF}(F:FX C "_law_cut" (top 24) f fd Tb)(F_Lnext:FJ C "_law_next" 1 1 aH)(F_Lmixed:FJ C "_law_mixed" 2 1 aQ):FJ C "_law_cut" 2 (1+1) (aL 5 (mO aH aQ)):=
 dN ["_law_drawn","_law_directions","_law_number","_law_size","_law_row"] F λq nd hcd hr=>by
  refine aA (aP (i:=2) nd (aZ F_Lnext hr (aa (pdv 0) au))) (aA ?_ (aA ?_ (aA (cI (bj (gJ hr) (pdv 4) (aF cj (gm (aa az au)) (pdv 1))) (aG (pP az (pdv 4) (aF aX (aF cV (pdv 2) az) (pdv 1)))) bA) (aG (aU (kO T.b_tuple (aa (kj (pdv 4)) au)))))))
  exact aP (i:=3) nd (cC (gm (aa az (aa az (aa az (aa (aF bU (aF cj az (aF xg az az)) az) au))))) (aF aX (pdv 2) az))
  exact DR 4 nd ["_law_k"] ["_law_number","_law_size"] [2,3] [0] (bT T.b_range (aa (pdv 1) au)) (λq nd=>aF dB (aF aX (aZ F_Lmixed hr (aa (pdv 1) (aa (aF bU (pdv 0) az) au))) (pdv 2)) (aF cV (pdv 2) az))
theorem Fy(F:FX C "_law_sum" (top 19) f fd Tb):FJ C "_law_sum" 2 (0+1) (aL 2 (pZ)):=
 dN ["_law_row","_law_spot_here"] F λq nd hcd hr=>by
  refine aG (aU ?_)
  refine gC (aa ?_ (aa (cC (pdv 1) (dw az)) au))
  refine Bt rfl T.b_sum ?_
  refine tE rfl (fW ?_)
  exact lc_ ["_law_one","_law_other"] [] [] [0,1] (pO T.b_zip (aa (pdv 0) (aa (pdv 1) au))) (λq nd=>aF cj (pdv 0) (pdv 1))
theorem zK(F:FX C "_law_below" (top 20) f fd Tb):FJ C "_law_below" 2 (0+1) (aL 2 (fJ)):=
 dN ["_law_one","_law_other"] F λq nd hcd hr=>by
  exact aG (aU (xf uN (aF cj (cC (pdv 0) az) (cC (pdv 1) az)) (aF cj (cC (pdv 1) az) (cC (pdv 0) az))))
theorem Av{gW gM:FF}(F:FX C "_law_shows" (top 25) f fd Tb)(F_Lsum:FJ C "_law_sum" 2 1 gW)(F_Lbelow:FJ C "_law_below" 2 1 gM):FJ C "_law_shows" 3 (1+1) (aL 4 (jq gW gM)):=
 dN ["_law_points_here","_law_spot_here","_law_cut_here","_law_own"] F λq nd hcd hr=>by
  refine aA (aP (i:=3) nd (aZ F_Lsum hr (aa (pdv 2) (aa (pdv 1) au)))) (aG (aU ?_))
  refine fG T.b_len (aa (fW ?_) au)
  exact lc_ ["_law_point_here"] ["_law_cut_here","_law_own"] [2,3] [0] (dO (pdv 0)) (λq nd=>pdv 0) (λq nd=>nT (tR (ni (aZ F_Lbelow hr (aa (aZ F_Lsum hr (aa (pdv 1) (aa (pdv 0) au))) (aa (pdv 2) au))))))
theorem mU(F:FX C "sum_of_products" (top 1) f fd Tb)(hT:Tb∈C.tb):FJ C "sum_of_products" 2 (1+1) (aL 2 (bC)):=
 dN ["ones","others"] F λq nd hcd hr=>by
  refine aG (aU ?_)
  refine Bt rfl T.b_sum (By ?_)
  exact gen_ ["one","other"] [] [] [0,1] hr hT hcd (pO T.b_zip (aa (pdv 0) (aa (pdv 1) au))) (λq nd hg1=>aF cj (pdv 0) (pdv 1))
theorem Cm{bG:FF}(F:FX C "shows" (top 3) f fd Tb)(F_sum_of_products:FJ C "sum_of_products" 2 2 bG):FJ C "shows" 3 (2+1) (aL 5 (lU bG)):=
 dN ["points","spot","cut","level","shown"] F λq nd hcd hr=>by
  refine aA (aP (i:=3) nd (aZ F_sum_of_products hr (aa (pdv 2) (aa (fM (pdv 1) dY (eN (dw az))) au)))) (aA ?_ (aG (aU (fG T.b_len (aa (pdv 4) au)))))
  refine Ei 4 nd ["point"] ["cut","spot","level"] [2,1,3] [0] (dO (pdv 0)) (λq nd=>pdv 0) (λq nd=>?_)
  refine nT ?_
  exact bj Eu (aF cj (aZ F_sum_of_products hr (aa (pdv 1) (aa (fM (pdv 0) dY (eN (dw az))) au))) (cC (pdv 2) (dw az))) (aF cj (pdv 3) (cC (pdv 0) (dw az)))
theorem jA{cB:FF}(F:FX C "_law_same" (top 21) f fd Tb){k:Nat}(hk:0<=k)(F_Lsame:FJ C "_law_same" 2 k cB):FJ C "_law_same" 2 (k+1) (aL 2 (jf cB)):=
 dN ["_law_one","_law_other"] F λq nd hcd hr=>by
  refine aA ?_ (aA ?_ (aG (aU ?_)))
  refine cI ?_ (aG (aU su)) bA
  refine qJ ?_
  refine wU ?_ ?_
  refine bj (vB hr) ?_ ?_
  exact lq T.b_isinstance T.b_tuple PyProof.Rows.boot_tuple (by decide) (pdv 0)
  exact lq T.b_isinstance T.b_tuple PyProof.Rows.boot_tuple (by decide) (pdv 1)
  refine uC ?_
  refine bj (vB hr) ?_ ?_
  exact lq T.b_isinstance T.b_list PyProof.Rows.boot_list (by decide) (pdv 0)
  exact lq T.b_isinstance T.b_list PyProof.Rows.boot_list (by decide) (pdv 1)
  refine cI ?_ (aA (cI (bj (vB hr) (fG T.b_len (aa (pdv 0) au)) (fG T.b_len (aa (pdv 1) au))) (aG (aU su)) bA) (aG (aU ?_))) bA
  refine qJ ?_
  refine wU ?_ ?_
  refine ni ?_
  exact lq T.b_isinstance T.b_tuple PyProof.Rows.boot_tuple (by decide) (pdv 0)
  refine uC ?_
  refine ni ?_
  exact lq T.b_isinstance T.b_list PyProof.Rows.boot_list (by decide) (pdv 0)
  refine Ld rfl T.b_all ?_
  refine tE rfl (fW ?_)
  exact lc_ ["_law_here","_law_there"] [] [] [0,1] (pO T.b_zip (aa (pdv 0) (aa (pdv 1) au))) (λq nd=>aZ F_Lsame hr (aa (pdv 0) (aa (pdv 1) au)))
  refine LQ ?_ (HF (xf (gJ hr) (pdv 0) (pdv 1)))
  refine xf (gJ hr) ?_ ?_
  exact lq T.b_isinstance T.b_bool PyProof.Rows.boot_bool (by decide) (pdv 0)
  exact lq T.b_isinstance T.b_bool PyProof.Rows.boot_bool (by decide) (pdv 1)
theorem Am{eZ eQ cB:FF}(F:FX C "_law_asked" (top 26) f fd Tb)(F_Lshows:FJ C "_law_shows" 3 2 eZ)(F_shows:FJ C "shows" 3 3 eQ)(F_Lsame:FJ C "_law_same" 2 6 cB):FJ C "_law_asked" 3 (6+1) (aL 8 (iC eZ eQ cB)):=
 dN ["_law_points_here","_law_spot_here","_law_cut_here","_law_due","_law_back","_law_on","_law_thrice","_law_some"] F λq nd hcd hr=>by
  refine aA (aP (i:=3) nd (aZ F_Lshows hr (aa (pdv 0) (aa (pdv 1) (aa (pdv 2) au))))) (aA ?_ (aA (aP (i:=5) nd (aF dB (aF bU (pdv 3) (aZ F_Lshows hr (aa (pdv 0) (aa (pdv 1) (aa (pdv 4) au))))) (fG T.b_len (aa (pdv 0) au)))) (aA ?_ (aA ?_ (aA ?_ (aG (aU (aZ F_Lsame hr (aa (aZ F_shows hr (aa (pdv 0) (aa (pdv 1) (aa (pdv 4) au)))) (aa (aF bU (aF dB (fG T.b_len (aa (pdv 0) au)) (pdv 3)) (pdv 5)) au))))))))))
  refine aP (i:=4) nd ?_
  refine kO T.b_tuple (aa (fW ?_) au)
  exact lc_ ["_law_one"] [] [] [0] (dO (pdv 2)) (λq nd=>aF dB az (pdv 0))
  refine aP (i:=6) nd ?_
  refine kO T.b_tuple (aa (fW ?_) au)
  exact lc_ ["_law_one"] [] [] [0] (dO (pdv 2)) (λq nd=>aF cj az (pdv 0))
  refine aP (i:=7) nd ?_
  exact gm (aa (aZ F_shows hr (aa (pdv 0) (aa (pdv 1) (aa (pdv 2) au)))) (aa (aZ F_shows hr (aa (pdv 0) (aa (pdv 1) (aa (pdv 6) au)))) (aa (aZ F_shows hr (aa (JX (pdv 0)) (aa (pdv 1) (aa (pdv 2) au)))) au)))
  refine cI ?_ (aG (aU su)) bA
  refine bj Cr ?_ az
  refine fG T.b_len (aa (fW ?_) au)
  exact lc_ ["_law_one"] ["_law_due"] [3] [0] (dO (pdv 7)) (λq nd=>pdv 0) (λq nd=>nT (tR (ni (aZ F_Lsame hr (aa (pdv 0) (aa (pdv 1) au))))))
theorem KN{fY aH ir ji gb:FF}(F:FX C "law" (top 27) f fd Tb)(F_Ldraws:FJ C "_law_draws" 1 2 fY)(F_Lnext:FJ C "_law_next" 1 1 aH)(F_Lcase:FJ C "_law_case" 3 5 ir)(F_Lcut:FJ C "_law_cut" 2 2 ji)(F_Lasked:FJ C "_law_asked" 3 7 gb):lX C.P C.w C.K C.mg C.base CX0 (7+1) f fd ["_law_script"] (spD C.K C.tb 1 (aL 8 (oE fY aH ir ji gb))):=
 fj_n ["_law_script","_law_drawn","_law_k","_law_directions","_law_points_here","_law_spot_here","_law_before","_law_turn"] ["_law_script"] F λq nd hcd hr=>by
  refine aA (aP (i:=1) nd (aZ F_Ldraws hr (aa (pdv 0) au))) (aA ?_ (aG (aU su)))
  refine dU (ts:=[2]) ZC rfl (bT T.b_range (aa az au)) (aV (i:=2) nd) (aA (aP (i:=3) nd (aF bU az (aF aX (aZ F_Lnext hr (aa (pdv 1) au)) az))) (aA (ug (ts:=[4,5]) (aZ F_Lcase hr (aa (pdv 1) (aa (pdv 3) (aa az au)))) (iG rfl (bM (aV (i:=4) nd) (bM (aV (i:=5) nd) gw)))) (aA (aP (i:=6) nd (zx hr T.b_repr (aa (gC (aa (pdv 4) (aa (pdv 5) au))) au))) (aA ?_ (aG (cI (bj (vB hr) (zx hr T.b_repr (aa (gC (aa (pdv 4) (aa (pdv 5) au))) au)) (pdv 6)) (aG (aU su)) bA))))))
  exact dU (ts:=[7]) ZC rfl (bT T.b_range (aa az au)) (aV (i:=7) nd) (aG (cI (tR (ni (aZ F_Lasked hr (aa (pdv 4) (aa (pdv 5) (aa (aZ F_Lcut hr (aa (pdv 1) (aa (pdv 3) au))) au)))))) (aG (aU su)) bA))
end
def aQ:FF:=trunc (aL 3 (fO))
def fY:FF:=aL 5 (lu aQ)
def aH:FF:=trunc (aL 1 (dR))
def gR:FF:=trunc (aL 3 (fP))
def cT:FF:=trunc (aL 2 (mQ))
def aK:FF:=trunc (aL 4 (dq cT))
def bB:FF:=trunc (aL 9 (il aQ gR aK))
def fZ:FF:=trunc (aL 9 (iM aH bB aQ aK))
def eO:FF:=trunc (aL 8 (gP aH aK))
def iR:FF:=trunc (aL 9 (lD aH aK))
def eU:FF:=trunc (aL 9 (iI aH eO iR bB))
def dX:FF:=trunc (aL 6 (fL aH aQ))
def jg:FF:=trunc (aL 9 (qX cT aK))
def fX:FF:=trunc (aL 5 (nF aK))
def gZ:FF:=trunc (aL 5 (fB aH bB dX jg fX))
def ir:FF:=trunc (aL 5 (iD aH fZ eU gZ))
def ji:FF:=trunc (aL 5 (mO aH aQ))
def gW:FF:=trunc (aL 2 (pZ))
def gM:FF:=trunc (aL 2 (fJ))
def eZ:FF:=trunc (aL 4 (jq gW gM))
def bG:FF:=trunc (aL 2 (bC))
def eQ:FF:=trunc (aL 5 (lU bG))
def cB:FF:=Ku 6 λφ=>trunc (aL 2 (jf φ))
def gb:FF:=trunc (aL 8 (iC eZ eQ cB))
def xQ:FF:=aL 8 (oE fY aH ir ji gb)
abbrev Gt(K:Zw)(x:Str)(s:Stmt):Prop:=∃f c P fd,Got K x s f c P fd
abbrev Nn(K:Zw)(x:Str):Prop:=PySem.W.nsIn K mainGlobals x=some none
abbrev Rq(q:Program)(x:Str):Prop:=((recsOf q).find? (λe=>e.name==x)).isSome=true
theorem Ks{l:PySem.W.OpenLaw}{q:Program}{lo:List Str}{mean:ExcName->Option Value}{w:World}{K:Zw}{h:Heap}{mg mb:Str->Option Value}{fa:Addr}
  (X:K.In h) (G:Top q lo mean mg mb h) (hfa:mg "law"=some (.ref fa))
  (d0:Gt K "_law_mixed" (top 5))
  (d1:Gt K "_law_draws" (top 6))
  (d2:Gt K "_law_next" (top 7))
  (d3:Gt K "_law_place" (top 10))
  (d4:Gt K "_law_gcd" (top 8))
  (d5:Gt K "_law_lowest" (top 9))
  (d6:Gt K "_law_point" (top 11))
  (d7:Gt K "_law_round" (top 22))
  (d8:Gt K "_law_on_line" (top 12))
  (d9:Gt K "_law_flat" (top 13))
  (d10:Gt K "_law_points" (top 14))
  (d11:Gt K "_law_shares" (top 16))
  (d12:Gt K "_law_mix" (top 15))
  (d13:Gt K "_law_moved" (top 17))
  (d14:Gt K "_law_spot" (top 18))
  (d15:Gt K "_law_case" (top 23))
  (d16:Gt K "_law_cut" (top 24))
  (d17:Gt K "_law_sum" (top 19))
  (d18:Gt K "_law_below" (top 20))
  (d19:Gt K "_law_shows" (top 25))
  (d20:Gt K "sum_of_products" (top 1))
  (d21:Gt K "shows" (top 3))
  (d22:Gt K "_law_same" (top 21))
  (d23:Gt K "_law_asked" (top 26))
  (d24:Gt K "law" (top 27))
  (z_abs:Nn K "abs")
  (z_all:Nn K "all")
  (z_bool:Nn K "bool")
  (z_isinstance:Nn K "isinstance")
  (z_len:Nn K "len")
  (z_list:Nn K "list")
  (z_max:Nn K "max")
  (z_min:Nn K "min")
  (z_range:Nn K "range")
  (z_repr:Nn K "repr")
  (z_sorted:Nn K "sorted")
  (z_sum:Nn K "sum")
  (z_tuple:Nn K "tuple")
  (z_zip:Nn K "zip")
  (r_Lshares:Rq q "_law_shares")
  (r_sum_of_products:Rq q "sum_of_products")
  (hnt:PySem.W.noTabs K=true):
  ∃(fd:FuncData)(tb:List Addr),(∀(s:Shared)(u:Value),BindsTo s fd ⟨[u],[]⟩ [("_law_script",u)])/\(∀P∈tb,∃c,ZB h c P/\h.get? P=some (PySem.W.tabObj #[]))/\PySem.W.noTabs K=true/\
   ∀base:Heap,K.In base->base.Ns mainGlobals mg->lX l.prog w K mg base CX0 8 fa fd ["_law_script"] (spD K tb 1 xQ):=by
 have N:=λ{n:Str}(h:Nn K n)=>PySem.W.mg_none_of X G.g h
 have M:=λ{n:Str}{v:Value}(e:PySem.W.nsIn K mainGlobals n=some (some v))=>PySem.W.mg_of X G.g e
 obtain⟨f0,c0,P0,_,G0⟩:=d0
 obtain⟨f1,c1,P1,_,G1⟩:=d1
 obtain⟨f2,c2,P2,_,G2⟩:=d2
 obtain⟨f3,c3,P3,_,G3⟩:=d3
 obtain⟨f4,c4,P4,_,G4⟩:=d4
 obtain⟨f5,c5,P5,_,G5⟩:=d5
 obtain⟨f6,c6,P6,_,G6⟩:=d6
 obtain⟨f7,c7,P7,_,G7⟩:=d7
 obtain⟨f8,c8,P8,_,G8⟩:=d8
 obtain⟨f9,c9,P9,_,G9⟩:=d9
 obtain⟨f10,c10,P10,_,G10⟩:=d10
 obtain⟨f11,c11,P11,_,G11⟩:=d11
 obtain⟨f12,c12,P12,_,G12⟩:=d12
 obtain⟨f13,c13,P13,_,G13⟩:=d13
 obtain⟨f14,c14,P14,_,G14⟩:=d14
 obtain⟨f15,c15,P15,_,G15⟩:=d15
 obtain⟨f16,c16,P16,_,G16⟩:=d16
 obtain⟨f17,c17,P17,_,G17⟩:=d17
 obtain⟨f18,c18,P18,_,G18⟩:=d18
 obtain⟨f19,c19,P19,_,G19⟩:=d19
 obtain⟨f20,c20,P20,_,G20⟩:=d20
 obtain⟨f21,c21,P21,_,G21⟩:=d21
 obtain⟨f22,c22,P22,_,G22⟩:=d22
 obtain⟨f23,c23,P23,_,G23⟩:=d23
 obtain⟨f24,c24,P24,_,G24⟩:=d24
 have T:∀base,BI ⟨l.prog,w,K,mg,base,[P11,P20]⟩:=λbase=>⟨N z_abs,N z_all,N z_bool,N z_isinstance,N z_len,N z_list,N z_max,N z_min,N z_range,N z_repr,N z_sorted,N z_sum,N z_tuple,N z_zip⟩
 have m_law:=M G24.m
 have e:=hfa.symm.trans m_law
 cases e
 obtain⟨kV,dc,pm,an,ct,rfl⟩:=G24.e
 refine⟨PySem.W.fnOf "law" "law" (iz (top 27)) (fu (top 27)) (bV (top 27)) .none kV dc pm an (.ref c24) ct,[P11,P20],λs u=>.of_eq rfl,λP hP=>?_,hnt,λbase kb nb=>?_⟩
 .have hP:P=P11∨P=P20:=by simpa using hP
  rcases hP with rfl|rfl
  .exact⟨c11,Cu G X r_Lshares G11.t⟩
  .exact⟨c20,Cu G X r_sum_of_products G20.t⟩
 .have T:=T base
  have U {φ nm n k} (h:FJ ⟨l.prog,w,K,mg,base,[P11,P20]⟩ nm n k φ):=h
  have fO:=U (φ:=aQ) (Bc T ⟨G0.F,kb,M G0.m⟩).trunc
  have lu:=U (φ:=fY) (zP T ⟨G1.F,kb,M G1.m⟩ fO)
  have dR:=U (φ:=aH) (El T ⟨G2.F,kb,M G2.m⟩).trunc
  have fP:=U (φ:=gR) (Aa T ⟨G3.F,kb,M G3.m⟩).trunc
  have mQ:=U (φ:=cT) (Il T ⟨G4.F,kb,M G4.m⟩).trunc
  have dq:=U (φ:=aK) (xj T ⟨G5.F,kb,M G5.m⟩ mQ).trunc
  have il:=U (φ:=bB) (zB T ⟨G6.F,kb,M G6.m⟩ fO fP dq).trunc
  have iM:=U (φ:=fZ) (zH T ⟨G7.F,kb,M G7.m⟩ dR il fO dq).trunc
  have gP:=U (φ:=eO) (wA T ⟨G8.F,kb,M G8.m⟩ dR dq).trunc
  have lD:=U (φ:=iR) (Du T ⟨G9.F,kb,M G9.m⟩ dR dq).trunc
  have iI:=U (φ:=eU) (xu T ⟨G10.F,kb,M G10.m⟩ dR gP lD il).trunc
  have rP:=U (φ:=dX) (xW T ⟨G11.F,kb,M G11.m⟩ dR fO (by simp)).trunc
  have Ci:=U (φ:=jg) (Hd T ⟨G12.F,kb,M G12.m⟩ mQ dq).trunc
  have kY:=U (φ:=fX) (Aq T ⟨G13.F,kb,M G13.m⟩ dq).trunc
  have fB:=U (φ:=gZ) (Ds T ⟨G14.F,kb,M G14.m⟩ dR il rP Ci kY).trunc
  have iD:=U (φ:=ir) (Ej T ⟨G15.F,kb,M G15.m⟩ dR iM iI fB).trunc
  have mO:=U (φ:=ji) (Ip T ⟨G16.F,kb,M G16.m⟩ dR fO).trunc
  have nW:=U (φ:=gW) (Fy T ⟨G17.F,kb,M G17.m⟩).trunc
  have fJ:=U (φ:=gM) (zK T ⟨G18.F,kb,M G18.m⟩).trunc
  have jq:=U (φ:=eZ) (Av T ⟨G19.F,kb,M G19.m⟩ nW fJ).trunc
  have bC:=U (φ:=bG) (mU T ⟨G20.F,kb,M G20.m⟩ (by simp)).trunc
  have lU:=U (φ:=eQ) (Cm T ⟨G21.F,kb,M G21.m⟩ bC).trunc
  have r0_Lsame:=(U (φ:=λ_ _=>none) (Iw (ps:=["_law_one","_law_other"]) G22.F (M G22.m) rfl (λ_ _ _ _ _ _=>us2 λ_ _=>rfl))).more (Nat.zero_le 0)
  have r1_Lsame:=(jA T ⟨G22.F,kb,M G22.m⟩ (by decide) r0_Lsame).trunc
  have r2_Lsame:=(jA T ⟨G22.F,kb,M G22.m⟩ (by decide) r1_Lsame).trunc
  have r3_Lsame:=(jA T ⟨G22.F,kb,M G22.m⟩ (by decide) r2_Lsame).trunc
  have r4_Lsame:=(jA T ⟨G22.F,kb,M G22.m⟩ (by decide) r3_Lsame).trunc
  have r5_Lsame:=(jA T ⟨G22.F,kb,M G22.m⟩ (by decide) r4_Lsame).trunc
  have r6_Lsame:=(jA T ⟨G22.F,kb,M G22.m⟩ (by decide) r5_Lsame).trunc
  have jf:=U (φ:=cB) r6_Lsame
  have vm:=U (φ:=gb) (Am T ⟨G23.F,kb,M G23.m⟩ jq lU jf).trunc
  exact KN T ⟨G24.F,kb,m_law⟩ lu dR iD mO vm
end Lk65
namespace LG
open PySem PySem.Spec PyProof.Rows L2 L3
theorem Ca(a b:Int):Int.gcd b (a.fmod b)=Int.gcd a b:=by
 have h:a.fmod b=a-b*a.fdiv b:=by have:=Int.mul_fdiv_add_fmod a b;omega
 rw[h,Int.gcd_comm]
 have:a-b*a.fdiv b=a+b*(- a.fdiv b):=by rw[Int.mul_neg];omega
 rw[this,Int.gcd_add_mul_left_left]
theorem Gi(a b:Int)(h:b≠0):(a.fmod b).natAbs<b.natAbs:=by
 rw[Int.fmod_eq_emod]
 have h1:=Int.emod_nonneg a h
 have h2:=Int.emod_lt a h
 by_cases hd:0<=b∨b ∣ a
 .rw[if_pos hd];omega
 .rw[if_neg hd]
  have h3:a % b≠0:=λz=>hd (.inr (Int.dvd_of_emod_eq_zero z))
  omega
abbrev eucC:TF:=toB (M2 (aq 1) (mC (.int 0)) oNe)
abbrev eucB:SF:=xF 0 1 (ao (aq 1) (ao (M2 (aq 0) (aq 1) bw) (aB)))
theorem ne_int(a b:Int)(μ:Mu):oNe (.int a) (.int b) μ=some (.bl (!(a==b)),μ):=by
 unfold oNe rsv
 simp[bL,dh,eqD]
theorem Ht(a b:Int)(μ:Mu):oEq (.int a) (.int b) μ=some (.bl (a==b),μ):=by
 unfold oEq rsv
 simp[bL,dh,eqD]
theorem euc:∀(n:Nat)(a b:Int)(μ:Mu),b.natAbs<=n->∃a',dJ eucC eucB (n+1) [some (.int a),some (.int b)] μ=some (.nx,[some (.int a'),some (.int 0)],μ)/\a'.natAbs=Int.gcd a b/\(0<=a->0<=b->0<=a')
 |n,a,b,μ,h=>by
  by_cases hb:b=0
  .subst hb
   refine⟨a,?_,by simp,λh _=>h⟩
   unfold dJ
   simp[toB,M2,aq,mC,ne_int]
  .cases n with
   |zero=>omega
   |succ n=>
    obtain⟨a',e,hg,hs⟩:=euc n b (a.fmod b) μ (by have:=Gi a b hb;omega)
    refine⟨a',?_,by rw[hg,Ca],λh0 h1=>hs h1 (Int.fmod_nonneg_of_pos a (by omega))⟩
    unfold dJ
    simp[toB,M2,aq,mC,ne_int,hb,xF,ao,aB,bw,e]
def vQ(φ:FF):Prop:=∀(a b:Int)(μ:Mu),φ [.int a,.int b] μ=some (.int (Int.gcd a b),μ)
theorem Ih:vQ (aL 2 mQ):=λa b μ=>by
 obtain⟨a',e,hg,hs⟩:=euc _ a b μ (Zg _)
 have ew:=tO e
 unfold aL mQ
 have hv:(if a'<0 then -a' else a')=(Int.gcd a b:Int):=by split<;>omega
 simp[aM,ew,bN,ao,aB,MC,aq,aW,lw,hv]
def bJ(g:Nat)(ns:List Int):Nat:=ns.foldl (λg n=>Int.gcd g n) g
theorem bx(items:List D)(μ:Mu):Src.ok ⟨items,none⟩ μ:=λn e=>by cases e
def DG(φ:FF):Prop:=∀(ns:List Int)(μ:Mu),φ [.lst (ns.map .int)] μ=some (.int (bJ 0 ns:Nat),μ)
theorem uZ{th:D->gq}{f:D->D}{μ:Mu}:∀(items:List D),(∀d∈items,th d μ=some (f d,μ))->Ak (items.map th) μ=some (items.map f,μ)
 | [],_=>rfl
 |d::r,h=>by
  have h1:=h d (by simp)
  have h2:=uZ r λx hx=>h x (by simp[hx])
  rw[Zj,Zj]
  unfold Ak
  simp[h1,h2]
theorem tZ{all:List D}{h:GF}{fe:EF}{δb:En}{f:D->D}{μ:Mu}:∀(items:List D),(∀d∈items,∃δ1,h d δb μ=some δ1/\fe δ1 μ=some (f d,μ))->lcL ⟨all,none⟩ h bK fe δb items μ=some (items.map f,μ)
 | [],_=>by unfold lcL;simp[bx]
 |d::r,hd=>by
  obtain⟨δ1,h1,h2⟩:=hd d (by simp)
  have h3:=tZ (all:=all) r λx hx=>hd x (by simp[hx])
  unfold lcL
  simp[bx,h1,bK,h2,h3]
def Sm(b:Nat)(n:Int):Prop:=n.natAbs<2 ^ b
theorem bits_le{b:Nat}{n:Int}(h:Sm b n):Builtin.Int.intBits n<=b+1:=by
 unfold Builtin.Int.intBits
 split
 .exact Nat.zero_le _
 .rename_i h'
  have hz:n≠0:=by simpa using h'
  have hn:n.natAbs≠0:=by omega
  have:=(Nat.log2_lt hn).mpr h
  omega
theorem Bx{b:Nat}{n:Int}(h:Sm b n):n.natAbs.log2<b+1:=by
 by_cases h0:n.natAbs=0
 .rw[h0];simp
 .have:=(Nat.log2_lt h0).mpr h
  omega
theorem Cv{a b:Nat}{x y:Int}(hx:Sm a x)(hy:Sm b y)(h:a+b+2<=134217728):lG x y<=134217728:=by
 have:=bits_le hx
 have:=bits_le hy
 unfold lG
 omega
theorem bh{a b:Nat}{x y:Int}(μ:Mu)(hx:Sm a x)(hy:Sm b y)(h:a+b+2<=134217728):bI (.int x) (.int y) μ=some (.int (x*y),μ):=by
 unfold bI
 simp[Cv hx hy h]
theorem jy{b:Nat}{x y:Int}(μ:Mu)(h0:y≠0)(hy:Sm b y)(h:b+1<=9000):dm (.int x) (.int y) μ=some (.int (x.fdiv y),μ):=by
 unfold dm
 have:=Bx hy
 simp[h0,show y.natAbs.log2<9000 by omega]
theorem dj{x y:Int}(μ:Mu)(h0:y≠0):bw (.int x) (.int y) μ=some (.int (x.fmod y),μ):=by
 unfold bw
 simp[h0]
theorem kE:∀(ns:List Int)(g:Nat),(∀n∈ns,((bJ g ns:Nat):Int) ∣ n)/\bJ g ns ∣ g
 | [],g=>⟨λn h=>by simp at h,Nat.dvd_refl _⟩
 |n::ns,g=>by
  obtain⟨h1,h2⟩:=kE ns (Int.gcd g n)
  have e:bJ g (n::ns)=bJ (Int.gcd g n) ns:=rfl
  rw[e]
  refine⟨λm hm=>?_,?_⟩
  .rcases Zi.mp hm with z|z
   .subst z
    exact Int.dvd_trans (Int.ofNat_dvd.mpr h2) (Int.gcd_dvd_right _ _)
   .exact h1 m z
  .refine Nat.dvd_trans h2 ?_
   have:=Int.gcd_dvd_left (g:Int) n
   exact Int.ofNat_dvd.mp this
theorem jz{ns:List Int}{g:Nat}(h:g≠0∨∃n∈ns,n≠0):bJ g ns≠0:=λz=>by
 obtain⟨h1,h2⟩:=kE ns g
 rw[z]at h1 h2
 rcases h with h|⟨n,hn,h⟩
 .exact h (Nat.eq_zero_of_zero_dvd h2)
 .have:=h1 n hn
  exact h (by simpa using this)
theorem HS{ns:List Int}{g:Nat}{n:Int}(hn:n∈ns)(h:n≠0):bJ g ns<=n.natAbs:=by
 have h1:=(kE ns g).1 n hn
 have h2:bJ g ns ∣ n.natAbs:=by
  have:=Int.natAbs_dvd_natAbs.mpr h1
  simpa using this
 exact Nat.le_of_dvd (by omega) h2
def Km(φ:FF):Prop:=∀(ns:List Int)(μ:Mu),bJ 0 ns≠0->Sm 8000 (bJ 0 ns:Nat)->ns.length<=100->φ [.lst (ns.map .int)] μ=some (.tup (ns.map λn=>.int (n.fdiv (bJ 0 ns:Nat))),μ)
theorem Qk{φ:FF}(hφ:DG φ):Km (aL 2 (qF φ)):=λns μ h0 hs hl=>by
 have e:Ak ((ns.map D.int).map (thG (aJ 0) (M2 (aq 0) (aq 1) dm) (dg ["number"] [some (.lst (ns.map .int)),some (.int (bJ 0 ns:Nat))] [1]))) μ=some ((ns.map D.int).map (λd=>match d with| .int n=>.int (n.fdiv (bJ 0 ns:Nat))|_=>.non),μ):=by
  refine uZ _ λd hd=>?_
  obtain⟨n,_,rfl⟩:=Zq.mp hd
  have:=jy (x:=n) μ (show((bJ 0 ns:Nat):Int)≠0 by omega) hs (by decide)
  simp[thG,aJ,dg,M2,aq,this]
 unfold aL qF
 have hz:ns.length<=sizeLine:=Zl hl (by decide)
 rw[List.map_map,List.map_map]at e
 simp[aM,aR,MC,ao,aB,aq,hφ ns μ,bN,Dn,pY,fV,nu,hz,e]
def sgn(b:Int):Int:=if b>0 then 1 else -1
theorem Lw{b:Nat}{n s:Int}(hs:s=1∨s= -1)(h:Sm b n):Sm b (s*n):=by
 unfold Sm at *
 rw[Int.natAbs_mul]
 rcases hs with rfl|rfl<;>simpa using h
theorem Lp(b:Int):sgn b=1∨sgn b= -1:=by unfold sgn;split<;>simp
theorem wO{φ:FF}(hφ:vQ φ)(x y:D)(all:List D):∀(ns:List Int)(c:Int)(o:Option D)(μ:Mu),∃(c':Int)(o':Option D),
  gn ⟨all,none⟩ (aJ 3) (aR 2 (MC (ao (aq 2) (ao (aq 3) (aB))) φ)) (ns.map D.int) [some x,some y,some (.int c),o] μ=some (.nx,[some x,some y,some (.int c'),o'],μ)/\c'.natAbs=bJ c.natAbs ns/\(0<=c∨ns≠[]->0<=c')
 | [],c,o,μ=>⟨c,o,by unfold gn;simp[bx],rfl,λh=>h.elim id λz=>absurd rfl z⟩
 |n::ns,c,o,μ=>by
  obtain⟨c',o',e,hc,hn0⟩:=wO hφ x y all ns (Int.gcd c n) (some (.int n)) μ
  refine⟨c',o',?_,?_,λ_=>hn0 (.inl (Int.natCast_nonneg _))⟩
  .rw[Zj]
   unfold gn
   simp[bx,aJ,aR,MC,ao,aB,aq,hφ c n,e]
  .rw[hc]
   show _=bJ (Int.gcd (c.natAbs:Nat) n) ns
   congr 1
def jE(φ:FF):Prop:=∀(ns:List Int)(b:Int)(μ:Mu),b≠0->Sm 4000 b->ns.length<=50->ns≠[]->
 φ [.lst (ns.map .int),.int b] μ=some (.tup ((ns++[b]).map λn=>.int (n.fdiv (sgn b*(bJ b.natAbs ns:Nat)))),μ)
theorem JG{φ:FF}(hφ:vQ φ):jE (aL 4 (dq φ)):=λns b μ hb hs hl hne=>by
 obtain⟨c',o',e,hc,hc0⟩:=wO hφ (.lst (ns.map .int)) (.int b) (ns.map .int) ns b none μ
 have hsg:=Lp b
 have hg0:bJ b.natAbs ns≠0:=jz (.inl (by omega))
 have hgle:bJ b.natAbs ns<=b.natAbs:=Nat.le_of_dvd (by omega) (kE ns b.natAbs).2
 have hdiv:∀δo,∃δ',sIf (toB (M2 (aq 1) (mC (.int 0)) oLt)) (aR 2 (M2 (mC (.int 0)) (MC (ao (aq 2) (aB)) (aW lw)) dF)) bZ [some (.lst (ns.map .int)),some (.int b),some (.int c'),δo] μ=some (.nx,δ',μ)/\(0<=c'->δ'=[some (.lst (ns.map .int)),some (.int b),some (.int (sgn b*(bJ b.natAbs ns:Nat))),δo]):=λδo=>by
  by_cases hn:b<0
  .refine⟨[some (.lst (ns.map .int)),some (.int b),some (.int (0-if c'<0 then -c' else c')),δo],by simp[sIf,toB,M2,aq,mC,oLt,hn,aR,MC,ao,aB,aW,lw,dF],λhc0=>?_⟩
   have h1:sgn b= -1:=by unfold sgn;rw[if_neg (by omega)]
   rw[h1,if_neg (by omega)]
   have:c'=(bJ b.natAbs ns:Nat):=by omega
   rw[this]
   simp
  .refine⟨[some (.lst (ns.map .int)),some (.int b),some (.int c'),δo],by simp[sIf,toB,M2,aq,mC,oLt,hn,bZ],λhc0=>?_⟩
   have h1:sgn b=1:=by unfold sgn;rw[if_pos (by omega)]
   have:c'=(bJ b.natAbs ns:Nat):=by omega
   rw[h1,this]
   simp
 obtain⟨δ',e3,e4⟩:=hdiv o'
 have e5:=e4 (hc0 (.inr hne))
 subst e5
 have hd0:sgn b*((bJ b.natAbs ns:Nat):Int)≠0:=by rcases hsg with h|h<;>rw[h]<;>omega
 have hds:Sm 4000 (sgn b*((bJ b.natAbs ns:Nat):Int)):=Lw hsg (by unfold Sm at *;simp only[Int.natAbs_natCast];omega)
 have eL:lcL ⟨ns.map D.int,none⟩ (aJ 0) bK (M2 (aq 0) (aq 1) dm) (dg ["_law_number"] [some (.lst (ns.map .int)),some (.int b),some (.int (sgn b*(bJ b.natAbs ns:Nat))),o'] [2]) (ns.map D.int) μ=some ((ns.map D.int).map (λd=>match d with| .int n=>.int (n.fdiv (sgn b*(bJ b.natAbs ns:Nat)))|_=>.non),μ):=by
  refine tZ _ λd hd=>?_
  obtain⟨n,_,rfl⟩:=Zq.mp hd
  have:=jy (x:=n) μ hd0 hds (by decide)
  exact⟨_,rfl,by simp[aJ,dg,M2,aq,this]⟩
 rw[List.map_map]at eL
 have eL2:lcL ⟨ns.map D.int,none⟩ (aJ 0) bK (M2 (aq 0) (aq 1) dm) (dg ["_law_number"] [some (.lst (ns.map .int)),some (.int b),some (.int (sgn b*(bJ b.natAbs ns:Nat))),o'] [2]) (ns.map D.int) μ=some (ns.map (λn=>D.int (n.fdiv (sgn b*(bJ b.natAbs ns:Nat)))),μ):=eL
 have eD:=jy (x:=b) μ hd0 hds (by decide)
 have hz:ns.length<=sizeLine:=Zl hl (by decide)
 have hz2:ns.length+1<=sizeLine:=Zl (by omega:ns.length+1<=100) (by decide)
 have h1s:1<=sizeLine:=by decide
 unfold aL dq
 simp[aM,aR,aq,fH,fV,nu,e,e3,bN,M2,MC,ao,aB,mFz,lLC,hz,eL2,gh,bF,eD,gY,h1s,bD,hz2]
theorem bu{a b:Nat}{x:Int}(h:Sm a x)(hab:a<=b):Sm b x:=Zc h (Nat.pow_le_pow_right (by decide) hab)
theorem gK{a b:Nat}{x y:Int}(hx:Sm a x)(hy:Sm b y):Sm (a+b) (x*y):=by
 unfold Sm at *
 rw[Int.natAbs_mul,Nat.pow_add]
 exact Nat.mul_lt_mul'' hx hy
theorem Dd{a:Nat}{x y:Int}(hx:Sm a x)(hy:Sm a y):Sm (a+1) (x+y):=by
 unfold Sm at *
 rw[Nat.pow_succ]
 have:=Int.natAbs_add_le x y
 omega
theorem Iv{a:Nat}{x y:Int}(hx:Sm a x)(h0:0<=x)(hy:0<y):Sm a (x.fdiv y)/\0<=x.fdiv y:=by
 rw[ZD x (by omega)]
 have h1:0<=x / y:=Int.ediv_nonneg h0 (by omega)
 have h2:x / y<=x:=Int.ediv_le_self y h0
 unfold Sm at *
 omega
def Dr(x:Int):Prop:=0<=x/\x<2147483648
theorem Dr.sm{x:Int}(h:Dr x):Sm 31 x:=by
 unfold Sm
 have:=h.1
 have:=h.2
 have e:(2:Nat) ^ 31=2147483648:=by decide
 omega
theorem iK:∀(L:List Int),cN (L.map D.int)=true
 | []=>by unfold cN;rfl
 |x::L=>by
  rw[Zj]
  unfold cN
  rw[iK L]
  simp[bL]
theorem jB:∀(L:List Int),fD (L.map D.int)=0
 | []=>by unfold fD;rfl
 |x::L=>by
  rw[Zj]
  unfold fD
  rw[jB L]
  simp[dh]
theorem lE{ds:List D}{i:Int}(h0:0<=i)(h1:i<ds.length):∃d,d∈ds/\atI ds i=some d:=by
 have hi:i.toNat<ds.length:=by omega
 refine⟨ds[i.toNat],List.getElem_mem hi,?_⟩
 unfold atI ixN
 rw[if_pos h0,if_pos h1]
 simp[hi]
theorem aN{x m:Int}(hm:0<m):0<=x.fmod m/\x.fmod m<m:=⟨Int.fmod_nonneg_of_pos x hm,Int.fmod_lt_of_pos x hm⟩
def ik(φ:FF):Prop:=∀(x k:Int)(μ:Mu),0<=k->k<1000->∃r,φ [.int x,.int k] μ=some (.int r,μ)/\Dr r
theorem Ml:ik (aL 3 fO):=λx k μ h0 h1=>by
 obtain⟨a0,a1⟩:=aN (x:=x) (m:=2147483647) (by decide)
 have w1:=dj (x:=x) (y:=2147483647) μ (by decide)
 have sa:Sm 31 (x.fmod 2147483647):=by unfold Sm;have e:(2:Nat) ^ 31=2147483648:=by decide
                                       omega
 have m1:=bh (x:=x.fmod 2147483647) (y:=48271) μ sa (show Sm 16 48271 by unfold Sm;decide) (by decide)
 have sk:Sm 10 k:=by unfold Sm;have e:(2:Nat) ^ 10=1024:=by decide
                     omega
 have m2:=bh (x:=7919) (y:=k) μ (show Sm 13 7919 by unfold Sm;decide) sk (by decide)
 have m3:=bh (x:=7919*k) (y:=k) μ (gK (show Sm 13 7919 by unfold Sm;decide) sk) sk (by decide)
 have w2:=dj (x:=x.fmod 2147483647*48271+7919*k*k+104729) (y:=2147483647) μ (by decide)
 obtain⟨b0,b1⟩:=aN (x:=x.fmod 2147483647*48271+7919*k*k+104729) (m:=2147483647) (by decide)
 generalize hn:(x.fmod 2147483647*48271+7919*k*k+104729).fmod 2147483647=n at *
 have sn:Sm 31 n:=by unfold Sm;have e:(2:Nat) ^ 31=2147483648:=by decide
                     omega
 have m4:=bh (x:=n) (y:=n) μ sn sn (by decide)
 have w3:=dj (x:=n*n) (y:=2147483629) μ (by decide)
 obtain⟨c0,c1⟩:=aN (x:=n*n) (m:=2147483629) (by decide)
 refine⟨(n*n).fmod 2147483629,?_,c0,by omega⟩
 unfold aL fO
 simp[aM,aR,M2,aq,mC,w1,m1,m2,m3,bD,w2,bN,m4,w3]
theorem ul{δ:En}{L:List Int}{y:Int}{fs:AF}(h1:δ[1]? =some (some (.cell 0)))(h2:fs δ [some (L.map .int)]=some ([.int y],[some (L.map .int)]))(hl:L.length<10000):
  dW (aq 1) fs δ [some (L.map .int)]=some (.non,[some ((L++[y]).map .int)]):=by
 have hz:L.length<sizeLine:=Zc hl (by decide)
 unfold dW
 simp[aq,h1,h2,dD,hz]
theorem NP{φ:FF}(hφ:ik φ)(s:D)(k c:Int)(hk:0<=k/\k<100)(all:List D):∀(js:List Int),(∀j∈js,0<=j/\j<12)->∀(L:List Int)(o:Option D),(∀x∈L,Dr x)->L.length+js.length<10000->∃(L':List Int)(o':Option D),
  gn ⟨all,none⟩ (aJ 4) (dH (dW (aq 1) (ao (MC (ao (MC (ao (aq 3) (ao (M2 (M2 (mC (.int 3)) (aq 4) bI) (mC (.int 1)) bD) (aB))) φ) (ao (M2 (M2 (aq 4) (aq 2) bD) (mC (.int 2)) bD) (aB))) φ) (aB)))) (js.map D.int)
   [some s,some (.cell 0),some (.int k),some (.int c),o] [some (L.map .int)]=some (.nx,[some s,some (.cell 0),some (.int k),some (.int c),o'],[some (L'.map .int)])/\(∀x∈L',Dr x)/\L'.length=L.length+js.length
 | [],_,L,o,hL,_=>⟨L,o,by unfold gn;simp[bx],hL,rfl⟩
 |j::js,hj,L,o,hL,hlen=>by
  have hj0:=hj j (by simp)
  obtain⟨r1,e1,d1⟩:=hφ c (3*j+1) [some (L.map .int)] (by omega) (by omega)
  obtain⟨r2,e2,d2⟩:=hφ r1 (j+k+2) [some (L.map .int)] (by omega) (by omega)
  have m1:=bh (x:=3) (y:=j) [some (L.map D.int)] (show Sm 2 3 by unfold Sm;decide) (show Sm 4 j by unfold Sm;omega) (by decide)
  obtain⟨L',o',e,hd,hl⟩:=NP hφ s k c hk all js (λx hx=>hj x (by simp[hx])) (L++[r2]) (some (.int j)) (λx hx=>by
   rcases Zm.mp hx with z|z
   .exact hL x z
   .simp at z;subst z;exact d2) (by simp at hlen ⊢;omega)
  refine⟨L',o',?_,hd,by rw[hl];simp;omega⟩
  rw[Zj]
  unfold gn
  have ea:=ul (δ:=[some s,some (.cell 0),some (.int k),some (.int c),some (.int j)]) (L:=L) (y:=r2) (fs:=ao (MC (ao (MC (ao (aq 3) (ao (M2 (M2 (mC (.int 3)) (aq 4) bI) (mC (.int 1)) bD) (aB))) φ) (ao (M2 (M2 (aq 4) (aq 2) bD) (mC (.int 2)) bD) (aB))) φ) (aB)) rfl
   (by simp[ao,aB,MC,M2,aq,mC,m1,bD,e1,e2]) (by simp at hlen;omega)
  simp only[List.map_append,Zj,List.map_nil]at ea e
  simp[bx,aJ,dH,ea,e]
abbrev drC:TF:=jV (toB (M2 (aq 3) (M2 (mC (.int 10)) (mC (.int 18)) qG) oGe)) (toB (M2 (MC (ao (aq 1) (aB)) (aW cF)) (mC (.int 900)) oLt))
abbrev drB:SF:=aM (dH (dW (aq 1) (ao (M2 (aq 3) (mC (.int 2147483629)) bw) (aB)))) (aR 3 (M2 (aq 3) (mC (.int 2147483629)) dm))
theorem wy(s k o:Option D):∀(n:Nat)(c:Int)(L:List Int),0<=c->(∀x∈L,Dr x)->900-L.length<=n->∃(c':Int)(L':List Int),
  dJ drC drB (n+1) [s,some (.cell 0),k,some (.int c),o] [some (L.map .int)]=some (.nx,[s,some (.cell 0),k,some (.int c'),o],[some (L'.map .int)])/\0<=c'/\(∀x∈L',Dr x)/\L'.length<=max L.length 900
 |n,c,L,hc,hL,hn=>by
  have ep:qG (.int 10) (.int 18) [some (L.map D.int)]=some (.int 1000000000000000000,[some (L.map .int)]):=rfl
  by_cases ht:(1000000000000000000:Int)<=c/\L.length<900
  .cases n with
   |zero=>omega
   |succ n=>
    obtain⟨m0,m1⟩:=aN (x:=c) (m:=2147483629) (by decide)
    have w1:=dj (x:=c) (y:=2147483629) [some (L.map D.int)] (by decide)
    have w2:=jy (x:=c) (y:=2147483629) [some ((L++[c.fmod 2147483629]).map D.int)] (by decide) (show Sm 31 2147483629 by unfold Sm;decide) (by decide)
    have q0:0<=c.fdiv 2147483629:=by rw[ZD c (by decide)];exact Int.ediv_nonneg hc (by decide)
    obtain⟨c',L',e,h1,h2,h3⟩:=wy s k o n (c.fdiv 2147483629) (L++[c.fmod 2147483629]) q0 (λx hx=>by
     rcases Zm.mp hx with z|z
     .exact hL x z
     .simp at z;subst z;exact⟨m0,by omega⟩) (by simp;omega)
    refine⟨c',L',?_,h1,h2,by simp at h3;omega⟩
    unfold dJ
    have ea:=ul (δ:=[s,some (.cell 0),k,some (.int c),o]) (L:=L) (y:=c.fmod 2147483629) (fs:=ao (M2 (aq 3) (mC (.int 2147483629)) bw) (aB)) rfl (by simp[ao,aB,M2,aq,mC,w1]) (by omega)
    simp only[List.map_append,Zj,List.map_nil]at ea e w2
    have hlen:((L.length:Nat):Int)<900:=by omega
    have ht1:=ht.1
    simp[jV,toB,M2,aq,mC,ep,oGe,ht1,MC,ao,aB,aW,cF,bF,oLt,hlen,aM,dH]at ea ⊢
    simp[ea,aR,M2,aq,mC,w2,e]
  .refine⟨c,L,?_,hc,hL,by omega⟩
   unfold dJ
   by_cases h1:(1000000000000000000:Int)<=c
   .have h2:¬((L.length:Nat):Int)<900:=by omega
    simp[jV,toB,M2,aq,mC,ep,oGe,h1,MC,ao,aB,aW,cF,bF,oLt,h2]
   .simp[jV,toB,M2,aq,mC,ep,oGe,h1]
theorem vW(n:Nat):cu 0 n=((List.range n).map λ(k:Nat)=>(k:Int)).map D.int:=by
 unfold cu
 rw[List.map_map]
 apply List.map_congr_left
 intro k _
 simp
abbrev tH(φ:FF):SF:=(aM (aR 3 (MC (ao (M2 (aq 0) (aq 2) oIx) (aB)) (aW lw))) (aM (sIf (toB (M2 (aq 3) (M2 (mC (.int 10)) (mC (.int 18)) qG) oLt)) (fH (bH (ao (mC (.int 12)) (aB))) (aJ 4) (dH (dW (aq 1) (ao (MC (ao (MC (ao (aq 3) (ao (M2 (M2 (mC (.int 3)) (aq 4) bI) (mC (.int 1)) bD) (aB))) φ) (ao (M2 (M2 (aq 4) (aq 2) bD) (mC (.int 2)) bD) (aB))) φ) (aB))))) (bZ)) (aM (lA drC drB) (sIf (toB (M2 (aq 3) (mC (.int 2147483629)) oGe)) (dH (dW (aq 1) (ao (M2 (aq 3) (mC (.int 2147483629)) bw) (aB)))) (bZ)))))
theorem Hy{φ:FF}(hφ:ik φ)(ns:List Int)(k:Nat)(hk:k<ns.length)(hk2:k<100)(L:List Int)(o3 o4:Option D)(hL:∀x∈L,Dr x)(hlen:L.length<9000):∃(L':List Int)(o3' o4':Option D),
  tH φ [some (.ro (ns.map .int)),some (.cell 0),some (.int k),o3,o4] [some (L.map .int)]=some (.nx,[some (.ro (ns.map .int)),some (.cell 0),some (.int k),o3',o4'],[some (L'.map .int)])/\(∀x∈L',Dr x)/\L'.length<=max (L.length+12) 900+1:=by
 have hat:atI (ns.map D.int) (k:Int)=some (.int ns[k]):=Gv (by simp[hk])
 generalize hc:(if ns[k]<0 then -ns[k]else ns[k])=c
 have hc0:0<=c:=by rw[<-hc];split<;>omega
 have ep:qG (.int 10) (.int 18) [some (L.map D.int)]=some (.int 1000000000000000000,[some (L.map .int)]):=rfl
 obtain⟨L1,o1,e1,h1,l1⟩:∃(L1:List Int)(o1:Option D),sIf (toB (M2 (aq 3) (M2 (mC (.int 10)) (mC (.int 18)) qG) oLt)) (fH (bH (ao (mC (.int 12)) (aB))) (aJ 4) (dH (dW (aq 1) (ao (MC (ao (MC (ao (aq 3) (ao (M2 (M2 (mC (.int 3)) (aq 4) bI) (mC (.int 1)) bD) (aB))) φ) (ao (M2 (M2 (aq 4) (aq 2) bD) (mC (.int 2)) bD) (aB))) φ) (aB))))) (bZ)
   [some (.ro (ns.map .int)),some (.cell 0),some (.int k),some (.int c),o4] [some (L.map .int)]=some (.nx,[some (.ro (ns.map .int)),some (.cell 0),some (.int k),some (.int c),o1],[some (L1.map .int)])/\(∀x∈L1,Dr x)/\L1.length<=L.length+12:=by
  by_cases hs:c<1000000000000000000
  .obtain⟨L1,o1,e,h,l⟩:=NP hφ (.ro (ns.map .int)) k c (by omega) (cu 0 12) ((List.range 12).map λ(k:Nat)=>(k:Int)) (λj hj=>by simp at hj;omega) L o4 hL (by simp;omega)
   refine⟨L1,o1,?_,h,by rw[l];simp⟩
   rw[<-vW]at e
   simp[sIf,toB,M2,aq,mC,ep,oLt,hs,fH,bH,ao,aB]
   exact e
  .exact⟨L,o4,by simp[sIf,toB,M2,aq,mC,ep,oLt,hs,bZ],hL,by omega⟩
 obtain⟨c',L2,e2,hc',h2,l2⟩:=wy (some (.ro (ns.map .int))) (some (.int k)) o1 _ c L1 hc0 h1 (Zg _)
 have ew:=tO e2
 have hab:lw (.int ns[k]) [some (L.map D.int)]=some (.int c,[some (L.map D.int)]):=by rw[<-hc];rfl
 by_cases hb:(2147483629:Int)<=c'
 .obtain⟨m0,m1⟩:=aN (x:=c') (m:=2147483629) (by decide)
  have w1:=dj (x:=c') (y:=2147483629) [some (L2.map D.int)] (by decide)
  have ea:=ul (δ:=[some (.ro (ns.map .int)),some (.cell 0),some (.int k),some (.int c'),o1]) (L:=L2) (y:=c'.fmod 2147483629) (fs:=ao (M2 (aq 3) (mC (.int 2147483629)) bw) (aB)) rfl (by simp[ao,aB,M2,aq,mC,w1]) (by omega)
  refine⟨L2++[c'.fmod 2147483629],some (.int c'),o1,?_,λx hx=>by
   rcases Zm.mp hx with z|z
   .exact h2 x z
   .simp at z;subst z;exact⟨m0,by omega⟩,by simp;omega⟩
  have e0:aR 3 (MC (ao (M2 (aq 0) (aq 2) oIx) (aB)) (aW lw)) [some (.ro (ns.map .int)),some (.cell 0),some (.int k),o3,o4] [some (L.map .int)]=some (.nx,[some (.ro (ns.map .int)),some (.cell 0),some (.int k),some (.int c),o4],[some (L.map .int)]):=by
   simp[aR,MC,ao,aB,M2,aq,oIx,bF,hat,aW,hab]
  have e3:sIf (toB (M2 (aq 3) (mC (.int 2147483629)) oGe)) (dH (dW (aq 1) (ao (M2 (aq 3) (mC (.int 2147483629)) bw) (aB)))) (bZ) [some (.ro (ns.map .int)),some (.cell 0),some (.int k),some (.int c'),o1] [some (L2.map .int)]=some (.nx,[some (.ro (ns.map .int)),some (.cell 0),some (.int k),some (.int c'),o1],[some ((L2++[c'.fmod 2147483629]).map .int)]):=by
   simp only[sIf,toB,M2,aq,mC,oGe,dH]at ea ⊢
   simp[hb]at ea ⊢
   simp[ea]
  unfold tH aM
  rw[e0]
  simp only[ZK]
  rw[e1]
  simp only[ZK]
  rw[ew]
  simp only[ZK]
  exact e3
 .refine⟨L2,some (.int c'),o1,?_,h2,by omega⟩
  have e0:aR 3 (MC (ao (M2 (aq 0) (aq 2) oIx) (aB)) (aW lw)) [some (.ro (ns.map .int)),some (.cell 0),some (.int k),o3,o4] [some (L.map .int)]=some (.nx,[some (.ro (ns.map .int)),some (.cell 0),some (.int k),some (.int c),o4],[some (L.map .int)]):=by
   simp[aR,MC,ao,aB,M2,aq,oIx,bF,hat,aW,hab]
  have e3:sIf (toB (M2 (aq 3) (mC (.int 2147483629)) oGe)) (dH (dW (aq 1) (ao (M2 (aq 3) (mC (.int 2147483629)) bw) (aB)))) (bZ) [some (.ro (ns.map .int)),some (.cell 0),some (.int k),some (.int c'),o1] [some (L2.map .int)]=some (.nx,[some (.ro (ns.map .int)),some (.cell 0),some (.int k),some (.int c'),o1],[some (L2.map .int)]):=by
   simp[sIf,toB,M2,aq,mC,oGe,hb,bZ]
  unfold tH aM
  rw[e0]
  simp only[ZK]
  rw[e1]
  simp only[ZK]
  rw[ew]
  simp only[ZK]
  exact e3
theorem yI{φ:FF}(hφ:ik φ)(ns:List Int)(all:List D):∀(ks:List Nat),(∀k∈ks,k<ns.length/\k<100)->∀(L:List Int)(o2 o3 o4:Option D),(∀x∈L,Dr x)->max L.length 900+13*ks.length<=5000->∃(L':List Int)(o2' o3' o4':Option D),
  gn ⟨all,none⟩ (aJ 2) (tH φ) ((ks.map λ(k:Nat)=>(k:Int)).map D.int) [some (.ro (ns.map .int)),some (.cell 0),o2,o3,o4] [some (L.map .int)]=some (.nx,[some (.ro (ns.map .int)),some (.cell 0),o2',o3',o4'],[some (L'.map .int)])/\(∀x∈L',Dr x)
 | [],_,L,o2,o3,o4,hL,_=>⟨L,o2,o3,o4,by simp only[List.map_nil];unfold gn;simp[bx],hL⟩
 |k::ks,hk,L,o2,o3,o4,hL,hlen=>by
  have hk0:=hk k (by simp)
  simp only[ZH]at hlen
  obtain⟨L1,a3,a4,e1,h1,l1⟩:=Hy hφ ns k hk0.1 hk0.2 L o3 o4 hL (by omega)
  obtain⟨L',b2,b3,b4,e,h⟩:=yI hφ ns all ks (λx hx=>hk x (by simp[hx])) L1 (some (.int k)) a3 a4 h1 (by omega)
  refine⟨L',b2,b3,b4,?_,h⟩
  rw[Zj,Zj]
  unfold gn
  simp only[aJ,List.set_cons_succ,List.set_cons_zero,ZK]
  rw[if_pos (bx _ _),e1]
  exact e
def uG(φ:FF):Prop:=∀(ns:List Int),ns.length<=63->∃L:List Int,φ [.ro (ns.map .int)] []=some (.cell 0,[some (L.map .int)])/\∀x∈L,Dr x
theorem BZ{φ:FF}(hφ:ik φ):uG (aL 5 (lu φ)):=λns hn=>by
 obtain⟨L,o2,o3,o4,e,h⟩:=yI hφ ns (cu 0 ns.length) (List.range ns.length) (λk hk=>by simp at hk;omega) [] none none none (λx hx=>by simp at hx) (by simp;omega)
 refine⟨L,?_,h⟩
 rw[<-vW]at e
 have hmin:(if(63:Int)<(ns.length:Int)then(63:Int)else(ns.length:Int))=(ns.length:Int):=by rw[if_neg (by omega)]
 have hr:(-(2 ^ 62)<=(ns.length:Int)/\(ns.length:Int)<2 ^ 62):=by omega
 have hz:0<=sizeLine:=Nat.zero_le _
 have eS:∀δ:En,δ[0]? =some (some (.ro (ns.map .int)))->∀μ,bH (ao (MC (ao (MC (ao (aq 0) (aB)) (aW cF)) (ao (mC (.int 63)) (aB))) (lz mz)) (aB)) δ μ=some (⟨cu 0 ns.length,none⟩,μ):=λδ h0 μ=>by
  simp only[bH,ao,MC,aq,h0,aB,aW,cF,bF,mC,lz,mz,ZK,Option.map_some,Zu]
  rw[hmin]
  rw[if_pos hr]
  simp
 have e0:aR 1 (iw (oO aB)) [some (.ro (ns.map .int)),none,none,none,none] []=some (.nx,[some (.ro (ns.map .int)),some (.cell 0),none,none,none],[some []]):=by
  simp[aR,iw,oO,aB]
 have e1:fH (bH (ao (MC (ao (MC (ao (aq 0) (aB)) (aW cF)) (ao (mC (.int 63)) (aB))) (lz mz)) (aB))) (aJ 2) (tH φ) [some (.ro (ns.map .int)),some (.cell 0),none,none,none] [some []]=some (.nx,[some (.ro (ns.map .int)),some (.cell 0),o2,o3,o4],[some (L.map .int)]):=by
  unfold fH
  rw[eS _ rfl]
  exact e
 show(aM (aR 1 (iw (oO aB))) (aM (fH (bH (ao (MC (ao (MC (ao (aq 0) (aB)) (aW cF)) (ao (mC (.int 63)) (aB))) (lz mz)) (aB))) (aJ 2) (tH φ)) (bN (aq 1))) [some (.ro (ns.map .int)),none,none,none,none] []).bind _=_
 unfold aM
 rw[e0]
 simp only[ZK]
 rw[e1]
 simp[bN,aq]
theorem iZ:∀(ns:List Int)(g d:Nat),d ∣ bJ g ns↔d ∣ g/\∀n∈ns,d ∣ n.natAbs
 | [],g,d=>by simp[bJ]
 |n::ns,g,d=>by
  have e:bJ g (n::ns)=bJ (Int.gcd g n) ns:=rfl
  rw[e,iZ ns (Int.gcd g n) d]
  have h:d ∣ Int.gcd g n↔d ∣ g/\d ∣ n.natAbs:=by
   show d ∣ Nat.gcd (Int.natAbs g) (Int.natAbs n)↔_
   rw[Nat.dvd_gcd_iff]
   simp
  rw[h]
  simp only[Zi,forall_eq_or_imp]
  constructor
  .rintro⟨⟨h1,h2⟩,h3⟩;exact⟨h1,h2,h3⟩
  .rintro⟨h1,h2,h3⟩;exact⟨⟨h1,h2⟩,h3⟩
theorem Gy{s b:Int}{ns:List Int}(hs:s=1∨s= -1):bJ 0 ((ns++[b]).map (s * ·))=bJ b.natAbs ns:=by
 have hab:∀n:Int,(s*n).natAbs=n.natAbs:=λn=>by rw[Int.natAbs_mul];rcases hs with h|h<;>rw[h]<;>simp
 apply Nat.dvd_antisymm
 .have h:=(iZ ((ns++[b]).map (s * ·)) 0 _).mp (Nat.dvd_refl _)
  refine(iZ ns b.natAbs _).mpr ⟨?_,λn hn=>?_⟩
  .have:=h.2 (s*b) (Zq.mpr ⟨b,by simp,rfl⟩)
   rwa[hab]at this
  .have:=h.2 (s*n) (Zq.mpr ⟨n,by simp[hn],rfl⟩)
   rwa[hab]at this
 .have h:=(iZ ns b.natAbs _).mp (Nat.dvd_refl _)
  refine(iZ _ 0 _).mpr ⟨Nat.dvd_zero _,λm hm=>?_⟩
  obtain⟨n,hn,rfl⟩:=Zq.mp hm
  rw[hab]
  rcases Zm.mp hn with z|z
  .exact h.2 n z
  .simp at z;subst z;exact h.1
theorem qz(f:Int):∀(ns:List Int)(g:Nat),bJ (f.natAbs*g) (ns.map (f * ·))=f.natAbs*bJ g ns
 | [],g=>rfl
 |n::ns,g=>by
  show bJ (Int.gcd ((f.natAbs*g:Nat):Int) (f*n)) (ns.map (f * ·))=f.natAbs*bJ (Int.gcd g n) ns
  have:Int.gcd ((f.natAbs*g:Nat):Int) (f*n)=f.natAbs*Int.gcd g n:=by
   show Nat.gcd (Int.natAbs ((f.natAbs*g:Nat):Int)) (Int.natAbs (f*n))=_
   rw[Int.natAbs_natCast,Int.natAbs_mul,Nat.gcd_mul_left]
   rfl
  rw[this,qz f ns]
end LG
namespace L3
open PySem PySem.Spec PyProof.Rows L2
class Post (α:Type) where
 run:α->Prop
@[simp] theorem qM{α:Type}{f:α->Prop}{r:α}:@Post.run α ⟨f⟩ r=f r:=rfl
def OkI{α:Type}(o:Option α)[Q:Post α]:Prop:=∃r,o=some r/\Q.run r
abbrev Ok{α:Type}(o:Option α)(Q:α->Prop):Prop:=@OkI α o ⟨Q⟩
section
variable {α β:Type} {Q:Post α}
@[simp] theorem pI{r:α}:OkI (some r) (Q:=Q)=Q.run r:=by
 apply propext
 exact⟨λ⟨q,e,h⟩=>by cases e;exact h,λh=>⟨r,rfl,h⟩⟩
@[simp] theorem Qq:OkI (none:Option α) (Q:=Q)=False:=by
 apply propext
 exact⟨λ⟨q,e,h⟩=>(by cases e),λh=>h.elim⟩
@[simp] theorem fj{o:Option β}{k:β->Option α}:OkI (o.bind k) (Q:=Q)=OkI o (Q:=⟨λr=>OkI (k r) (Q:=Q)⟩):=by
 apply propext
 constructor
 .rintro⟨q,e,h⟩
  obtain⟨r,e1,e2⟩:=Za.mp e
  exact⟨r,e1,q,e2,h⟩
 .rintro⟨r,e1,q,e2,h⟩
  exact⟨q,by rw[e1];exact e2,h⟩
@[simp] theorem QM{o:Option β}{k:β->α}:OkI (o.map k) (Q:=Q)=OkI o (Q:=⟨λr=>Q.run (k r)⟩):=by
 apply propext
 constructor
 .rintro⟨q,e,h⟩
  obtain⟨r,e1,e2⟩:=Zp.mp e
  exact⟨r,e1,by subst e2;exact h⟩
 .rintro⟨r,e1,h⟩
  exact⟨_,by rw[e1];rfl,h⟩
theorem OkI.mono{o:Option α}{Q':Post α}(h:OkI o (Q:=Q))(k:∀r,Q.run r->Q'.run r):OkI o (Q:=Q'):=let⟨r,e,q⟩:=h;⟨r,e,k r q⟩
end
class Two where
 t:Prop
 f:Prop
def rB(b:Bool)[T:Two]:Prop:=if b=true then T.t else T.f
@[simp] theorem MJ{P R:Prop}:rB true (T:=⟨P,R⟩)=P:=rfl
@[simp] theorem Kq{P R:Prop}:rB false (T:=⟨P,R⟩)=R:=rfl
def asB(r:D×Mu):Option (Bool×Mu):=match r.1 with
 | .bl k=>some (k,r.2)
 |_=>none
@[simp] theorem QW{k:Bool}{μ:Mu}:asB (.bl k,μ)=some (k,μ):=rfl
def Jh(r:List D×Mu):Option (Src×Mu):=match r.1 with
 | [.int j]=>if -(2 ^ 62)<=j/\j<2 ^ 62 then some (⟨cu 0 j.toNat,none⟩,r.2)else none
 |_=>none
def CK(r:List D×Mu):Option (List D×Mu):=match r.1 with
 | [.int j]=>if -(2 ^ 62)<=j/\j<2 ^ 62/\j.toNat<=sizeLine then some (cu 0 j.toNat,r.2)else none
 |_=>none
theorem nR{j:Int}{μ:Mu}(h0: -(2 ^ 62)<=j)(h1:j<2 ^ 62):Jh ([.int j],μ)=some (⟨cu 0 j.toNat,none⟩,μ):=if_pos ⟨h0,h1⟩
theorem Ol{j:Int}{μ:Mu}(h0: -(2 ^ 62)<=j)(h1:j.toNat<=sizeLine)(h2:j<2 ^ 62):CK ([.int j],μ)=some (cu 0 j.toNat,μ):=if_pos ⟨h0,h2,h1⟩
def Nk(r:List D×Mu):Option (Src×Mu):=match r.1 with
 | [x,y]=>(dC x).bind λxs=>(dC y).map λys=>(⟨je xs ys,none⟩,r.2)
 |_=>none
@[simp] theorem OD{x y:D}{μ:Mu}:Nk ([x,y],μ)=(dC x).bind λxs=>(dC y).map λys=>(⟨je xs ys,none⟩,μ):=rfl
@[simp] theorem Qp{ds:List D}:dC (.tup ds)=some ds:=rfl
@[simp] theorem Qz{ds:List D}:dC (.lst ds)=some ds:=rfl
def Oh(th:D->gq)(r:Src×Mu):Option (List gq×Mu):=match r.1.cel with
 |none=>some (r.1.items.map th,r.2)
 |some _=>none
@[simp] theorem My{th:D->gq}{items:List D}{μ:Mu}:Oh th (⟨items,none⟩,μ)=some (items.map th,μ):=rfl
def Kh(r:D×Mu):Option (List gq×Mu):=match r.1 with
 | .tup ds=>some (ds.map thE,r.2)
 | .lst ds=>some (ds.map thE,r.2)
 |_=>none
@[simp] theorem Ot{ds:List D}{μ:Mu}:Kh (.tup ds,μ)=some (ds.map thE,μ):=rfl
@[simp] theorem Qe{ds:List D}{μ:Mu}:Kh (.lst ds,μ)=some (ds.map thE,μ):=rfl
def Nb(r:D×Mu):Option (D×Mu):=match r.1 with
 | .cell n=>(r.2.getD n none).map λds=>(.lst ds,r.2.set n none)
 |d=>some (d,r.2)
@[simp] theorem Mw{n:Nat}{μ:Mu}:Nb (.cell n,μ)=(μ.getD n none).map λds=>(.lst ds,μ.set n none):=rfl
section
variable {Q:Post (D×Mu)} {QT:Post (Bool×Mu)} {QS:Post (Fl×En×Mu)} {δ:En} {μ:Mu} {f fa fb fc:EF} {fs:AF} {t ta tc:TF} {g h:SF} {op op':O2}
@[simp] theorem uz{d:D}:aq 0 (some d::δ) μ=some (d,μ):=rfl
@[simp] theorem ue{i:Nat}{o:Option D}:aq (i+1) (o::δ) μ=aq i δ μ:=rfl
@[simp] theorem w_c{d:D}:mC d δ μ=some (d,μ):=rfl
@[simp] theorem w_m1{op:O1'}:M1 fa op δ μ=(fa δ μ).bind λr=>op r.1 r.2:=rfl
@[simp] theorem OJ:M2 fa fb op δ μ=(fa δ μ).bind λr=>(fb δ r.2).bind λq=>op r.1 q.1 q.2:=rfl
@[simp] theorem Eb:aB δ μ=some ([],μ):=rfl
@[simp] theorem xZ:ao f fs δ μ=(f δ μ).bind λr=>(fs δ r.2).bind λq=>some (r.1::q.1,q.2):=rfl
@[simp] theorem Oq{op:ON}:MC fs op δ μ=(fs δ μ).bind λr=>op r.1 r.2:=rfl
@[simp] theorem w_mk{fk:AF}{π:List Nat}{φ:FF}:MK fs fk π φ δ μ=(fs δ μ).bind λr=>(fk δ r.2).bind λq=>φ (r.1++π.map λi=>q.1.getD i .non) q.2:=rfl
@[simp] theorem Rh:qR f δ μ=(f δ μ).bind λr=>(ur r.1 r.2).map λk=>(k,r.2):=rfl
@[simp] theorem w_toB:toB f δ μ=(f δ μ).bind asB:=rfl
@[simp] theorem w_ch:OkI (MCh fa fb fc op op' δ μ) (Q:=Q)=OkI (fa δ μ) (Q:=⟨λr=>OkI (fb δ r.2) (Q:=⟨λq=>OkI ((op r.1 q.1 q.2).bind asB) (Q:=⟨λz=>rB z.1 (T:=⟨OkI ((fc δ z.2).bind λt=>op' q.1 t.1 t.2) (Q:=Q),Q.run (.bl false,z.2)⟩)⟩)⟩)⟩):=by
 unfold MCh;rw[fj];congr 2;funext r;rw[fj];congr 2;funext q;rw[fj,fj];congr 2;funext z;obtain⟨d,μ'⟩:=z
 cases d<;>simp[asB]
 rename_i b
 cases b<;>simp
@[simp] theorem w_and:OkI (jV ta tc δ μ) (Q:=QT)=OkI (ta δ μ) (Q:=⟨λr=>rB r.1 (T:=⟨OkI (tc δ r.2) (Q:=QT),QT.run (false,r.2)⟩)⟩):=by
 unfold jV;rw[fj];congr 2;funext r;unfold rB;split<;>simp[*]
@[simp] theorem w_or:OkI (vY ta tc δ μ) (Q:=QT)=OkI (ta δ μ) (Q:=⟨λr=>rB r.1 (T:=⟨QT.run (true,r.2),OkI (tc δ r.2) (Q:=QT)⟩)⟩):=by
 unfold vY;rw[fj];congr 2;funext r;unfold rB;split<;>simp[*]
@[simp] theorem w_not:pA ta δ μ=(ta δ μ).bind λr=>some (!r.1,r.2):=rfl
@[simp] theorem QK:OkI (qL fa fb δ μ) (Q:=Q)=OkI ((fa δ μ).bind asB) (Q:=⟨λk=>rB k.1 (T:=⟨OkI (fb δ k.2) (Q:=Q),Q.run (.bl false,k.2)⟩)⟩):=by
 unfold qL;rw[fj,fj];congr 2;funext r;obtain⟨d,μ'⟩:=r
 cases d<;>simp[asB]
 rename_i b
 cases b<;>simp
@[simp] theorem w_next:bZ δ μ=some (.nx,δ,μ):=rfl
@[simp] theorem w_ret:bN f δ μ=(f δ μ).bind λr=>some (.rt r.1,δ,r.2):=rfl
@[simp] theorem QL:dH f δ μ=(f δ μ).bind λr=>some (.nx,δ,r.2):=rfl
@[simp] theorem CN{i:Nat}:aR i f δ μ=(f δ μ).bind λr=>some (.nx,δ.set i (some r.1),r.2):=rfl
@[simp] theorem w_if:OkI (sIf t g h δ μ) (Q:=QS)=OkI (t δ μ) (Q:=⟨λr=>rB r.1 (T:=⟨OkI (g δ r.2) (Q:=QS),OkI (h δ r.2) (Q:=QS)⟩)⟩):=by
 unfold sIf;rw[fj];congr 2;funext r;unfold rB;split<;>simp[*]
def sV(h:SF)(QS:Post (Fl×En×Mu))(r:Fl×En×Mu):Prop:=match r.1 with
 | .nx=>OkI (h r.2.1 r.2.2) (Q:=QS)
 |_=>QS.run r
@[simp] theorem DW:OkI (aM g h δ μ) (Q:=QS)=OkI (g δ μ) (Q:=⟨sV h QS⟩):=by
 unfold aM
 rw[fj]
 congr 2
 funext r
 obtain⟨fl,δ',μ'⟩:=r
 cases fl<;>simp[sV]
@[simp] theorem tU{δ':En}{μ':Mu}:sV h QS (.nx,δ',μ')=OkI (h δ' μ') (Q:=QS):=rfl
@[simp] theorem Qh{d:D}{δ':En}{μ':Mu}:sV h QS (.rt d,δ',μ')=QS.run (.rt d,δ',μ'):=rfl
@[simp] theorem QG{δ':En}{μ':Mu}:sV h QS (.bk,δ',μ')=QS.run (.bk,δ',μ'):=rfl
@[simp] theorem Qn{δ':En}{μ':Mu}:sV h QS (.ct,δ',μ')=QS.run (.ct,δ',μ'):=rfl
@[simp] theorem w_asg{hh:GF}:zY f hh δ μ=(f δ μ).bind λr=>(hh r.1 δ r.2).bind λδ'=>some (.nx,δ',r.2):=rfl
@[simp] theorem w_par{i j:Nat}:xF i j fs δ μ=(fs δ μ).bind λr=>match r.1 with
 | [x,y]=>some (.nx,(δ.set i (some x)).set j (some y),r.2)
 |_=>none:=rfl
@[simp] theorem Ey{fi:IF}{hh:GF}:fH fi hh g δ μ=(fi δ μ).bind λr=>gn r.1 hh g r.1.items δ r.2:=rfl
@[simp] theorem w_fz{lf:LF}:mFz lf δ μ=(lf δ μ).bind λr=>some (.lst r.1,r.2):=rfl
@[simp] theorem Ox{lf:LF}:iw lf δ μ=(lf δ μ).bind λr=>some (.cell r.2.length,r.2++[some r.1]):=rfl
@[simp] theorem QQ:oO fs δ μ=(fs δ μ).bind λr=>if r.1.length<=sizeLine then some r else none:=rfl
@[simp] theorem Kp{i:Nat}{d:D}:aJ i d δ μ=some (δ.set i (some d)):=rfl
@[simp] theorem Ny{n:Nat}{hs:GsF}{ds:List D}:jb n hs (.tup ds) δ μ=if ds.length=n then hs ds δ μ else none:=rfl
@[simp] theorem Ka:jd [] δ μ=some δ:=rfl
@[simp] theorem Hf{hh:GF}{hs:GsF}{d:D}{ds:List D}:bO hh hs (d::ds) δ μ=(hh d δ μ).bind λδ1=>hs ds δ1 μ:=rfl
@[simp] theorem Cg:fV f δ μ=(f δ μ).bind λr=>(nu r.1 r.2).map λS=>(S,r.2):=rfl
@[simp] theorem yM{ds:List D}:nu (.tup ds) μ=some ⟨ds,none⟩:=rfl
@[simp] theorem QD{ds:List D}:nu (.lst ds) μ=some ⟨ds,none⟩:=rfl
@[simp] theorem Qj{fl fh:PF}:mSl f fl fh δ μ=(f δ μ).bind λr=>(fl δ r.2).bind λl=>(fh δ l.2).bind λu=>oSl r.1 l.1 u.1 u.2:=rfl
@[simp] theorem Oj{fl fh:PF}:lSl f fl fh δ μ=(f δ μ).bind λr=>(fl δ r.2).bind λl=>(fh δ l.2).bind λu=>match r.1 with
 | .lst ds=>some (L3.gF ds l.1 u.1,u.2)
 | .ro ds=>some (L3.gF ds l.1 u.1,u.2)
 |_=>none:=rfl
@[simp] theorem Mx{ds:List D}:qD (.lst ds) μ=some ds:=rfl
@[simp] theorem w_fno:fNo δ μ=some (none,μ):=rfl
@[simp] theorem w_fat:fAt f δ μ=(f δ μ).bind λr=>match r.1 with
 | .int i=>some (some i,r.2)
 |_=>none:=rfl
@[simp] theorem Iz{op:O1'}{x:D}:aW op [x] μ=op x μ:=rfl
@[simp] theorem w_two{x y:D}:lz op [x,y] μ=op x y μ:=rfl
variable {i j:Int} {ds es:List D} {k:Bool}
@[simp] theorem PK:bD (.int i) (.int j) μ=some (.int (i+j),μ):=rfl
@[simp] theorem Rb:bD (.tup ds) (.tup es) μ=if ds.length+es.length<=sizeLine then some (.tup (ds++es),μ)else none:=rfl
@[simp] theorem Ra:bD (.lst ds) (.lst es) μ=if ds.length+es.length<=sizeLine then some (.lst (ds++es),μ)else none:=rfl
@[simp] theorem a_sub:dF (.int i) (.int j) μ=some (.int (i-j),μ):=rfl
theorem Pk(h:lG i j<=134217728):bI (.int i) (.int j) μ=some (.int (i*j),μ):=if_pos h
@[simp] theorem a_mod(h:j≠0):bw (.int i) (.int j) μ=some (.int (i.fmod j),μ):=if_pos h
theorem iW(h:j≠0)(h2:j.natAbs.log2<9000):dm (.int i) (.int j) μ=some (.int (i.fdiv j),μ):=if_pos ⟨h,h2⟩
@[simp] theorem a_lt:oLt (.int i) (.int j) μ=some (.bl (decide (i<j)),μ):=rfl
@[simp] theorem a_le:oLe (.int i) (.int j) μ=some (.bl (decide (i<=j)),μ):=rfl
@[simp] theorem a_gt:oGt (.int i) (.int j) μ=some (.bl (decide (j<i)),μ):=rfl
@[simp] theorem a_ge:oGe (.int i) (.int j) μ=some (.bl (decide (j<=i)),μ):=rfl
@[simp] theorem a_neg:cU (.int i) μ=some (.int (-i),μ):=rfl
@[simp] theorem a_abs:lw (.int i) μ=some (.int (i.natAbs),μ):=by
 show some (D.int (if i<0 then -i else i),μ)=_
 congr 3
 split<;>omega
@[simp] theorem Jc:mz (.int i) (.int j) μ=some (.int (min i j),μ):=by
 show some (D.int (if j<i then j else i),μ)=_
 congr 3
 split<;>omega
@[simp] theorem a_eq:oEq (.int i) (.int j) μ=some (.bl (i==j),μ):=by unfold oEq rsv;simp[bL,dh,eqD]
@[simp] theorem a_ne:oNe (.int i) (.int j) μ=some (.bl (!(i==j)),μ):=by unfold oNe rsv;simp[bL,dh,eqD]
@[simp] theorem a_neE:uK (.lst ds) (.lst []) μ=some (.bl (!ds.isEmpty),μ):=rfl
@[simp] theorem a_eqB{k l:Bool}:oEq (.bl k) (.bl l) μ=some (.bl (k==l),μ):=by unfold oEq rsv;simp[bL,dh,eqD]
@[simp] theorem a_neB{k l:Bool}:oNe (.bl k) (.bl l) μ=some (.bl (!(k==l)),μ):=by unfold oNe rsv;simp[bL,dh,eqD]
@[simp] theorem a_tup:gY ds μ=if ds.length<=sizeLine then some (.tup ds,μ)else none:=rfl
@[simp] theorem a_lst:gf ds μ=if ds.length<=sizeLine then some (.lst ds,μ)else none:=rfl
@[simp] theorem qH{d:D}:oIx d (.int i) μ=(bF d μ).bind λds=>(atI ds i).map λd=>(d,μ):=rfl
@[simp] theorem i_tup:bF (.tup ds) μ=some ds:=rfl
@[simp] theorem i_lst:bF (.lst ds) μ=some ds:=rfl
@[simp] theorem i_ro:bF (.ro ds) μ=some ds:=rfl
@[simp] theorem Rg:cF (.tup ds) μ=some (.int ds.length,μ):=rfl
@[simp] theorem jN:cF (.lst ds) μ=some (.int ds.length,μ):=rfl
@[simp] theorem QJ:cF (.ro ds) μ=some (.int ds.length,μ):=rfl
@[simp] theorem Qt{d:D}:gh [d] μ=(bF d μ).map λds=>(.tup ds,μ):=rfl
@[simp] theorem w_lOf:lOf fs δ μ=(fs δ μ).bind λr=>match r.1 with
 | [x]=>(bF x r.2).map λds=>(ds,r.2)
 |_=>none:=rfl
@[simp] theorem Ng{own:List Str}{capI:List Nat}{f fe:EF}:rn own capI f fe δ μ=(f δ μ).bind λr=>(qD r.1 r.2).bind λds=>if ds.length<64 then(mV (ds.map (thG (aJ 0) fe (dg own δ capI))) r.2).map λq=>(lR q.1 ds,q.2)else none:=rfl
@[simp] theorem Ql:uO fs δ μ=(fs δ μ).bind λr=>match r.1 with
 | [x]=>(qD x r.2).bind λds=>(sI ds).map λes=>(es,r.2)
 |_=>none:=rfl
@[simp] theorem t_bl:ur (.bl k) μ=some k:=rfl
@[simp] theorem t_int:ur (.int i) μ=some (i != 0):=rfl
@[simp] theorem t_tup:ur (.tup ds) μ=some !ds.isEmpty:=rfl
@[simp] theorem t_lst:ur (.lst ds) μ=some !ds.isEmpty:=rfl
@[simp] theorem t_non:ur .non μ=some false:=rfl
@[simp] theorem QH{T:String}:kI T (.int i) μ=some (.bl (T=="int"),μ):=rfl
@[simp] theorem Ri{T:String}:kI T (.bl k) μ=some (.bl (T=="bool"||T=="int"),μ):=rfl
@[simp] theorem Qo{T:String}:kI T (.tup ds) μ=some (.bl (T=="tuple"),μ):=rfl
@[simp] theorem Qw{T:String}:kI T (.lst ds) μ=some (.bl (T=="list"),μ):=rfl
@[simp] theorem QC{T:String}{x:Str}:kI T (.str x) μ=some (.bl (T=="str"),μ):=rfl
@[simp] theorem Qy{T:String}:kI T .non μ=some (.bl false,μ):=rfl
@[simp] theorem Qs{T:String}{x}:kI T (.dic x) μ=some (.bl (T=="dict"),μ):=rfl
@[simp] theorem Jo:bH fs δ μ=(fs δ μ).bind Jh:=rfl
@[simp] theorem QF:yU fs δ μ=(fs δ μ).bind CK:=rfl
@[simp] theorem w_zip:mq fs δ μ=(fs δ μ).bind Nk:=rfl
@[simp] theorem w_lc{own:List Str}{capI:List Nat}{fi:IF}{hh:GF}:lLC own capI fi hh t f δ μ=(fi δ μ).bind λr=>if r.1.items.length<=sizeLine then lcL r.1 hh t f (dg own δ capI) r.1.items r.2 else none:=rfl
@[simp] theorem w_all{st:StF}:GZ st δ μ=(st δ μ).bind λr=>(Dq r.1 r.2).bind λq=>some (.bl q.1,q.2):=rfl
@[simp] theorem QZ{st:StF}:Dn st δ μ=(st δ μ).bind λr=>if r.1.length<=sizeLine then(Ak r.1 r.2).bind λq=>some (.tup q.1,q.2)else none:=rfl
@[simp] theorem w_sum{st:StF}:yp st δ μ=(st δ μ).bind λr=>(pG 0 r.1 r.2).bind λq=>some (.int q.1,q.2):=rfl
@[simp] theorem w_gen{own:List Str}{capI:List Nat}{fi:IF}{hh:GF}:pY own capI fi hh f δ μ=(fi δ μ).bind λr=>Oh (thG hh f (dg own δ capI)) r:=rfl
@[simp] theorem QR:qK f δ μ=(f δ μ).bind Kh:=rfl
@[simp] theorem w_rev:Fv f δ μ=(f δ μ).bind λr=>HJ r.1 r.2:=rfl
@[simp] theorem Rf:HJ (.tup ds) μ=some (.tup ds.reverse,μ):=rfl
@[simp] theorem QV:HJ (.lst ds) μ=some (.lst ds.reverse,μ):=rfl
@[simp] theorem w_put{fo fi:EF}:pF f fo fi δ μ=(f δ μ).bind λr=>(fo δ r.2).bind λo=>(fi δ o.2).bind λi=>(rC r.1 o.1 i.1 i.2).map λμ'=>(.nx,δ,μ'):=rfl
@[simp] theorem w_frz:nJ f δ μ=(f δ μ).bind Nb:=rfl
end
theorem tK{items:List D}{μ:Mu}:Src.ok ⟨items,none⟩ μ:=λn e=>by cases e
def vA(I:En->Mu->Prop)(QS:Post (Fl×En×Mu))(r:Fl×En×Mu):Prop:=match r.1 with
 | .nx=>I r.2.1 r.2.2
 | .ct=>I r.2.1 r.2.2
 | .bk=>QS.run (.nx,r.2)
 | .rt d=>QS.run (.rt d,r.2)
section
variable {I:En->Mu->Prop} {QS:Post (Fl×En×Mu)} {δ:En} {μ:Mu}
@[simp] theorem FZ:vA I QS (.nx,δ,μ)=I δ μ:=rfl
@[simp] theorem Qi:vA I QS (.ct,δ,μ)=I δ μ:=rfl
@[simp] theorem QB:vA I QS (.bk,δ,μ)=QS.run (.nx,δ,μ):=rfl
@[simp] theorem Qg{d:D}:vA I QS (.rt d,δ,μ)=QS.run (.rt d,δ,μ):=rfl
end
theorem fU{all:List D}{h:GF}{b:SF}{QS:Post (Fl×En×Mu)}(I:List D->En->Mu->Prop)
  (turn:∀d r δ μ,I (d::r) δ μ->OkI (h d δ μ) (Q:=⟨λδ1=>OkI (b δ1 μ) (Q:=⟨vA (I r) QS⟩)⟩)) (fin:∀δ μ,I [] δ μ->QS.run (.nx,δ,μ)):
  ∀(its:List D)(δ:En)(μ:Mu),I its δ μ->OkI (gn ⟨all,none⟩ h b its δ μ) (Q:=QS)
 | [],δ,μ,hI=>by unfold gn;rw[if_pos tK,pI];exact fin δ μ hI
 |d::r,δ,μ,hI=>by
  unfold gn
  rw[if_pos tK,fj]
  refine(turn d r δ μ hI).mono λδ1 h1=>?_
  rw[qM]at h1 ⊢
  rw[fj]
  refine h1.mono λq h2=>?_
  rw[qM]at h2 ⊢
  obtain⟨fl,δ',μ'⟩:=q
  cases fl with
  |nx=>exact fU (all:=all) I turn fin r δ' μ' h2
  |ct=>exact fU (all:=all) I turn fin r δ' μ' h2
  |bk=>exact⟨_,rfl,h2⟩
  |rt d=>exact⟨_,rfl,h2⟩
def retS(R:Post (D×Mu))(r:Fl×En×Mu):Prop:=match r.1 with
 | .rt d=>R.run (d,r.2.2)
 | .nx=>R.run (.non,r.2.2)
 |_=>False
@[simp] theorem QX{R:Post (D×Mu)}{d:D}{δ:En}{μ:Mu}:retS R (.rt d,δ,μ)=R.run (d,μ):=rfl
@[simp] theorem Rc{R:Post (D×Mu)}{δ:En}{μ:Mu}:retS R (.nx,δ,μ)=R.run (.non,μ):=rfl
theorem dI{m:Nat}{g:SF}{ds:List D}{μ:Mu}{R:Post (D×Mu)}(h:OkI (g (ds.map some++List.replicate (m-ds.length) none) μ) (Q:=⟨retS R⟩)):OkI (aL m g ds μ) (Q:=R):=by
 unfold aL
 rw[fj]
 refine h.mono λr hr=>?_
 obtain⟨fl,δ,μ'⟩:=r
 cases fl with
 |rt d=>exact⟨_,rfl,hr⟩
 |nx=>exact⟨_,rfl,hr⟩
 |bk=>exact hr.elim
 |ct=>exact hr.elim
end L3
namespace LG
open PySem PySem.Spec PyProof.Rows L2 L3
theorem mj{α:Type}{o:Option α}{x:α}(h:Ok o (λr=>r=x)):o=some x:=by
 obtain⟨r,e,h⟩:=h
 have h:r=x:=h
 rw[e,h]
theorem gA{m:Nat}{g:SF}{ds:List D}{μ:Mu}{d:D}(h:OkI (g (ds.map some++List.replicate (m-ds.length) none) μ) (Q:=⟨retS ⟨λr=>r=(d,μ)⟩⟩)):trunc (aL m g) ds μ=some (d,μ):=
 iV (mj (dI h))
@[simp] theorem sz{n:Nat}(h:n<=1000):(n<=sizeLine)=True:=eq_true (Zl h (by decide))
abbrev nc(d:D):Prop:=cLt 0 d=true
theorem pN:∀{ds:List D},jY 0 ds=true↔∀d∈ds,nc d
 | []=>by unfold jY;simp
 |d::ds=>by unfold jY;simp[pN (ds:=ds)]
theorem jU{ds:List D}:nc (.tup ds)↔∀d∈ds,nc d:=by
 have e:cLt 0 (.tup ds)=jY 0 ds:=by rw[cLt]
 unfold nc
 rw[e]
 exact pN
theorem wV{ds:List D}:nc (.lst ds)↔∀d∈ds,nc d:=by
 have e:cLt 0 (.lst ds)=jY 0 ds:=by rw[cLt]
 unfold nc
 rw[e]
 exact pN
theorem Ky{i:Int}:nc (.int i):=by unfold nc cLt;rfl
theorem iB{ns:List Int}:∀d∈ns.map D.int,nc d:=λd h=>by
 obtain⟨n,_,rfl⟩:=Zq.mp h
 exact Ky
def isInt:D->Bool
 | .int _=>true
 |_=>false
def jX:D->Int
 | .int i=>i
 |_=>0
@[simp] theorem MF{i:Int}:isInt (.int i)=true:=rfl
@[simp] theorem rN{i:Int}:jX (.int i)=i:=rfl
theorem uL{ds:List D}(h:ds≠[]):atI ds (-1)=some (ds.getLast h):=by
 have hl:0<ds.length:=List.length_pos_iff.mpr h
 unfold atI ixN
 rw[if_neg (by omega),if_pos (by omega)]
 have:((-1:Int)+ds.length).toNat=ds.length-1:=by omega
 simp only[ZK,this]
 rw[List.getLast_eq_getElem]
 simp[hl]
theorem jD{ns:List Int}(h:ns≠[]):atI (ns.map D.int) (-1)=some (.int (ns.getLastD 0)):=by
 rw[uL (by simpa using h)]
 simp[List.getLastD_eq_getLast?,List.getLast?_eq_some_getLast h]
theorem Gn{n d:Nat}{i:Int}(h:0<=i):HT.sIx n d (some i)=min i.toNat n:=if_neg (by omega)
theorem nA{ds:List D}{μ:Mu}(h:ds≠[]):oSl (.tup ds) none (some (-1)) μ=some (.tup ds.dropLast,μ):=by
 have hl:0<ds.length:=List.length_pos_iff.mpr h
 have e:HT.sIx ds.length ds.length (some (-1))=ds.length-1:=by show(if(-1:Int)<0 then((-1:Int)+ds.length).toNat else min (-1:Int).toNat ds.length)=_;rw[if_pos (by decide)];omega
 have e0:HT.sIx ds.length 0 none=0:=rfl
 unfold oSl L3.gF
 simp only[e,e0]
 simp[List.dropLast_eq_take]
theorem Ke{ds:List D}{i:Int}{μ:Mu}(h0:0<=i):oSl (.lst ds) none (some i) μ=some (.lst (ds.take i.toNat),μ):=by
 have h0':0<=i:=by omega
 have e:HT.sIx ds.length ds.length (some i)=min i.toNat ds.length:=by rw[Gn h0']
 have e0:HT.sIx ds.length 0 none=0:=rfl
 unfold oSl L3.gF
 simp only[e,e0]
 simp[List.take_eq_take_iff]
def muD(L:List Int):Mu:=[some (L.map .int)]
def DlD(L:List Int):Prop:=∀x∈L,Dr x
theorem jC{a:Nat}{x y:Int}(hx:Sm a x)(hy:0<y):Sm a (x.fdiv y):=by
 rw[ZD x (by omega)]
 unfold Sm at *
 have:=Int.natAbs_ediv_le_natAbs x y
 omega
theorem mulL{ds:List D}{k:Int}{μ:Mu}(h0:0<=k)(h1:k<=1000)(hl:ds.length*k.toNat<=1000):bI (.lst ds) (.int k) μ=some (.lst (List.replicate k.toNat ds).flatten,μ):=if_pos ⟨by omega,by omega,Zl hl (by decide)⟩
theorem cQ{a:Int}{n:Nat}:(cu a n).length=n:=by unfold cu;simp
theorem CP{φ:FF}(h:uG φ)(ns:List Int)(hn:ns.length<=63):∃L,φ [.ro (ns.map .int)] []=some (.cell 0,muD L)/\DlD L:=h ns hn
theorem Ho{φ:FF}{ns:List Int}(h:Ok (φ [.ro (ns.map .int)] []) (λr=>r.1= .bl true)):∃μ',φ [.ro (ns.map .int)] []=some (.bl true,μ'):=by
 obtain⟨⟨d,μ'⟩,e,h⟩:=h
 have h:d= .bl true:=h
 subst h
 exact⟨μ',e⟩
theorem Mh{φ:FF}(h:jE φ){b:Nat}(ns:List Int)(c:Int)(μ:Mu)(hc:0<c)(hs:Sm b c)(hb:b<=4000)(hn:∀n∈ns,Sm b n)(hl:ns.length<=50)(hne:ns≠[]):
  ∃ms,φ [.lst (ns.map .int),.int c] μ=some (.tup (ms.map .int),μ)/\ms.length=ns.length+1/\(∀m∈ms,Sm b m)/\ms=(ns++[c]).map λn=>n.fdiv (bJ c.natAbs ns:Nat):=by
 have e:=h ns c μ (by omega) (bu hs hb) hl hne
 have e1:sgn c=1:=if_pos hc
 rw[e1,Int.one_mul]at e
 have g0:bJ c.natAbs ns≠0:=jz (.inl (by omega))
 refine⟨(ns++[c]).map λn=>n.fdiv (bJ c.natAbs ns:Nat),by rw[e,List.map_map];rfl,by simp,λm hm=>?_,rfl⟩
 obtain⟨n,hn',rfl⟩:=Zq.mp hm
 refine jC ?_ (by omega)
 rcases Zm.mp hn' with z|z
 .exact hn n z
 .rw[ZI.mp z];exact hs
@[simp] theorem MT{α:Type}{l:List α}{x y:α}:(l++[x]).set l.length y=l++[y]:=by simp[List.set_append]
mutual
theorem qd{m:Nat}:∀{d:D},cLt 0 d=true->cLt m d=true
 | .non,_=>by simp[cLt]
 | .bl _,_=>by simp[cLt]
 | .int _,_=>by simp[cLt]
 | .str _,_=>by simp[cLt]
 | .tup ds,h=>by rw[cLt]at h ⊢;exact jt h
 | .lst ds,h=>by rw[cLt]at h ⊢;exact jt h
 | .ro ds,h=>by rw[cLt]at h ⊢;exact jt h
 | .dic ds,h=>by rw[cLt]at h ⊢;exact rQ h
 | .cell n,h=>by rw[cLt]at h;simp at h
theorem jt{m:Nat}:∀{ds:List D},jY 0 ds=true->jY m ds=true
 | [],_=>by rw[jY]
 |d::ds,h=>by
  rw[jY,Zo]at h ⊢
  exact⟨qd h.1,jt h.2⟩
theorem rQ{m:Nat}:∀{ds:List (Key×D)},uY 0 ds=true->uY m ds=true
 | [],_=>by rw[uY]
 |d::ds,h=>by
  rw[uY,Zo]at h ⊢
  exact⟨qd h.1,rQ h.2⟩
end
def eG(μ:Mu):Prop:=∀ds,some ds∈μ->∀d∈ds,nc d
theorem eG.c{μ:Mu}(h:eG μ)(m:Nat):cOk m μ=true:=by
 unfold cOk
 rw[List.all_eq_true]
 intro o ho
 cases o with
 |none=>rfl
 |some ds=>exact jt (pN.mpr (h ds ho))
theorem eG.nil:eG []:=λds h=>by simp at h
theorem eG.cons{ds:List D}{μ:Mu}(h1:∀d∈ds,nc d)(h2:eG μ):eG (some ds::μ):=λes h=>by
 rcases Zi.mp h with z|z
 .cases z;exact h1
 .exact h2 es z
theorem eG.dr{L:List Int}{μ:Mu}(h:eG μ):eG (some (L.map .int)::μ):=eG.cons iB h
theorem nG{φ:FF}{ds:List D}{μ μ' junk:Mu}{d:D}(h:φ ds μ=some (d,μ'++junk))(hl:μ'.length=μ.length)(hd:nc d)(hm:eG μ'):trunc φ ds μ=some (d,μ'):=by
 unfold trunc
 rw[h]
 simp only[ZK]
 have e:(μ'++junk).take μ.length=μ':=by rw[<-hl];simp
 rw[e,qd hd,hm.c]
 rfl
theorem zj{φ:FF}{ds:List D}{μ:Mu}{P:D->Prop}(hm:eG μ)(h:Ok (φ ds μ) (λr=>∃junk,r.2=μ++junk/\nc r.1/\P r.1)):∃d,trunc φ ds μ=some (d,μ)/\P d:=by
 obtain⟨⟨d,μ1⟩,e,junk,h1,h4,h5⟩:=h
 have h1:μ1=μ++junk:=h1
 subst h1
 exact⟨d,nG e rfl h4 hm,h5⟩
def cZ(φ:FF):Prop:=∀(L:List Int)(rest:Mu),φ [.cell 0] (some (L.map .int)::rest)=some (.int (L.headD 0),some (L.tail.map .int)::rest)
theorem Bh:cZ (trunc (aL 1 dR)):=λL rest=>by
 have h1:oEq (.cell 0) (.lst []) (some (L.map D.int)::rest)=some (.bl L.isEmpty,some (L.map D.int)::rest):=by
  unfold oEq rsv
  simp[bL,iK,dh,jB,eqD,cN]
  cases L<;>simp[gU]
 refine iJ ?_ (by simp)
 unfold aL dR
 have hz:0<=sizeLine:=Nat.zero_le _
 cases L with
 |nil=>
  simp at h1
  simp[aM,sIf,toB,M2,aq,MC,aB,gf,hz,h1,bN,mC]
 |cons x t=>
  simp at h1
  simp[aM,sIf,toB,M2,aq,MC,aB,gf,hz,h1,bN,mC,bZ,yK]
theorem bW{φ:FF}(h:cZ φ){L:List Int}(hL:DlD L)(rest:Mu):∃x L',φ [.cell 0] (some (L.map .int)::rest)=some (.int x,some (L'.map .int)::rest)/\Dr x/\DlD L':=by
 refine⟨L.headD 0,L.tail,h L rest,?_,λx hx=>hL x (List.mem_of_mem_tail hx)⟩
 cases L with
 |nil=>exact⟨by decide,by decide⟩
 |cons a b=>exact hL a (by simp)
def PtL(d:Nat)(ns:List Int)(b:Int):Prop:=ns.length=d/\(∀n∈ns,n.natAbs<=10000)/\1<=b/\b<=60
def lZ(d:Nat)(p:D):Prop:=∃ns b,p= .tup ((ns++[b]).map .int)/\PtL d ns b/\bJ b.natAbs ns=1
theorem lZ.nc{d:Nat}{p:D}(h:lZ d p):nc p:=by
 obtain⟨ns,b,rfl,_⟩:=h
 exact jU.mpr iB
theorem kZ{x y:Int}(hy:0<y):(x.fdiv y).natAbs<=x.natAbs:=by
 rw[ZD x (by omega)]
 exact Int.natAbs_ediv_le_natAbs x y
theorem Gz{ns:List Int}{b:Int}(hb:0<b):bJ (b.fdiv (bJ b.natAbs ns:Nat)).natAbs (ns.map λn=>n.fdiv (bJ b.natAbs ns:Nat))=1:=by
 have h:=(iZ ns b.natAbs _).mp (Nat.dvd_refl _)
 have g0:bJ b.natAbs ns≠0:=jz (.inl (by omega))
 obtain⟨g,hg⟩:∃g,bJ b.natAbs ns=g:=⟨_,rfl⟩
 rw[hg]at h g0 ⊢
 have hm:∀n:Int,g ∣ n.natAbs->(g:Int)*n.fdiv (g:Nat)=n:=λn hn=>by
  rw[ZD n (by omega)]
  exact Int.mul_ediv_cancel' (Int.ofNat_dvd_left.mpr hn)
 have hs:=qz (g:Int) (ns.map λn=>n.fdiv (g:Nat)) (b.fdiv (g:Nat)).natAbs
 have e1:((g:Int)).natAbs*(b.fdiv (g:Nat)).natAbs=b.natAbs:=by rw[<-Int.natAbs_mul,hm b h.1]
 have e2:(ns.map λn=>n.fdiv (g:Nat)).map ((g:Int) * ·)=ns:=by
  rw[List.map_map]
  conv=>rhs;rw[<-List.map_id ns]
  apply List.map_congr_left
  intro n hn
  exact hm n (h.2 n hn)
 rw[e1,e2,hg,Int.natAbs_natCast]at hs
 exact Nat.eq_of_mul_eq_mul_left (show 0<g by omega) (by rw[Nat.mul_one];exact hs.symm)
theorem pX{φ:FF}(h:jE φ){d:Nat}{ns:List Int}{b:Int}(μ:Mu)(hd:1<=d)(hd3:d<=3)(hp:PtL d ns b):∃p,φ [.lst (ns.map .int),.int b] μ=some (p,μ)/\lZ d p:=by
 obtain⟨hl,hn,b0,b1⟩:=hp
 have e:=h ns b μ (by omega) (by unfold Sm;have:(2:Nat) ^ 4000>=2 ^ 7:=Nat.pow_le_pow_right (by decide) (by decide);omega) (by omega) (λz=>by rw[z]at hl;simp at hl;omega)
 have e1:sgn b=1:=if_pos (by omega)
 rw[e1,Int.one_mul]at e
 have g0:bJ b.natAbs ns≠0:=jz (.inl (by omega))
 have gd:=(kE ns b.natAbs).2
 have gle:=Nat.le_of_dvd (by omega) gd
 refine⟨_,e,ns.map (λn=>n.fdiv (bJ b.natAbs ns:Nat)),b.fdiv (bJ b.natAbs ns:Nat),by simp[List.map_append],⟨by simp[hl],λm hm=>?_,?_,?_⟩,Gz (by omega)⟩
 .obtain⟨n,hn',rfl⟩:=Zq.mp hm
  have:=kZ (x:=n) (y:=(bJ b.natAbs ns:Nat)) (by omega)
  have:=hn n hn'
  omega
 .rw[ZD b (by omega)]
  exact(Int.le_ediv_iff_mul_le (by omega)).mpr (by omega)
 .have:=kZ (x:=b) (y:=(bJ b.natAbs ns:Nat)) (by omega)
  omega
def isPlace(φ:FF):Prop:=∀(x k b:Int)(μ:Mu),Dr x->0<=k->k<=4->0<=b->b<=500->∃t u:Int,φ [.int x,.int k,.int b] μ=some (.tup [.int t,.int u],μ)/\t.natAbs<=10000/\1<=u/\u<=60
theorem Ep:isPlace (trunc (aL 3 fP)):=λx k b μ hx k0 k4 b0 b5=>by
 have q1:=aN (x:=x) (m:=20001) (by decide)
 have q2:=aN (x:=x.fdiv 20001) (m:=60) (by decide)
 have q3:=aN (x:=x) (m:=5) (by decide)
 have q4:=aN (x:=x) (m:=11) (by decide)
 have q5:=aN (x:=x.fdiv 11) (m:=3) (by decide)
 have q6:=aN (x:=x) (m:=4) (by decide)
 have q7:=aN (x:=x) (m:=2) (by decide)
 have q8:=aN (x:=b) (m:=7) (by decide)
 have d1:=iW (i:=x) (j:=20001) (μ:=μ) (by decide) (by decide)
 have d2:=iW (i:=x) (j:=11) (μ:=μ) (by decide) (by decide)
 have hk:k=0∨k=1∨k=2∨k=3∨k=4:=by omega
 rcases hk with rfl|rfl|rfl|rfl|rfl
 .refine⟨x.fmod 20001-10000,1+(x.fdiv 20001).fmod 60,gA ?_,by omega,by omega,by omega⟩
  simp[fP,d1]
 .refine⟨x.fmod 5-2,1,gA ?_,by omega,by omega,by omega⟩
  simp[fP]
 .refine⟨x.fmod 11-5,1+(x.fdiv 11).fmod 3,gA ?_,by omega,by omega,by omega⟩
  simp[fP,d2]
 .obtain⟨y,hy,e⟩:=lE (ds:=[D.int 0,.int 0,.int 1,.int 40]) q6.1 q6.2
  have hy:∃z:Int,y= .int z/\0<=z/\z<=40:=by
   simp only[Zi,ZF,or_false]at hy
   rcases hy with rfl|rfl|rfl|rfl<;>exact⟨_,rfl,by decide,by decide⟩
  obtain⟨z,rfl,z0,z1⟩:=hy
  refine⟨b+z,1,gA ?_,by omega,by omega,by omega⟩
  simp[fP,e]
 .have s1:Sm 10 (x.fmod 2):=by
   unfold Sm
   have:(2:Nat) ^ 10=1024:=by decide
   omega
  have s2:Sm 10 (1+b.fmod 7):=by
   unfold Sm
   have:(2:Nat) ^ 10=1024:=by decide
   omega
  have m:=Pk (μ:=μ) (Cv s1 s2 (by decide))
  have hb:(x.fmod 2*(1+b.fmod 7)).natAbs<=10000:=by
   have h2:x.fmod 2=0∨x.fmod 2=1:=by omega
   rcases h2 with h2|h2<;>rw[h2]<;>omega
  refine⟨x.fmod 2*(1+b.fmod 7),1,gA ?_,hb,by omega,by omega⟩
  simp[fP,m]
theorem lB{a:Int}{n:Nat}{d:D}(h:d∈cu a n):∃k:Int,d= .int k/\a<=k/\k<a+n:=by
 unfold cu at h
 obtain⟨k,hk,rfl⟩:=Zq.mp h
 have:=List.mem_range.mp hk
 exact⟨_,rfl,by omega,by omega⟩
def lC(φ:FF):Prop:=∀(x d k b:Int)(μ:Mu),eG μ->Dr x->1<=d->d<=3->0<=k->k<=4->0<=b->b<=400->∃p,φ [.int x,.int d,.int k,.int b] μ=some (p,μ)/\lZ d.toNat p
theorem CZ{φ1 φ2 φ3:FF}(h1:ik φ1)(h2:isPlace φ2)(h3:jE φ3):lC (trunc (aL 9 (il φ1 φ2 φ3))):=λx d k b μ hm hx d1 d3 k0 k4 b0 b4=>by
 apply zj hm
 apply dI
 unfold il
 simp[nR (j:=d) (by omega) (by omega)]
 refine fU (λits δ μ'=>∃(acc:List Int)(bot:Int)(o6 o7 o8:Option D),μ'=μ++[some (acc.map .int)]/\acc.length+its.length=d.toNat/\(∀n∈acc,n.natAbs<=10000)/\(1<=bot/\bot<=60)/\(∀i∈its,∃k:Int,i= .int k/\0<=k/\k<3)/\
  δ=[some (.int x),some (.int d),some (.int k),some (.int b),some (.cell μ.length),some (.int bot),o6,o7,o8]) ?_ ?_ _ _ _ ⟨[],1,none,none,none,rfl,by simp[cQ],by simp,by omega,λi hi=>by
   obtain⟨k,rfl,h0,h1⟩:=lB hi
   exact⟨k,rfl,by omega,by omega⟩,rfl⟩
 .rintro i rest δ μ' ⟨acc,bot,o6,o7,o8,rfl,hl,ha,hb,hi,rfl⟩
  obtain⟨j,rfl,j0,j1⟩:=hi i (by simp)
  obtain⟨y,ey,hy⟩:=h1 x (j+1) (μ++[some (acc.map .int)]) (by omega) (by omega)
  obtain⟨t,u,et,ht,u0,u1⟩:=h2 y k (b+j) (μ++[some (acc.map .int)]) hy k0 k4 (by omega) (by omega)
  have hz:acc.length<sizeLine:=Zc (by omega:acc.length<1000) (by decide)
  have fin:∀bot',1<=bot'->bot'<=60->∃(acc':List Int)(bot:Int)(o6 o7 o8:Option D),μ++[some (acc.map D.int++[.int t])]=μ++[some (acc'.map .int)]/\acc'.length+rest.length=d.toNat/\(∀n∈acc',n.natAbs<=10000)/\(1<=bot/\bot<=60)/\(∀i∈rest,∃k:Int,i= .int k/\0<=k/\k<3)/\
    ([some (.int x),some (.int d),some (.int k),some (.int b),some (.cell μ.length),some (.int bot'),some (.int j),some (.int t),some (.int u)]:En)=[some (.int x),some (.int d),some (.int k),some (.int b),some (.cell μ.length),some (.int bot),o6,o7,o8]:=λbot' q1 q2=>
   ⟨acc++[t],bot',_,_,_,by simp,by simp at hl ⊢;omega,λn hn=>by
    rcases Zm.mp hn with z|z
    .exact ha n z
    .rw[ZI.mp z];exact ht,⟨q1,q2⟩,λi h=>hi i (by simp[h]),rfl⟩
  by_cases hj:j=0
  .subst hj
   rw[show(0:Int)+1=1 from rfl]at ey
   rw[show b+(0:Int)=b by omega]at et
   simp[ey,et,dW,dD,hz]
   simpa using fin u u0 u1
  .have hjb:(j==0)=false:=by simpa using hj
   simp[ey,et,hjb,dW,dD,hz]
   simpa using fin bot hb.1 hb.2
 .rintro δ μ' ⟨acc,bot,o6,o7,o8,rfl,hl,ha,hb,hi,rfl⟩
  obtain⟨p,ep,hp⟩:=pX h3 (d:=d.toNat) (ns:=acc) (b:=bot) (μ++[none]) (by omega) (by omega) ⟨by simpa using hl,ha,hb⟩
  simp[ep]
  exact⟨hp.nc,hp⟩
section
variable {α:Type} {r j:List α} {x y z:α}
@[simp] theorem Qm:(r++x::j)[r.length]? =some x:=by simp
@[simp] theorem Qu:(r++x::j).set r.length y=r++y::j:=by simp[List.set_append]
@[simp] theorem Qv:(r++x::(j++[y]))[r.length+(j.length+1)]? =some y:=by
 rw[List.getElem?_append_right (by omega)]
 have:r.length+(j.length+1)-r.length=j.length+1:=by omega
 rw[this]
 simp
@[simp] theorem Qx:(r++x::(j++[y])).set (r.length+(j.length+1)) z=r++x::(j++[z]):=by
 rw[List.set_append_right _ _ (by omega)]
 have:r.length+(j.length+1)-r.length=j.length+1:=by omega
 rw[this]
 simp
end
theorem jL{ys:List Int}{k:Int}(h0:0<=k)(h1:k<ys.length):atI (ys.map D.int) k=some (.int (ys.getD k.toNat 0))/\ys.getD k.toNat 0∈ys:=by
 have hk:k.toNat<ys.length:=by omega
 have e:ys.getD k.toNat 0=ys[k.toNat]:=by simp[List.getD,hk]
 refine⟨?_,by rw[e];exact List.getElem_mem hk⟩
 unfold atI ixN
 rw[if_pos h0,if_pos (by simpa using h1),e]
 simp[hk]
theorem ux{φ:FF}(h:cZ φ)(a c:Int)(ha:0<a)(all:List D)(rest:Mu):∀(its:List D)(L:List Int),DlD L->∃ys L':List Int,
  lcL ⟨all,none⟩ (aJ 0) bK (M2 (M2 (MC (ao (aq 1) aB) φ) (mC (.int a)) bw) (mC (.int c)) dF) [none,some (.cell 0)] its (some (L.map .int)::rest)=some (ys.map .int,some (L'.map .int)::rest)/\DlD L'/\ys.length=its.length/\∀y∈ys,-c<=y/\y<a-c
 | [],L,hL=>⟨[],L,by unfold lcL;simp[bx],hL,rfl,by simp⟩
 |d::its,L,hL=>by
  obtain⟨x,L1,e1,hx,hL1⟩:=bW h hL rest
  obtain⟨ys,L',e,hL',hl,hs⟩:=ux h a c ha all rest its L1 hL1
  obtain⟨q0,q1⟩:=aN (x:=x) (m:=a) ha
  have ha':a≠0:=by omega
  refine⟨(x.fmod a-c)::ys,L',?_,hL',by simp[hl],λn hn=>?_⟩
  .unfold lcL
   simp[bx,bK,e1,ha',e]
  .rcases Zi.mp hn with z|z
   .rw[z];omega
   .exact hs n z
def uD(φ:FF):Prop:=∀(L:List Int)(rest:Mu)(d many:Int),DlD L->eG rest->1<=d->d<=3->0<=many->many<=40->
 ∃ps L',φ [.cell 0,.int d,.int many] (some (L.map .int)::rest)=some (.lst ps,some (L'.map .int)::rest)/\DlD L'/\ps.length=many.toNat/\∀p∈ps,lZ d.toNat p
theorem yf{φ:FF}{as:List D}{μ:Mu}{P:List D->List Int->Prop}{rest:Mu}(hl:μ.length=rest.length+1)(hm:eG rest)(h:Ok (φ as μ) (λr=>∃ps L junk,r=(.lst ps,some (L.map .int)::(rest++junk))/\(∀p∈ps,nc p)/\P ps L)):
  ∃ps L',trunc φ as μ=some (.lst ps,some (L'.map .int)::rest)/\P ps L':=by
 obtain⟨r,e,ps,L,junk,h1,h2,h3⟩:=h
 have h1:r=(.lst ps,some (L.map .int)::(rest++junk)):=h1
 rw[h1]at e
 exact⟨ps,L,nG (junk:=junk) (by rw[e];rfl) (by simp[hl]) (wV.mpr h2) hm.dr,h3⟩
theorem xG{φ1 φ2:FF}(h1:cZ φ1)(h2:jE φ2):uD (trunc (aL 8 (gP φ1 φ2))):=λL rest d many hL hm d1 d3 m0 m40=>by
 apply yf (by simp) hm
 apply dI
 unfold gP
 obtain⟨ys,L1,e1,hL1,hl1,hs1⟩:=ux h1 41 20 (by decide) (cu 0 d.toNat) rest (cu 0 d.toNat) L hL
 obtain⟨zs,L2,e2,hL2,hl2,hs2⟩:=ux h1 7 3 (by decide) (cu 0 d.toNat) rest (cu 0 d.toNat) L1 hL1
 rw[cQ]at hl1 hl2
 have zd:d.toNat<=1000:=by omega
 simp[nR (j:=d) (by omega) (by omega),nR (j:=many) (by omega) (by omega),cQ,zd,dg,e1,e2]
 refine fU (λits δ μ'=>∃(L:List Int)(acc:List D)(o6 o7:Option D),μ'=some (L.map .int)::(rest++[some acc])/\DlD L/\(∀p∈acc,lZ d.toNat p)/\acc.length+its.length=many.toNat/\
  δ=[some (.cell 0),some (.int d),some (.int many),some (.lst (ys.map .int)),some (.lst (zs.map .int)),some (.cell (rest.length+1)),o6,o7]) ?_ ?_ _ _ _ ⟨L2,[],none,none,rfl,hL2,by simp,by simp[cQ],rfl⟩
 .rintro i its δ μ' ⟨L,acc,o6,o7,rfl,hL,ha,hl,rfl⟩
  obtain⟨x,L3,e3,hx,hL3⟩:=bW h1 hL (rest++[some acc])
  obtain⟨q0,q1⟩:=aN (x:=x) (m:=13) (by decide)
  generalize ht:x.fmod 13-6=t
  have ht1:t.natAbs<=6:=by omega
  have ec:=tZ (all:=cu 0 d.toNat) (h:=aJ 0) (fe:=M2 (M2 (aq 1) (aq 0) oIx) (M2 (aq 2) (M2 (aq 3) (aq 0) oIx) bI) bD) (δb:=[none,some (.lst (ys.map .int)),some (.int t),some (.lst (zs.map .int))])
   (f:=λi=>.int (ys.getD (jX i).toNat 0+t*zs.getD (jX i).toNat 0)) (μ:=some (L3.map .int)::(rest++[some acc])) (cu 0 d.toNat) λi hi=>by
    obtain⟨k,rfl,k0,k1⟩:=lB hi
    obtain⟨a1,_⟩:=jL (ys:=ys) (k:=k) (by omega) (by omega)
    obtain⟨a2,b2⟩:=jL (ys:=zs) (k:=k) (by omega) (by omega)
    have b3:=hs2 _ b2
    have mm:=bh (x:=t) (y:=zs.getD k.toNat 0) (some (L3.map .int)::(rest++[some acc])) (a:=3) (b:=3) (by unfold Sm;omega) (by unfold Sm;omega) (by decide)
    refine⟨_,rfl,?_⟩
    simp only[rN]
    generalize zs.getD k.toNat 0=c2 at *
    generalize ys.getD k.toNat 0=c1 at *
    simp[a1,a2,mm]
  have ep:(cu 0 d.toNat).map (λi=>D.int (ys.getD (jX i).toNat 0+t*zs.getD (jX i).toNat 0))=((cu 0 d.toNat).map (λi=>ys.getD (jX i).toNat 0+t*zs.getD (jX i).toNat 0)).map D.int:=by simp
  rw[ep]at ec
  obtain⟨p,e4,hp⟩:=pX h2 (d:=d.toNat) (ns:=(cu 0 d.toNat).map (λi=>ys.getD (jX i).toNat 0+t*zs.getD (jX i).toNat 0)) (b:=1) (some (L3.map .int)::(rest++[some acc])) (by omega) (by omega) ⟨by simp[cQ],λn hn=>by
   obtain⟨i,hi,rfl⟩:=Zq.mp hn
   obtain⟨k,rfl,k0,k1⟩:=lB hi
   obtain⟨_,b1⟩:=jL (ys:=ys) (k:=k) (by omega) (by omega)
   obtain⟨_,b2⟩:=jL (ys:=zs) (k:=k) (by omega) (by omega)
   have b3:=hs1 _ b1
   have b4:=hs2 _ b2
   simp only[rN]
   generalize zs.getD k.toNat 0=c2 at *
   generalize ys.getD k.toNat 0=c1 at *
   have h1:(t*c2).natAbs<=6*3:=by rw[Int.natAbs_mul];exact Nat.mul_le_mul ht1 (by omega)
   omega,by decide,by decide⟩
  have hz:acc.length<sizeLine:=Zc (by omega:acc.length<1000) (by decide)
  generalize ((cu 0 d.toNat).map (λi=>ys.getD (jX i).toNat 0+t*zs.getD (jX i).toNat 0))=ms at *
  simp[e3,ht,nR (j:=d) (by omega) (by omega),cQ,zd,dg,ec,e4,dW,dD,hz]
  refine⟨L3,acc++[p],by simp,hL3,λq hq=>?_,by simp at hl ⊢;omega⟩
  rcases Zm.mp hq with z|z
  .exact ha q z
  .rw[ZI.mp z];exact hp
 .rintro δ μ' ⟨L,acc,o6,o7,rfl,hL,ha,hl,rfl⟩
  simp
  exact⟨acc,L,⟨rfl,rfl⟩,λp hp=>(ha p hp).nc,hL,by simpa using hl,ha⟩
theorem Hj{φ1 φ2:FF}(h1:cZ φ1)(h2:jE φ2):uD (trunc (aL 9 (lD φ1 φ2))):=λL rest d many hL hm d1 d3 m0 m40=>by
 apply yf (by simp) hm
 apply dI
 unfold lD
 obtain⟨x1,L1,e1,hx1,hL1⟩:=bW h1 hL rest
 obtain⟨x2,L2,e2,hx2,hL2⟩:=bW h1 hL1 rest
 obtain⟨q0,q1⟩:=aN (x:=x1) (m:=5) (by decide)
 obtain⟨q2,q3⟩:=aN (x:=x2) (m:=5) (by decide)
 generalize hf:x1.fmod 5-2=f
 generalize hs:x2.fmod 5-2=s
 have f1:f.natAbs<=2:=by omega
 have s1:s.natAbs<=2:=by omega
 simp[e1,e2,hf,hs,nR (j:=many) (by omega) (by omega)]
 refine fU (λits δ μ'=>∃(L:List Int)(acc:List D)(junk:Mu)(o6 o7 o8:Option D),μ'=some (L.map .int)::(rest++some acc::junk)/\DlD L/\(∀p∈acc,lZ d.toNat p)/\acc.length+its.length=many.toNat/\
  δ=[some (.cell 0),some (.int d),some (.int many),some (.int f),some (.int s),some (.cell (rest.length+1)),o6,o7,o8]) ?_ ?_ _ _ _ ⟨L2,[],[],none,none,none,rfl,hL2,by simp,by simp[cQ],rfl⟩
 .rintro i its δ μ' ⟨L,acc,junk,o6,o7,o8,rfl,hL,ha,hl,rfl⟩
  obtain⟨x,M3,e3,hx,hM3⟩:=bW h1 hL (rest++some acc::junk)
  have b1:=aN (x:=x) (m:=9) (by decide)
  have b2:=aN (x:=x.fdiv 9) (m:=9) (by decide)
  have b3:=aN (x:=x.fdiv 81) (m:=9) (by decide)
  have v1:=iW (i:=x) (j:=9) (μ:=some (M3.map .int)::(rest++some acc::junk)) (by decide) (by decide)
  have v2:=iW (i:=x) (j:=81) (μ:=some (M3.map .int)::(rest++some acc::junk)) (by decide) (by decide)
  generalize ha1:x.fmod 9-4=a1
  generalize ha2:(x.fdiv 9).fmod 9-4=a2
  generalize ha3:(x.fdiv 81).fmod 9-4=a3
  have hz:acc.length<sizeLine:=Zc (by omega:acc.length<1000) (by decide)
  have fin:∀p,lZ d.toNat p->∀(j':Mu),∃(L:List Int)(acc':List D)(junk:Mu),some (M3.map D.int)::(rest++some (acc++[p])::j')=some (L.map .int)::(rest++some acc'::junk)/\DlD L/\(∀p∈acc',lZ d.toNat p)/\acc'.length+its.length=many.toNat:=λp hp j'=>by
   refine⟨M3,acc++[p],j',rfl,hM3,λq hq=>?_,by simp at hl ⊢;omega⟩
   rcases Zm.mp hq with z|z
   .exact ha q z
   .rw[ZI.mp z];exact hp
  have hdd:d=1∨d=2∨d=3:=by omega
  rcases hdd with rfl|rfl|rfl
  .obtain⟨p,e4,hp⟩:=pX h2 (d:=1) (ns:=[a1]) (b:=1) (some (M3.map .int)::(rest++some acc::(junk++[none]))) (by decide) (by decide) ⟨rfl,by simp;omega,by decide,by decide⟩
   simp at e4
   have ec:L3.gF [D.int a1,D.int a2,D.int a3] none (some 1)=[.int a1]:=rfl
   simp[e3,v1,v2,ha1,ha2,ha3,ec,e4,dW,dD,hz]
   simpa using fin p hp (junk++[none])
  .have m1:=bh (x:=f) (y:=a1) (some (M3.map .int)::(rest++some acc::(junk++[some [D.int a1,.int a2]]))) (a:=5) (b:=5) (by unfold Sm;omega) (by unfold Sm;omega) (by decide)
   have m2:=bh (x:=s) (y:=a1) (some (M3.map .int)::(rest++some acc::(junk++[some [D.int a1,.int a2]]))) (a:=5) (b:=5) (by unfold Sm;omega) (by unfold Sm;omega) (by decide)
   have bd:(f*a1+s*a1).natAbs<=10000:=by
    have c1:(f*a1).natAbs<=2*4:=by rw[Int.natAbs_mul];exact Nat.mul_le_mul f1 (by omega)
    have c2:(s*a1).natAbs<=2*4:=by rw[Int.natAbs_mul];exact Nat.mul_le_mul s1 (by omega)
    omega
   obtain⟨p,e4,hp⟩:=pX h2 (d:=2) (ns:=[a1,f*a1+s*a1]) (b:=1) (some (M3.map .int)::(rest++some acc::(junk++[none]))) (by decide) (by decide) ⟨rfl,λn hn=>by
    simp at hn
    rcases hn with rfl|rfl
    .omega
    .exact bd,by decide,by decide⟩
   simp at e4
   have ec:L3.gF [D.int a1,D.int a2,D.int a3] none (some 2)=[.int a1,.int a2]:=rfl
   have at0:atI [D.int a1,.int a2] 0=some (.int a1):=rfl
   simp[e3,v1,v2,ha1,ha2,ha3,ec,bF,at0,m1,m2,L3.rC,ixN,e4,dW,dD,hz]
   simpa using fin p hp (junk++[none])
  .have m1:=bh (x:=f) (y:=a1) (some (M3.map .int)::(rest++some acc::(junk++[some [D.int a1,.int a2,.int a3]]))) (a:=5) (b:=5) (by unfold Sm;omega) (by unfold Sm;omega) (by decide)
   have m2:=bh (x:=s) (y:=a2) (some (M3.map .int)::(rest++some acc::(junk++[some [D.int a1,.int a2,.int a3]]))) (a:=5) (b:=5) (by unfold Sm;omega) (by unfold Sm;omega) (by decide)
   have bd:(f*a1+s*a2).natAbs<=10000:=by
    have c1:(f*a1).natAbs<=2*4:=by rw[Int.natAbs_mul];exact Nat.mul_le_mul f1 (by omega)
    have c2:(s*a2).natAbs<=2*4:=by rw[Int.natAbs_mul];exact Nat.mul_le_mul s1 (by omega)
    omega
   obtain⟨p,e4,hp⟩:=pX h2 (d:=3) (ns:=[a1,a2,f*a1+s*a2]) (b:=1) (some (M3.map .int)::(rest++some acc::(junk++[none]))) (by decide) (by decide) ⟨rfl,λn hn=>by
    simp at hn
    rcases hn with rfl|rfl|rfl
    .omega
    .omega
    .exact bd,by decide,by decide⟩
   simp at e4
   have ec:L3.gF [D.int a1,D.int a2,D.int a3] none (some 3)=[.int a1,.int a2,.int a3]:=rfl
   have at0:atI [D.int a1,.int a2,.int a3] 0=some (.int a1):=rfl
   have at1:atI [D.int a1,.int a2,.int a3] 1=some (.int a2):=rfl
   simp[e3,v1,v2,ha1,ha2,ha3,ec,bF,at0,at1,m1,m2,L3.rC,ixN,e4,dW,dD,hz]
   simpa using fin p hp (junk++[none])
 .rintro δ μ' ⟨L,acc,junk,o6,o7,o8,rfl,hL,ha,hl,rfl⟩
  simp
  exact⟨acc,L,⟨rfl,rfl⟩,λp hp=>(ha p hp).nc,hL,by simpa using hl,ha⟩
theorem zm{d:Nat}:∀{ps:List D},(∀p∈ps,lZ d p)->cN ps=true/\fD ps<=1
 | [],_=>⟨by rw[cN],by rw[fD];decide⟩
 |p::ps,h=>by
  obtain⟨ns,b,rfl,_⟩:=h p (by simp)
  obtain⟨i1,i2⟩:=zm (ps:=ps) λq hq=>h q (by simp[hq])
  refine⟨?_,?_⟩
  .rw[cN,i1,bL,iK];rfl
  .rw[fD,dh,jB];omega
theorem DQ{n:Nat}{ps:List D}{μ:Mu}(h:μ[n]? =some (some ps))(h1:cN ps=true)(h2:fD ps<90):uK (.cell n) (.lst []) μ=some (.bl (!ps.isEmpty),μ):=by
 show oNe (.cell n) (.lst []) μ=_
 have e1:rsv (.cell n) μ= .lst ps:=by
  show(match μ[n]? with|some (some ds)=>D.lst ds|_=>D.cell n)=_
  rw[h]
 have e2:rsv (.lst []) μ= .lst []:=rfl
 unfold oNe
 rw[e1,e2]
 have e3:bL (.lst ps)=true:=by rw[bL];exact h1
 have e4:bL (.lst [])=true:=by rw[bL,cN]
 have e5:dh (.lst ps)<100:=by rw[dh];omega
 have e6:eqD (.lst ps) (.lst [])=ps.isEmpty:=by cases ps<;>rw[eqD]<;>simp[gU]
 rw[e3,e4,e6,if_pos ⟨rfl,e5⟩]
def rA(φ:FF):Prop:=∀(L:List Int)(rest:Mu)(d most:Int),DlD L->eG rest->1<=d->d<=3->0<=most->most<=40->
 ∃ps L',φ [.cell 0,.int d,.int most] (some (L.map .int)::rest)=some (.lst ps,some (L'.map .int)::rest)/\DlD L'/\ps.length<=most.toNat/\∀p∈ps,lZ d.toNat p
theorem Ad{φ1 φ2 φ3 φ4:FF}(h1:cZ φ1)(h2:uD φ2)(h3:uD φ3)(h4:lC φ4):rA (trunc (aL 9 (iI φ1 φ2 φ3 φ4))):=λL rest d most hL hm d1 d3 m0 m40=>by
 apply yf (by simp) hm
 apply dI
 unfold iI
 obtain⟨x,L1,e1,hx,hL1⟩:=bW h1 hL rest
 obtain⟨q0,q1⟩:=aN (x:=x.fdiv 9) (m:=most+1) (by omega)
 obtain⟨k0,k1⟩:=aN (x:=x) (m:=9) (by decide)
 have v1:=iW (i:=x) (j:=9) (μ:=some (L1.map .int)::rest) (by decide) (by decide)
 have w1:=dj (x:=x.fdiv 9) (y:=most+1) (some (L1.map .int)::rest) (by omega)
 generalize (x.fdiv 9).fmod (most+1)=many at *
 generalize hk:x.fmod 9=kind at *
 by_cases c5:kind=5
 .subst c5
  obtain⟨ps,L2,e2,hL2,hl2,hp2⟩:=h2 L1 rest d many hL1 hm d1 d3 q0 (by omega)
  simp[e1,v1,w1,hk,e2]
  exact⟨ps,L2,⟨rfl,rfl⟩,λp hp=>(hp2 p hp).nc,hL2,by omega,hp2⟩
 .have c5b:(kind==5)=false:=by simpa using c5
  by_cases c6:kind=6
  .subst c6
   obtain⟨ps,L2,e2,hL2,hl2,hp2⟩:=h3 L1 rest d many hL1 hm d1 d3 q0 (by omega)
   simp[e1,v1,w1,hk,e2]
   exact⟨ps,L2,⟨rfl,rfl⟩,λp hp=>(hp2 p hp).nc,hL2,by omega,hp2⟩
  .have c6b:(kind==6)=false:=by simpa using c6
   by_cases c7:kind=7
   .subst c7
    obtain⟨p,e2,hp⟩:=h4 x d 2 0 (some (L1.map .int)::rest) hm.dr hx d1 d3 (by decide) (by decide) (by decide) (by decide)
    have em:bI (.lst [p]) (.int many) (some (L1.map .int)::rest)=some (.lst (List.replicate many.toNat [p]).flatten,some (L1.map .int)::rest):=if_pos ⟨by omega,by omega,by
     simp only[ZH,List.length_nil]
     exact Zl (by omega:_<=1000) (by decide)⟩
    simp[e1,v1,w1,hk,e2,em]
    have hps:∀q∈List.replicate many.toNat p,lZ d.toNat q:=λq hq=>by rw[(List.mem_replicate.mp hq).2];exact hp
    exact⟨_,L1,⟨rfl,rfl⟩,λq hq=>(hps q hq).nc,hL1,by simp;omega,hps⟩
   .have c7b:(kind==7)=false:=by simpa using c7
    simp[e1,v1,w1,hk,c5b,c6b,c7b,nR (j:=many) (by omega) (by omega)]
    refine fU (λits δ μ'=>∃(L:List Int)(acc:List D)(o7 o8:Option D),μ'=some (L.map .int)::(rest++[some acc])/\DlD L/\(∀p∈acc,lZ d.toNat p)/\acc.length+its.length=many.toNat/\
     δ=[some (.cell 0),some (.int d),some (.int most),some (.int x),some (.int many),some (.int kind),some (.cell (rest.length+1)),o7,o8]) ?_ ?_ _ _ _ ⟨L1,[],none,none,rfl,hL1,by simp,by simp[cQ],rfl⟩
    .rintro i its δ μ' ⟨L,acc,o7,o8,rfl,hL,ha,hl,rfl⟩
     obtain⟨y,M3,e3,hy,hM3⟩:=bW h1 hL (rest++[some acc])
     have hz:acc.length<sizeLine:=Zc (by omega:acc.length<1000) (by decide)
     have fin:∀p,lZ d.toNat p->∃(L:List Int)(acc':List D),some (M3.map D.int)::(rest++[some (acc++[p])])=some (L.map .int)::(rest++[some acc'])/\DlD L/\(∀p∈acc',lZ d.toNat p)/\acc'.length+its.length=many.toNat:=λp hp=>by
      refine⟨M3,acc++[p],rfl,hM3,λq hq=>?_,by simp at hl ⊢;omega⟩
      rcases Zm.mp hq with z|z
      .exact ha q z
      .rw[ZI.mp z];exact hp
     obtain⟨pu,pd⟩:=zm ha
     have en:=DQ (n:=rest.length+1) (ps:=acc) (μ:=some (M3.map .int)::(rest++[some acc])) (by simp) pu (by omega)
     have t3:=aN (x:=y) (m:=3) (by decide)
     have t5:=aN (x:=y) (m:=5) (by decide)
     have dv3:=iW (i:=y) (j:=3) (μ:=some (M3.map .int)::(rest++[some acc])) (by decide) (by decide)
     have dv7:=iW (i:=y) (j:=7) (μ:=some (M3.map .int)::(rest++[some acc])) (by decide) (by decide)
     have mm:=bh (x:=y.fmod 5) (y:=30) (some (M3.map .int)::(rest++[some acc])) (a:=5) (b:=5) (by unfold Sm;omega) (by unfold Sm;decide) (by decide)
     have kk:0<=(kind.fmod 8).fmod 5/\(kind.fmod 8).fmod 5<=4:=by have:=aN (x:=kind.fmod 8) (m:=5) (by decide);omega
     obtain⟨p,e4,hp⟩:=h4 (y.fdiv 7) d ((kind.fmod 8).fmod 5) (y.fmod 5*30) (some (M3.map .int)::(rest++[some acc])) (eG.dr (λds hd=>by
       rcases Zm.mp hd with z|z
       .exact hm ds z
       .simp at z;subst z;exactλq hq=>(ha q hq).nc)) (by
        have:=hy.1
        have:=hy.2
        refine⟨?_,?_⟩
        .exact(Iv hy.sm hy.1 (by decide)).2
        .have:=kZ (x:=y) (y:=7) (by decide);omega) d1 d3 kk.1 kk.2 (by omega) (by omega)
     by_cases ctest:kind=8/\acc≠[]/\y.fmod 3=0
     .obtain⟨k8,hne,y3⟩:=ctest
      subst k8
      have hpos:0<acc.length:=List.length_pos_iff.mpr hne
      obtain⟨i0,i1⟩:=aN (x:=y.fdiv 3) (m:=acc.length) (by omega)
      obtain⟨q,hq,eq⟩:=lE i0 i1
      have wl:=dj (x:=y.fdiv 3) (y:=(acc.length:Int)) (some (M3.map .int)::(rest++[some acc])) (by omega)
      have hemp:acc.isEmpty=false:=by cases acc<;>simp_all
      have olen:cF (.cell (rest.length+1)) (some (M3.map .int)::(rest++[some acc]))=some (.int acc.length,some (M3.map .int)::(rest++[some acc])):=by simp[cF,bF]
      simp[e3,en,hemp,y3,dv3,olen,wl,bF,eq,dW,dD,hz]
      simpa using fin q (ha q hq)
     .simp[e3]
      by_cases k8:kind=8
      .subst k8
       rw[show((8:Int).fmod 8).fmod 5=0 from rfl]at e4
       simp[en]
       cases hac:acc.isEmpty with
       |true=>
        simp[dv7,mm,e4,dW,dD,hz]
        simpa using fin p hp
       |false=>
        have y3:¬y.fmod 3=0:=λz=>ctest ⟨rfl,(λz2=>by rw[z2]at hac;cases hac),z⟩
        have y3b:(y.fmod 3==0)=false:=by simpa using y3
        simp[y3b,dv7,mm,e4,dW,dD,hz]
        simpa using fin p hp
      .have k8b:(kind==8)=false:=by simpa using k8
       simp[k8b,dv7,mm,e4,dW,dD,hz]
       simpa using fin p hp
    .rintro δ μ' ⟨L,acc,o7,o8,rfl,hL,ha,hl,rfl⟩
     simp
     exact⟨acc,L,⟨rfl,rfl⟩,λp hp=>(ha p hp).nc,hL,by simp at hl;omega,ha⟩
theorem eq_nil{ps:List D}{μ:Mu}(h1:cN ps=true)(h2:fD ps<90):oEq (.lst ps) (.lst []) μ=some (.bl ps.isEmpty,μ):=by
 unfold oEq
 have e1:rsv (.lst ps) μ= .lst ps:=rfl
 have e2:rsv (.lst []) μ= .lst []:=rfl
 rw[e1,e2]
 have e3:bL (.lst ps)=true:=by rw[bL];exact h1
 have e4:bL (.lst [])=true:=by rw[bL,cN]
 have e5:dh (.lst ps)<100:=by rw[dh];omega
 have e6:eqD (.lst ps) (.lst [])=ps.isEmpty:=by cases ps<;>rw[eqD]<;>simp[gU]
 rw[e3,e4,e6,if_pos ⟨rfl,e5⟩]
theorem gj{b:Nat}{x:Int}(n:Nat)(h:x.natAbs<n)(hn:n<=2 ^ b):Sm b x:=Zc h hn
def aD(r:List Int):D:=.tup (r.map .int)
@[simp] theorem Mv{r:List Int}{μ:Mu}:bF (aD r) μ=some (r.map .int):=rfl
@[simp] theorem Ie{r:List Int}{μ:Mu}:cF (aD r) μ=some (.int r.length,μ):=by simp[aD]
def fK(p:Int×Int):D:=.tup [.int p.1,.int p.2]
theorem pR{α:Type}{F:α->D}{l:List α}{k:Int}{z:α}(h0:0<=k)(h1:k<l.length):atI (l.map F) k=some (F (l.getD k.toNat z))/\l.getD k.toNat z∈l:=by
 have hk:k.toNat<l.length:=by omega
 have e:l.getD k.toNat z=l[k.toNat]:=by simp[List.getD,hk]
 refine⟨?_,by rw[e];exact List.getElem_mem hk⟩
 unfold atI ixN
 rw[if_pos h0,if_pos (by simpa using h1),e]
 simp[hk]
theorem nq{α β:Type}{F:α->D}{G:β->D}:∀(a:List α)(b:List β),je (a.map F) (b.map G)=(a.zip b).map λp=>.tup [F p.1,G p.2]
 | [],_=>by simp[je]
 |a::as,[]=>by simp[je]
 |a::as,b::bs=>by simp[je,nq as bs]
theorem vZ{α:Type}{th:D->gq}{F:α->D}{g:α->Int}{μ:Mu}:∀(l:List α)(a:Int),(∀x∈l,th (F x) μ=some (.int (g x),μ))->pG a ((l.map F).map th) μ=some (a+(l.map g).sum,μ)
 | [],a,_=>by simp[pG]
 |x::l,a,h=>by
  have h1:=h x (by simp)
  have ih:=vZ l (a+g x) λy hy=>h y (by simp[hy])
  rw[Zj,Zj]
  unfold pG
  rw[h1]
  simp only[ZK]
  rw[ih]
  simp
  omega
theorem iu{α:Type}{all:List D}{h:GF}{fe:EF}{δb:En}{F:α->D}{f:α->D}{μ:Mu}:∀(l:List α),(∀x∈l,∃δ1,h (F x) δb μ=some δ1/\fe δ1 μ=some (f x,μ))->lcL ⟨all,none⟩ h bK fe δb (l.map F) μ=some (l.map f,μ)
 | [],_=>by simp only[List.map_nil];unfold lcL;simp[bx]
 |d::r,hd=>by
  obtain⟨δ1,h1,h2⟩:=hd d (by simp)
  have h3:=iu (all:=all) r λx hx=>hd x (by simp[hx])
  rw[Zj]
  unfold lcL
  simp[bx,h1,bK,h2,h3]
def qu:Int->List Int->Int
 |m,[]=>m
 |m,b::bs=>qu (m*b.fdiv (Int.gcd m b)) bs
theorem zA{m b:Int}(hm:1<=m)(hb:1<=b):1<=(Int.gcd m b:Int)/\((Int.gcd m b:Int) ∣ b)/\((Int.gcd m b:Int) ∣ m)/\(Int.gcd m b:Int)<=b:=by
 have h0:Int.gcd m b≠0:=by
  intro z
  rw[Int.gcd_eq_zero_iff]at z
  omega
 refine⟨by omega,Int.gcd_dvd_right _ _,Int.gcd_dvd_left _ _,Int.le_of_dvd (by omega) (Int.gcd_dvd_right _ _)⟩
theorem wJ{m b:Int}(hm:1<=m)(hb:1<=b):1<=b.fdiv (Int.gcd m b)/\b.fdiv (Int.gcd m b)<=b/\(m*b).fdiv (Int.gcd m b)=m*b.fdiv (Int.gcd m b)/\b ∣ m*b.fdiv (Int.gcd m b):=by
 obtain⟨g1,g2,g3,g4⟩:=zA hm hb
 generalize (Int.gcd m b:Int)=g at *
 rw[ZD b (by omega),ZD (m*b) (by omega)]
 refine⟨(Int.le_ediv_iff_mul_le (by omega)).mpr (by omega),Int.ediv_le_self _ (by omega),Int.mul_ediv_assoc m g2,?_⟩
 obtain⟨c,hc⟩:=g3
 obtain⟨e,he⟩:=g2
 have:b / g=e:=by rw[he];exact Int.mul_ediv_cancel_left e (by omega)
 rw[this,hc,he]
 exact⟨c,by rw[Int.mul_assoc,Int.mul_comm c e,<-Int.mul_assoc]⟩
theorem Ff:∀(bs:List Int)(m:Int),1<=m->(∀b∈bs,1<=b/\b<64)->1<=qu m bs/\(m ∣ qu m bs)/\(∀b∈bs,b ∣ qu m bs)/\∀k,Sm k m->Sm (k+6*bs.length) (qu m bs)
 | [],m,hm,_=>⟨hm,Int.dvd_refl _,by simp,λk h=>h⟩
 |b::bs,m,hm,hb=>by
  obtain⟨b1,b2⟩:=hb b (by simp)
  obtain⟨f1,f2,f3,f4⟩:=wJ hm b1
  have hm':1<=m*b.fdiv (Int.gcd m b):=by
   have:=Int.mul_le_mul hm f1 (by decide) (by omega)
   omega
  obtain⟨h1,h2,h3,h4⟩:=Ff bs (m*b.fdiv (Int.gcd m b)) hm' λc hc=>hb c (by simp[hc])
  show 1<=qu (m*b.fdiv (Int.gcd m b)) bs/\_
  refine⟨h1,Int.dvd_trans (Int.dvd_mul_right _ _) h2,λc hc=>?_,λk hk=>?_⟩
  .rcases Zi.mp hc with z|z
   .rw[z];exact Int.dvd_trans f4 h2
   .exact h3 c z
  .have:=h4 (k+6) (gK hk (gj 64 (by omega) (by decide)))
   refine bu this ?_
   simp only[ZH]
   omega
def dot(ws cs:List Int):Int:=((ws.zip cs).map λp=>p.1*p.2).sum
def bf(r:List Int):Int:=r.getLastD 0
def wts(M:Int)(rs:List (List Int))(ss:List Int):List Int:=(ss.zip rs).map λp=>p.1*M.fdiv (bf p.2)
def col(rs:List (List Int))(i:Nat):List Int:=rs.map λr=>r.getD i 0
def jm(rs:List (List Int)):Int:=qu 1 (rs.map bf)
def jP(d1:Nat)(rs:List (List Int))(ss:List Int):List Int:=(List.range d1).map λi=>dot (wts (jm rs) rs ss) (col rs i)
def vz(v:List Int):List Int:=v.map λn=>n.fdiv (bJ 0 v:Nat)
structure gk(d1:Nat)(r:List Int):Prop where
 len:r.length=d1
 sm:∀n∈r,n.natAbs<=10000
 b1:1<=bf r
 b2:bf r<64
theorem PtL.row{d:Nat}{ns:List Int}{b:Int}(h:PtL d ns b):gk (d+1) (ns++[b]):=⟨by simp[h.1],λn hn=>by
 rcases Zm.mp hn with z|z
 .exact h.2.1 n z
 .rw[ZI.mp z];have:=h.2.2;omega,by unfold bf;simp;exact h.2.2.1,by unfold bf;simp;have:=h.2.2.2;omega⟩
theorem vN{d1:Nat}{r:List Int}(h:gk d1 r)(hd:1<=d1):atI (r.map D.int) (-1)=some (.int (bf r)):=jD (λz=>by have:=h.len;rw[z]at this;simp at this;omega)
theorem uI{d1:Nat}{rs:List (List Int)}(h:∀r∈rs,gk d1 r):1<=jm rs/\(∀r∈rs,bf r ∣ jm rs)/\Sm (1+6*rs.length) (jm rs):=by
 obtain⟨h1,_,h3,h4⟩:=Ff (rs.map bf) 1 (by decide) λb hb=>by
  obtain⟨r,hr,rfl⟩:=Zq.mp hb
  exact⟨(h r hr).b1,(h r hr).b2⟩
 refine⟨h1,λr hr=>h3 _ (Zq.mpr ⟨r,hr,rfl⟩),?_⟩
 have:=h4 1 (by unfold Sm;decide)
 rw[Zu]at this
 exact this
theorem Hg{d1:Nat}{rs:List (List Int)}{i:Nat}(h:∀r∈rs,gk d1 r)(hi:i<d1):∀c∈col rs i,c.natAbs<=10000:=λc hc=>by
 obtain⟨r,hr,rfl⟩:=Zq.mp hc
 have hl:=(h r hr).len
 have hk:i<r.length:=by omega
 have:r.getD i 0=r[i]:=by simp[List.getD,hk]
 rw[this]
 exact(h r hr).sm _ (List.getElem_mem hk)
theorem Kf{F:EF}{δ:En}{μ:Mu}{k:Int}(h0:0<=k)(h1:k<=100000)(a:F δ μ=some (.int k,μ)):bH (ao F aB) δ μ=some (⟨cu 0 k.toNat,none⟩,μ):=by
 have rr:=nR (j:=k) (μ:=μ) (by omega) (by omega)
 rw[Jo,xZ,a]
 simp only[ZK,Eb]
 exact rr
theorem Kl{F:EF}{δ:En}{μ:Mu}{r:List Int}{d1:Nat}(hl:r.length=d1)(a:F δ μ=some (aD r,μ)):MC (ao F aB) (aW cF) δ μ=some (.int d1,μ):=by
 rw[Oq,xZ,a]
 simp only[ZK,Eb,Iz,Ie,hl]
def bR(ps:List (List Int))(sh:List (Int×Int)):List (List Int):=sh.map λx=>ps.getD x.1.toNat []
def Fz(n:Nat)(sh:List (Int×Int)):Prop:=∀x∈sh,0<=x.1/\x.1<n/\1<=x.2/\Sm 2000 x.2
theorem rT{d1:Nat}{ps:List (List Int)}{sh:List (Int×Int)}(hp:∀p∈ps,gk d1 p)(hs:Fz ps.length sh):∀r∈bR ps sh,gk d1 r:=λr hr=>by
 obtain⟨x,hx,rfl⟩:=Zq.mp hr
 obtain⟨h0,h1,_⟩:=hs x hx
 exact hp _ (pR (F:=aD) (l:=ps) (k:=x.1) (z:=[]) h0 h1).2
theorem jF{w c:Int}{ws cs:List Int}:dot (w::ws) (c::cs)=w*c+dot ws cs:=by unfold dot;simp
theorem uW(M:Int):∀(rs:List (List Int))(ss:List Int),rs.length=ss.length->(∀r∈rs,1<=bf r/\bf r ∣ M)->dot (wts M rs ss) (rs.map bf)=M*ss.sum
 | [],ss,h,_=>by
  have:ss=[]:=List.eq_nil_of_length_eq_zero (by simpa using h.symm)
  subst this
  simp[dot,wts]
 |r::rs,[],h,_=>by simp at h
 |r::rs,s::ss,h,hr=>by
  have ih:=uW M rs ss (by simpa using h) λx hx=>hr x (by simp[hx])
  obtain⟨b1,b2⟩:=hr r (by simp)
  have e1:wts M (r::rs) (s::ss)=s*M.fdiv (bf r)::wts M rs ss:=by simp[wts]
  rw[e1,Zj,jF,ih,List.sum_cons,Int.mul_add]
  congr 1
  rw[ZD M (by omega),Int.mul_assoc,Int.ediv_mul_cancel b2,Int.mul_comm]
theorem Bg{d1:Nat}{rs:List (List Int)}(hd:1<=d1)(h:∀r∈rs,gk d1 r):col rs (d1-1)=rs.map bf:=by
 unfold col
 apply List.map_congr_left
 intro r hr
 have hl:=(h r hr).len
 have hne:r≠[]:=λz=>by rw[z]at hl;simp at hl;omega
 unfold bf
 rw[List.getLastD_eq_getLast?,List.getLast?_eq_getElem?,hl]
 rfl
theorem wZ:∀(ss:List Int)(k:Nat),(∀s∈ss,1<=s/\Sm k s)->(0<=ss.sum/\(ss≠[]->1<=ss.sum))/\ss.sum.natAbs<=ss.length*2 ^ k
 | [],k,_=>by simp
 |s::ss,k,h=>by
  obtain⟨h1,h2⟩:=h s (by simp)
  obtain⟨⟨i1,i2⟩,i3⟩:=wZ ss k λx hx=>h x (by simp[hx])
  rw[List.sum_cons,ZH,Nat.succ_mul]
  refine⟨⟨by omega,λ_=>by omega⟩,?_⟩
  unfold Sm at h2
  have:=Int.natAbs_add_le s ss.sum
  omega
structure Ov(d1:Nat)(rs:List (List Int))(ss:List Int):Prop where
 v:(jP d1 rs ss).length=d1
 lst:(jP d1 rs ss).getLastD 0=jm rs*ss.sum
 pos:1<=jm rs*ss.sum
 sm:Sm 3000 (jm rs*ss.sum)
 g0:bJ 0 (jP d1 rs ss)≠0
 gs:Sm 3000 (bJ 0 (jP d1 rs ss):Nat)
theorem De{d1:Nat}{rs:List (List Int)}{ss:List Int}(hd:1<=d1)(hr:∀r∈rs,gk d1 r)(hl:rs.length=ss.length)(h60:rs.length<=60)(hne:rs≠[])(hs:∀s∈ss,1<=s/\Sm 2000 s):Ov d1 rs ss:=by
 obtain⟨M1',M2',M3'⟩:=uI hr
 have el:=uW (jm rs) rs ss hl λr h=>⟨(hr r h).b1,M2' r h⟩
 obtain⟨⟨s0,s1⟩,s2⟩:=wZ ss 2000 hs
 have sne:ss≠[]:=λz=>by rw[z]at hl;exact hne (List.eq_nil_of_length_eq_zero (by simpa using hl))
 have sp:=s1 sne
 have ssm:Sm 2006 ss.sum:=by
  unfold Sm
  have:ss.length*2 ^ 2000<2 ^ 6*2 ^ 2000:=Nat.mul_lt_mul_of_pos_right (by omega) (Nat.two_pow_pos _)
  rw[<-Nat.pow_add]at this
  omega
 have hpos:1<=jm rs*ss.sum:=by
  have:=Int.mul_le_mul M1' sp (by decide) (by omega)
  omega
 have hsm:Sm 3000 (jm rs*ss.sum):=bu (gK M3' ssm) (by omega)
 have hlast:(jP d1 rs ss).getLastD 0=jm rs*ss.sum:=by
  unfold jP
  rw[List.getLastD_eq_getLast?,List.getLast?_map,List.getLast?_range,if_neg (by omega)]
  simp only[Option.map_some,Option.getD_some]
  rw[Bg hd hr,el]
 have hmem:jm rs*ss.sum∈jP d1 rs ss:=by
  rw[<-hlast]
  have hne':jP d1 rs ss≠[]:=by unfold jP;simp;omega
  rw[List.getLastD_eq_getLast?,List.getLast?_eq_some_getLast hne']
  exact List.getLast_mem hne'
 have hg0:bJ 0 (jP d1 rs ss)≠0:=jz (.inr ⟨_,hmem,by omega⟩)
 refine⟨by unfold jP;simp,hlast,hpos,hsm,hg0,?_⟩
 have:=HS (g:=0) hmem (by omega)
 unfold Sm at *
 simp only[Int.natAbs_natCast]
 omega
@[simp] theorem MN{μ:Mu}{ds:List D}:bF (.cell μ.length) (μ++[some ds])=some ds:=by unfold bF;simp
def fnL(d:Nat)(g:Nat->Int):List D:=((List.range d).map g).map D.int
theorem uw{d:Nat}{g:Nat->Int}:(fnL d g).length=d:=by unfold fnL;simp
theorem Lg{d:Nat}{g:Nat->Int}{j:Nat}(h:j<d):atI (fnL d g) (0+(j:Int))=some (.int (g j)):=by
 unfold atI ixN
 rw[if_pos (by omega),if_pos (by rw[uw];omega)]
 have:(0+(j:Int)).toNat=j:=by omega
 simp only[ZK,this]
 unfold fnL
 simp[h]
theorem Kz{d:Nat}{g:Nat->Int}{j:Nat}(h:j<d):ixN (fnL d g).length (0+(j:Int))=some j:=by
 unfold ixN
 rw[if_pos (by omega),if_pos (by rw[uw];omega)]
 congr 1
 omega
theorem Hz{d:Nat}{g:Nat->Int}{j:Nat}{x:Int}:(fnL d g).set j (.int x)=fnL d (λi=>if i=j then x else g i):=by
 unfold fnL
 apply List.ext_getElem
 .simp
 intro i h1 h2
 simp at h1 h2
 rw[List.getElem_set]
 by_cases e:j=i
 .subst e;simp
 .have e':¬i=j:=λz=>e z.symm
  simp[e,e']
theorem Ay{d:Nat}{g g':Nat->Int}(h:∀i<d,g i=g' i):fnL d g=fnL d g':=by
 unfold fnL
 congr 1
 apply List.map_congr_left
 intro i hi
 exact h i (List.mem_range.mp hi)
theorem vp{d j:Nat}(h:j<d):(cu 0 d).drop j=D.int (0+(j:Int))::(cu 0 d).drop (j+1):=by
 unfold cu
 rw[<-List.map_drop,<-List.map_drop,ZJ (by simpa using h)]
 simp
theorem Im{d j:Nat}(h:d<=j):(cu 0 d).drop j=[]:=List.drop_of_length_le (by rw[cQ];exact h)
theorem HN(ns:List Int)(b:Int):bJ 0 (ns++[b])=bJ b.natAbs ns:=by
 have:=Gy (s:=1) (b:=b) (ns:=ns) (.inl rfl)
 simpa using this
def oV(ps:List (List Int))(x:Int×Int):List Int:=ps.getD x.1.toNat []
def term(M:Int)(ps:List (List Int))(i:Nat)(x:Int×Int):Int:=x.2*(oV ps x).getD i 0*M.fdiv (bf (oV ps x))
theorem tB(M:Int)(ps:List (List Int))(i:Nat):∀sh:List (Int×Int),dot (wts M (bR ps sh) (sh.map (·.2))) (col (bR ps sh) i)=(sh.map (term M ps i)).sum
 | []=>by simp[dot,wts,bR,col]
 |x::sh=>by
  have ih:=tB M ps i sh
  have e1:bR ps (x::sh)=oV ps x::bR ps sh:=rfl
  have e2:wts M (oV ps x::bR ps sh) (x.2::sh.map (·.2))=x.2*M.fdiv (bf (oV ps x))::wts M (bR ps sh) (sh.map (·.2)):=by simp[wts]
  have e3:col (oV ps x::bR ps sh) i=(oV ps x).getD i 0::col (bR ps sh) i:=by simp[col]
  rw[e1,Zj,e2,e3,jF,ih,Zj,List.sum_cons]
  congr 1
  unfold term
  rw[Int.mul_assoc,Int.mul_assoc,Int.mul_comm (M.fdiv _)]
abbrev yH:SF:=fH (bH (ao (MC (ao (aq 5) (aB)) (aW cF)) (aB))) (aJ 7) (aM (aR 8 (M2 (aq 4) (M2 (M2 (aq 0) (aq 3) oIx) (aq 7) oIx) bI)) (pF (M2 (M2 (aq 5) (aq 7) oIx) (M2 (aq 8) (M2 (aq 2) (M2 (M2 (aq 0) (aq 3) oIx) (M1 (mC (.int 1)) cU) oIx) dm) bI) bD) (aq 5) (aq 7)))
theorem KY{d:Nat}{ps:List (List Int)}{M k s t:Int}{μ:Mu}{shD:D}{g:Nat->Int}{o7 o8:Option D}(hd:d<=9)(hp:∀p∈ps,gk (d+1) p)(k0:0<=k)(k1:k<ps.length)(hs:Sm 2000 s)(hM:Sm 400 M):
  ∃p7 p8,yH [some (.lst (ps.map aD)),some shD,some (.int M),some (.int k),some (.int s),some (.cell μ.length),some (.int t),o7,o8] (μ++[some (fnL d g)])=
   some (.nx,[some (.lst (ps.map aD)),some shD,some (.int M),some (.int k),some (.int s),some (.cell μ.length),some (.int t),p7,p8],μ++[some (fnL d λi=>g i+term M ps i (k,s))]):=by
 suffices h:Ok (yH [some (.lst (ps.map aD)),some shD,some (.int M),some (.int k),some (.int s),some (.cell μ.length),some (.int t),o7,o8] (μ++[some (fnL d g)])) (λr=>∃p7 p8,r=
   (.nx,[some (.lst (ps.map aD)),some shD,some (.int M),some (.int k),some (.int s),some (.cell μ.length),some (.int t),p7,p8],μ++[some (fnL d λi=>g i+term M ps i (k,s))])) by
  obtain⟨r,e,p7,p8,h⟩:=h
  exact⟨p7,p8,by rw[e,h]⟩
 obtain⟨ak,hmem⟩:=pR (F:=aD) (l:=ps) (k:=k) (z:=[]) k0 k1
 have hr:=hp _ hmem
 have hrow:oV ps (k,s)=ps.getD k.toNat []:=rfl
 have hterm:∀i,term M ps i (k,s)=s*(ps.getD k.toNat []).getD i 0*M.fdiv (bf (ps.getD k.toNat [])):=λi=>rfl
 simp only[hterm]
 generalize ps.getD k.toNat []=r at *
 have hlast:=vN hr (by omega)
 have hlen:cF (.cell μ.length) (μ++[some (fnL d g)])=some (.int (d:Int),μ++[some (fnL d g)]):=by
  unfold cF bF
  simp[uw]
 have it:bH (ao (MC (ao (aq 5) (aB)) (aW cF)) (aB)) [some (.lst (ps.map aD)),some shD,some (.int M),some (.int k),some (.int s),some (.cell μ.length),some (.int t),o7,o8] (μ++[some (fnL d g)])=some (⟨cu 0 d,none⟩,μ++[some (fnL d g)]):=by
  have:=Kf (k:=(d:Int)) (F:=MC (ao (aq 5) (aB)) (aW cF)) (δ:=[some (.lst (ps.map aD)),some shD,some (.int M),some (.int k),some (.int s),some (.cell μ.length),some (.int t),o7,o8]) (μ:=μ++[some (fnL d g)]) (by omega) (by omega) (by
   rw[Oq,xZ]
   simp only[ue,uz,ZK,Eb,Iz]
   exact hlen)
  rwa[show((d:Int)).toNat=d by omega]at this
 unfold yH
 generalize bH (ao (MC (ao (aq 5) (aB)) (aW cF)) (aB))=IT at it ⊢
 rw[Ey,it]
 simp only[ZK]
 refine fU (λits δ μ'=>∃(j:Nat)(g':Nat->Int)(p7 p8:Option D),its=(cu 0 d).drop j/\μ'=μ++[some (fnL d g')]/\(∀i<d,g' i=if i<j then g i+s*r.getD i 0*M.fdiv (bf r)else g i)/\
  δ=[some (.lst (ps.map aD)),some shD,some (.int M),some (.int k),some (.int s),some (.cell μ.length),some (.int t),p7,p8]) ?_ ?_ _ _ _ ⟨0,g,o7,o8,rfl,rfl,λi _=>by simp,rfl⟩
 .rintro it' rest δ μ' ⟨j,g',p7,p8,hi,rfl,hg,rfl⟩
  have hj:j<d:=by
   by_cases h:j<d
   .exact h
   .rw[Im (by omega)]at hi;cases hi
  rw[vp hj]at hi
  cases hi
  have hjr:((0:Int)+(j:Int))<r.length:=by have:=hr.len;omega
  obtain⟨aj,hjm⟩:=jL (ys:=r) (k:=0+(j:Int)) (by omega) hjr
  have hto:(0+(j:Int)).toNat=j:=by omega
  rw[hto]at aj hjm
  have gat:=Lg (g:=g') hj
  have gix:=Kz (g:=g') hj
  have hsj:=hr.sm _ hjm
  have b1:=hr.b1
  have b2:=hr.b2
  have hgj:=hg j hj
  rw[if_neg (by omega)]at hgj
  generalize hrj:r.getD j 0=rj at *
  have em1:=bh (x:=s) (y:=rj) (μ++[some (fnL d g')]) hs (gj (b:=14) 10001 (by omega) (by decide)) (by decide)
  have ed:=jy (x:=M) (y:=bf r) (b:=6) (μ++[some (fnL d g')]) (by omega) (gj 64 (by omega) (by decide)) (by decide)
  have em2:=bh (x:=s*rj) (y:=M.fdiv (bf r)) (μ++[some (fnL d g')]) (gK hs (gj (b:=14) 10001 (by omega) (by decide))) (jC hM (by omega)) (by decide)
  generalize hij:(0+(j:Int))=ij at *
  simp[ak,aj,em1,gat,hlast,ed,em2,L3.rC,gix,Hz]
  refine⟨j+1,rfl,_,rfl,λi hi=>?_⟩
  by_cases e:i=j
  .subst e
   simp[hgj,<-hrj]
  .have:=hg i hi
   simp only[if_neg e]
   rw[this]
   by_cases c:i<j
   .rw[if_pos c,if_pos (by omega)];rfl
   .rw[if_neg c,if_neg (by omega)]
 .rintro δ μ' ⟨j,g',p7,p8,hi,rfl,hg,rfl⟩
  have hj:d<=j:=by
   by_cases h:j<d
   .rw[vp h]at hi;cases hi
   .omega
  refine⟨p7,p8,?_⟩
  rw[Ay (g:=g') (g':=λi=>g i+s*r.getD i 0*M.fdiv (bf r)) λi hi=>by rw[hg i hi,if_pos (by omega)]]
theorem Aj{M:Int}{ps:List (List Int)}{i:Nat}{x:Int×Int}{sh:List (Int×Int)}:((x::sh).map (term M ps i)).sum=term M ps i x+(sh.map (term M ps i)).sum:=by simp
theorem xm{d1:Nat}{ps:List (List Int)}{k:Int}(hp:∀p∈ps,gk d1 p)(k0:0<=k)(k1:k<ps.length):atI (ps.map aD) k=some (aD (ps.getD k.toNat []))/\gk d1 (ps.getD k.toNat []):=by
 obtain⟨a,b⟩:=pR (F:=aD) (l:=ps) (k:=k) (z:=[]) k0 k1
 exact⟨a,hp _ b⟩
theorem An{m b:Int}{bs:List Int}:qu m (b::bs)=qu (m*b.fdiv (Int.gcd m b)) bs:=rfl
theorem yo{φ1 φ2:FF}(h1:vQ φ1)(h2:jE φ2)(d:Nat)(ps:List (List Int))(sh:List (Int×Int))(μ:Mu)(hm:eG μ)(hd:1<=d)(hd2:d<=9)(hp:∀p∈ps,gk (d+1) p)(hne:sh≠[])(hl:sh.length<=60)(hs:Fz ps.length sh):
  trunc (aL 9 (mJ φ1 φ2)) [.lst (ps.map aD),.tup (sh.map fK)] μ=some (aD (vz (jP (d+1) (bR ps sh) (sh.map (·.2)))),μ):=by
 have hr:=rT hp hs
 have hss:∀s∈sh.map (·.2),1<=s/\Sm 2000 s:=λs h=>by
  obtain⟨x,hx,rfl⟩:=Zq.mp h
  exact⟨(hs x hx).2.2.1,(hs x hx).2.2.2⟩
 have hlr:(bR ps sh).length=(sh.map (·.2)).length:=by unfold bR;simp
 have hl60:(bR ps sh).length<=60:=by unfold bR;simp;exact hl
 have hrne:bR ps sh≠[]:=by unfold bR;simpa using hne
 have mo:=De (by omega) hr hlr hl60 hrne hss
 obtain⟨M1',M2',M3'⟩:=uI hr
 have hMs:Sm 400 (jm (bR ps sh)):=bu M3' (by omega)
 have hbs:(bR ps sh).map bf=sh.map λx=>bf (oV ps x):=by unfold bR oV;simp
 have eM:qu 1 (sh.map λx=>bf (oV ps x))=jm (bR ps sh):=by unfold jm;rw[hbs]
 have eV:jP (d+1) (bR ps sh) (sh.map (·.2))=(List.range d).map (λi=>(sh.map (term (jm (bR ps sh)) ps i)).sum)++[jm (bR ps sh)*(sh.map (·.2)).sum]:=by
  have hlast:=mo.lst
  unfold jP at hlast ⊢
  rw[List.range_succ,List.map_append]at hlast ⊢
  rw[List.getLastD_eq_getLast?]at hlast
  simp only[Zj,List.map_nil,List.getLast?_append,List.getLast?_singleton,Option.some_or,Option.getD_some]at hlast
  simp only[Zj,List.map_nil]
  rw[hlast]
  congr 1
  apply List.map_congr_left
  intro i _
  exact tB _ _ _ _
 have hpos:=mo.pos
 have hBs:=mo.sm
 clear mo
 generalize jm (bR ps sh)=M at *
 generalize jP (d+1) (bR ps sh) (sh.map (·.2))=V at *
 suffices h:Ok (aL 9 (mJ φ1 φ2) [.lst (ps.map aD),.tup (sh.map fK)] μ) (λr=>∃junk,r=(aD (vz V),μ++junk)) by
  obtain⟨r,e,junk,h⟩:=h
  have h:r=(aD (vz V),μ++junk):=h
  rw[h]at e
  exact nG e rfl (jU.mpr iB) hm
 apply dI
 unfold mJ
 simp only[Zj,List.map_nil,ZH,List.length_nil,List.cons_append,List.nil_append,Nat.reduceAdd,Nat.reduceSub,List.replicate_succ,List.replicate_zero,DW,CN,w_c,ZK,pI,qM,tU,Ey,Cg,ue,uz,yM,Option.map_some,List.set_cons_succ,List.set_cons_zero]
 refine fU (λits δ μ'=>∃(xs:List (Int×Int))(m:Int)(o3 o4:Option D)(k:Nat),its=xs.map fK/\μ'=μ/\qu m (xs.map λx=>bf (oV ps x))=M/\1<=m/\Sm k m/\k+6*xs.length<=700/\(∀x∈xs,x∈sh)/\δ=[some (.lst (ps.map aD)),some (.tup (sh.map fK)),some (.int m),o3,o4,none,none,none,none]) ?_ ?_ _ _ _ ⟨sh,1,none,none,1,rfl,rfl,eM,by decide,by unfold Sm;decide,by omega,λx h=>h,rfl⟩
 .rintro dd rest δ μ' ⟨xs,m,o3,o4,k,hi,rfl,hlm,m1,hk,hkl,hsub,rfl⟩
  cases xs with
  |nil=>cases hi
  |cons x xs=>
   obtain⟨xk,xs2⟩:=x
   cases hi
   obtain⟨k0,k1,_⟩:=hs _ (hsub _ (List.mem_cons_self ..))
   obtain⟨ak,hrow⟩:=xm hp k0 k1
   have hrx:oV ps (xk,xs2)=ps.getD xk.toNat []:=rfl
   rw[Zj,An]at hlm
   simp only[hrx]at hlm
   simp only at ak hrow k0 k1
   generalize ps.getD xk.toNat []=r at *
   have hlast:=vN hrow (by omega)
   have b1:=hrow.b1
   have b2:=hrow.b2
   generalize bf r=b at *
   obtain⟨g1,g2,g3,g4⟩:=zA m1 b1
   obtain⟨f1,f2,f3,f4⟩:=wJ m1 b1
   have eg:=h1 m b μ'
   have em:=bh (x:=m) (y:=b) μ' hk (gj (b:=6) 64 (by omega) (by decide)) (by simp at hkl;omega)
   have ed:=jy (x:=m*b) (y:=(Int.gcd m b:Int)) (b:=6) μ' (by omega) (gj 64 (by omega) (by decide)) (by decide)
   rw[f3]at ed
   have sb:Sm 6 (b.fdiv (Int.gcd m b)):=gj 64 (by omega) (by decide)
   simp only[ZH]at hkl
   generalize hm':m*b.fdiv (Int.gcd m b)=m' at *
   simp[fK,ak,hlast,em,eg,ed]
   refine⟨xs,rfl,m',hlm,?_,_,_,k+6,by rw[<-hm'];exact gK hk sb,by omega,λa b' h=>hsub _ (ZE _ h),rfl,rfl,rfl⟩
   have:=Int.mul_le_mul m1 f1 (by decide) (by omega)
   omega
 .rintro δ μ' ⟨xs,m,o3,o4,k,hi,rfl,hlm,m1,hk,hkl,hsub,rfl⟩
  cases xs with
  |cons b ms=>cases hi
  |nil=>
  have hlm:m=M:=hlm
  subst hlm
  obtain⟨x0,hx0⟩:∃x0,sh.head?=some x0:=by
   cases sh with
   |nil=>exact absurd rfl hne
   |cons a b=>exact⟨a,rfl⟩
  have hx0m:x0∈sh:=List.mem_of_mem_head? hx0
  have a00:atI (sh.map fK) 0=some (fK x0):=by
   cases sh with
   |nil=>cases hx0
   |cons a b=>cases hx0;unfold atI ixN;simp
  obtain⟨x0k,x0s⟩:=x0
  obtain⟨k0,k1,_⟩:=hs _ hx0m
  obtain⟨ak,hrow⟩:=xm hp k0 k1
  simp only at ak hrow k0 k1
  have hlen0:=hrow.len
  generalize ps.getD x0k.toNat []=r0 at *
  have at0:atI [D.int x0k,D.int x0s] 0=some (.int x0k):=rfl
  have eL:wQ (MC (ao (mC (.int 0)) (aB)) gf) (M2 (MC (ao (M2 (aq 0) (M2 (M2 (aq 1) (mC (.int 0)) oIx) (mC (.int 0)) oIx) oIx) (aB)) (aW cF)) (mC (.int 1)) dF) [some (.lst (ps.map aD)),some (.tup (sh.map fK)),some (.int m),o3,o4,none,none,none,none] μ'=some (fnL d λ_=>0,μ'):=by
   have e1:M2 (MC (ao (M2 (aq 0) (M2 (M2 (aq 1) (mC (.int 0)) oIx) (mC (.int 0)) oIx) oIx) (aB)) (aW cF)) (mC (.int 1)) dF [some (.lst (ps.map aD)),some (.tup (sh.map fK)),some (.int m),o3,o4,none,none,none,none] μ'=some (.int d,μ'):=by
    have e2:MC (ao (M2 (aq 0) (M2 (M2 (aq 1) (mC (.int 0)) oIx) (mC (.int 0)) oIx) oIx) (aB)) (aW cF) [some (.lst (ps.map aD)),some (.tup (sh.map fK)),some (.int m),o3,o4,none,none,none,none] μ'=some (.int (d+1:Nat),μ'):=Kl hlen0 (by simp[a00,fK,at0,ak])
    generalize MC (ao (M2 (aq 0) (M2 (M2 (aq 1) (mC (.int 0)) oIx) (mC (.int 0)) oIx) oIx) (aB)) (aW cF)=F at e2 ⊢
    rw[OJ,e2]
    simp
   generalize M2 (MC (ao (M2 (aq 0) (M2 (M2 (aq 1) (mC (.int 0)) oIx) (mC (.int 0)) oIx) oIx) (aB)) (aW cF)) (mC (.int 1)) dF=F at e1 ⊢
   have hrep:∀z:Int,z=d->(if -(2 ^ 63)<=z/\z<2 ^ 63/\[D.int 0].length*z.toNat<=sizeLine then some ((List.replicate z.toNat [D.int 0]).flatten,μ')else none)=some (fnL d λ_=>0,μ'):=λz hz=>by
    rw[if_pos ⟨by omega,by omega,Zl (by simp only[ZH,List.length_nil];omega:_<=1000) (by decide)⟩]
    have:z.toNat=d:=by omega
    rw[this]
    unfold fnL
    simp[List.map_const']
   unfold wQ
   have e3:MC (ao (mC (.int 0)) (aB)) gf [some (.lst (ps.map aD)),some (.tup (sh.map fK)),some (.int m),o3,o4,none,none,none,none] μ'=some (.lst [.int 0],μ'):=by simp
   generalize MC (ao (mC (.int 0)) (aB)) gf=G at e3 ⊢
   rw[e3]
   simp only[ZK]
   obtain⟨dz,hdz⟩:∃z:Int,z=d:=⟨_,rfl⟩
   rw[<-hdz]at e1
   rw[e1]
   exact hrep dz hdz
  generalize wQ (MC (ao (mC (.int 0)) (aB)) gf) (M2 (MC (ao (M2 (aq 0) (M2 (M2 (aq 1) (mC (.int 0)) oIx) (mC (.int 0)) oIx) oIx) (aB)) (aW cF)) (mC (.int 1)) dF)=LR at eL ⊢
  simp only[qM,tU,DW,CN,Ox,eL,ZK,pI,List.set_cons_succ,List.set_cons_zero,w_c,Ey,Cg,ue,uz,yM,Option.map_some]
  refine fU (λits δ μ1=>∃(xs:List (Int×Int))(t:Int)(g:Nat->Int)(o3 o4 o7 o8:Option D),its=xs.map fK/\μ1=μ'++[some (fnL d g)]/\(∀x∈xs,x∈sh)/\t+(xs.map (·.2)).sum=(sh.map (·.2)).sum/\(∀i,g i+(xs.map (term m ps i)).sum=(sh.map (term m ps i)).sum)/\δ=[some (.lst (ps.map aD)),some (.tup (sh.map fK)),some (.int m),o3,o4,some (.cell μ'.length),some (.int t),o7,o8]) ?_ ?_ _ _ _ ⟨sh,0,λ_=>0,_,_,_,_,rfl,rfl,λx h=>h,by simp,λi=>by simp,rfl⟩
  .rintro dd rest δ μ1 ⟨xs,t,g,o3,o4,o7,o8,hi,rfl,hsub,ht,hg,rfl⟩
   cases xs with
   |nil=>cases hi
   |cons x xs=>
    obtain⟨xk,xv⟩:=x
    cases hi
    obtain⟨k0,k1,s1,s2⟩:=hs _ (hsub _ (List.mem_cons_self ..))
    obtain⟨p7,p8,e⟩:=KY (d:=d) (ps:=ps) (M:=m) (k:=xk) (s:=xv) (t:=t+xv) (μ:=μ') (shD:=.tup (sh.map fK)) (g:=g) (o7:=o7) (o8:=o8) hd2 hp k0 k1 s2 hMs
    unfold yH at e
    simp only[fK,Ny,ZH,List.length_nil,Nat.reduceAdd,if_true,Hf,Kp,ZK,Ka,pI,qM,List.set_cons_succ,List.set_cons_zero,DW,CN,OJ,ue,uz,PK,tU,e,FZ]
    refine⟨xs,t+xv,_,_,_,p7,p8,rfl,rfl,λx h=>hsub _ (ZE _ h),?_,λi=>?_,rfl⟩
    .rw[<-ht];simp;omega
    .rw[<-hg i,Aj];omega
  .rintro δ μ1 ⟨xs,t,g,o3,o4,o7,o8,hi,rfl,hsub,ht,hg,rfl⟩
   cases xs with
   |cons b ms=>cases hi
   |nil=>
   have ht:t=(sh.map (·.2)).sum:=by simpa using ht
   subst ht
   have hg:∀i,g i=(sh.map (term m ps i)).sum:=λi=>by simpa using hg i
   have efn:fnL d g=((List.range d).map λi=>(sh.map (term m ps i)).sum).map D.int:=by
    unfold fnL
    congr 1
    apply List.map_congr_left
    intro i _
    exact hg i
   have hlow:=h2 ((List.range d).map λi=>(sh.map (term m ps i)).sum) (m*(sh.map (·.2)).sum) (μ'++[none]) (by omega) (bu hBs (by decide)) (by simp;omega) (by simp;omega)
   have hsg:sgn (m*(sh.map (·.2)).sum)=1:=if_pos (by omega)
   rw[hsg,Int.one_mul,<-HN,<-eV]at hlow
   have hB1:Sm 2100 (sh.map (·.2)).sum:=by
    obtain⟨_,s2⟩:=wZ (sh.map (·.2)) 2000 hss
    have:(sh.map (·.2)).length*2 ^ 2000<2 ^ 6*2 ^ 2000:=Nat.mul_lt_mul_of_pos_right (by simp;omega) (Nat.two_pow_pos _)
    rw[<-Nat.pow_add]at this
    exact bu (show Sm 2006 _ by unfold Sm;omega) (by decide)
   have em:=bh (x:=m) (y:=(sh.map (·.2)).sum) (μ'++[none]) hMs hB1 (by decide)
   have elow:V.map (λn=>D.int (n.fdiv (bJ 0 V:Nat)))=(vz V).map D.int:=by unfold vz;simp
   rw[elow]at hlow
   rw[efn]
   generalize ((List.range d).map λi=>(sh.map (term m ps i)).sum).map D.int=nD at *
   generalize (sh.map (·.2)).sum=B at *
   simp[em,hlow,aD]
theorem sG:∀(a b:List Int),gU (a.map D.int) (b.map D.int)=(a==b)
 | [],[]=>by simp[gU]
 | [],b::bs=>by simp[gU]
 |a::as,[]=>by simp[gU]
 |a::as,b::bs=>by simp[gU,eqD,sG as bs]
theorem vR(μ:Mu):∀(ns:List Int)(a:Int),pG a ((ns.map D.int).map thE) μ=some (a+ns.sum,μ)
 | [],a=>by simp[pG]
 |n::ns,a=>by
  have ih:=vR μ ns (a+n)
  rw[Zj,Zj]
  unfold pG
  show pG (a+n) ((ns.map D.int).map thE) μ=_
  rw[ih,List.sum_cons,Int.add_assoc]
theorem szl{n:Nat}(h:n<=1000):n<=sizeLine:=Zl h (by decide)
theorem yN{b:Nat}:∀(l:List Int),(∀z∈l,Sm b z)->l.sum.natAbs<=l.length*2 ^ b
 | [],_=>by simp
 |z::l,h=>by
  have ih:=yN l λy hy=>h y (by simp[hy])
  have hz:z.natAbs<2 ^ b:=h z (by simp)
  rw[List.sum_cons,ZH,Nat.succ_mul]
  have:=Int.natAbs_add_le z l.sum
  omega
theorem wH{φ:FF}(hφ:ik φ)(c:Int)(c0:0<=c)(c1:c<100)(x:Int)(μ:Mu):∀(js:List Int),(∀j∈js,0<=j/\j<100)->∃kz:List Int,
  mV ((js.map D.int).map (thG (aJ 0) (MC (ao (aq 1) (ao (M2 (aq 0) (mC (.int c)) bD) (aB))) φ) [none,some (.int x)])) μ=some (kz,μ)
 | [],_=>⟨[],rfl⟩
 |j::js,hj=>by
  obtain⟨j0,j1⟩:=hj j (by simp)
  obtain⟨r,er,_⟩:=hφ x (j+c) μ (by omega) (by omega)
  obtain⟨kz,e⟩:=wH hφ c c0 c1 x μ js λi hi=>hj i (by simp[hi])
  refine⟨r::kz,?_⟩
  rw[Zj,Zj]
  have et:thG (aJ 0) (MC (ao (aq 1) (ao (M2 (aq 0) (mC (.int c)) bD) (aB))) φ) [none,some (.int x)] (.int j) μ=some (.int r,μ):=by simp[thG,er]
  unfold mV
  rw[et]
  show Option.map (λq=>(r::q.1,q.2)) (mV _ μ)=_
  rw[e]
  rfl
theorem vV(kz:List Int)(js:List Int):∃ts:List Int,lR kz (js.map .int)=ts.map .int/\ts.Perm js:=by
 refine⟨(jc (λi j=>decide (kz.getD i 0<kz.getD j 0)) js.length).map λi=>js.getD i 0,?_,?_⟩
 .unfold lR
  rw[Zu,List.map_map]
  apply List.map_congr_left
  intro i hi
  have hin:i<js.length:=List.mem_range.mp ((oG _ _).mem_iff.mp hi)
  simp[List.getD,hin]
 .have h:=(oG (λi j=>decide (kz.getD i 0<kz.getD j 0)) js.length).map λi=>js.getD i 0
  rw[L2.range_getD]at h
  exact h
theorem zE{ts:List Int}{c:Nat}(hn:ts.Nodup):(PySem.W.sortI (ts.take c)).Pairwise (· < ·):=by
 have h1:=PySem.W.sortI_rises (ts.take c)
 have h2:(PySem.W.sortI (ts.take c)).Nodup:=(PySem.W.sortI_perm _).nodup_iff.mpr (hn.sublist (List.take_sublist _ _))
 have h3:=h1.and h2
 exact h3.imp λ{a b} h=>by have:=h.1;have:=h.2;omega
def mZ(φ:FF):Prop:=∀(L:List Int)(js:List Int),DlD L->js≠[]->js.length<64->(∀j∈js,0<=j/\j<100)->∃(sh:List (Int×Int))(L':List Int),φ [.cell 0,.lst (js.map .int)] [some (L.map .int)]=some (.tup (sh.map fK),[some (L'.map .int)])/\DlD L'/\sh≠[]/\sh.length<=4/\(∀p∈sh,p.1∈js/\1<=p.2/\p.2<=1000)/\(js.Nodup->(sh.map (·.1)).Pairwise (· < ·))
theorem Lk{a b:Nat}{ws cs:List Int}(hw:∀w∈ws,Sm a w)(hc:∀c∈cs,Sm b c)(hl:ws.length<=60):Sm (a+b+10) (dot ws cs):=by
 have h:=yN (b:=a+b) ((ws.zip cs).map λp=>p.1*p.2) λz hz=>by
  obtain⟨⟨w,c⟩,hp,rfl⟩:=Zq.mp hz
  have hm:=List.of_mem_zip hp
  exact gK (hw w hm.1) (hc c hm.2)
 unfold dot
 generalize ((ws.zip cs).map λp=>p.1*p.2).sum=z at *
 rw[Zu,List.length_zip]at h
 unfold Sm
 have:min ws.length cs.length*2 ^ (a+b)<2 ^ 10*2 ^ (a+b):=Nat.mul_lt_mul_of_pos_right (by omega) (Nat.two_pow_pos _)
 rw[<-Nat.pow_add]at this
 rw[Nat.add_comm (a+b) 10]
 omega
def wN(many:Int):List Int:=(List.range many.toNat).map λ(k:Nat)=>(0+(k:Int))
theorem Mf{many:Int}:cu 0 many.toNat=(wN many).map D.int:=by unfold cu wN;rw[List.map_map];rfl
theorem BK{many:Int}:(wN many).length=many.toNat:=by unfold wN;simp
theorem DY{many:Int}:∀j∈wN many,0<=j/\j<many:=λj hj=>by
 obtain⟨k,hk,rfl⟩:=Zq.mp hj
 have:=List.mem_range.mp hk
 omega
def wW(φ:FF):Prop:=∀(d:Nat)(ps:List (List Int))(sh:List (Int×Int))(μ:Mu),eG μ->1<=d->d<=9->(∀p∈ps,gk (d+1) p)->sh≠[]->sh.length<=60->Fz ps.length sh->φ [.lst (ps.map aD),.tup (sh.map fK)] μ=some (aD (vz (jP (d+1) (bR ps sh) (sh.map (·.2)))),μ)
theorem pq{φ:FF}(hφ:ik φ)(x m:Int)(m1:1<=m)(m2:m<=1000)(all:List D)(μ:Mu):∀(ys:List Int),(∀j∈ys,0<=j/\j<100)->∃sh:List (Int×Int),
  lcL ⟨all,none⟩ (aJ 0) bK (MC (ao (aq 0) (ao (M2 (mC (.int 1)) (M2 (MC (ao (aq 1) (ao (M2 (aq 0) (mC (.int 60)) bD) (aB))) φ) (aq 2) bw) bD) (aB))) gY) [none,some (.int x),some (.int m)] (ys.map .int) μ=some (sh.map fK,μ)/\sh.map (·.1)=ys/\∀p∈sh,1<=p.2/\p.2<=1000
 | [],_=>⟨[],by simp only[List.map_nil];unfold lcL;simp[bx],rfl,by simp⟩
 |j::ys,hj=>by
  obtain⟨j0,j1⟩:=hj j (by simp)
  obtain⟨r,er,_⟩:=hφ x (j+60) μ (by omega) (by omega)
  obtain⟨sh,e,hf,hs⟩:=pq hφ x m m1 m2 all μ ys λi hi=>hj i (by simp[hi])
  obtain⟨q0,q1⟩:=aN (x:=r) (m:=m) (by omega)
  have eo:=dj (x:=r) (y:=m) μ (by omega)
  refine⟨(j,1+r.fmod m)::sh,?_,by rw[Zj,hf],λp hp=>?_⟩
  .rw[Zj]
   generalize ys.map D.int=YD at *
   unfold lcL
   simp[bx,bK,er,eo,e,fK]
  .rcases Zi.mp hp with h|h
   .rw[h];constructor<;>simp only<;>omega
   .exact hs p h
theorem zR{φ1 φ2:FF}(h1:cZ φ1)(h2:ik φ2):mZ (trunc (aL 6 (fL φ1 φ2))):=λL js hL hne hl hj=>by
 obtain⟨x,L1,e1,hx,hL1⟩:=bW h1 hL []
 obtain⟨kz,e2⟩:=wH h2 3 (by decide) (by decide) x [some (L1.map .int)] js hj
 obtain⟨ts,e3,hp⟩:=vV kz js
 have hlen:ts.length=js.length:=hp.length_eq
 have hpos:0<js.length:=List.length_pos_iff.mpr hne
 obtain⟨m,hm⟩:∃m:Int,min 4 (ts.length:Int)=m:=⟨_,rfl⟩
 have hm1:1<=m:=by omega
 have hm4:m<=4:=by omega
 obtain⟨q0,q1⟩:=aN (x:=x) (m:=m) (by omega)
 have eo:=dj (x:=x) (y:=m) [some (L1.map .int)] (by omega)
 have es:=Ke (ds:=ts.map D.int) (i:=1+x.fmod m) (μ:=[some (L1.map .int)]) (by omega)
 rw[<-List.map_take]at es
 have hsub:∀j∈PySem.W.sortI (ts.take (1+x.fmod m).toNat),j∈js:=λj hjm=>hp.mem_iff.mp (List.mem_of_mem_take ((PySem.W.sortI_perm _).mem_iff.mp hjm))
 have hsl:(PySem.W.sortI (ts.take (1+x.fmod m).toNat)).length=min (1+x.fmod m).toNat ts.length:=by rw[(PySem.W.sortI_perm _).length_eq,List.length_take]
 have e4:sI ((ts.take (1+x.fmod m).toNat).map D.int)=some ((PySem.W.sortI (ts.take (1+x.fmod m).toNat)).map .int):=by
  unfold sI
  rw[if_pos (by rw[Zu,List.length_take];omega),qx]
 have v4:=iW (i:=x) (j:=4) (μ:=[some (L1.map .int)]) (by decide) (by decide)
 obtain⟨w0,w1⟩:=aN (x:=x.fdiv 4) (m:=3) (by decide)
 obtain⟨sz,hsz,esz⟩:=lE (ds:=[D.int 3,.int 7,.int 1000]) w0 w1
 have hsz:∃z:Int,sz= .int z/\1<=z/\z<=1000:=by
  simp only[Zi,ZF,or_false]at hsz
  rcases hsz with rfl|rfl|rfl<;>exact⟨_,rfl,by decide,by decide⟩
 obtain⟨sz,rfl,sz1,sz2⟩:=hsz
 obtain⟨sh,e5,hf,hs⟩:=pq h2 x sz sz1 sz2 ((PySem.W.sortI (ts.take (1+x.fmod m).toNat)).map .int) [some (L1.map .int)] (PySem.W.sortI (ts.take (1+x.fmod m).toNat)) λj hjm=>hj j (hsub j hjm)
 have hris:js.Nodup->(sh.map (·.1)).Pairwise (· < ·):=λhn=>by
  rw[hf]
  exact zE (hp.nodup_iff.mpr hn)
 have hshl:sh.length=min (1+x.fmod m).toNat ts.length:=by rw[<-hsl,<-hf,Zu]
 refine⟨sh,L1,?_,hL1,λz=>by rw[z]at hshl;simp at hshl;omega,by omega,λp hpm=>⟨hsub p.1 (by rw[<-hf];exact Zq.mpr ⟨p,hpm,rfl⟩),hs p hpm⟩,hris⟩
 have z6:(PySem.W.sortI (ts.take (1+x.fmod m).toNat)).length<=1000:=by omega
 have hjl:(js.map D.int).length<64:=by simpa using hl
 have hl3:(ts.map D.int).length=ts.length:=by simp
 generalize PySem.W.sortI (ts.take (1+x.fmod m).toNat)=ys at *
 generalize (ts.take (1+x.fmod m).toNat).map D.int=TK at *
 have hz:(ys.map D.int).length<=1000:=by simpa using z6
 have elen:cF (.lst (ts.map D.int)) [some (L1.map .int)]=some (.int ts.length,[some (L1.map .int)]):=by rw[jN,hl3]
 have emin:mz (.int 4) (.int (ts.length:Int)) [some (L1.map .int)]=some (.int m,[some (L1.map .int)]):=by rw[Jc,hm]
 generalize (ts.length:Int)=tl at *
 generalize ts.map D.int=TD at *
 generalize js.map D.int=JD at *
 generalize ys.map D.int=YD at *
 generalize sh.map fK=SD at *
 have key:Ok (aL 6 (fL φ1 φ2) [.cell 0,.lst JD] [some (L.map .int)]) (λr=>r=(.tup SD,[some (L1.map .int)])):=by
  apply dI
  unfold fL
  simp[e1,hjl,dg,e2,e3,elen,emin,eo,es,e4,v4,esz,hz,e5,-jN,-Jc]
 exact iJ (mj key) rfl
theorem lQ:∀qs:List (List Int),cN (qs.map aD)=true/\fD (qs.map aD)<=1
 | []=>⟨by simp[cN],by simp[fD]⟩
 |q::qs=>by
  obtain⟨a,b⟩:=lQ qs
  refine⟨?_,?_⟩
  .rw[Zj,cN,a];unfold aD;rw[bL,iK];rfl
  .rw[Zj,fD];unfold aD at *;rw[dh,jB];omega
def Kr(φ:FF):Prop:=∀(ws cs:List Int)(μ:Mu),(∀w∈ws,Sm 9000 w)->(∀c∈cs,Sm 9000 c)->φ [aD ws,aD cs] μ=some (.int (dot ws cs),μ)
theorem FQ:Kr (trunc (aL 2 bC)):=λws cs μ hw hc=>by
 apply gA
 have e:=vZ (th:=thG (jb 2 (bO (aJ 0) (bO (aJ 1) jd))) (M2 (aq 0) (aq 1) bI) (dg ["one","other"] [some (aD ws),some (aD cs)] [])) (F:=λp:Int×Int=>.tup [D.int p.1,.int p.2]) (g:=λp=>p.1*p.2) (μ:=μ) (ws.zip cs) 0 λp hp=>by
  obtain⟨p1,p2⟩:=p
  have hm:=List.of_mem_zip hp
  have:=bh (x:=p1) (y:=p2) μ (hw _ hm.1) (hc _ hm.2) (by decide)
  simp[thG,dg,this]
 have ez:=nq (F:=D.int) (G:=D.int) ws cs
 unfold dot aD
 unfold aD at e
 simp[bC,ez]
 rw[List.map_map]at e
 rw[e]
 simp
structure SpR(d:Nat)(r:List Int):Prop where
 len:r.length=d+1
 sm:∀x∈r,Sm 9000 x
theorem SpR.ne{d:Nat}{r:List Int}(h:SpR d r):r≠[]:=λz=>by
 have:=h.len
 rw[z]at this
 simp at this
theorem SpR.last{d:Nat}{r:List Int}(h:SpR d r):atI (r.map D.int) (-1)=some (.int (bf r)):=jD h.ne
theorem SpR.vL{d:Nat}{r:List Int}(h:SpR d r):Sm 9000 (bf r):=by
 apply h.sm
 unfold bf
 cases r with
 |nil=>exact absurd rfl h.ne
 |cons a b=>simp[List.getLastD]
theorem vg:∀(ns r:List Int),r.length=ns.length+1->dot ns r=dot ns r.dropLast
 | [],r,_=>by simp[dot]
 |n::ns,[],h=>by simp at h
 |n::ns,[x],h=>by simp at h
 |n::ns,x::y::r,h=>by
  have:=vg ns (y::r) (by simpa using h)
  rw[jF,List.dropLast_cons₂,jF,this]
def Dy(φ:FF):Prop:=∀(d:Nat)(ns r:List Int)(μ:Mu),d<=9->ns.length=d->(∀n∈ns,Sm 2000 n)->SpR d r->φ [aD ns,aD r] μ=some (.tup [.int (dot ns r.dropLast),.int (bf r)],μ)
theorem Hm:Dy (trunc (aL 2 nW)):=λd ns r μ d9 hl hn hr=>by
 apply gA
 have ez:=nq (F:=D.int) (G:=D.int) ns r
 have ec:=iu (all:=je (ns.map D.int) (r.map D.int)) (h:=jb 2 (bO (aJ 0) (bO (aJ 1) (jd)))) (fe:=M2 (aq 0) (aq 1) bI) (δb:=[none,none]) (F:=λp:Int×Int=>D.tup [.int p.1,.int p.2]) (f:=λp=>D.int (p.1*p.2)) (μ:=μ) (ns.zip r) λp hp=>by
  obtain⟨p1,p2⟩:=p
  have hm:=List.of_mem_zip hp
  have:=bh (x:=p1) (y:=p2) μ (hn _ hm.1) (hr.sm _ hm.2) (by decide)
  exact⟨[some (.int p1),some (.int p2)],by simp,by simp[this]⟩
 rw[<-ez]at ec
 have es:=vR μ ((ns.zip r).map λp=>p.1*p.2) 0
 have ed:((ns.zip r).map λp=>p.1*p.2).sum=dot ns r.dropLast:=vg ns r (by rw[hr.len,hl])
 rw[ed,Int.zero_add]at es
 have e3:oIx (aD r) (.int (-1)) μ=some (.int (bf r),μ):=by
  unfold aD
  rw[qH]
  simp[hr.last]
 have f1:dC (aD ns)=some (ns.map D.int):=rfl
 have f2:dC (aD r)=some (r.map D.int):=rfl
 have fm:(ns.zip r).map (λp=>D.int (p.1*p.2))=((ns.zip r).map λp=>p.1*p.2).map D.int:=by simp
 rw[fm]at ec
 have zz:(je (ns.map D.int) (r.map D.int)).length<=1000:=by rw[ez];simp;omega
 generalize ((ns.zip r).map λp=>p.1*p.2).map D.int=M at *
 generalize aD ns=N at *
 generalize aD r=R at *
 generalize dot ns r.dropLast=S at *
 generalize bf r=b at *
 unfold nW
 simp[f1,f2,zz,dg,ec,es,e3,-qH]
theorem Bp:∀(ns:List Int)(k:Nat),(∀n∈ns,Sm k n)->Sm (k+ns.length) ns.sum
 | [],k,_=>by unfold Sm;exact Nat.pos_of_ne_zero (by simp)
 |n::ns,k,h=>by
  have h1:=Bp ns k λx hx=>h x (by simp[hx])
  rw[List.sum_cons,ZH]
  exact Dd (bu (h n (by simp)) (Nat.le_add_right _ _)) h1
theorem pQ{ns r:List Int}{d:Nat}(hl:ns.length=d)(hn:∀n∈ns,Sm 2000 n)(hr:SpR d r)(hd:d<=9):Sm 20000 (dot ns r.dropLast):=by
 unfold dot
 have:=Bp ((ns.zip r.dropLast).map λp=>p.1*p.2) 11000 λx hx=>by
  obtain⟨p,hp,rfl⟩:=Zq.mp hx
  have hm:=List.of_mem_zip (a:=p.1) (b:=p.2) hp
  exact gK (a:=2000) (b:=9000) (hn _ hm.1) (hr.sm _ ((List.dropLast_sublist _).mem hm.2))
 refine bu this ?_
 simp
 omega
theorem vU{d:Nat}:∀(ps0:List D),(∀p∈ps0,lZ d p)->∃ps:List (List Int),ps0=ps.map aD/\∀p∈ps,gk (d+1) p
 | [],_=>⟨[],rfl,by simp⟩
 |p::ps0,h=>by
  obtain⟨ps,e,hp⟩:=vU ps0 λq hq=>h q (by simp[hq])
  obtain⟨ns,b,rfl,h1,h2⟩:=h p (by simp)
  refine⟨(ns++[b])::ps,by rw[e];rfl,λq hq=>?_⟩
  rcases Zi.mp hq with z|z
  .rw[z];exact PtL.row h1
  .exact hp q z
theorem CJ:∀(ns:List Int),0<=(ns.map λn=>n*n).sum
 | []=>by simp
 |n::ns=>by
  have:=CJ ns
  have h2:0<=n*n:=by
   rcases Int.le_total 0 n with h|h
   .exact Int.mul_nonneg h h
   .exact Int.mul_nonneg_of_nonpos_of_nonpos h h
  simp only[Zj,List.sum_cons]
  omega
theorem wC:∀(l:List Int),l≠[]->jo l∈l
 | [],h=>absurd rfl h
 | [a],_=>by simp[jo]
 |a::b::l,_=>by
  unfold jo
  have:=wC (b::l) (by simp)
  by_cases hab:a<=jo (b::l)
  .rw[Int.max_eq_right hab];exact ZE _ this
  .rw[Int.max_eq_left (by omega)];simp
theorem HX(a b:List Int)(μ:Mu):oEq (.lst (a.map .int)) (.lst (b.map .int)) μ=some (.bl (a==b),μ):=by
 unfold oEq
 have e1:∀c:List Int,rsv (.lst (c.map .int)) μ= .lst (c.map .int):=λc=>rfl
 have e2:∀c:List Int,bL (.lst (c.map .int))=true:=λc=>by rw[bL];exact iK c
 have e3:dh (.lst (a.map .int))<100:=by rw[dh,jB];decide
 have e4:eqD (.lst (a.map .int)) (.lst (b.map .int))=(a==b):=by rw[eqD,sG]
 rw[e1,e1,e2,e2,e4,if_pos ⟨rfl,e3⟩]
theorem Fd{n:Nat}(a b:List Int)(μ:Mu)(h:μ[n]? =some (some (a.map .int))):oEq (.cell n) (.lst (b.map .int)) μ=some (.bl (a==b),μ):=by
 have e:rsv (.cell n) μ= .lst (a.map .int):=by unfold rsv;simp only[h]
 have:=HX a b μ
 unfold oEq at this ⊢
 rw[e]
 exact this
theorem uM{φ:FF}{as:List D}{L:List Int}{P:D->List Int->Prop}(h:Ok (φ as [some (L.map .int)]) (λr=>∃(d:D)(L':List Int)(junk:Mu),r=(d,some (List.map D.int L')::junk)/\nc d/\P d L')):∃d L',trunc φ as [some (L.map .int)]=some (d,[some (List.map D.int L')])/\P d L':=by
 obtain⟨r,e,d,L',junk,rfl,hn,hp⟩:=h
 exact⟨d,L',nG (μ':=[some (L'.map .int)]) (junk:=junk) e rfl hn eG.nil.dr,hp⟩
def yF(φ:FF):Prop:=∀(d:Int)(L:List Int),1<=d->d<=3->DlD L->∃(ns L':List Int),φ [.cell 0,.int d] [some (L.map .int)]=some (aD ns,[some (L'.map .int)])/\DlD L'/\ns.length=d.toNat/\∀n∈ns,Sm 22 n
theorem Br{φ:FF}(hφ:ik φ)(x z:Int)(z1:1<=z)(z2:z<=2000001)(hx:0<=x)(all:List D)(μ:Mu):∀(its:List D),(∀i∈its,∃k:Int,i= .int k/\0<=k/\k<100)->∃ns:List Int,
  lcL ⟨all,none⟩ (aJ 0) bK (M2 (M2 (MC (ao (aq 1) (ao (M2 (aq 0) (mC (.int 5)) bD) (aB))) φ) (aq 2) bw) (M2 (aq 2) (mC (.int 2)) dm) dF) [none,some (.int x),some (.int z)] its μ=some (ns.map .int,μ)/\ns.length=its.length/\∀n∈ns,Sm 22 n
 | [],_=>⟨[],by unfold lcL;simp[bx],rfl,λn h=>by cases h⟩
 |i::its,h=>by
  obtain⟨k,rfl,k0,k1⟩:=h i (by simp)
  obtain⟨ns,e,hl,hs⟩:=Br hφ x z z1 z2 hx all μ its λj hj=>h j (by simp[hj])
  have v2:=iW (i:=z) (j:=2) (μ:=μ) (by decide) (by decide)
  obtain⟨r,er,hr⟩:=hφ x (k+5) μ (by omega) (by omega)
  obtain⟨m0,m1⟩:=aN (x:=r) (m:=z) (by omega)
  have wm:=dj (x:=r) (y:=z) μ (by omega)
  have hz2:0<=z.fdiv 2/\z.fdiv 2<=z:=by rw[ZD _ (by decide)];omega
  generalize hq:r.fmod z=q at *
  generalize z.fdiv 2=z' at *
  refine⟨(q-z')::ns,?_,by simp[hl],λn hn=>?_⟩
  .unfold lcL
   simp[bx,bK,v2,er,wm,e]
  .rcases Zi.mp hn with w|w
   .rw[w];exact gj 4000003 (by omega) (by decide)
   .exact hs n w
theorem Bf{φ1 φ2:FF}(h1:cZ φ1)(h2:ik φ2):yF (trunc (aL 5 (mO φ1 φ2))):=λd L d1 d3 hL=>by
 obtain⟨x,L1,e1,hx,hL1⟩:=bW h1 hL []
 obtain⟨i0,i1⟩:=aN (x:=x) (m:=4) (by decide)
 obtain⟨sz,hsz,esz⟩:=lE (ds:=[D.int 3,.int 5,.int 21,.int 2000001]) i0 i1
 have hsz:∃z:Int,sz= .int z/\1<=z/\z<=2000001:=by
  simp only[Zi,ZF,or_false]at hsz
  rcases hsz with rfl|rfl|rfl|rfl<;>exact⟨_,rfl,by decide,by decide⟩
 obtain⟨z,rfl,z1,z2⟩:=hsz
 obtain⟨ns,e2,hl,hs⟩:=Br h2 x z z1 z2 hx.1 (cu 0 d.toNat) [some (L1.map .int)] (cu 0 d.toNat) λi hi=>by
  obtain⟨k,e,k0,k1⟩:=lB hi
  exact⟨k,e,k0,by omega⟩
 rw[cQ]at hl
 have e6:∀μ,qG (.int 10) (.int 6) μ=some (.int 1000000,μ):=λμ=>by unfold qG;rfl
 have em:∀μ,bI (.int 2) (.int 1000000) μ=some (.int 2000000,μ):=λμ=>bh (x:=2) (y:=1000000) (a:=2) (b:=20) μ (gj 3 (by decide) (by decide)) (gj 1000001 (by decide) (by decide)) (by decide)
 have rd:=nR (j:=d) (μ:=[some (L1.map .int)]) (by omega) (by omega)
 have zd:(cu 0 d.toNat).length<=1000:=by rw[cQ];omega
 have v4:=λμ=>iW (i:=x) (j:=4) (μ:=μ) (by decide) (by decide)
 obtain⟨w0,w1⟩:=aN (x:=x.fdiv 4) (m:=d) (by omega)
 have wd:=λμ=>dj (x:=x.fdiv 4) (y:=d) μ (by omega)
 have ez:∀μ,bI (.lst [.int 0]) (.int d) μ=some (.lst ((List.replicate d.toNat (0:Int)).map .int),μ):=λμ=>by
  rw[mulL (ds:=[D.int 0]) (by omega) (by omega) (by simp;omega)]
  simp
 have ee:=Fd (n:=1) ns (List.replicate d.toNat 0) [some (L1.map .int),some (ns.map .int)] rfl
 have hix:ixN (ns.map D.int).length ((x.fdiv 4).fmod d)=some ((x.fdiv 4).fmod d).toNat:=by unfold ixN;rw[if_pos w0,if_pos (by simp;omega)]
 have hset:(ns.map D.int).set ((x.fdiv 4).fmod d).toNat (.int 1)=(ns.set ((x.fdiv 4).fmod d).toNat 1).map .int:=by rw[List.map_set]
 generalize (x.fdiv 4).fmod d=j at *
 generalize hms:ns.set j.toNat 1=ms at *
 have hml:ms.length=d.toNat:=by rw[<-hms];simpa using hl
 have hmm:∀n∈ms,Sm 22 n:=λn hn=>by
  rw[<-hms]at hn
  rcases List.mem_or_eq_of_mem_set hn with q|q
  .exact hs n q
  .rw[q];exact gj 2 (by decide) (by decide)
 have r1:D.tup (ns.map .int)=aD ns:=rfl
 have r2:D.tup (ms.map .int)=aD ms:=rfl
 generalize (List.replicate d.toNat (0:Int)).map D.int=Z0 at *
 generalize cu 0 d.toNat=RG at *
 clear hms
 have hz:(ns.map D.int).length<=1000:=by simp;omega
 have hz':(ms.map D.int).length<=1000:=by simp;omega
 have key:Ok (aL 5 (mO φ1 φ2) [.cell 0,.int d] [some (L.map .int)]) (λr=>∃(t:D)(L':List Int)(junk:Mu),r=(t,some (L'.map .int)::junk)/\nc t/\∃ns:List Int,t=aD ns/\DlD L'/\ns.length=d.toNat/\∀n∈ns,Sm 22 n):=by
  apply dI
  unfold mO
  generalize ns.map D.int=ND at *
  generalize ms.map D.int=MD at *
  cases hb:(ns==List.replicate d.toNat 0)with
  |false=>
   rw[hb]at ee
   simp[e1,e6,em,esz,rd,zd,dg,e2,ez,ee]
   exact⟨aD ns,L1,⟨r1,rfl⟩,jU.mpr iB,ns,rfl,hL1,hl,hs⟩
  |true=>
   rw[hb]at ee
   simp[e1,e6,em,esz,rd,zd,dg,e2,ez,ee,v4,wd,L3.rC,hix,hset]
   exact⟨aD ms,L1,⟨r2,rfl⟩,jU.mpr iB,ms,rfl,hL1,hml,hmm⟩
 obtain⟨t,L',e,ns,rfl,a,b,c⟩:=uM key
 exact⟨ns,L',e,a,b,c⟩
def sqV(ns:List Int):Int:=(ns.map λn=>n*n).sum
structure PtB(d b:Nat)(p:List Int):Prop where
 len:p.length=d+1
 sm:∀n∈p,Sm b n
 b1:1<=bf p
 b2:bf p<64
theorem zc:∀(l:List Int)(x:Int),x∈l->x<=jo l
 | [],x,h=>by cases h
 | [a],x,h=>by rw[ZI.mp h];exact Int.le_refl _
 |a::b::l,x,h=>by
  unfold jo
  rcases Zi.mp h with z|z
  .omega
  .have:=zc (b::l) x z
   omega
theorem zu{φ:FF}(hφ:cZ φ)(all:List D)(rest:Mu):∀(its:List D)(L:List Int),DlD L->∃(ns L':List Int),lcL ⟨all,none⟩ (aJ 0) bK (M2 (M2 (MC (ao (aq 1) (aB)) φ) (mC (.int 5)) bw) (mC (.int 2)) dF) [none,some (.cell 0)] its (some (L.map .int)::rest)=some (ns.map .int,some (L'.map .int)::rest)/\DlD L'/\ns.length=its.length/\∀n∈ns,n.natAbs<=2
 | [],L,hL=>⟨[],L,by unfold lcL;simp[bx],hL,rfl,λn h=>by cases h⟩
 |i::its,L,hL=>by
  obtain⟨x,L1,e1,hx,hL1⟩:=bW hφ hL rest
  obtain⟨ns,L2,e2,hL2,hl,hs⟩:=zu hφ all rest its L1 hL1
  obtain⟨m0,m1⟩:=aN (x:=x) (m:=5) (by decide)
  generalize hq:x.fmod 5=q at *
  refine⟨(q-2)::ns,L2,?_,hL2,by simp[hl],λn hn=>?_⟩
  .unfold lcL
   simp[bx,bK,e1,hq,e2]
  .rcases Zi.mp hn with z|z
   .rw[z];omega
   .exact hs n z
def Jg(φ:FF):Prop:=∀(x d:Int)(μ:Mu),eG μ->Dr x->1<=d->d<=3->∃(ns:List Int)(b:Int),φ [.int x,.int d,.int 2,.int 0] μ=some (aD (ns++[b]),μ)/\ns.length=d.toNat/\(∀n∈ns,n.natAbs<=5)/\1<=b/\b<=3/\bJ b.natAbs ns=1
theorem vP:trunc (aL 2 xP)=trunc (aL 2 nW):=rfl
def Pr(p:List Int):Prop:=(∀n∈p,n.natAbs<=5)/\bf p<=3
theorem Dg{φ1 φ2:FF}(h1:ik φ1)(h2:Jg φ2){x d:Int}(d1:1<=d)(d3:d<=3)(all:List D){μ:Mu}(hm:eG μ):∀(its:List D),(∀i∈its,∃k:Int,i= .int k/\0<=k/\k<90)->∃ps:List (List Int),
  lcL ⟨all,none⟩ (aJ 0) bK (MC (ao (MC (ao (aq 1) (ao (aq 0) (aB))) φ1) (ao (aq 2) (ao (mC (.int 2)) (ao (mC (.int 0)) (aB))))) φ2) [none,some (.int x),some (.int d)] its μ=some (ps.map aD,μ)/\ps.length=its.length/\(∀p∈ps,PtB d.toNat 14 p)/\∀p∈ps,Pr p
 | [],_=>⟨[],by unfold lcL;simp[bx],rfl,(λn h=>by cases h),λn h=>by cases h⟩
 |i::its,h=>by
  obtain⟨k,rfl,k0,k1⟩:=h i (by simp)
  obtain⟨ps,e,hl,hs,ht⟩:=Dg h1 h2 d1 d3 all hm its λj hj=>h j (by simp[hj])
  obtain⟨y,ey,hy⟩:=h1 x k μ (by omega) (by omega)
  obtain⟨ns,b,ep,hnl,hns,b1,b3,_⟩:=h2 y d μ hm hy d1 d3
  have hlast:bf (ns++[b])=b:=by unfold bf;simp
  have hall:∀n∈ns++[b],n.natAbs<=5:=λn hn=>by
   rcases Zm.mp hn with z|z
   .exact hns n z
   .rw[ZI.mp z];omega
  refine⟨(ns++[b])::ps,?_,by simp[hl],λq hq=>?_,λq hq=>?_⟩
  .rw[Zj]
   generalize aD (ns++[b])=R at *
   unfold lcL
   simp[bx,bK,ey,ep]
   rw[e]
   rfl
  .rcases Zi.mp hq with z|z
   .rw[z]
    exact⟨by simp[hnl],λn hn=>gj 10001 (by have:=hall n hn;omega) (by decide),by omega,by omega⟩
   .exact hs q z
  .rcases Zi.mp hq with z|z
   .rw[z]
    exact⟨hall,by omega⟩
   .exact ht q z
def R2(d:Nat)(r:List Int):Prop:=r.length=d/\∀n∈r,n.natAbs<=2
theorem st1{φ:FF}(hφ:cZ φ){d:Int}(d1:1<=d)(d3:d<=3)(m:Int)(tl:En)(all:List D):∀(n:Nat)(its:List D),its.length=n->n<=9->∀(L:List Int)(acc:List (List Int))(o4:Option D),DlD L->acc.length+n<=9->(∀r∈acc,R2 d.toNat r)->∃(rows:List (List Int))(L':List Int)(o:Option D),
  gn ⟨all,none⟩ (aJ 4) (dH (dW (aq 3) (ao (MC (ao (mFz (lLC ["_law_k"] [0] (bH (ao (aq 1) (aB))) (aJ 0) (bK) (M2 (M2 (MC (ao (aq 1) (aB)) φ) (mC (.int 5)) bw) (mC (.int 2)) dF))) (aB)) gh) (aB)))) its (some (.cell 0)::some (.int d)::some (.int m)::some (.cell 1)::o4::tl) [some (L.map .int),some (acc.map aD)]=some (.nx,some (.cell 0)::some (.int d)::some (.int m)::some (.cell 1)::o::tl,[some (L'.map .int),some (rows.map aD)])/\DlD L'/\rows.length=acc.length+n/\∀r∈rows,R2 d.toNat r
 |0,its,h,_,L,acc,o4,hL,ha,hr=>by
  have:=List.eq_nil_of_length_eq_zero h
  subst this
  exact⟨acc,L,o4,by unfold gn;rw[if_pos tK],hL,rfl,hr⟩
 |n+1,i::its,h,hn,L,acc,o4,hL,ha,hr=>by
  obtain⟨ns,L1,e1,hL1,hl,hs⟩:=zu hφ (cu 0 d.toNat) [some (acc.map aD)] (cu 0 d.toNat) L hL
  rw[cQ]at hl
  obtain⟨rows,L2,o,e2,hL2,hl2,hr2⟩:=st1 hφ d1 d3 m tl all n its (by simpa using h) (by omega) L1 (acc++[ns]) (some i) hL1 (by simp;omega) (λr hrm=>by
   rcases Zm.mp hrm with z|z
   .exact hr r z
   .rw[ZI.mp z];exact⟨hl,hs⟩)
  refine⟨rows,L2,o,?_,hL2,by rw[hl2];simp;omega,hr2⟩
  have rd:=nR (j:=d) (μ:=[some (L.map .int),some (acc.map aD)]) (by omega) (by omega)
  have zd:(cu 0 d.toNat).length<=1000:=by rw[cQ];omega
  have za:(acc.map aD).length<sizeLine:=Zc (by simp;omega:_<1000) (by decide)
  have zns:(ns.map D.int).length<=1000:=by simp;omega
  rw[List.map_append,Zj,List.map_nil]at e2
  have er:aD ns= .tup (ns.map .int):=rfl
  rw[er]at e2
  generalize ns.map D.int=ND at *
  generalize cu 0 d.toNat=RG at *
  generalize acc.map aD=AD at *
  unfold gn
  rw[if_pos tK]
  simp[rd,zd,dg,e1,dW,dD,za,e2]
theorem mulT{ds:List D}{k:Int}{μ:Mu}(h0:0<=k)(h1:k<=1000)(hl:ds.length*k.toNat<=1000):bI (.tup ds) (.int k) μ=some (.tup (List.replicate k.toNat ds).flatten,μ):=if_pos ⟨by omega,by omega,Zl hl (by decide)⟩
theorem Gu{d:Int}{μ:Mu}(d1:0<=d)(d3:d<=100):bI (.tup [.int 1]) (.int d) μ=some (aD (List.replicate d.toNat 1),μ):=by
 rw[mulT (ds:=[D.int 1]) d1 (by omega) (by show 1*d.toNat<=1000;omega)]
 unfold aD
 simp
theorem BP{r:List Int}(h:∃n∈r,n≠0):1<=sqV r:=by
 induction r with
 |nil=>obtain⟨n,hn,_⟩:=h;cases hn
 |cons a r ih=>
  have h0:=CJ r
  have e:sqV (a::r)=a*a+sqV r:=by unfold sqV;simp
  have h0:0<=sqV r:=h0
  rw[e]
  by_cases ha:a=0
  .have:=ih (by
    obtain⟨n,hn,hz⟩:=h
    rcases Zi.mp hn with z|z
    .exact absurd (z.trans ha) hz
    .exact⟨n,z,hz⟩)
   rw[ha]
   omega
  .have p:0<a.natAbs*a.natAbs:=Nat.mul_pos (by omega) (by omega)
   have q:((a.natAbs*a.natAbs:Nat):Int)=a*a:=Int.natAbs_mul_self
   omega
theorem JK(ns:List Int)(all:List D)(μ:Mu):lcL ⟨all,none⟩ (aJ 0) bK (MC (ao (aq 0) (aB)) (aW lw)) [none] (ns.map D.int) μ=some ((ns.map λn=>(n.natAbs:Int)).map D.int,μ):=by
 rw[List.map_map]
 exact iu (F:=D.int) ns λn hn=>⟨[some (.int n)],by simp,by simp⟩
theorem st2{d m:Int}(d1:1<=d)(d3:d<=3){tl:En}{L:List Int}{r0:List Int}{rest:List (List Int)}(hr:∀r∈r0::rest,R2 d.toNat r):∃r1:List Int,(sIf (jV (toB (M2 (aq 3) (MC (aB) gf) uK)) (toB (M2 (MC (ao (mFz (lLC ["_law_one"] [] (fV (M2 (aq 3) (mC (.int 0)) oIx)) (aJ 0) (bK) (MC (ao (aq 0) (aB)) (aW lw)))) (aB)) (aW sJ)) (mC (.int 0)) oEq))) (pF (M2 (MC (ao (mC (.int 1)) (aB)) gY) (aq 1) bI) (aq 3) (mC (.int 0))) (bZ)) (some (.cell 0)::some (.int d)::some (.int m)::some (.cell 1)::tl) [some (L.map .int),some ((r0::rest).map aD)]=some (.nx,some (.cell 0)::some (.int d)::some (.int m)::some (.cell 1)::tl,[some (L.map .int),some ((r1::rest).map aD)])/\R2 d.toNat r1/\1<=sqV r1:=by
 obtain⟨h0l,h0s⟩:=hr r0 (by simp)
 have hne:(r0.map λn=>(n.natAbs:Int))≠[]:=λz=>by
  have:=congrArg List.length z
  simp at this
  rw[this]at h0l
  simp at h0l
  omega
 have e1:=λμ=>wg (μ:=μ) hne
 have ec:=λμ=>JK r0 (r0.map D.int) μ
 have src:∀μ,nu (aD r0) μ=some ⟨r0.map .int,none⟩:=λ_=>rfl
 have zz:(r0.map D.int).length<=1000:=by simp;omega
 have a0:atI (aD r0::rest.map aD) 0=some (aD r0):=by
  have:=(pR (F:=aD) (l:=r0::rest) (k:=0) (z:=[]) (by decide) (by rw[ZH];omega)).1
  exact this
 have en:uK (.cell 1) (.lst []) [some (L.map D.int),some (aD r0::rest.map aD)]=some (.bl true,[some (L.map D.int),some (aD r0::rest.map aD)]):=by
  obtain⟨p1,p2⟩:=lQ (r0::rest)
  exact DQ (n:=1) (ps:=aD r0::rest.map aD) rfl p1 (Nat.lt_of_le_of_lt p2 (by decide))
 have it:∀l:List D,bF (.cell 1) [some (L.map D.int),some l]=some l:=λ_=>rfl
 have ix0:ixN (rest.length+1) 0=some 0:=by
  unfold ixN
  rw[if_pos (by decide),if_pos (by omega)]
  rfl
 obtain⟨M,hM⟩:∃M:Int,jo (r0.map λn=>(n.natAbs:Int))=M:=⟨_,rfl⟩
 have hg:=zc (r0.map λn=>(n.natAbs:Int))
 rw[hM]at e1 hg
 have eo:=λμ=>Gu (d:=d) (μ:=μ) (by omega) (by omega)
 by_cases h0:M=0
 .refine⟨List.replicate d.toNat 1,?_,⟨by simp,λn hn=>by rw[List.eq_of_mem_replicate hn];decide⟩,BP ⟨1,by rw[List.mem_replicate];exact⟨by omega,rfl⟩,by decide⟩⟩
  subst h0
  rw[Zj,Zj]
  generalize (r0.map λn=>(n.natAbs:Int)).map D.int=AD at *
  generalize r0.map D.int=ND at *
  generalize aD r0=R at *
  generalize aD (List.replicate d.toNat 1)=O at *
  have hlen:(rest.map aD).length=rest.length:=by simp
  generalize rest.map aD=RD at *
  apply mj
  simp[a0,src,zz,dg,ec,e1,eo,L3.rC,hlen,ix0,en,it]
 .refine⟨r0,?_,⟨h0l,h0s⟩,BP ?_⟩
  .have h0':(M==0)=false:=beq_eq_false_iff_ne.mpr h0
   rw[Zj]
   generalize (r0.map λn=>(n.natAbs:Int)).map D.int=AD at *
   generalize r0.map D.int=ND at *
   generalize aD r0=R at *
   generalize rest.map aD=RD at *
   apply mj
   simp[a0,src,zz,dg,ec,e1,h0',en,it]
  .have hm:=wC _ hne
   rw[hM]at hm
   obtain⟨n,hn,e⟩:=Zq.mp hm
   exact⟨n,hn,λz=>h0 (by rw[<-e,z];rfl)⟩
def pC(l:List (List Int)):D:=.lst (l.map aD)
def Ph(d:Nat)(l:List (List Int)):Prop:=l≠[]/\l.length<=3/\(∀p∈l,PtB d 14 p)/\∀p∈l,Pr p
theorem Lr(l:List (List Int)):nc (pC l):=wV.mpr λd hd=>by
 obtain⟨q,_,rfl⟩:=Zq.mp hd
 exact jU.mpr iB
theorem st4{φ1 φ2 φ3:FF}(h1:cZ φ1)(h2:ik φ2)(h3:Jg φ3){d:Int}(d1:1<=d)(d3:d<=3)(m:Int)(o4:Option D)(tl:En)(RS:List D)(hRS:∀t∈RS,nc t):∀(n:Nat)(its:List D),its.length=n->n<=9->∀(L:List Int)(acc:List (List (List Int)))(o6 o7:Option D),DlD L->acc.length+n<=9->∃(lots:List (List (List Int)))(L':List Int)(o6' o7':Option D),
  gn ⟨RS,some 1⟩ (aJ 6) (aM (aR 7 (MC (ao (aq 0) (aB)) φ1)) (dH (dW (aq 5) (ao (mFz (lLC ["_law_j"] [7,1] (bH (ao (M2 (mC (.int 1)) (M2 (aq 7) (mC (.int 3)) bw) bD) (aB))) (aJ 0) (bK) (MC (ao (MC (ao (aq 1) (ao (aq 0) (aB))) φ2) (ao (aq 2) (ao (mC (.int 2)) (ao (mC (.int 0)) (aB))))) φ3))) (aB))))) its (some (.cell 0)::some (.int d)::some (.int m)::some (.cell 1)::o4::some (.cell 2)::o6::o7::tl) [some (L.map .int),some RS,some (acc.map pC)]=some (.nx,some (.cell 0)::some (.int d)::some (.int m)::some (.cell 1)::o4::some (.cell 2)::o6'::o7'::tl,[some (L'.map .int),some RS,some ((acc++lots).map pC)])/\DlD L'/\lots.length=n/\∀l∈lots,Ph d.toNat l
 |0,its,h,_,L,acc,o6,o7,hL,ha=>by
  have:=List.eq_nil_of_length_eq_zero h
  subst this
  have ok:Src.ok ⟨RS,some 1⟩ [some (L.map D.int),some RS,some (acc.map pC)]:=λn e=>by cases e;rfl
  exact⟨[],L,o6,o7,by unfold gn;rw[if_pos ok,List.append_nil],hL,rfl,λl hl=>by cases hl⟩
 |n+1,i::its,h,hn,L,acc,o6,o7,hL,ha=>by
  have ok:Src.ok ⟨RS,some 1⟩ [some (L.map D.int),some RS,some (acc.map pC)]:=λn e=>by cases e;rfl
  obtain⟨x,L1,e1,hx,hL1⟩:=bW h1 hL [some RS,some (acc.map pC)]
  obtain⟨m0,m1⟩:=aN (x:=x) (m:=3) (by decide)
  generalize hmo:x.fmod 3=mo at *
  obtain⟨q,hq⟩:∃q:Int,1+mo=q:=⟨_,rfl⟩
  have hmu:eG [some (L1.map D.int),some RS,some (acc.map pC)]:=(eG.cons hRS (eG.cons (λt ht=>by
   obtain⟨l,_,rfl⟩:=Zq.mp ht
   exact Lr l) eG.nil)).dr
  obtain⟨lot,e2,hl,hp,ht⟩:=Dg h2 h3 (x:=x) d1 d3 (cu 0 q.toNat) hmu (cu 0 q.toNat) λi hi=>by
   obtain⟨k,e,k0,k1⟩:=lB hi
   exact⟨k,e,k0,by omega⟩
  rw[cQ]at hl
  obtain⟨lots,L2,o6',o7',e3,hL2,hl2,hr2⟩:=st4 h1 h2 h3 d1 d3 m o4 tl RS hRS n its (by simpa using h) (by omega) L1 (acc++[lot]) (some i) (some (.int x)) hL1 (by simp;omega)
  refine⟨lot::lots,L2,o6',o7',?_,hL2,by simp[hl2],λl hlm=>?_⟩
  .have rd:=nR (j:=q) (μ:=[some (L1.map .int),some RS,some (acc.map pC)]) (by omega) (by omega)
   have zd:(cu 0 q.toNat).length<=1000:=by rw[cQ];omega
   have za:(acc.map pC).length<sizeLine:=Zc (by simp;omega:_<1000) (by decide)
   have er:acc++[lot]++lots=acc++lot::lots:=by simp
   rw[er,List.map_append (l₁:=acc) (l₂:=[lot]),Zj,List.map_nil]at e3
   have er2:pC lot= .lst (lot.map aD):=rfl
   rw[er2]at e3
   generalize lot.map aD=LT at *
   generalize cu 0 q.toNat=RG at *
   generalize (acc++lot::lots).map pC=FN at *
   generalize acc.map pC=AD at *
   unfold gn
   rw[if_pos ok]
   apply mj
   simp[e1,hmo,hq,rd,zd,dg,e2,dW,dD,za,e3]
  .rcases Zi.mp hlm with z|z
   .rw[z]
    exact⟨λw=>by rw[w]at hl;simp at hl;omega,by omega,hp,ht⟩
   .exact hr2 l z
abbrev Stp:=List Int×List (Int×Int)
theorem pJ{a:List Int}{i:Nat}(h:i<a.length):atI (a.map D.int) (0+(i:Int))=some (.int (a.getD i 0)):=by
 have:=(jL (ys:=a) (k:=0+(i:Int)) (by omega) (by omega)).1
 rw[this]
 congr 3
 omega
def vL(xs:List Stp):Stp:=xs.getLastD ([],[])
set_option maxHeartbeats 2000000
def shD(a f s:Int):D:=.tup [.tup [.int a,.int f],.tup [.int (a+1),.int s]]
theorem km{α:Type}{all:List D}{h:GF}{tt:TF}{fe:EF}{δb:En}{F f:α->D}{p:α->Bool}{μ:Mu}:∀(l:List α),(∀x∈l,∃δ1,h (F x) δb μ=some δ1/\tt δ1 μ=some (p x,μ)/\(p x=true->fe δ1 μ=some (f x,μ)))->lcL ⟨all,none⟩ h tt fe δb (l.map F) μ=some ((l.filter p).map f,μ)
 | [],_=>by rw[List.map_nil];unfold lcL;simp[bx]
 |d::r,hd=>by
  obtain⟨δ1,h1,h2,h3⟩:=hd d (by simp)
  have ih:=km (all:=all) r λx hx=>hd x (by simp[hx])
  rw[Zj]
  unfold lcL
  cases hp:p d with
  |false=>simp[bx,h1,h2,hp,ih]
  |true=>simp[bx,h1,h2,hp,h3 hp,ih]
def lr(ns r p:List Int):Bool:=!decide (dot ns p.dropLast*bf r<dot ns r.dropLast*bf p)
def lg(ns r:List Int)(ps:List (List Int)):Int:=((ps.filter (lr ns r)).length:Nat)
def lO(φ:FF):Prop:=∀(d:Nat)(ns r:List Int)(ps:List (List Int))(μ:Mu),d<=9->ns.length=d->(∀n∈ns,Sm 2000 n)->SpR d r->(∀p∈ps,SpR d p)->ps.length<=60->φ [.lst (ps.map aD),aD r,aD ns] μ=some (.int (lg ns r ps),μ)
theorem Lf(S1 b1 S2 b2:Int)(μ:Mu)(h1:Sm 20000 S1)(h2:Sm 9000 b1)(h3:Sm 20000 S2)(h4:Sm 9000 b2):trunc (aL 2 fJ) [.tup [.int S1,.int b1],.tup [.int S2,.int b2]] μ=some (.bl (decide (S1*b2<S2*b1)),μ):=by
 apply gA
 have e1:=bh (x:=S1) (y:=b2) μ h1 h4 (by decide)
 have e2:=bh (x:=S2) (y:=b1) μ h3 h2 (by decide)
 have a0:∀x y:D,atI [x,y] 0=some x:=λ_ _=>rfl
 have a1:∀x y:D,atI [x,y] 1=some y:=λ_ _=>rfl
 unfold fJ
 simp[e1,e2,a0,a1]
theorem zU{φ1:FF}(h1:Dy φ1):lO (trunc (aL 4 (jq φ1 (trunc (aL 2 fJ))))):=λd ns r ps μ d9 hl hn hr hp hpl=>by
 apply gA
 have e1:=h1 d ns r μ d9 hl hn hr
 have ec:=km (all:=ps.map aD) (h:=aJ 0) (tt:=pA (qR (MC (ao (MC (ao (aq 1) (ao (aq 0) (aB))) φ1) (ao (aq 2) (aB))) (trunc (aL 2 fJ))))) (fe:=aq 0) (δb:=[none,some (aD ns),some (.tup [.int (dot ns r.dropLast),.int (bf r)])]) (F:=aD) (f:=aD) (p:=lr ns r) (μ:=μ) ps λp hpm=>by
  have hq:=hp p hpm
  have e2:=h1 d ns p μ d9 hl hn hq
  have e3:=Lf (dot ns p.dropLast) (bf p) (dot ns r.dropLast) (bf r) μ (pQ hl hn hq d9) hq.vL (pQ hl hn hr d9) hr.vL
  refine⟨[some (aD p),some (aD ns),some (.tup [.int (dot ns r.dropLast),.int (bf r)])],by simp,?_,λ_=>by simp⟩
  unfold lr
  generalize decide (dot ns p.dropLast*bf r<dot ns r.dropLast*bf p)=B at *
  generalize trunc (aL 2 fJ)=φ2 at *
  generalize D.tup [.int (dot ns p.dropLast),.int (bf p)]=T1 at *
  generalize D.tup [.int (dot ns r.dropLast),.int (bf r)]=T2 at *
  generalize aD p=P at *
  generalize aD ns=N at *
  cases B<;>simp[e2,e3]
 have el:((ps.filter (lr ns r)).map aD).length=(ps.filter (lr ns r)).length:=by simp
 have hz:(ps.map aD).length<=1000:=by simp;omega
 unfold lg
 generalize trunc (aL 2 fJ)=φ2 at *
 generalize D.tup [.int (dot ns r.dropLast),.int (bf r)]=T2 at *
 generalize (ps.filter (lr ns r)).length=len at *
 generalize (ps.filter (lr ns r)).map aD=FD at *
 generalize ps.map aD=PD at *
 generalize aD r=R at *
 generalize aD ns=N at *
 unfold jq
 simp[e1,hz,dg,ec,el]
theorem Ex:lO (trunc (aL 5 (lU (trunc (aL 2 bC))))):=λd ns r ps μ d9 hl hn hr hp hpl=>by
 apply gA
 have init:∀(p:List Int),SpR d p->oSl (aD p) none (some (-1)) μ=some (aD p.dropLast,μ):=λp hr=>by
  have:=nA (ds:=p.map D.int) (μ:=μ) (λz=>hr.ne (by simpa using z))
  rw[<-List.map_dropLast]at this
  exact this
 have last:∀(p:List Int),SpR d p->oIx (aD p) (.int (-1)) μ=some (.int (bf p),μ):=λp hr=>by
  unfold aD
  rw[qH]
  simp[hr.last]
 have hdot:∀(p:List Int),SpR d p->trunc (aL 2 bC) [aD ns,aD p.dropLast] μ=some (.int (dot ns p.dropLast),μ):=λp hr=>FQ ns p.dropLast μ (λw h=>bu (hn w h) (by decide)) λc h=>hr.sm c ((List.dropLast_sublist _).mem h)
 have e1:=hdot r hr
 have i1:=init r hr
 have l1:=last r hr
 generalize trunc (aL 2 bC)=φ1 at *
 have ec:=km (all:=ps.map aD) (h:=aJ 0) (tt:=toB (M2 (M2 (MC (ao (aq 1) (ao (mSl (aq 0) (fNo) (fAt (M1 (mC (.int 1)) cU))) (aB))) φ1) (M2 (aq 2) (M1 (mC (.int 1)) cU) oIx) bI) (M2 (aq 3) (M2 (aq 0) (M1 (mC (.int 1)) cU) oIx) bI) oGe)) (fe:=aq 0) (δb:=[none,some (aD ns),some (aD r),some (.int (dot ns r.dropLast))]) (F:=aD) (f:=aD) (p:=lr ns r) (μ:=μ) ps λp hpm=>by
  have hq:=hp p hpm
  have e2:=hdot p hq
  have i2:=init p hq
  have l2:=last p hq
  have m1:=bh (x:=dot ns p.dropLast) (y:=bf r) μ (pQ hl hn hq d9) hr.vL (by decide)
  have m2:=bh (x:=dot ns r.dropLast) (y:=bf p) μ (pQ hl hn hr d9) hq.vL (by decide)
  have hb:lr ns r p=decide (dot ns p.dropLast*bf r>=dot ns r.dropLast*bf p):=by
   unfold lr
   rw[<-decide_not]
   congr 1
   exact propext Int.not_lt
  refine⟨[some (aD p),some (aD ns),some (aD r),some (.int (dot ns r.dropLast))],by simp,?_,λ_=>by simp⟩
  rw[hb]
  generalize dot ns p.dropLast*bf r=x at *
  generalize dot ns r.dropLast*bf p=y at *
  generalize dot ns r.dropLast=S at *
  generalize dot ns p.dropLast=S' at *
  generalize aD p.dropLast=P' at *
  generalize aD p=P at *
  generalize aD r=R at *
  generalize aD ns=N at *
  simp[e2,i2,l1,l2,m1,m2,-qH]
 have el:((ps.filter (lr ns r)).map aD).length=(ps.filter (lr ns r)).length:=by simp
 have hz:(ps.map aD).length<=1000:=by simp;omega
 unfold lg
 generalize dot ns r.dropLast=S at *
 generalize (ps.filter (lr ns r)).length=len at *
 generalize (ps.filter (lr ns r)).map aD=FD at *
 generalize ps.map aD=PD at *
 generalize aD r.dropLast=R' at *
 generalize aD r=R at *
 generalize aD ns=N at *
 unfold lU
 simp[i1,e1,hz,dg,ec,el]
theorem rm(k:Int):∀(ns cs:List Int),dot (ns.map λn=>k*n) cs=k*dot ns cs
 | [],cs=>by simp[dot]
 |n::ns,[]=>by simp[dot]
 |n::ns,c::cs=>by
  have ih:=rm k ns cs
  rw[Zj,jF,jF,ih,Int.mul_add,Int.mul_assoc]
theorem Ha{k:Int}(hk:0<k)(ns r:List Int)(ps:List (List Int)):lg (ns.map λn=>k*n) r ps=lg ns r ps:=by
 unfold lg
 have e:lr (ns.map λn=>k*n) r=lr ns r:=by
  funext p
  unfold lr
  rw[rm,rm,Int.mul_assoc,Int.mul_assoc]
  congr 2
  exact propext ⟨λh=>Int.lt_of_mul_lt_mul_left h (by omega),λh=>Int.mul_lt_mul_of_pos_left h hk⟩
 rw[e]
theorem Io(ns r:List Int)(ps:List (List Int)):lg ns r ps.reverse=lg ns r ps:=by
 unfold lg
 rw[List.filter_reverse,List.length_reverse]
structure SpS(d:Nat)(r:List Int):Prop where
 len:r.length=d+1
 sm:∀x∈r,Sm 1100 x
theorem SpS.sp{d:Nat}{r:List Int}(h:SpS d r):SpR d r:=⟨h.len,λx hx=>bu (h.sm x hx) (by decide)⟩
theorem gk.ss{d:Nat}{r:List Int}(h:gk (d+1) r):SpS d r:=⟨h.len,λx hx=>bu (gj (b:=14) 10001 (by have:=h.sm x hx;omega) (by decide)) (by decide)⟩
theorem vO{d:Nat}{rs:List (List Int)}{ss:List Int}(hr:∀r∈rs,gk (d+1) r)(hl:rs.length=ss.length)(h60:rs.length<=60)(hne:rs≠[])(hs:∀s∈ss,1<=s/\Sm 10 s):∃(ns:List Int)(c:Int),vz (jP (d+1) rs ss)=ns++[c]/\ns.length=d/\(∀n∈ns,Sm 1000 n)/\1<=c/\Sm 1000 c:=by
 have mo:=De (by omega) hr hl h60 hne λs h=>⟨(hs s h).1,bu (hs s h).2 (by decide)⟩
 obtain⟨M1',M2',M3'⟩:=uI hr
 have hw:∀w∈wts (jm rs) rs ss,Sm 410 w:=λw hw=>by
  obtain⟨⟨s,r⟩,hx,rfl⟩:=Zq.mp hw
  have hm:=List.of_mem_zip hx
  exact bu (gK (hs s hm.1).2 (jC M3' (show 0<bf r by have:=(hr r hm.2).b1;omega))) (by omega)
 have hwl:(wts (jm rs) rs ss).length<=60:=by unfold wts;simp;omega
 have hvs:∀z∈jP (d+1) rs ss,Sm 440 z:=λz hz=>by
  obtain⟨i,hi,rfl⟩:=Zq.mp hz
  exact bu (Lk (a:=410) (b:=14) hw (λy hy=>gj 10001 (by have:=Hg hr (List.mem_range.mp hi) y hy;omega) (by decide)) hwl) (by decide)
 have hv:=mo.v
 have hlst:=mo.lst
 have hpos:=mo.pos
 have hsm:=mo.sm
 have hg0:=mo.g0
 clear mo
 generalize jm rs*ss.sum=B at *
 generalize jP (d+1) rs ss=v at *
 have hvn:v≠[]:=λz=>by rw[z]at hv;simp at hv
 have hvd:v=v.dropLast++[B]:=by
  have:=List.dropLast_concat_getLast hvn
  rw[List.getLastD_eq_getLast?,List.getLast?_eq_some_getLast hvn]at hlst
  have hlst:v.getLast hvn=B:=hlst
  rw[hlst]at this
  exact this.symm
 have hB:B∈v:=by rw[hvd];simp
 have hdv:bJ 0 v ∣ B.natAbs:=((iZ v 0 _).mp (Nat.dvd_refl _)).2 B hB
 have hgle:=Nat.le_of_dvd (by omega) hdv
 refine⟨(v.dropLast).map λn=>n.fdiv (bJ 0 v:Nat),B.fdiv (bJ 0 v:Nat),?_,by simp[hv],λn hn=>?_,?_,bu (jC (hvs _ hB) (by omega)) (by decide)⟩
 .unfold vz
  generalize bJ 0 v=g at *
  conv=>lhs;rw[hvd]
  simp
 .obtain⟨m,hm,rfl⟩:=Zq.mp hn
  exact jC (bu (hvs m ((List.dropLast_sublist v).subset hm)) (by decide)) (by omega)
 .rw[ZD B (by omega)]
  exact(Int.le_ediv_iff_mul_le (by omega)).mpr (by omega)
theorem Ea{φ:FF}(hl:jE φ)(ns:List Int)(c x:Int)(μ:Mu)(hm:eG μ)(h1:1<=ns.length)(h3:ns.length<=9)(hb:∀n∈ns,Sm 1000 n)(c1:1<=c)(cs:Sm 1000 c):∃ms:List Int,trunc (aL 5 (kY φ)) [aD (ns++[c]),.int x] μ=some (aD ms,μ)/\SpS ns.length ms:=by
 have key:∃p,trunc (aL 5 (kY φ)) [aD (ns++[c]),.int x] μ=some (p,μ)/\∃ms:List Int,p=aD ms/\SpS ns.length ms:=by
  apply zj hm
  apply dI
  unfold kY
  have hne:(ns++[c]).map D.int≠[]:=by simp
  have einit:=nA (μ:=μ) hne
  have edl:((ns++[c]).map D.int).dropLast=ns.map D.int:=by rw[<-List.map_dropLast];simp
  rw[edl]at einit
  have elast:=jD (ns:=ns++[c]) (by simp)
  have el1:(ns++[c]).getLastD 0=c:=by simp
  rw[el1]at elast
  obtain⟨i0,i1⟩:=aN (x:=x) (m:=ns.length) (by omega)
  have wm:=dj (x:=x) (y:=(ns.length:Int)) μ (by omega)
  have hlen:cF (aD (ns++[c])) μ=some (.int ((ns.length:Int)+1),μ):=by simp
  have v3:=iW (i:=x) (j:=3) (μ:=μ) (by decide) (by decide)
  have v12:=λμ=>iW (i:=x) (j:=12) (μ:=μ) (by decide) (by decide)
  obtain⟨j0,j1⟩:=aN (x:=x.fdiv 3) (m:=4) (by decide)
  obtain⟨sz,hsz,esz⟩:=lE (ds:=[D.int 1000,.int 1,.int 3,.int 1000000]) j0 j1
  have hsz:∃z:Int,sz= .int z/\1<=z/\z<=1000000:=by
   simp only[Zi,ZF,or_false]at hsz
   rcases hsz with rfl|rfl|rfl|rfl<;>exact⟨_,rfl,by decide,by decide⟩
  obtain⟨sz,rfl,sz1,sz2⟩:=hsz
  obtain⟨k0,k1⟩:=aN (x:=x.fdiv 12) (m:=2) (by decide)
  obtain⟨sg,hsg,esg⟩:=lE (ds:=[D.int 1,.int (-1)]) k0 k1
  have hsg:∃z:Int,sg= .int z/\z.natAbs<=1:=by
   simp only[Zi,ZF,or_false]at hsg
   rcases hsg with rfl|rfl<;>exact⟨_,rfl,by decide⟩
  obtain⟨sg,rfl,sg1⟩:=hsg
  have hssz:Sm 20 sz:=gj 1000001 (by omega) (by decide)
  have el:=iu (all:=ns.map D.int) (h:=aJ 0) (fe:=M2 (aq 0) (aq 1) bI) (δb:=[none,some (.int sz)]) (F:=D.int) (f:=λn=>.int (n*sz)) (μ:=μ) ns λn hn=>⟨_,rfl,by
   have:=bh (x:=n) (y:=sz) μ (hb n hn) hssz (by decide)
   simp[this]⟩
  have el':ns.map (λn=>D.int (n*sz))=(ns.map (· * sz)).map D.int:=by simp
  rw[el']at el
  have hvb:∀v∈ns.map (· * sz),Sm 1020 v:=λv hv=>by
   obtain⟨n,hn,rfl⟩:=Zq.mp hv
   exact gK (hb n hn) hssz
  generalize hvs:ns.map (· * sz)=vs at *
  have hvl:vs.length=ns.length:=by rw[<-hvs];simp
  generalize x.fmod ns.length=i at *
  obtain⟨ai,hvi⟩:=jL (ys:=vs) (k:=i) i0 (by omega)
  have hvis:=hvb _ hvi
  generalize vs.getD i.toNat 0=vi at *
  have hix:ixN (vs.map D.int).length i=some i.toNat:=by unfold ixN;rw[if_pos i0,if_pos (by simp;omega)]
  have hset:(vs.map D.int).set i.toNat (.int (vi+sg*c))=(vs.set i.toNat (vi+sg*c)).map D.int:=by rw[List.map_set]
  have hwl:(vs.set i.toNat (vi+sg*c)).length=ns.length:=by simp[hvl]
  have m1:=λμ=>bh (x:=sg) (y:=c) μ (show Sm 1 sg by unfold Sm;omega) cs (by decide)
  have hsc:Sm 1020 (sg*c):=bu (gK (show Sm 1 sg by unfold Sm;omega) cs) (by decide)
  have hws:∀w∈vs.set i.toNat (vi+sg*c),Sm 1021 w:=λw hw=>by
   rcases List.mem_or_eq_of_mem_set hw with z|z
   .exact bu (hvb w z) (by decide)
   .rw[z];exact Dd hvis hsc
  generalize sg*c=sc at *
  generalize vs.set i.toNat (vi+sc)=ws at *
  have m2:=λμ=>bh (x:=c) (y:=sz) μ cs hssz (by decide)
  have hcz:1<=c*sz:=by
   have:=Int.mul_le_mul c1 sz1 (by decide) (by omega)
   omega
  have hczs:Sm 1020 (c*sz):=gK cs hssz
  generalize c*sz=cz at *
  have em:=hl ws cz (μ++[none]) (by omega) (bu hczs (by decide)) (by omega) (λz=>by rw[z]at hwl;simp at hwl;omega)
  have hR:D.tup ((ws++[cz]).map λn=>.int (n.fdiv (sgn cz*(bJ cz.natAbs ws:Nat))))=aD ((ws++[cz]).map λn=>n.fdiv (sgn cz*(bJ cz.natAbs ws:Nat))):=by
   unfold aD
   rw[List.map_map]
   rfl
  rw[hR]at em
  have hsp:SpS ns.length ((ws++[cz]).map λn=>n.fdiv (sgn cz*(bJ cz.natAbs ws:Nat))):=⟨by simp[hwl],λm hm=>by
   obtain⟨n,hn,rfl⟩:=Zq.mp hm
   have e1:sgn cz=1:=if_pos (by omega)
   have g0:bJ cz.natAbs ws≠0:=jz (.inl (by omega))
   rw[e1,Int.one_mul]
   refine bu (jC (a:=1021) ?_ (by omega)) (by decide)
   rcases Zm.mp hn with z|z
   .exact hws n z
   .rw[ZI.mp z];exact bu hczs (by decide)⟩
  generalize ((ws++[cz]).map λn=>n.fdiv (sgn cz*(bJ cz.natAbs ws:Nat)))=ms at *
  have hz:ns.length<=1000:=by omega
  have hlenm:(ns.map D.int).length=ns.length:=by simp
  generalize hnD:ns.map D.int=nD at *
  generalize vs.map D.int=vD at *
  generalize ws.map D.int=wD at *
  have hfin:nc (aD ms)/\∃ms':List Int,aD ms=aD ms'/\SpS ns.length ms':=⟨jU.mpr iB,ms,rfl,hsp⟩
  clear hsp
  generalize aD ms=RM at *
  have eit:∀μ,bF (aD (ns++[c])) μ=some ((ns++[c]).map .int):=λμ=>rfl
  have esl:oSl (aD (ns++[c])) none (some (-1)) μ=some (.tup nD,μ):=einit
  generalize aD (ns++[c])=SP at *
  generalize (ns++[c]).map D.int=spD at *
  simp[hlen,wm,v3,esz,esl,dg,hlenm,hz,el,ai,v12,esg,eit,elast,m1,L3.rC,hix,hset,m2,em]
  exact hfin
 obtain⟨p,e,ms,rfl,h⟩:=key
 exact⟨ms,e,h⟩
def pW(φ:FF):Prop:=∀(ns:List Int)(c x:Int)(μ:Mu),eG μ->1<=ns.length->ns.length<=9->(∀n∈ns,Sm 1000 n)->1<=c->Sm 1000 c->∃ms:List Int,φ [aD (ns++[c]),.int x] μ=some (aD ms,μ)/\SpS ns.length ms
def Cp(φ:FF):Prop:=∀(d:Int)(ps:List (List Int))(L:List Int),1<=d->d<=3->ps≠[]->ps.length<=40->(∀p∈ps,gk (d.toNat+1) p)->DlD L->∃(r L':List Int),φ [.cell 0,.lst (ps.map aD),.int d] [some (L.map .int)]=some (aD r,[some (L'.map .int)])/\DlD L'/\SpS d.toNat r
theorem zQ{φ1 φ2 φ3 φ4 φ5:FF}(h1:cZ φ1)(h2:lC φ2)(h3:mZ φ3)(h4:wW φ4)(h5:pW φ5):Cp (trunc (aL 5 (fB φ1 φ2 φ3 φ4 φ5))):=λd ps L d1 d3 hne hl hp hL=>by
 obtain⟨x,L1,e1,hx,hL1⟩:=bW h1 hL []
 have v6:=λμ=>iW (i:=x) (j:=6) (μ:=μ) (by decide) (by decide)
 obtain⟨c0,c1⟩:=aN (x:=x) (m:=6) (by decide)
 obtain⟨y0,y1⟩:=aN (x:=x.fdiv 6) (m:=3) (by decide)
 have hd6:Dr (x.fdiv 6):=by
  obtain⟨x0,x1⟩:=hx
  rw[ZD _ (by decide)]
  exact⟨by omega,by omega⟩
 obtain⟨many,hmany⟩:∃z:Int,z=ps.length:=⟨_,rfl⟩
 have hm1:1<=many:=by
  have:=List.length_pos_iff.mpr hne
  omega
 have elen:∀μ,cF (.lst (ps.map aD)) μ=some (.int many,μ):=λμ=>by rw[jN,Zu,hmany]
 have hen:∀μ,oEq (.lst (ps.map aD)) (.lst []) μ=some (.bl false,μ):=λμ=>by
  obtain⟨p1,p2⟩:=lQ ps
  rw[eq_nil p1 (by omega)]
  cases ps with
  |nil=>exact absurd rfl hne
  |cons a b=>rfl
 obtain⟨p,ep,hpt⟩:=h2 (x.fdiv 6) d ((x.fdiv 6).fmod 3) 0 [some (L1.map .int)] eG.nil.dr hd6 d1 d3 y0 (by omega) (by decide) (by decide)
 obtain⟨a0,a1⟩:=aN (x:=x.fdiv 6) (m:=many) (by omega)
 have wa:=dj (x:=x.fdiv 6) (y:=many) [some (L1.map .int)] (by omega)
 obtain⟨xa,ra⟩:=xm hp (k:=(x.fdiv 6).fmod many) a0 (by omega)
 obtain⟨sh,L5,e5,hL5,hn2,hq2,hs2,_⟩:=h3 L1 (wN many) hL1 (λz=>by
  have:=congrArg List.length z
  rw[BK]at this;simp at this;omega) (by rw[BK];omega) (λj hj=>by have:=DY j hj;omega)
 have rl:=Ol (j:=many) (μ:=[some (L1.map .int)]) (by omega) (szl (by omega)) (by omega)
 rw[Mf]at rl
 have hso:Fz ps.length sh:=λp hp=>by
  obtain⟨q1,q2,q3⟩:=hs2 p hp
  have:=DY _ q1
  exact⟨by omega,by omega,q2,bu (gj (b:=10) 1001 (by omega) (by decide)) (by decide)⟩
 have e6:=h4 d.toNat ps sh [some (L5.map .int)] eG.nil.dr (by omega) (by omega) hp hn2 (by omega) hso
 obtain⟨vs,c,hv,hvl,hvb,hc1,cs⟩:=vO (d:=d.toNat) (rs:=bR ps sh) (ss:=sh.map (·.2)) (rT hp hso) (by unfold bR;simp) (by unfold bR;simp;omega) (by unfold bR;simpa using hn2) (λs h=>by
  obtain⟨x,hx,rfl⟩:=Zq.mp h
  obtain⟨q1,q2,q3⟩:=hs2 x hx
  exact⟨q2,gj (b:=10) 1001 (by omega) (by decide)⟩)
 rw[hv]at e6
 obtain⟨ms,e7,hms⟩:=h5 vs c (x.fdiv 6) [some (L5.map .int)] eG.nil.dr (by omega) (by omega) hvb hc1 cs
 rw[hvl]at hms
 have hspot:SpS d.toNat (vs++[c]):=⟨by simp[hvl],λy hy=>by
  rcases Zm.mp hy with z|z
  .exact bu (hvb y z) (by decide)
  .rw[ZI.mp z];exact bu cs (by decide)⟩
 generalize hc:x.fmod 6=cc at *
 generalize hx6:x.fdiv 6=x6 at *
 have hcc:cc=0∨cc=1∨(1<cc/\cc<4)∨(4<=cc):=by omega
 have key:∀(r:List Int)(L':List Int),DlD L'->SpS d.toNat r->Ok (aL 5 (fB φ1 φ2 φ3 φ4 φ5) [.cell 0,.lst (ps.map aD),.int d] [some (L.map .int)]) (λq=>q=(aD r,[some (L'.map .int)]))->∃(r L':List Int),trunc (aL 5 (fB φ1 φ2 φ3 φ4 φ5)) [.cell 0,.lst (ps.map aD),.int d] [some (L.map .int)]=some (aD r,[some (L'.map .int)])/\DlD L'/\SpS d.toNat r:=λr L' hL' hr h=>⟨r,L',iJ (mj h) rfl,hL',hr⟩
 rcases hcc with h0|h0|h0|h0
 .obtain⟨ns,b,rfl,hpl,_⟩:=hpt
  refine key (ns++[b]) L1 hL1 hpl.row.ss ?_
  have hR:D.tup ((ns++[b]).map .int)=aD (ns++[b]):=rfl
  rw[hR]at ep
  generalize aD (ns++[b])=R at *
  generalize ps.map aD=PD at *
  apply dI
  unfold fB
  subst h0
  simp[e1,hen,hc,v6,hx6,ep]
 .refine key _ L1 hL1 ra.ss ?_
  generalize aD (ps.getD (x6.fmod many).toNat [])=R at *
  generalize ps.map aD=PD at *
  apply dI
  unfold fB
  subst h0
  simp[e1,hen,hc,v6,hx6,elen,wa,xa,-jN]
 .refine key _ L5 hL5 hspot ?_
  generalize aD (vs++[c])=R at *
  generalize ps.map aD=PD at *
  generalize (wN many).map D.int=JD at *
  apply dI
  unfold fB
  have n0:(cc==0)=false:=beq_eq_false_iff_ne.mpr (by omega)
  have n1:(cc==1)=false:=beq_eq_false_iff_ne.mpr (by omega)
  have n4:cc<4:=h0.2
  simp[e1,hen,hc,n0,n1,n4,elen,rl,e5,e6,-jN]
 .refine key ms L5 hL5 hms ?_
  generalize aD (vs++[c])=R at *
  generalize aD ms=MS at *
  generalize ps.map aD=PD at *
  generalize (wN many).map D.int=JD at *
  apply dI
  unfold fB
  have n0:(cc==0)=false:=beq_eq_false_iff_ne.mpr (by omega)
  have n1:(cc==1)=false:=beq_eq_false_iff_ne.mpr (by omega)
  have n4:¬cc<4:=by omega
  simp[e1,hen,hc,n0,n1,n4,elen,rl,e5,e6,v6,hx6,e7,-jN]
def uh(φ:FF):Prop:=∀(d:Int)(ps:List (List Int))(L:List Int),1<=d->d<=3->ps.length<=40->(∀p∈ps,gk (d.toNat+1) p)->DlD L->∃(r L':List Int),φ [.cell 0,.lst (ps.map aD),.int d] [some (L.map .int)]=some (aD r,[some (L'.map .int)])/\DlD L'/\SpS d.toNat r
theorem CQ{φ1 φ2 φ3 φ4 φ5:FF}(h1:cZ φ1)(h2:lC φ2)(h3:mZ φ3)(h4:wW φ4)(h5:pW φ5):uh (trunc (aL 5 (fB φ1 φ2 φ3 φ4 φ5))):=λd ps L d1 d3 hl hp hL=>by
 by_cases hne:ps=[]
 .subst hne
  obtain⟨x,L1,e1,hx,hL1⟩:=bW h1 hL []
  have v6:=λμ=>iW (i:=x) (j:=6) (μ:=μ) (by decide) (by decide)
  obtain⟨y0,y1⟩:=aN (x:=x.fdiv 6) (m:=3) (by decide)
  have hd6:Dr (x.fdiv 6):=by
   obtain⟨x0,x1⟩:=hx
   rw[ZD _ (by decide)]
   exact⟨by omega,by omega⟩
  obtain⟨p,ep,ns,b,rfl,hpl,_⟩:=h2 (x.fdiv 6) d ((x.fdiv 6).fmod 3) 0 [some (L1.map .int)] eG.nil.dr hd6 d1 d3 y0 (by omega) (by decide) (by decide)
  have hR:D.tup ((ns++[b]).map .int)=aD (ns++[b]):=rfl
  rw[hR]at ep
  have hen:∀μ,oEq (.lst []) (.lst []) μ=some (.bl true,μ):=λμ=>by rw[eq_nil (by rfl) (by decide)];rfl
  refine⟨ns++[b],L1,iJ (mj ?_) rfl,hL1,hpl.row.ss⟩
  generalize aD (ns++[b])=R at *
  generalize x.fdiv 6=x6 at *
  rw[List.map_nil]
  apply dI
  unfold fB
  simp[e1,hen,v6,ep]
 .exact zQ h1 h2 h3 h4 h5 d ps L d1 d3 hne hl hp hL
abbrev Cz(φ:FF):SF:=aM (aR 8 (mFz (lLC ["_law_one","_law_more"] [7,2] (mq (ao (mSl (aq 2) (fNo) (fAt (M1 (mC (.int 1)) cU))) (ao (aq 6) (aB)))) (jb 2 (bO (aJ 0) (bO (aJ 1) (jd)))) (bK) (M2 (aq 0) (M2 (M2 (aq 2) (aq 1) bI) (M2 (aq 3) (M1 (mC (.int 1)) cU) oIx) bI) bD)))) (dH (dW (aq 3) (ao (MC (ao (aq 8) (ao (M2 (aq 2) (M1 (mC (.int 1)) cU) oIx) (aB))) φ) (aB))))
theorem JC{φ:FF}(h:jE φ){d:Int}{ns ms:List Int}{c x t:Int}{A:List (List Int)}{LD:List D}{o4 o8:Option D}(d1:1<=d)(d3:d<=3)(hn:ns.length=d.toNat)(hns:∀n∈ns,n.natAbs<=10000)(c1:1<=c)(c60:c<=60)(hm:ms.length=d.toNat)(hms:∀m∈ms,m.natAbs<=3)(ht:t.natAbs<=2)(hA:A.length<=900):
  ∃(p:List Int)(o8':Option D),Cz φ [some (.cell 0),some (.int d),some (aD (ns++[c])),some (.cell 1),o4,some (.int x),some (.lst (ms.map .int)),some (.int t),o8] [some LD,some (A.map aD)]=
   some (.nx,[some (.cell 0),some (.int d),some (aD (ns++[c])),some (.cell 1),o4,some (.int x),some (.lst (ms.map .int)),some (.int t),o8'],[some LD,some ((A++[p]).map aD)])/\SpS d.toNat p:=by
 have hne:(ns++[c]).map D.int≠[]:=by simp
 have einit:=λμ=>nA (μ:=μ) hne
 have edl:((ns++[c]).map D.int).dropLast=ns.map D.int:=by rw[<-List.map_dropLast];simp
 simp only[edl]at einit
 have e1:∀μ,oSl (aD (ns++[c])) none (some (-1)) μ=some (.tup (ns.map .int),μ):=einit
 have e2:∀μ,oIx (aD (ns++[c])) (.int (-1)) μ=some (.int c,μ):=λμ=>by
  unfold aD
  have el:=jD (ns:=ns++[c]) (by simp)
  have el1:(ns++[c]).getLastD 0=c:=by simp
  rw[el1]at el
  generalize (ns++[c]).map D.int=X at *
  rw[qH]
  simp[bF,el]
 have cs:Sm 6 c:=gj 61 (by omega) (by decide)
 have el:=iu (all:=je (ns.map D.int) (ms.map D.int)) (h:=jb 2 (bO (aJ 0) (bO (aJ 1) (jd)))) (fe:=M2 (aq 0) (M2 (M2 (aq 2) (aq 1) bI) (M2 (aq 3) (M1 (mC (.int 1)) cU) oIx) bI) bD) (δb:=[none,none,some (.int t),some (aD (ns++[c]))]) (F:=λp:Int×Int=>D.tup [.int p.1,.int p.2]) (f:=λp=>D.int (p.1+t*p.2*c)) (μ:=[some LD,some (A.map aD)]) (ns.zip ms) λp hp=>by
  obtain⟨p1,p2⟩:=p
  have hmz:=List.of_mem_zip hp
  have m1:=bh (x:=t) (y:=p2) [some LD,some (A.map aD)] (a:=2) (b:=2) (gj 3 (by omega) (by decide)) (gj 4 (by have:=hms _ hmz.2;omega) (by decide)) (by decide)
  have m2:=bh (x:=t*p2) (y:=c) [some LD,some (A.map aD)] (a:=4) (b:=6) (gK (a:=2) (b:=2) (gj 3 (by omega) (by decide)) (gj 4 (by have:=hms _ hmz.2;omega) (by decide))) cs (by decide)
  generalize t*p2=q at *
  generalize q*c=r at *
  generalize aD (ns++[c])=SP at *
  generalize A.map aD=AD at *
  exact⟨[some (.int p1),some (.int p2),some (.int t),some SP],by simp,by simp[m1,m2,e2,-qH]⟩
 have ez:=nq (F:=D.int) (G:=D.int) ns ms
 rw[<-ez]at el
 have fm:(ns.zip ms).map (λp=>D.int (p.1+t*p.2*c))=((ns.zip ms).map λp=>p.1+t*p.2*c).map D.int:=by simp
 rw[fm]at el
 have hvs:∀v∈(ns.zip ms).map (λp=>p.1+t*p.2*c),Sm 14 v:=λv hv=>by
  obtain⟨p,hp,rfl⟩:=Zq.mp hv
  have hmz:=List.of_mem_zip (a:=p.1) (b:=p.2) hp
  have b1:=hns _ hmz.1
  have b2:(t*p.2*c).natAbs<=2*3*60:=by
   rw[Int.natAbs_mul,Int.natAbs_mul]
   exact Nat.mul_le_mul (Nat.mul_le_mul ht (hms _ hmz.2)) (by omega)
  exact gj 10361 (by omega) (by decide)
 have hvl:((ns.zip ms).map λp=>p.1+t*p.2*c).length=d.toNat:=by simp[hn,hm]
 generalize ((ns.zip ms).map λp=>p.1+t*p.2*c)=vs at *
 obtain⟨ps,e3,hpl,hps,_⟩:=Mh h vs c [some LD,some (A.map aD)] (by omega) (bu (b:=14) cs (by decide)) (by decide) hvs (by omega) (λz=>by rw[z]at hvl;simp at hvl;omega)
 have hR:D.tup (ps.map .int)=aD ps:=rfl
 rw[hR]at e3
 have zz:(je (ns.map D.int) (ms.map D.int)).length<=1000:=by rw[ez];simp;omega
 have hz:(A.map aD).length<sizeLine:=by rw[Zu];exact Nat.lt_of_le_of_lt hA (by decide)
 have hap:(A++[ps]).map aD=A.map aD++[aD ps]:=by simp
 refine⟨ps,some (.lst (vs.map .int)),?_,⟨by omega,λz hz=>bu (hps z hz) (by decide)⟩⟩
 rw[hap]
 have f1:dC (.tup (ns.map D.int))=some (ns.map D.int):=rfl
 have f2:dC (.lst (ms.map D.int))=some (ms.map D.int):=rfl
 generalize aD (ns++[c])=SP at *
 generalize aD ps=P at *
 generalize A.map aD=AD at *
 generalize ns.map D.int=ND at *
 generalize ms.map D.int=MD at *
 generalize vs.map D.int=VD at *
 apply mj
 simp[e1,e2,f1,f2,zz,dg,el,e3,dW,dD,hz,-qH]
theorem zf{φ:FF}(h:jE φ){d:Int}{ns ms:List Int}{c x:Int}{LD:List D}{o4:Option D}(all:List D)(d1:1<=d)(d3:d<=3)(hn:ns.length=d.toNat)(hns:∀n∈ns,n.natAbs<=10000)(c1:1<=c)(c60:c<=60)(hm:ms.length=d.toNat)(hms:∀m∈ms,m.natAbs<=3):
  ∀(ts:List D)(A:List (List Int))(o7 o8:Option D),(∀t∈ts,∃k:Int,t= .int k/\k.natAbs<=2)->A.length+ts.length<=900->(∀p∈A,SpS d.toNat p)->∃(B:List (List Int))(p7 p8:Option D),
   gn ⟨all,none⟩ (aJ 7) (Cz φ) ts [some (.cell 0),some (.int d),some (aD (ns++[c])),some (.cell 1),o4,some (.int x),some (.lst (ms.map .int)),o7,o8] [some LD,some (A.map aD)]=
    some (.nx,[some (.cell 0),some (.int d),some (aD (ns++[c])),some (.cell 1),o4,some (.int x),some (.lst (ms.map .int)),p7,p8],[some LD,some (B.map aD)])/\B.length=A.length+ts.length/\∀p∈B,SpS d.toNat p
 | [],A,o7,o8,_,_,hA=>⟨A,o7,o8,by unfold gn;rw[if_pos tK],rfl,hA⟩
 |t::ts,A,o7,o8,ht,hl,hA=>by
  obtain⟨k,rfl,hk⟩:=ht t (by simp)
  obtain⟨p,q8,e1,hp⟩:=JC (LD:=LD) (o4:=o4) (o8:=o8) (x:=x) h d1 d3 hn hns c1 c60 hm hms hk (A:=A) (by simp at hl;omega)
  obtain⟨B,p7,p8,e2,hB,hs⟩:=zf (x:=x) (LD:=LD) (o4:=o4) h all d1 d3 hn hns c1 c60 hm hms ts (A++[p]) (some (.int k)) q8 (λt h=>ht t (by simp[h])) (by simp at hl ⊢;omega) (λq hq=>by
   rcases Zm.mp hq with z|z
   .exact hA q z
   .rw[ZI.mp z];exact hp)
  refine⟨B,p7,p8,?_,by rw[hB];simp;omega,hs⟩
  generalize (A++[p]).map aD=AP at *
  generalize A.map aD=AD at *
  generalize aD (ns++[c])=SP at *
  generalize B.map aD=BD at *
  generalize ms.map D.int=MD at *
  unfold gn
  rw[if_pos tK]
  generalize Cz φ=RB at *
  apply mj
  simp[e1,e2]
theorem yO{φ:FF}(hφ:ik φ)(x:Int)(all:List D)(μ:Mu):∀(its:List D),(∀i∈its,∃k:Int,i= .int k/\0<=k/\k<100)->∃ns:List Int,
  lcL ⟨all,none⟩ (aJ 0) bK (M2 (M2 (MC (ao (aq 1) (ao (M2 (aq 0) (mC (.int 2)) bD) (aB))) φ) (mC (.int 7)) bw) (mC (.int 3)) dF) [none,some (.int x)] its μ=some (ns.map .int,μ)/\ns.length=its.length/\∀n∈ns,n.natAbs<=3
 | [],_=>⟨[],by unfold lcL;simp[bx],rfl,λn h=>by cases h⟩
 |i::its,h=>by
  obtain⟨k,rfl,k0,k1⟩:=h i (by simp)
  obtain⟨ns,e,hl,hs⟩:=yO hφ x all μ its λj hj=>h j (by simp[hj])
  obtain⟨r,er,hr⟩:=hφ x (k+2) μ (by omega) (by omega)
  obtain⟨m0,m1⟩:=aN (x:=r) (m:=7) (by decide)
  generalize hq:r.fmod 7=q at *
  refine⟨(q-3)::ns,?_,by simp[hl],λn hn=>?_⟩
  .unfold lcL
   simp[bx,bK,er,hq,e]
  .rcases Zi.mp hn with w|w
   .rw[w];omega
   .exact hs n w
theorem yZ:∀(xs:List D)(A:List (List Int)),(∀x∈xs,x∈A.map aD)->∃B:List (List Int),xs=B.map aD/\∀p∈B,p∈A
 | [],A,_=>⟨[],rfl,λp h=>by cases h⟩
 |x::xs,A,h=>by
  obtain⟨B,e,hB⟩:=yZ xs A λy hy=>h y (by simp[hy])
  obtain⟨p,hp,rfl⟩:=Zq.mp (h x (by simp))
  exact⟨p::B,by rw[e];rfl,λq hq=>by
   rcases Zi.mp hq with z|z
   .rw[z];exact hp
   .exact hB q z⟩
theorem vd(A:List (List Int))(lo hi:Option Int):∃B:List (List Int),L3.gF (A.map aD) lo hi=B.map aD/\B.length<=A.length/\∀p∈B,p∈A:=by
 have h1:∀x∈L3.gF (A.map aD) lo hi,x∈A.map aD:=λx hx=>by
  unfold L3.gF at hx
  exact List.mem_of_mem_drop (List.mem_of_mem_take hx)
 have h2:(L3.gF (A.map aD) lo hi).length<=A.length:=by
  unfold L3.gF
  rw[List.length_take,List.length_drop,Zu]
  omega
 obtain⟨B,e,hB⟩:=yZ _ A h1
 rw[e,Zu]at h2
 exact⟨B,e,h2,hB⟩
theorem pg{α:Type}{S:Src}{h:GF}{tt:TF}{fe:EF}{δb:En}{F f:α->D}{p:α->Bool}{μ:Mu}(hS:S.ok μ):∀(l:List α),(∀x∈l,∃δ1,h (F x) δb μ=some δ1/\tt δ1 μ=some (p x,μ)/\(p x=true->fe δ1 μ=some (f x,μ)))->lcL S h tt fe δb (l.map F) μ=some ((l.filter p).map f,μ)
 | [],_=>by rw[List.map_nil];unfold lcL;simp[hS]
 |d::r,hd=>by
  obtain⟨δ1,h1,h2,h3⟩:=hd d (by simp)
  have ih:=pg hS r λx hx=>hd x (by simp[hx])
  rw[Zj]
  unfold lcL
  cases hp:p d with
  |false=>simp[hS,h1,h2,hp,ih]
  |true=>simp[hS,h1,h2,hp,h3 hp,ih]
def wu(n:Int):Int:=(n.natAbs:Nat)
def jO(p:List Int):Bool:=decide (jo (p.dropLast.map wu)<=10000)
abbrev BX:TF:=toB (M2 (MC (ao (mFz (lLC ["_law_one"] [] (fV (mSl (aq 0) (fNo) (fAt (M1 (mC (.int 1)) cU)))) (aJ 0) (bK) (MC (ao (aq 0) (aB)) (aW lw)))) (aB)) (aW sJ)) (mC (.int 10000)) oLe)
theorem Np{d:Nat}{p:List Int}{μ:Mu}(d1:1<=d)(d3:d<=3)(hp:SpS d p):BX [some (aD p)] μ=some (jO p,μ):=by
 have e1:oSl (aD p) none (some (-1)) μ=some (.tup (p.dropLast.map .int),μ):=by
  have:=nA (ds:=p.map D.int) (μ:=μ) (λz=>hp.sp.ne (by simpa using z))
  rw[<-List.map_dropLast]at this
  exact this
 have el:=iu (all:=p.dropLast.map D.int) (h:=aJ 0) (fe:=MC (ao (aq 0) (aB)) (aW lw)) (δb:=[none]) (F:=D.int) (f:=λn=>D.int (wu n)) (μ:=μ) p.dropLast λn _=>⟨[some (.int n)],by simp,by simp[wu]⟩
 have fm:p.dropLast.map (λn=>D.int (wu n))=(p.dropLast.map wu).map D.int:=by rw[List.map_map];rfl
 rw[fm]at el
 have hne:p.dropLast.map wu≠[]:=λz=>by
  have:=congrArg List.length z
  rw[Zu,List.length_dropLast,hp.len]at this
  simp at this
  omega
 have em:=wg (μ:=μ) hne
 have hz:(p.dropLast.map D.int).length<=1000:=by rw[Zu,List.length_dropLast,hp.len];omega
 unfold jO
 generalize jo (p.dropLast.map wu)=m at *
 generalize (p.dropLast.map wu).map D.int=AD at *
 generalize p.dropLast.map D.int=PD at *
 generalize aD p=P at *
 simp[e1,hz,dg,el,em]
theorem JV{d:Nat}{A:List (List Int)}{μ:Mu}{S:Src}(hS:S.ok μ)(d1:1<=d)(d3:d<=3)(hA:∀p∈A,SpS d p):lcL S (aJ 0) BX (aq 0) [none] (A.map aD) μ=some ((A.filter jO).map aD,μ):=
 pg hS A λp hp=>by
  have e:=Np (μ:=μ) d1 d3 (hA p hp)
  generalize BX=T at *
  generalize aD p=P at *
  exact⟨[some P],by simp,e,λ_=>by simp⟩
abbrev Ik(φ1 φ3 φ4:FF):SF:=(aM (aR 3 (iw (oO (aB)))) (aM (fH (bH (ao (M2 (MC (ao (aq 0) (aB)) φ1) (mC (.int 6)) bw) (aB))) (aJ 4) (aM (aR 5 (MC (ao (aq 0) (aB)) φ1)) (aM (aR 6 (mFz (lLC ["_law_j"] [5] (bH (ao (aq 1) (aB))) (aJ 0) (bK) (M2 (M2 (MC (ao (aq 1) (ao (M2 (aq 0) (mC (.int 2)) bD) (aB))) φ3) (mC (.int 7)) bw) (mC (.int 3)) dF)))) (fH (fV (mSl (MC (ao (mC (.int 1)) (ao (M1 (mC (.int 1)) cU) (ao (mC (.int 2)) (ao (mC (.int 0)) (ao (mC (.int 1)) (aB)))))) gf) (fNo) (fAt (M2 (mC (.int 1)) (M2 (M2 (aq 5) (mC (.int 1000)) dm) (mC (.int 5)) bw) bD)))) (aJ 7) (Cz φ4))))) (aM (aR 3 (iw (lLC ["_law_point_here"] [] (fV (aq 3)) (aJ 0) BX (aq 0)))) (bN (MC (ao (mSl (aq 3) (fAt (M2 (MC (ao (aq 0) (aB)) φ1) (mC (.int 2)) bw)) (fNo)) (ao (aq 2) (aB))) gY)))))
theorem uR{φ1 φ3 φ4:FF}(h1:cZ φ1)(h3:ik φ3)(h4:jE φ4){d:Int}{ns:List Int}{c:Int}{L:List Int}(d1:1<=d)(d3:d<=3)(hn:ns.length=d.toNat)(hns:∀n∈ns,n.natAbs<=10000)(c1:1<=c)(c60:c<=60)(hL:DlD L):
  ∃(ps:List (List Int))(L':List Int)(δ':En)(junk:Mu),Ik φ1 φ3 φ4 [some (.cell 0),some (.int d),some (aD (ns++[c])),none,none,none,none,none,none] [some (L.map .int)]=some (.rt (.tup [.lst (ps.map aD),aD (ns++[c])]),δ',some (L'.map .int)::junk)/\DlD L'/\ps.length<=30/\∀p∈ps,SpS d.toNat p:=by
 suffices key:Ok (Ik φ1 φ3 φ4 [some (.cell 0),some (.int d),some (aD (ns++[c])),none,none,none,none,none,none] [some (L.map .int)]) (λr=>∃(ps:List (List Int))(L':List Int)(δ':En)(junk:Mu),r=(.rt (.tup [.lst (ps.map aD),aD (ns++[c])]),δ',some (L'.map .int)::junk)/\DlD L'/\ps.length<=30/\∀p∈ps,SpS d.toNat p) by
  obtain⟨r,e,ps,L',δ',junk,rfl,a,b,cc⟩:=key
  exact⟨ps,L',δ',junk,e,a,b,cc⟩
 obtain⟨x,L1,e1,hx,hL1⟩:=bW h1 hL [some []]
 obtain⟨m0,m1⟩:=aN (x:=x) (m:=6) (by decide)
 have rd0:=λμ=>nR (j:=x.fmod 6) (μ:=μ) (by omega) (by omega)
 have rd:=λμ=>nR (j:=d) (μ:=μ) (by omega) (by omega)
 have zd:(cu 0 d.toNat).length<=1000:=by rw[cQ];omega
 have hRG:(cu 0 (x.fmod 6).toNat).length<=5:=by rw[cQ];omega
 have hSP:∃SP,SP=aD (ns++[c]):=⟨_,rfl⟩
 generalize cu 0 (x.fmod 6).toNat=RG at *
 simp[e1,rd0,-qH]
 refine fU (λits δ μ=>∃(L:List Int)(A:List (List Int))(o4 o5 o6 o7 o8:Option D),A.length+5*its.length<=25/\DlD L/\(∀p∈A,SpS d.toNat p)/\μ=[some (L.map .int),some (A.map aD)]/\δ=[some (.cell 0),some (.int d),some (aD (ns++[c])),some (.cell 1),o4,o5,o6,o7,o8]) ?_ ?_ _ _ _ ⟨L1,[],none,none,none,none,none,by simp;omega,hL1,λp h=>(by cases h),rfl,rfl⟩
 .rintro dd rest δ μ ⟨L,A,o4,o5,o6,o7,o8,hl,hL,hA,rfl,rfl⟩
  obtain⟨y,L2,e2,hy,hL2⟩:=bW h1 hL [some (A.map aD)]
  have v1:=λμ=>iW (i:=y) (j:=1000) (μ:=μ) (by decide) (by decide)
  obtain⟨k0,k1⟩:=aN (x:=y.fdiv 1000) (m:=5) (by decide)
  obtain⟨ms,e3,hml,hms⟩:=yO h3 y (cu 0 d.toNat) [some (L2.map .int),some (A.map aD)] (cu 0 d.toNat) λi hi=>by
   obtain⟨k,e,k0,k1⟩:=lB hi
   exact⟨k,e,k0,by omega⟩
  rw[cQ]at hml
  have hts:∀t∈L3.gF [D.int 1,.int (-1),.int 2,.int 0,.int 1] none (some (1+(y.fdiv 1000).fmod 5)),∃k:Int,t= .int k/\k.natAbs<=2:=λt ht=>by
   unfold L3.gF at ht
   have:=List.mem_of_mem_drop (List.mem_of_mem_take ht)
   simp only[Zi,ZF,or_false]at this
   rcases this with rfl|rfl|rfl|rfl|rfl<;>exact⟨_,rfl,by decide⟩
  have htl:(L3.gF [D.int 1,.int (-1),.int 2,.int 0,.int 1] none (some (1+(y.fdiv 1000).fmod 5))).length<=5:=by
   unfold L3.gF
   rw[List.length_take,List.length_drop]
   simp
   omega
  generalize hTS:L3.gF [D.int 1,.int (-1),.int 2,.int 0,.int 1] none (some (1+(y.fdiv 1000).fmod 5))=TS at *
  obtain⟨B,p7,p8,e4,hB,hs⟩:=zf (x:=y) (LD:=L2.map .int) (o4:=some dd) h4 TS d1 d3 hn hns c1 c60 hml hms TS A o7 o8 hts (by simp at hl;omega) hA
  have hS:(5*(rest.length+1))=5*rest.length+5:=by omega
  have fin:B.length+5*rest.length<=25:=by simp at hl;omega
  generalize cu 0 d.toNat=RD at *
  generalize hAD:A.map aD=AD at *
  generalize aD (ns++[c])=SP at *
  generalize ms.map D.int=MD at *
  generalize Cz φ4=RB at *
  have hcut:∀μ,oSl (.lst [D.int 1,.int (-1),.int 2,.int 0,.int 1]) none (some (1+(y.fdiv 1000).fmod 5)) μ=some (.lst TS,μ):=λμ=>by rw[<-hTS];rfl
  simp[e2,rd,zd,dg,e3,v1,hcut,e4]
  exact⟨L2,B,fin,hL2,hs,rfl,rfl⟩
 .rintro δ μ ⟨L,A,o4,o5,o6,o7,o8,hl,hL,hA,rfl,rfl⟩
  obtain⟨z,L5,e5,hz,hL5⟩:=bW h1 hL [some (A.map aD),some ((A.filter jO).map aD)]
  have eF:=JV (A:=A) (μ:=[some (L.map .int),some (A.map aD)]) (S:=⟨A.map aD,some 1⟩) (λn h=>by cases h;rfl) (by omega) (by omega) hA
  obtain⟨B,hB,hBl,hBm⟩:=vd (A.filter jO) (some (z.fmod 2)) none
  have hcut:∀μ:Mu,μ[2]? =some (some ((A.filter jO).map aD))->oSl (.cell 2) (some (z.fmod 2)) none μ=some (.lst (B.map aD),μ):=λμ h=>by
   unfold oSl
   simp only[h,hB]
  have hAl:(A.filter jO).length<=A.length:=List.length_filter_le _ _
  have hfin:B.length<=30/\∀p∈B,SpS d.toNat p:=⟨by simp at hl;omega,λp hp=>hA p (List.mem_filter.mp (hBm p hp)).1⟩
  have hz1:(A.map aD).length<=1000:=by rw[Zu];simp at hl;omega
  have hsz:((A.filter jO).map aD).length<=1000:=by rw[Zu];simp at hl;omega
  clear hB hBm hBl hAl
  generalize (A.filter jO).map aD=FD at *
  generalize A.map aD=AD at *
  generalize aD (ns++[c])=SP at *
  generalize BX=FT at *
  have hsrc:nu (.cell 1) [some (L.map D.int),some AD]=some ⟨AD,some 1⟩:=rfl
  simp[hsrc,hz1,hsz,dg,eF,e5,hcut]
  exact⟨B,L5,⟨rfl,rfl⟩,hL5,hfin.1,hfin.2⟩
def vG(φ:FF):Prop:=∀(d m:Int)(L:List Int),1<=d->d<=3->m=40->DlD L->∃(ps:List (List Int))(r L':List Int),φ [.cell 0,.int d,.int m] [some (L.map .int)]=some (.tup [.lst (ps.map aD),aD r],[some (L'.map .int)])/\DlD L'/\ps.length<=40/\(∀p∈ps,SpS d.toNat p)/\SpS d.toNat r
def oN(φ:FF):Prop:=∀(d:Int)(L:List Int),1<=d->d<=3->DlD L->∃(ps:List (List Int))(r L':List Int),φ [.cell 0,.int d] [some (L.map .int)]=some (.tup [.lst (ps.map aD),aD r],[some (L'.map .int)])/\DlD L'/\ps.length<=30/\(∀p∈ps,SpS d.toNat p)/\SpS d.toNat r
theorem Fw(ps:List (List Int)):nc (.lst (ps.map aD)):=wV.mpr λx hx=>by
 obtain⟨p,_,rfl⟩:=Zq.mp hx
 exact jU.mpr iB
theorem Ed(ps:List (List Int))(r:List Int):nc (.tup [.lst (ps.map aD),aD r]):=jU.mpr λx hx=>by
 simp only[Zi,ZF,or_false]at hx
 rcases hx with rfl|rfl
 .exact Fw ps
 .exact jU.mpr iB
theorem yt{φ1 φ2 φ3 φ4:FF}(h1:cZ φ1)(h2:lC φ2)(h3:ik φ3)(h4:jE φ4):oN (trunc (aL 9 (iM φ1 φ2 φ3 φ4))):=λd L d1 d3 hL=>by
 have key:Ok (aL 9 (iM φ1 φ2 φ3 φ4) [.cell 0,.int d] [some (L.map .int)]) (λr=>∃(t:D)(L':List Int)(junk:Mu),r=(t,some (L'.map .int)::junk)/\nc t/\∃(ps:List (List Int))(r:List Int),t= .tup [.lst (ps.map aD),aD r]/\DlD L'/\ps.length<=30/\(∀p∈ps,SpS d.toNat p)/\SpS d.toNat r):=by
  obtain⟨x1,L1,e1,hx1,hL1⟩:=bW h1 hL []
  obtain⟨x2,L2,e2,hx2,hL2⟩:=bW h1 hL1 []
  obtain⟨m0,m1⟩:=aN (x:=x2) (m:=3) (by decide)
  obtain⟨p,e3,ns,b,rfl,⟨hn,hns,b1,b60⟩,_⟩:=h2 x1 d (x2.fmod 3) 0 [some (L2.map .int)] eG.nil.dr hx1 d1 d3 m0 (by omega) (by decide) (by decide)
  have hR:D.tup ((ns++[b]).map .int)=aD (ns++[b]):=rfl
  rw[hR]at e3
  have hne:(ns++[b]).map D.int≠[]:=by simp
  have einit:=λμ=>nA (μ:=μ) hne
  have edl:((ns++[b]).map D.int).dropLast=ns.map D.int:=by rw[<-List.map_dropLast];simp
  simp only[edl]at einit
  have s1:∀μ,oSl (aD (ns++[b])) none (some (-1)) μ=some (.tup (ns.map .int),μ):=einit
  have s2:∀μ,oIx (aD (ns++[b])) (.int (-1)) μ=some (.int b,μ):=λμ=>by
   unfold aD
   have el:=jD (ns:=ns++[b]) (by simp)
   have el1:(ns++[b]).getLastD 0=b:=by simp
   rw[el1]at el
   generalize (ns++[b]).map D.int=X at *
   rw[qH]
   simp[bF,el]
  have s3:∀μ,bD (.tup (ns.map .int)) (.tup [.int 1]) μ=some (aD (ns++[1]),μ):=λμ=>by
   have:aD (ns++[1])= .tup (ns.map .int++[.int 1]):=by unfold aD;simp
   rw[this]
   exact if_pos (szl (by simp;omega))
  obtain⟨ps,L',δ',junk,e4,a4,b4,c4⟩:=uR h1 h3 h4 (c:=b) d1 d3 hn hns b1 b60 hL2
  obtain⟨qs,M',δ2,junk2,e5,a5,b5,c5⟩:=uR h1 h3 h4 (c:=1) d1 d3 hn hns (by decide) (by decide) hL2
  have spB:SpS d.toNat (ns++[b]):=⟨by simp[hn],λy hy=>by
   rcases Zm.mp hy with z|z
   .exact bu (gj (b:=14) 10001 (by have:=hns y z;omega) (by decide)) (by decide)
   .rw[ZI.mp z];exact bu (gj (b:=14) 10001 (by omega) (by decide)) (by decide)⟩
  have sp1:SpS d.toNat (ns++[1]):=⟨by simp[hn],λy hy=>by
   rcases Zm.mp hy with z|z
   .exact bu (gj (b:=14) 10001 (by have:=hns y z;omega) (by decide)) (by decide)
   .rw[ZI.mp z];exact bu (gj (b:=14) 10001 (by decide) (by decide)) (by decide)⟩
  apply dI
  have hg:iM φ1 φ2 φ3 φ4=aM (aR 2 (MC (ao (MC (ao (aq 0) (aB)) φ1) (ao (aq 1) (ao (M2 (MC (ao (aq 0) (aB)) φ1) (mC (.int 3)) bw) (ao (mC (.int 0)) (aB))))) φ2)) (aM (sIf (toB (M2 (M2 (aq 2) (M1 (mC (.int 1)) cU) oIx) (mC (.int 6)) oGt)) (aR 2 (M2 (mSl (aq 2) (fNo) (fAt (M1 (mC (.int 1)) cU))) (MC (ao (mC (.int 1)) (aB)) gY) bD)) (bZ)) (Ik φ1 φ3 φ4)):=rfl
  rw[hg]
  clear hg
  have n1:=Ed ps (ns++[b])
  have n2:=Ed qs (ns++[1])
  have F1:∃(ps':List (List Int))(r:List Int),D.tup [.lst (ps.map aD),aD (ns++[b])]= .tup [.lst (ps'.map aD),aD r]/\DlD L'/\ps'.length<=30/\(∀p∈ps',SpS d.toNat p)/\SpS d.toNat r:=⟨ps,_,rfl,a4,b4,c4,spB⟩
  have F2:∃(ps':List (List Int))(r:List Int),D.tup [.lst (qs.map aD),aD (ns++[1])]= .tup [.lst (ps'.map aD),aD r]/\DlD M'/\ps'.length<=30/\(∀p∈ps',SpS d.toNat p)/\SpS d.toNat r:=⟨qs,_,rfl,a5,b5,c5,sp1⟩
  generalize D.tup [.lst (ps.map aD),aD (ns++[b])]=T1 at *
  generalize D.tup [.lst (qs.map aD),aD (ns++[1])]=T2 at *
  generalize hTT:Ik φ1 φ3 φ4=TL at *
  generalize aD (ns++[1])=S1 at *
  generalize aD (ns++[b])=SB at *
  generalize ns.map D.int=ND at *
  by_cases hb:6<b
  .simp[e1,e2,e3,s1,s2,s3,hb,e5,-qH]
   exact⟨_,_,⟨rfl,rfl⟩,n2,F2⟩
  .simp[e1,e2,e3,s1,s2,s3,hb,e4,-qH]
   exact⟨_,_,⟨rfl,rfl⟩,n1,F1⟩
 obtain⟨t,L',e,ps,r,rfl,a,b,c,dd⟩:=uM key
 exact⟨ps,r,L',e,a,b,c,dd⟩
theorem zG{φ1 φ2 φ3 φ4:FF}(h1:cZ φ1)(h2:oN φ2)(h3:rA φ3)(h4:uh φ4):vG (trunc (aL 5 (iD φ1 φ2 φ3 φ4))):=λd m L d1 d3 hm40 hL=>by
 subst hm40
 obtain⟨x,L1,e1,hx,hL1⟩:=bW h1 hL []
 obtain⟨m0,m1⟩:=aN (x:=x) (m:=2) (by decide)
 have key:∀(ps:List (List Int))(r L':List Int),DlD L'->ps.length<=40->(∀p∈ps,SpS d.toNat p)->SpS d.toNat r->Ok (aL 5 (iD φ1 φ2 φ3 φ4) [.cell 0,.int d,.int 40] [some (L.map .int)]) (λq=>q=(.tup [.lst (ps.map aD),aD r],[some (L'.map .int)]))->∃(ps:List (List Int))(r L':List Int),trunc (aL 5 (iD φ1 φ2 φ3 φ4)) [.cell 0,.int d,.int 40] [some (L.map .int)]=some (.tup [.lst (ps.map aD),aD r],[some (L'.map .int)])/\DlD L'/\ps.length<=40/\(∀p∈ps,SpS d.toNat p)/\SpS d.toNat r:=λps r L' a b c dd h=>⟨ps,r,L',iJ (mj h) rfl,a,b,c,dd⟩
 by_cases h0:x.fmod 2=0
 .obtain⟨ps,r,L2,e2,hL2,hl,hp,hr⟩:=h2 d L1 d1 d3 hL1
  obtain⟨B,hB,hBl,hBm⟩:=vd ps none (some 40)
  have hcut:∀μ,oSl (.lst (ps.map aD)) none (some 40) μ=some (.lst (B.map aD),μ):=λμ=>by
   unfold oSl
   simp only[hB]
  refine key B r L2 hL2 (by omega) (λp h=>hp p (hBm p h)) hr ?_
  generalize ps.map aD=PD at *
  generalize B.map aD=BD at *
  generalize aD r=R at *
  apply dI
  unfold iD
  simp[e1,h0,e2,hcut]
 .obtain⟨ps0,L2,e2,hL2,hl,hp0⟩:=h3 L1 [] d 40 hL1 eG.nil d1 d3 (by decide) (by decide)
  obtain⟨ps,rfl,hp⟩:=vU ps0 hp0
  rw[Zu]at hl
  have hl:ps.length<=40:=by have:(40:Int).toNat=40:=rfl;omega
  obtain⟨r,L3,e3,hL3,hr⟩:=h4 d ps L2 d1 d3 hl hp hL2
  refine key ps r L3 hL3 hl (λp h=>(hp p h).ss) hr ?_
  generalize ps.map aD=PD at *
  generalize aD r=R at *
  have hb:(x.fmod 2==0)=false:=beq_eq_false_iff_ne.mpr h0
  apply dI
  unfold iD
  simp[e1,hb,e2,e3]
theorem Pu(n:Int)(h:Sm 1100 n):(pyD (.int n)).showable=true/\(pyD (.int n)).shown.length<=1200:=by
 unfold pyD
 have hl:n.natAbs.log2<1100:=by
  by_cases h0:n.natAbs=0
  .rw[h0];decide
  .exact(Nat.log2_lt h0).mpr h
 refine⟨by unfold PyData.showable;simp;omega,?_⟩
 unfold PyData.shown
 have:=int_text_length_le (a:=n) (k:=1100) (by decide) hl
 rw[PySem.ofString_length]
 omega
theorem yC(B:Nat):∀(ts:List Str)(k:Nat)(acc:Str),(∀t∈ts,t.length<=B)->(textFrom k acc ts).length<=acc.length+ts.length*(B+2)
 | [],k,acc,_=>by show acc.length<=_;simp
 |t::ts,k,acc,h=>by
  have ih:=yC B ts (k+1) (acc++(if k>0 then ", " else "":String)++t) λx hx=>h x (by simp[hx])
  have e:(acc++(if k>0 then ", " else "":String)++t).length=acc.length+(if k>0 then 2 else 0)+t.length:=by
   rw[strLen_append,strLen_append]
   split<;>rfl
  rw[e]at ih
  have ht:=h t (by simp)
  have h2:(if k>0 then 2 else 0)<=2:=by split<;>decide
  refine Zl (show(textFrom k acc (t::ts)).length<=_ from ih) ?_
  rw[ZH,Nat.succ_mul]
  generalize (if k>0 then 2 else 0)=z at *
  omega
theorem wB(B:Nat):∀(ts:List Str),(∀t∈ts,t.length<=B)->piled ts<=ts.length*(B+2)
 | [],_=>by simp[piled]
 |t::ts,h=>by
  have ih:=wB B ts λx hx=>h x (by simp[hx])
  have ht:=h t (by simp)
  rw[piled_cons,ZH,Nat.succ_mul]
  omega
theorem Jp(B:Nat)(ts:List Str)(h:∀t∈ts,t.length<=B):(tupleText ts).length<=ts.length*(B+2)+3:=by
 unfold tupleText
 rw[strLen_append,strLen_append]
 have h1:(("(":String):Str).length=1:=rfl
 have h2:((if ts.length==1 then ",)" else ")":String):Str).length<=2:=by split<;>decide
 by_cases hn:ts=[]
 .subst hn
  have:(Str.join ", " []).length=0:=rfl
  omega
 .have:=join_length_add ts hn
  have:=wB B ts h
  omega
theorem Lq(B:Nat)(ts:List Str)(h:∀t∈ts,t.length<=B):(listText ts).length<=ts.length*(B+2)+3:=by
 unfold listText
 rw[strLen_append]
 have h1:(("]":String):Str).length=1:=rfl
 have:=yC B ts 0 (("[":String):Str) h
 have h2:(("[":String):Str).length=1:=rfl
 omega
theorem nZ:∀(xs:List D)(B:Nat),(∀x∈xs,(pyD x).showable=true/\(pyD x).shown.length<=B)->PyData.showableAll (pyL xs)=true/\(∀t∈PyData.shownAll (pyL xs),t.length<=B)/\(PyData.shownAll (pyL xs)).length=xs.length
 | [],B,_=>⟨rfl,λt h=>(by cases h),rfl⟩
 |x::xs,B,h=>by
  obtain⟨a,b,c⟩:=nZ xs B λy hy=>h y (by simp[hy])
  obtain⟨p,q⟩:=h x (by simp)
  unfold pyL PyData.showableAll PyData.shownAll
  refine⟨by rw[p,a];rfl,λt ht=>?_,by rw[ZH,c];rfl⟩
  rcases Zi.mp ht with z|z
  .rw[z];exact q
  .exact b t z
theorem tG{xs:List D}{B n:Nat}(h:∀x∈xs,(pyD x).showable=true/\(pyD x).shown.length<=B)(hn:xs.length<=n):(pyD (.tup xs)).showable=true/\(pyD (.tup xs)).shown.length<=n*(B+2)+3:=by
 obtain⟨a,b,c⟩:=nZ xs B h
 unfold pyD PyData.showable PyData.shown
 refine⟨a,Zl (Jp B _ b) ?_⟩
 rw[c]
 exact Nat.add_le_add_right (Nat.mul_le_mul_right _ hn) 3
theorem Be{xs:List D}{B n:Nat}(h:∀x∈xs,(pyD x).showable=true/\(pyD x).shown.length<=B)(hn:xs.length<=n):(pyD (.lst xs)).showable=true/\(pyD (.lst xs)).shown.length<=n*(B+2)+3:=by
 obtain⟨a,b,c⟩:=nZ xs B h
 unfold pyD PyData.showable PyData.shown
 refine⟨a,Zl (Lq B _ b) ?_⟩
 rw[c]
 exact Nat.add_le_add_right (Nat.mul_le_mul_right _ hn) 3
theorem sE{d:Nat}{r:List Int}(d3:d<=3)(h:SpS d r):(pyD (aD r)).showable=true/\(pyD (aD r)).shown.length<=4811:=tG (B:=1200) (n:=4) (λx hx=>by
 obtain⟨n,hn,rfl⟩:=Zq.mp hx
 exact Pu n (h.sm n hn)) (by rw[Zu,h.len];omega)
theorem DK{d:Nat}{ps:List (List Int)}{r:List Int}(d3:d<=3)(hl:ps.length<=40)(hp:∀p∈ps,SpS d p)(hr:SpS d r):xN (.tup [.lst (ps.map aD),aD r])=true:=by
 have h1:=Be (xs:=ps.map aD) (B:=4811) (n:=40) (λx hx=>by
  obtain⟨p,hpm,rfl⟩:=Zq.mp hx
  exact sE d3 (hp p hpm)) (by rw[Zu];exact hl)
 have h2:=sE d3 hr
 have h3:=tG (xs:=[.lst (ps.map aD),aD r]) (B:=40*(4811+2)+3) (n:=2) (λx hx=>by
  simp only[Zi,ZF,or_false]at hx
  rcases hx with rfl|rfl
  .exact h1
  .exact⟨h2.1,Zl h2.2 (by decide)⟩) (Zg 2)
 have pd:bL (.tup [.lst (ps.map aD),aD r])=true/\dh (.tup [.lst (ps.map aD),aD r])<100:=by
  obtain⟨q1,q2⟩:=lQ ps
  have q3:bL (aD r)=true:=by unfold aD;rw[bL,iK]
  have q4:dh (aD r)<=1:=by unfold aD;rw[dh,jB];decide
  refine⟨?_,?_⟩
  .rw[bL,cN,bL,q1,cN,q3,cN];rfl
  .rw[dh,fD,dh,fD,fD];omega
 unfold xN
 rw[pd.1,h3.1,decide_eq_true pd.2,decide_eq_true (Zl h3.2 (by decide))]
 rfl
theorem xH{φ1 φ2 φ3:FF}(h1:lO φ1)(h2:lO φ2)(h3:∀(a:Int)(μ:Mu),φ3 [.int a,.int a] μ=some (.bl true,μ))(d:Nat)(ns r:List Int)(ps:List (List Int))(μ:Mu)(d9:d<=9)(hl:ns.length=d)(hn:∀n∈ns,Sm 22 n)(hr:SpR d r)(hp:∀p∈ps,SpR d p)(hpl:ps.length<=60):
  trunc (aL 8 (iC φ1 φ2 φ3)) [.lst (ps.map aD),aD r,aD ns] μ=some (.bl true,μ):=by
 apply gA
 have hn2:∀n∈ns,Sm 2000 n:=λn h=>bu (hn n h) (by decide)
 have eb:=iu (all:=ns.map D.int) (h:=aJ 0) (fe:=M2 (mC (.int 0)) (aq 0) dF) (δb:=[none]) (F:=D.int) (f:=λn=>D.int (0-n)) (μ:=μ) ns λn _=>⟨[some (.int n)],by simp,by simp⟩
 have fb:ns.map (λn=>D.int (0-n))=(ns.map λn=>0-n).map D.int:=by rw[List.map_map];rfl
 rw[fb]at eb
 have et:=iu (all:=ns.map D.int) (h:=aJ 0) (fe:=M2 (mC (.int 3)) (aq 0) bI) (δb:=[none]) (F:=D.int) (f:=λn=>D.int (3*n)) (μ:=μ) ns λn h=>⟨[some (.int n)],by simp,by
  have:=bh (x:=3) (y:=n) μ (a:=2) (b:=22) (gj 4 (by decide) (by decide)) (hn n h) (by decide)
  simp[this]⟩
 have ft:ns.map (λn=>D.int (3*n))=(ns.map λn=>3*n).map D.int:=by rw[List.map_map];rfl
 rw[ft]at et
 have hb2:∀n∈ns.map (λn=>0-n),Sm 2000 n:=λn h=>by
  obtain⟨m,hm,rfl⟩:=Zq.mp h
  have:=hn2 m hm
  unfold Sm at *
  omega
 have ht2:∀n∈ns.map (λn=>3*n),Sm 2000 n:=λn h=>by
  obtain⟨m,hm,rfl⟩:=Zq.mp h
  exact bu (gK (a:=2) (b:=22) (gj 4 (by decide) (by decide)) (hn m hm)) (by decide)
 have a1:=h1 d ns r ps μ d9 hl hn2 hr hp hpl
 have a2:=h1 d (ns.map λn=>0-n) r ps μ d9 (by simpa using hl) hb2 hr hp hpl
 have b1:=h2 d ns r ps μ d9 hl hn2 hr hp hpl
 have b2:=h2 d (ns.map λn=>0-n) r ps μ d9 (by simpa using hl) hb2 hr hp hpl
 have b3:=h2 d (ns.map λn=>3*n) r ps μ d9 (by simpa using hl) ht2 hr hp hpl
 have b4:=h2 d ns r ps.reverse μ d9 hl hn2 hr (λp h=>hp p (List.mem_reverse.mp h)) (by simpa using hpl)
 rw[Ha (by decide)]at b3
 rw[Io]at b4
 rw[List.map_reverse]at b4
 have elen:∀μ,cF (.lst (ps.map aD)) μ=some (.int (ps.length:Nat),μ):=λμ=>by rw[jN,Zu]
 have r1:∀xs:List Int,D.tup (xs.map .int)=aD xs:=λ_=>rfl
 have i1:∀xs:List Int,bF (aD xs) μ=some (xs.map D.int):=λ_=>rfl
 have s1:nu (aD ns) μ=some ⟨ns.map D.int,none⟩:=rfl
 have hz:(ns.map D.int).length<=1000:=by simp;omega
 have hz2:((ns.map λn=>0-n).map D.int).length<=1000:=by simp;omega
 have hz3:((ns.map λn=>3*n).map D.int).length<=1000:=by simp;omega
 have rb:=r1 (ns.map λn=>0-n)
 have rt:=r1 (ns.map λn=>3*n)
 have c1:=h3 (lg ns r ps) μ
 have c2:=h3 (lg (ns.map λn=>0-n) r ps) μ
 have sx:(ps.length:Int)-lg ns r ps+(lg ns r ps+lg (ns.map λn=>0-n) r ps-ps.length)=lg (ns.map λn=>0-n) r ps:=by omega
 generalize lg (ns.map λn=>0-n) r ps=nb at *
 generalize lg ns r ps=n0 at *
 generalize (ps.length:Int)=len at *
 generalize aD (ns.map λn=>0-n)=RB at *
 generalize aD (ns.map λn=>3*n)=RT at *
 generalize (ns.map λn=>0-n).map D.int=NB at *
 generalize (ns.map λn=>3*n).map D.int=NT at *
 generalize ns.map D.int=ND at *
 generalize aD ns=N at *
 generalize aD r=R at *
 generalize ps.map aD=PD at *
 unfold iC
 have nl:∀(x y:D),x= .int n0->lcL ⟨[.int n0,.int n0,.int n0],none⟩ (aJ 0) (pA (qR (MC (ao (aq 0) (ao (aq 1) (aB))) φ3))) (aq 0) [none,some (.int n0)] [.int n0,.int n0,.int n0] μ=some ([],μ):=λ_ _ _=>by
  simp[lcL,bx,c1]
 have nl:=nl (.int n0) (.int n0) rfl
 have l0:∀μ,cF (.lst []) μ=some (.int 0,μ):=λμ=>by rw[jN];rfl
 simp[a1,s1,hz,dg,eb,rb,a2,elen,et,rt,b1,b3,b4,nl,l0,b2,sx,c2,-jN]
end LG
namespace Lk65
open PySem PySem.Spec PyProof.Rows L2 L3 LG
theorem Nu:vQ cT:=λa b μ=>iV (Ih a b μ)
theorem Ck:ik aQ:=λx k μ h0 h1=>by
 obtain⟨r,e,h⟩:=Ml x k μ h0 h1
 exact⟨r,iV e,h⟩
theorem nU:cZ aH:=Bh
theorem Ms:uG fY:=BZ Ck
theorem zT:jE aK:=λns b μ h1 h2 h3 h4=>iV (JG Nu ns b μ h1 h2 h3 h4)
theorem tV:lC bB:=CZ Ck Ep zT
theorem Gw:rA eU:=Ad nU (xG nU zT) (Hj nU zT) tV
theorem Od:mZ dX:=zR nU Ck
theorem PX:wW jg:=λd ps sh μ hm hd hd2 hp hne hl hs=>yo Nu zT d ps sh μ hm hd hd2 hp hne hl hs
theorem Mr:pW fX:=λns c x μ hm h1 h2 hb c1 cs=>Ea zT ns c x μ hm h1 h2 hb c1 cs
theorem PL:uh gZ:=CQ nU tV Od PX Mr
theorem Jt:oN fZ:=yt nU tV Ck zT
theorem case':vG ir:=zG nU Jt Gw PL
theorem cut':yF ji:=Bf nU Ck
theorem vP:gW=trunc (aL 2 nW):=rfl
theorem Gx:lO eZ:=zU (φ1:=gW) (by rw[vP];exact Hm)
theorem JS:lO eQ:=Ex
theorem PQ(φ:FF)(a:Int)(μ:Mu):trunc (aL 2 (jf φ)) [.int a,.int a] μ=some (.bl true,μ):=by
 apply iV
 unfold aL jf
 have h1:oNe (.bl false) (.bl false) μ=some (.bl false,μ):=by unfold oNe rsv;simp[bL,dh,eqD]
 have h2:oEq (.bl false) (.bl false) μ=some (.bl true,μ):=by unfold oEq rsv;simp[bL,dh,eqD]
 simp[aM,sIf,vY,toB,M2,M1,aq,kI,Oc,h1,bZ,qR,ur,bN,qL,h2,Ht]
theorem Nt(a:Int)(μ:Mu):cB [.int a,.int a] μ=some (.bl true,μ):=by
 have e:cB=trunc (aL 2 (jf (Ku 5 λφ=>trunc (aL 2 (jf φ))))):=rfl
 rw[e]
 exact PQ _ a μ
theorem Ma(d:Nat)(ns r:List Int)(ps:List (List Int))(μ:Mu)(d9:d<=9)(hl:ns.length=d)(hn:∀n∈ns,Sm 22 n)(hr:SpR d r)(hp:∀p∈ps,SpR d p)(hpl:ps.length<=60):gb [.lst (ps.map aD),aD r,aD ns] μ=some (.bl true,μ):=
 xH Gx JS Nt d ns r ps μ d9 hl hn hr hp hpl
theorem Fj(ns:List Int)(h:ns.length<=63):∃μ',xQ [.ro (ns.map .int)] []=some (.bl true,μ'):=by
 apply Ho
 obtain⟨L,eD,hL⟩:=CP Ms ns h
 apply dI
 unfold oE
 simp[eD,nR (j:=4) (by decide) (by decide)]
 refine fU (λits δ μ=>∃L o2 o3 o4 o5 o6 o7,DlD L/\μ=[some (L.map .int)]/\δ=[some (.ro (ns.map .int)),some (.cell 0),o2,o3,o4,o5,o6,o7]) ?_ ?_ _ _ _ ⟨L,none,none,none,none,none,none,hL,rfl,rfl⟩
 .rintro dd rest δ μ ⟨L,o2,o3,o4,o5,o6,o7,hL,rfl,rfl⟩
  obtain⟨x,L1,e1,hx,hL1⟩:=bW nU hL []
  obtain⟨m0,m1⟩:=aN (x:=x) (m:=3) (by decide)
  obtain⟨d,hd⟩:∃d:Int,1+x.fmod 3=d:=⟨_,rfl⟩
  obtain⟨ps,r,L2,e2,hL2,hl,hp,hr⟩:=case' d 40 L1 (by omega) (by omega) rfl hL1
  have er:∀μ,zg (.tup [.lst (ps.map aD),aD r]) μ=some (.str (pyD (.tup [.lst (ps.map aD),aD r])).shown,μ):=λμ=>if_pos (DK (by omega) hl hp hr)
  have ne:∀(s:Str)(μ:Mu),oNe (.str s) (.str s) μ=some (.bl false,μ):=λs μ=>by unfold oNe rsv;simp[bL,dh,eqD]
  have hask:=λ(cs:List Int)(hc:cs.length=d.toNat)(hs:∀n∈cs,Sm 22 n) μ=>Ma d.toNat cs r ps μ (by omega) hc hs hr.sp (λp h=>(hp p h).sp) (by omega)
  generalize hST:(pyD (.tup [.lst (ps.map aD),aD r])).shown=ST at *
  clear hST
  generalize ps.map aD=PD at *
  generalize aD r=R at *
  simp[e1,hd,e2,er,nR (j:=3) (by decide) (by decide)]
  refine fU (λits δ μ=>∃L o7,DlD L/\μ=[some (L.map .int)]/\δ=[some (.ro (ns.map .int)),some (.cell 0),some dd,some (.int d),some (.lst PD),some R,some (.str ST),o7]) ?_ ?_ _ _ _ ⟨L2,_,hL2,rfl,rfl⟩
  .rintro d7 rest7 δ μ ⟨L,o7,hL,rfl,rfl⟩
   obtain⟨cs,L3,e3,hL3,hcl,hcs⟩:=cut' d L (by omega) (by omega) hL
   have e4:=hask cs hcl hcs [some (L3.map .int)]
   generalize aD cs=CS at *
   simp[e3,e4]
   exact⟨L3,hL3,rfl⟩
  .rintro δ μ ⟨L,o7,hL,rfl,rfl⟩
   simp[er,ne]
   exact⟨L,hL,rfl⟩
 .rintro δ μ ⟨L,o2,o3,o4,o5,o6,o7,hL,rfl,rfl⟩
  simp
end Lk65
end
def PySem.W.Fast.tw10650823124958133457:=0
def PySem.W.Fast.tw10790222438336066287:=0
def PySem.W.Fast.tw10965521491471777978:=0
def PySem.W.Fast.tw11568712878461159957:=0
def PySem.W.Fast.tw12133270585143831924:=0
def PySem.W.Fast.tw12258279380396641495:=0
def PySem.W.Fast.tw12348227654177157271:=0
def PySem.W.Fast.tw12576056635197185107:=0
def PySem.W.Fast.tw1350259661534712345:=0
def PySem.W.Fast.tw14318084953619279442:=0
def PySem.W.Fast.tw14767846731022891909:=0
def PySem.W.Fast.tw14963269210444931282:=0
def PySem.W.Fast.tw15917561450215262346:=0
def PySem.W.Fast.tw16575651211631126168:=0
def PySem.W.Fast.tw16670060266478261514:=0
def PySem.W.Fast.tw17021670047819400185:=0
def PySem.W.Fast.tw17117510226045997348:=0
def PySem.W.Fast.tw17369609894866764382:=0
def PySem.W.Fast.tw17764635328294480617:=0
def PySem.W.Fast.tw1947746002057502334:=0
def PySem.W.Fast.tw264922257763977022:=0
def PySem.W.Fast.tw2786784234471399165:=0
def PySem.W.Fast.tw2909917991842213601:=0
def PySem.W.Fast.tw3344432302326422368:=0
def PySem.W.Fast.tw3384358401729941090:=0
def PySem.W.Fast.tw3619831675167823958:=0
def PySem.W.Fast.tw4466311657214729203:=0
def PySem.W.Fast.tw5168627438615332420:=0
def PySem.W.Fast.tw556477771052586802:=0
def PySem.W.Fast.tw592448523736096208:=0
def PySem.W.Fast.tw595408204818626719:=0
def PySem.W.Fast.tw6402843829293177619:=0
def PySem.W.Fast.tw6966500507461201920:=0
def PySem.W.Fast.tw7379233674361272417:=0
def PySem.W.Fast.tw7936614920706669048:=0
def PySem.W.Fast.tw8332500116965501296:=0
def PySem.W.Fast.tw8393934407439221316:=0
def PySem.W.Fast.tw8718550565018419069:=0
def PySem.W.Fast.tw8955826428031245831:=0
def PySem.W.Fast.tw9006326959522708132:=0
def PySem.W.Fast.tw9100471363758323619:=0
def PySem.W.Fast.tw9362722529910807942:=0
def PySem.W.Fast.tw9848354632631371672:=0
open PySem PySem.W PyProof.Rows
set_option maxRecDepth 100000 in
set_option maxHeartbeats 0 in
theorem PySem.Challenge.cw_heapsmeet_k65_shows_holds : PySem.Challenge.rw_heapsmeet_k65_shows.Holds := by
 w_on; o_law; k_head; (case hw => w_witness2)
 k_fill
 refine L3.Bk (l := PySem.Challenge.rw_heapsmeet_k65_shows) (n := 63) (k := 8) (x := "_law_script") (φ := Lk65.xQ) rfl (by decide) rfl ⟨rfl, by decide, by decide, rfl⟩ (λ w h Y => by first | exact PySem.W.kIn_of Y | exact PySem.W.km_in_of Y) ?F ?S
 case F =>
  intro w mg mb mean lo fa h KX G hmg
  apply Lk65.Ks KX G hmg <;> first | (apply L3.Ln <;> first | k_is | rfl) | k_is | rfl
 case S => exact λ ns hl => Lk65.Fj ns hl
